import PyProof.Rows.All
import Wide.All
import OpenK.AllK
import Wide.FinOn
import KE.KStateDown
import Lean
import KE.KIsAll
import KE.KTryMore
import KE.KExcInit
import HandS.ForMost
import HandS.Exc
import HandS.ExcOwn
import HandS.ExcInit
import HandS.ExcIs
import HandS.ExcField
import HandS.IsInst
import HandS.Defaults
import HandS.MakeKw
import KE.KExcIs
import HandS.HeadHook2
import HandS.Walk
import HandS.Iter
import PySem.Challenge.RW_keptedits_k14_whole_one_map_then_another
import HandS.Text
import HandS.Steps
import HandS.StrMore
import HandS.More
import HandS.Property
import HandS.OwnEq
import HandS.ClsMeth
import HandS.Star
import KE.KFmtOwn
import HandS.FStr
import HandS.HotCalls
import HandS.DictComp
import PyProof.ReprLen
import HandS.Dict
import HandS.Set
import HandS.SetFor
import HandS.Strs
import HandS.DictEq
import HandS.DeepEq
import PyProof.StrLawsRepr
import KE.SortData
import PyProof.Rows.SortWalk
import HandS.SortRule
import PyProof.StrOps2
import HandS.NoneIn
import HandS.SortInts
import HandS.TupAny
import HandS.Style
import HandS.Head0
import HandS.Head1
import HandS.Head2
import HandS.HeadEnd
import HandS.HeadHook1
import HandS.HeadHook3
set_option Elab.async false
set_option linter.all false
set_option maxRecDepth 100000
section PE1
set_option maxHeartbeats 4000000
/-! Own exception classes over any built-in base, their objects held as values: made by place or by name, their fields, isinstance. -/
namespace PySem
namespace EXV
open PySem.W PySem.Calls PyProof.Rows PySem.HandSPX Builtin Builtin.ObjectAttr

/-- what is asked of the built-in base B -/
structure BaseX (B newId initId : String) (tl : List Value) : Prop where
  F : ExcBaseFacts B newId initId tl
  S : StoreFacts B tl "object.__setattr__" "object"
theorem base_VE : BaseX "ValueError" "ValueError.__new__" "ValueError.__init__" [.type "ValueError", .type "Exception", .type "BaseException", .type "object"] := ⟨F.excBase_ValueError, F.store_ValueError⟩
theorem base_RE : BaseX "RuntimeError" "RuntimeError.__new__" "RuntimeError.__init__" [.type "RuntimeError", .type "Exception", .type "BaseException", .type "object"] := ⟨F.excBase_RuntimeError, F.store_RuntimeError⟩
theorem base_LE : BaseX "LookupError" "LookupError.__new__" "LookupError.__init__" [.type "LookupError", .type "Exception", .type "BaseException", .type "object"] := ⟨F.excBase_LookupError, F.store_LookupError⟩
theorem base_AE : BaseX "ArithmeticError" "ArithmeticError.__new__" "ArithmeticError.__init__" [.type "ArithmeticError", .type "Exception", .type "BaseException", .type "object"] := ⟨F.excBase_ArithmeticError, F.store_ArithmeticError⟩
theorem taker_none {K : W.Frag} {C : Addr} {f : Str} (h : W.findIn K (.ref C) f = some none) : W.takerIn K C f = some none := by
  unfold W.takerIn
  rw [h] <;> rfl
theorem over_of {K : W.Frag} {C : Addr} {cd : ClassData} {bm tl : List Value} (hcd : W.clsIn K C = some cd) (hm : cd.mro = .ref C :: bm) (ht : W.excTail tl bm = true) : W.excOver K C tl = true := by
  unfold W.excOver
  rw [hcd, Option.any_some, hm]
  simp [ht]
section
variable {prog : Program} {w : World} {A : Around} {R : Result → Shared → Prop} {hp : Heap} {g : Array GenState} {d : Drawn} {t : Nat} {os : OsState} {tl : List Value} {B : String}
/-- self.f = v on an exception that has no dict as yet -/
theorem osa_new {K : W.Frag} {name : Str} {tk : Tok} {v : Value} {x C : Addr} {fv : Array Value} {cd : ClassData} {bm : List Value} (SF : StoreFacts B tl "object.__setattr__" "object")
    (X : K.In hp) (hx : hp.get? x = some { cls := .ref C, data := .fields fv }) (hcd : W.clsIn K C = some cd) (hm : cd.mro = .ref C :: bm) (ht : W.excTail tl bm = true) (hh : cd.hasDict = true) (ha : W.findIn K (.ref C) name = some none)
    (hq : ∀ h' tk' dx, (∀ b o, b ≠ x → hp.get? b = some o → h'.get? b = some o) → hp.objs.size ≤ dx → dx ≠ x → h'.get? x = some { cls := .ref C, dict := some dx, data := .fields fv } →
      h'.Ns1 dx (fun y => if y = name then some v else none) → R (.ok (.ret .none)) ⟨h', g, d, tk', os⟩) :
    codeAny (model prog w) A (.call (.builtin "object.__setattr__") ⟨[.ref x, .str name tk, v], []⟩) R ⟨hp, g, d, t, os⟩ := by
  have hxs : x ≠ hp.objs.size := Nat.ne_of_lt (Heap.lt_size hx)
  have hcls : W.Looks (model prog w) hp (classData C) cd := W.looks_clsIn X hcd
  refine osa_openX (s := ⟨hp, g, d, t, os⟩) (ox := { cls := .ref C, data := .fields fv }) (od := none) SF X ⟨hx, rfl, rfl, trivial⟩ (over_of hcd hm ht) (taker_none ha) fun b => ?_
  obtain ⟨nm, bs, mro, ns, qn, hd, sn, sb, ab, col, del⟩ := cd
  dsimp only at hh
  subst hh
  unfold storeInOwnDict ownDictForStores
  repeat (first | with_reducible refine HandSPX.store_in_new ?_ ?_ | with_reducible refine wpAny_loadPart_at hx ?_ | with_reducible refine hcls.at ?_ | wp_step)
  · exact ⟨_, #[], _, (Heap.get?_update_ne _ _ _ _ hxs.symm).trans (Heap.get?_push_at rfl rfl), rfl, fun e he => absurd he (by simp), fun _ => rfl⟩
  · intro h' tk' hn' hs
    have old : ∀ b o, b ≠ x → hp.get? b = some o → h'.get? b = some o := fun b o hb ho =>
      (hs.2 b (Nat.ne_of_lt (Heap.lt_size ho))).trans ((Heap.get?_update_ne _ _ _ _ hb).trans (Heap.get?_push_of_some _ ho))
    exact hq h' tk' hp.objs.size old (Nat.le_refl _) hxs.symm ((hs.2 x hxs).trans (Heap.get?_update_self _ (Heap.get?_push_of_some _ hx) rfl)) hn'
/-- a further field of an exception that has its dict -/
theorem osa_more {K : W.Frag} {name : Str} {tk : Tok} {v : Value} {x C dx : Addr} {fv : Array Value} {cd : ClassData} {bm : List Value} {m0 : Str → Option Value} {nl : List Str} (SF : StoreFacts B tl "object.__setattr__" "object")
    (X : K.In hp) (hx : hp.get? x = some { cls := .ref C, dict := some dx, data := .fields fv }) (hns : hp.Ns1 dx m0) (hw : Within m0 nl) (hz : nl.length ≤ 1000) (hcd : W.clsIn K C = some cd) (hm : cd.mro = .ref C :: bm) (ht : W.excTail tl bm = true) (hh : cd.hasDict = true)
    (ha : W.findIn K (.ref C) name = some none)
    (hq : ∀ h' tk', (∀ b o, b ≠ dx → hp.get? b = some o → h'.get? b = some o) → h'.Ns1 dx (fun y => if y = name then some v else m0 y) → R (.ok (.ret .none)) ⟨h', g, d, tk', os⟩) :
    codeAny (model prog w) A (.call (.builtin "object.__setattr__") ⟨[.ref x, .str name tk, v], []⟩) R ⟨hp, g, d, t, os⟩ := by
  obtain ⟨oD, _, _, hoD, _, _⟩ := hns.count hw
  have hcls : W.Looks (model prog w) hp (classData C) cd := W.looks_clsIn X hcd
  refine osa_openX (s := ⟨hp, g, d, t, os⟩) (ox := { cls := .ref C, dict := some dx, data := .fields fv }) (od := some oD) SF X ⟨hx, rfl, rfl, hoD⟩ (over_of hcd hm ht) (taker_none ha) fun b => ?_
  obtain ⟨nm, bs, mro, ns, qn, hd, sn, sb, ab, col, del⟩ := cd
  dsimp only at hh
  subst hh
  unfold storeInOwnDict ownDictForStores
  repeat (first | with_reducible refine OEX.store_in_old hns hw hz ?_ | with_reducible refine wpAny_loadPart_at hx ?_ | with_reducible refine hcls.at ?_ | wp_step)
  exact fun h' tk' hn' hs => hq h' tk' (fun b o hb ho => (hs.2 b hb).trans ho) hn'
end

/-! ### C(.., k = v): BaseException.__new__, then the own __init__, by names too -/
section
variable {M : Model} {A : Around} {E : Value → Shared → Prop} {h : Heap} {g : Array GenState} {d : Drawn} {t : Nat} {os : OsState}
variable {nm q : Str} {C N : Addr} {bs bm bmB : List Value} {hdct : Bool} {sn : List Str} {sub : List Value} {ab : Bool} {col : Option Bool} {dd : Option Addr} {k0 k1 k2 k3 k5 : Option Value} {B newId initId : String}
theorem check_new_kw (F : ExcBaseFacts B newId initId bmB) (hT : ∀ X : String, bm.contains (.type X) = bmB.contains (.type X)) {rest : List Value} {kw : List (Str × Value)} {Q : Unit → Shared → Prop}
    (hC : h.get? C = some (excClassObj nm q C N bs bm hdct sn sub ab col dd k0 k1 k2 k3 k5 newId)) (hq : Q () ⟨h, g, d, t, os⟩) : wpAny M A (checkBuiltinCall newId ⟨.ref C :: rest, kw⟩) Q E ⟨h, g, d, t, os⟩ := by
  have hcont : (Value.ref C :: bm).contains (.type B) = true := by rw [List.contains_cons, hT, F.hasB, Bool.or_true]
  have hstar := F.noStar
  simp only [checkBuiltinCall, F.newKind, F.newSplit, F.newRow]
  repeat (first | refine wpAny_loadPart_at hC ?_ | (refine wpAny_isSubtype_exc hC ?_; rw [hcont]) | refine wpAny_staticBase_exc hC ?_ | refine wpAny_madeBy_exc hC ?_ | simp only [bne_self_eq_false, Bool.false_eq_true, if_false] | wp_step)
  exact hq
end
section
variable {prog : Program} {w : World} {A : Around} {E : Value → Shared → Prop} {R : Result → Shared → Prop} {h : Heap} {g : Array GenState} {d : Drawn} {t : Nat} {os : OsState}
variable {nm q : Str} {C N : Addr} {bs bm bmB : List Value} {hdct : Bool} {sn : List Str} {sub : List Value} {ab : Bool} {col : Option Bool} {dd : Option Addr} {k0 k1 k2 k3 k5 : Option Value} {B newId initId : String}
theorem new_kw (F : ExcBaseFacts B newId initId bmB) (hT : ∀ X : String, bm.contains (.type X) = bmB.contains (.type X)) {rest : List Value} {kw : List (Str × Value)}
    (hC : h.get? C = some (excClassObj nm q C N bs bm hdct sn sub ab col dd k0 k1 k2 k3 k5 newId))
    (hq : R (.ok (.ret (.ref (h.objs.size + 1)))) ⟨(h.push { cls := .type "tuple", data := .seq rest.toArray }).push
      { cls := .ref C, data := .fields #[.ref h.objs.size, .none, .none, .none, .bool false, .none] }, g, d, t, os⟩) (hrest : rest.length ≤ sizeLine) :
    codeAny (model prog w) A (.builtin newId ⟨.ref C :: rest, kw⟩) R ⟨h, g, d, t, os⟩ := by
  have hends := F.ends
  have hcB : (Value.ref C :: bm).contains (.type B) = true := by rw [List.contains_cons, hT, F.hasB, Bool.or_true]
  have hcA : (Value.ref C :: bm).contains (.type "AttributeError") = false := by rw [List.contains_cons, hT, F.noAttr]; rfl
  have hcN : (Value.ref C :: bm).contains (.type "NameError") = false := by rw [List.contains_cons, hT, F.noName]; rfl
  refine codeAny_builtinAt F.entry ?_
  unfold Builtin.«BaseException.__new__»
  refine wpAt_bind ?_
  show wpAt _ _ _ (stack >>= _) _ _ _
  refine wpAt_bind (wpAt_stack fun p below => wpAt_of_wpAny ?_)
  wp_walk
  refine wpAt_of_wpAny ?_
  rw [F.owner]
  repeat (first | with_reducible refine wpAny_madeHere_exc F.canon hC ?_ | with_reducible refine wpAny_loadPart_at hC ?_ | (with_reducible refine wpAny_isSubtype_exc hC ?_; first | rw [hcB] | rw [hcA] | rw [hcN]) | wp_step)
  show R _ _
  rw [Heap.size_push]
  exact hq
theorem type_call_kw (F : ExcBaseFacts B newId initId bmB) (hT : ∀ X : String, bm.contains (.type X) = bmB.contains (.type X)) {rest : List Value} {kw : List (Str × Value)} {fI : Addr} {Q : Fin → Shared → Prop}
    (hC : h.get? C = some (excClassObj nm q C N bs bm hdct sn sub ab col dd k0 k1 k2 k3 k5 newId))
    (hi : W.Looks (model prog w) h (typeLookup (.ref C) "__init__") (some (.ref fI))) (hb : ∀ self, W.Looks (model prog w) h (bindSpecial (.ref fI) self) (.ref fI, [self])) (hrest : rest.length ≤ sizeLine)
    (hq : codeAny (model prog w) A (.call (.ref fI) ⟨.ref (h.objs.size + 1) :: rest, kw⟩)
      (fun r s' => match r with | .ok (.ret v) => v = .none ∧ Q (.done (.ret (.ref (h.objs.size + 1)))) s' | .ok _ => False | .error e => E e s')
      ⟨(h.push (W.kdv_tup rest)).push (excO C h.objs.size), g, d, t, os⟩) :
    wpAny (model prog w) A (Builtin.«type.__call__» ⟨.ref C :: rest, kw⟩) Q E ⟨h, g, d, t, os⟩ := by
  repeat (first | with_reducible refine wpAny_loadPart_at hC ?_ | with_reducible refine wpAny_madeBy_exc hC ?_ | wp_step)
  refine codeAny_call_builtin_code (Code.quiet_builtin _ F.quiet) (check_new_kw F hT hC ?_)
  refine new_kw F hT hC ?_ hrest
  show wpAny _ _ _ _ _ _
  have k : ∀ b o, h.get? b = some o → ((h.push (W.kdv_tup rest)).push (excO C h.objs.size)).get? b = some o := fun b o e => Heap.get?_push_of_some _ (Heap.get?_push_of_some _ e)
  have hC₁ := k _ _ hC
  have hget : ((h.push (W.kdv_tup rest)).push (excO C h.objs.size)).get? (h.objs.size + 1) = some (excO C h.objs.size) := by heap_get
  have hcC : (Value.ref C :: bm).contains (.ref C) = true := by simp
  have i1 := hi.keeps k
  have b1 := (hb (.ref (h.objs.size + 1))).keeps k
  unfold isInstance
  repeat (first | with_reducible refine wpAny_loadPart_at hget ?_ | (with_reducible refine wpAny_isSubtype_exc hC₁ ?_; rw [hcC]) | wp_step)
  show wpAny _ _ (typeLookup (.ref C) _) _ _ _
  refine i1.at ?_
  refine wpAny_holding (wpAny_bind (b1.at ?_))
  refine wpAny_bind (wpAny_call (codeAny_mono hq fun r s' z => ?_))
  rcases r with e | (v | _ | _ | _) <;> first | exact z | exact z.elim | skip
  obtain ⟨rfl, z⟩ := z
  first
    | exact wpAny_pure (wpAny_pure z)
    | (wp_walk; exact z)
theorem call_kw (F : ExcBaseFacts B newId initId bmB) (hT : ∀ X : String, bm.contains (.type X) = bmB.contains (.type X)) {rest : List Value} {kw : List (Str × Value)} {fI : Addr}
    (hC : h.get? C = some (excClassObj nm q C N bs bm hdct sn sub ab col dd k0 k1 k2 k3 k5 newId))
    (hi : W.Looks (model prog w) h (typeLookup (.ref C) "__init__") (some (.ref fI))) (hb : ∀ self, W.Looks (model prog w) h (bindSpecial (.ref fI) self) (.ref fI, [self])) (hrest : rest.length ≤ sizeLine)
    (hq : codeAny (model prog w) (A.under (.builtin "type.__call__" ⟨.ref C :: rest, kw⟩)) (.call (.ref fI) ⟨.ref (h.objs.size + 1) :: rest, kw⟩) (W.InitBack (h.objs.size + 1) R)
      ⟨(h.push (W.kdv_tup rest)).push (excO C h.objs.size), g, d, t, os⟩) :
    codeAny (model prog w) A (.call (.ref C) ⟨rest, kw⟩) R ⟨h, g, d, t, os⟩ := by
  have f1 := tc_lookup
  have f2 := tc_bind (.ref C)
  have hTy : (⟨h, g, d, t, os⟩ : Shared).TypeIs (.ref C) "type" := ⟨_, hC, rfl⟩
  refine codeAny_of_tree ?_
  show wpAny _ _ (callAny (.ref C) _) _ _ _
  repeat (any_goals (first | assumption | with_reducible refine wpAny_loadPart_at hC ?_ | wp_step))
  refine ⟨rfl, ?_⟩
  refine codeAny_call_builtin_at (Code.quiet_builtin _ (by decide +kernel)) entry_typeCall (wpAny_check_type_call_sub hC (type_call_kw F hT hC hi hb hrest ?_))
  refine codeAny_mono hq fun r s' z => ?_
  rcases r with e | (v | _ | _ | _) <;> exact z
end
end EXV
end PySem

end PE1
section PE2
set_option maxHeartbeats 4000000
namespace L2
open PySem PySem.Spec PyProof.Rows
/-- what the written part says of an own exception class -/
structure XC (K : PySem.W.Frag) (C : Addr) : Prop where
  cls : ∃ B newId initId tl nm q N bs bm sn sub ab col dd k0 k1 k2 k3 k5, PySem.EXV.BaseX B newId initId tl ∧ K.lookup C = some (excClassObj nm q C N bs bm true sn sub ab col dd k0 k1 k2 k3 k5 newId) ∧ PySem.W.excTail tl bm = true
  sa : PySem.W.findIn K (.ref C) "__setattr__" = some (some (.builtin "object.__setattr__"))
  exC : PySem.W.subIn K (.ref C) (.type "BaseException") = some true
  tyC : PySem.W.typeIn K (.ref C) = some (.type "type")
  kC : PySem.W.keepIn K (.ref C) = true
  ga : PySem.W.findIn K (.ref C) "__getattribute__" = some (some (.builtin "BaseException.__getattribute__"))
  gg : PySem.W.findIn K (.ref C) "__getattr__" = some none
  hd : PySem.W.hasDictIn K C = true
  ha : PySem.W.findIn K (.ref C) "__class__" = some (some (.builtin "object.__class__"))
  hn : PySem.W.specialIn K (.builtin "object.__class__") "__get__" = some (some (.builtin "getset_descriptor.__get__"))
  ht : PySem.W.takesIn K (.builtin "object.__class__") = some true
  hm : PySem.W.mroIn K C (.type "object") = some true
def xInit (K : PySem.W.Frag) (C : Addr) : Bool :=
  PySem.W.excInitIn K C [.type "ValueError", .type "Exception", .type "BaseException", .type "object"] "ValueError.__new__" || (PySem.W.excInitIn K C [.type "LookupError", .type "Exception", .type "BaseException", .type "object"] "LookupError.__new__" ||
  (PySem.W.excInitIn K C [.type "RuntimeError", .type "Exception", .type "BaseException", .type "object"] "RuntimeError.__new__" || PySem.W.excInitIn K C [.type "ArithmeticError", .type "Exception", .type "BaseException", .type "object"] "ArithmeticError.__new__"))
def xcB (K : PySem.W.Frag) (C : Addr) : Bool :=
  xInit K C && (decide (PySem.W.findIn K (.ref C) "__setattr__" = some (some (.builtin "object.__setattr__"))) && (decide (PySem.W.subIn K (.ref C) (.type "BaseException") = some true) && (decide (PySem.W.typeIn K (.ref C) = some (.type "type")) &&
  (PySem.W.keepIn K (.ref C) && (decide (PySem.W.findIn K (.ref C) "__getattribute__" = some (some (.builtin "BaseException.__getattribute__"))) && (decide (PySem.W.findIn K (.ref C) "__getattr__" = some none) && (PySem.W.hasDictIn K C &&
  (decide (PySem.W.findIn K (.ref C) "__class__" = some (some (.builtin "object.__class__"))) && (decide (PySem.W.specialIn K (.builtin "object.__class__") "__get__" = some (some (.builtin "getset_descriptor.__get__"))) &&
  (decide (PySem.W.takesIn K (.builtin "object.__class__") = some true) && decide (PySem.W.mroIn K C (.type "object") = some true)))))))))))
theorem xInit_one {K : PySem.W.Frag} {C : Addr} {tl : List Value} {newId : String} (q : PySem.W.excInitIn K C tl newId = true) (hd : PySem.W.hasDictIn K C = true) :
    ∃ nm qn N bs bm sn sub ab col dd k0 k1 k2 k3 k5, K.lookup C = some (excClassObj nm qn C N bs bm true sn sub ab col dd k0 k1 k2 k3 k5 newId) ∧ PySem.W.excTail tl bm = true := by
  unfold PySem.W.excInitIn at q
  unfold PySem.W.hasDictIn PySem.W.clsIn at hd
  split at q
  · rename_i dd cd sl ho
    split at q
    · rename_i C' bm k0 k1 k2 k3 n k5 hm hs
      simp only [Bool.and_eq_true, beq_iff_eq, Bool.not_eq_true'] at q
      obtain ⟨⟨⟨rfl, rfl⟩, hdel⟩, ht⟩ := q
      obtain ⟨nm, bs, mro, ns, qn, hdct, sn, sub, ab, col, del⟩ := cd
      dsimp only at hm hdel
      subst hm hdel
      have hsl : sl = #[k0, k1, k2, k3, some (.builtin n), k5] := by
        obtain ⟨l⟩ := sl
        simp only at hs
        rw [hs]
      subst hsl
      rw [ho] at hd
      have hh : hdct = true := hd
      subst hh
      exact ⟨nm, qn, ns, bs, bm, sn, sub, ab, col, dd, k0, k1, k2, k3, k5, ho, ht⟩
    · cases q
  · cases q
theorem xcB_ok {K : PySem.W.Frag} {C : Addr} (h : xcB K C = true) : XC K C := by
  obtain ⟨h0, h⟩ := Bool.and_eq_true_iff.mp h
  obtain ⟨h1, h⟩ := Bool.and_eq_true_iff.mp h
  obtain ⟨h2, h⟩ := Bool.and_eq_true_iff.mp h
  obtain ⟨h3, h⟩ := Bool.and_eq_true_iff.mp h
  obtain ⟨h4, h⟩ := Bool.and_eq_true_iff.mp h
  obtain ⟨h5, h⟩ := Bool.and_eq_true_iff.mp h
  obtain ⟨h6, h⟩ := Bool.and_eq_true_iff.mp h
  obtain ⟨h7, h⟩ := Bool.and_eq_true_iff.mp h
  obtain ⟨h8, h⟩ := Bool.and_eq_true_iff.mp h
  obtain ⟨h9, h⟩ := Bool.and_eq_true_iff.mp h
  obtain ⟨h10, h11⟩ := Bool.and_eq_true_iff.mp h
  refine ⟨?_, of_decide_eq_true h1, of_decide_eq_true h2, of_decide_eq_true h3, h4, of_decide_eq_true h5, of_decide_eq_true h6, h7, of_decide_eq_true h8, of_decide_eq_true h9, of_decide_eq_true h10, of_decide_eq_true h11⟩
  rcases Bool.or_eq_true_iff.mp h0 with q | q
  · obtain ⟨nm, qn, N, bs, bm, sn, sub, ab, col, dd, k0, k1, k2, k3, k5, e, t⟩ := xInit_one q h7
    exact ⟨_, _, _, _, nm, qn, N, bs, bm, sn, sub, ab, col, dd, k0, k1, k2, k3, k5, PySem.EXV.base_VE, e, t⟩
  · rcases Bool.or_eq_true_iff.mp q with q | q
    · obtain ⟨nm, qn, N, bs, bm, sn, sub, ab, col, dd, k0, k1, k2, k3, k5, e, t⟩ := xInit_one q h7
      exact ⟨_, _, _, _, nm, qn, N, bs, bm, sn, sub, ab, col, dd, k0, k1, k2, k3, k5, PySem.EXV.base_LE, e, t⟩
    · rcases Bool.or_eq_true_iff.mp q with q | q
      · obtain ⟨nm, qn, N, bs, bm, sn, sub, ab, col, dd, k0, k1, k2, k3, k5, e, t⟩ := xInit_one q h7
        exact ⟨_, _, _, _, nm, qn, N, bs, bm, sn, sub, ab, col, dd, k0, k1, k2, k3, k5, PySem.EXV.base_RE, e, t⟩
      · obtain ⟨nm, qn, N, bs, bm, sn, sub, ab, col, dd, k0, k1, k2, k3, k5, e, t⟩ := xInit_one q h7
        exact ⟨_, _, _, _, nm, qn, N, bs, bm, sn, sub, ab, col, dd, k0, k1, k2, k3, k5, PySem.EXV.base_AE, e, t⟩

/-! ### an exception object as a value -/
/-- at a: an exception of the class at C with these fields -/
def IsX (H : Hp) (C : Addr) (fs : List (Str × V)) (a : Addr) : Prop := (fs = [] ∧ H a = some (exo a C none)) ∨ ∃ dx, H a = some (exo a C (some dx)) ∧ H dx = some (exd dx fs)
theorem IsX.same {H H' : Hp} {C a : Addr} {fs : List (Str × V)} (s : Same H H') (h : IsX H C fs a) : IsX H' C fs a := by
  rcases h with ⟨e, h⟩ | ⟨dx, h1, h2⟩
  · exact .inl ⟨e, s _ _ h⟩
  · exact .inr ⟨dx, s _ _ h1, s _ _ h2⟩

section
variable {X : Cx} {pins : List (Addr × Obj)} {σ : St} {H : Hp} {s : Shared} {a C dx : Addr} {f : Str} {y : V} {u : Value} {fs : List (Str × V)} {Q : Unit → Shared → Prop} {E : Value → Shared → Prop} {A : Around}
/-- self.f = y, the first one -/
theorem xst_new (T : XC X.K C) (I : Inv X pins σ H s) (e : H a = some (exo a C none)) (hno : PySem.W.findIn X.K (.ref C) f = some none) (ry : RelV y u)
    (h : ∀ dx s', H dx = none → dx ≠ a → Inv X pins σ (upd (upd H dx (exd dx [(f, y)])) a (exo a C (some dx))) s' → Q () s') : wpAny (model X.prog X.w) A (setAttr (.ref a) f u) Q E s := by
  obtain ⟨B, newId, initId, tl, nm, q, N, bs, bm, sn, sub, ab, col, dd, k0, k1, k2, k3, k5, BX, hC, hbm⟩ := T.cls
  have hcl : PySem.W.clsIn X.K C = some { name := nm, bases := bs, mro := .ref C :: bm, ns := N, qualname := q, hasDict := true, slotNames := sn, subclasses := sub, abstract := ab, collection := col, hasDel := false } := by unfold PySem.W.clsIn; rw [hC] <;> rfl
  obtain ⟨t1, ho⟩ := exo_at I.hok e
  obtain ⟨hp, g, d, t, os⟩ := s
  refine PySem.W.set_plain I.kIn (ox := { cls := .ref C, dict := none, data := .fields #[.ref t1, .none, .none, .none, .bool false, .none] }) (od := none) ⟨ho, rfl, rfl, trivial⟩ T.sa ?_
  refine PySem.EXV.osa_new BX.S I.kIn ho hcl rfl hbm rfl hno (fun h' tk' dx k dn dne hx hn => ?_)
  have hnd : H dx = none := I.hok.fresh dn
  have nd : ∀ {b : Addr} {o : Obj}, hp.get? b = some o → b ≠ dx := fun {b o} q => Nat.ne_of_lt (Nat.lt_of_lt_of_le (Heap.lt_size q) dn)
  have na : ∀ {b : Addr}, H b = none → b ≠ a := fun {b} n z => by
    rw [z, e] at n
    cases n
  have Un1 : Un X.fs [] H (upd (upd H dx (exd dx [(f, y)])) a (exo a C (some dx))) hp h' := {
    keep := fun b o q n _ _ => k b o (na n) q
    slot := fun b o q n _ _ => ⟨o.slots, k b o (na n) q⟩
    free := fun b o q n _ => by rw [upd_ne (na n), upd_ne (nd q)]; exact n
    there := fun b o q _ => by
      by_cases hb : b = a
      · exact ⟨_, by rw [hb]; exact hx⟩
      · exact ⟨o, k b o hb q⟩
    tups := fun b xs q => by rw [upd_ne (at_ne e q exo_tup), upd_ne (ne_of_none q hnd)]; exact q
    frzs := fun b o v q => by rw [upd_ne (at_ne e q exo_frz), upd_ne (ne_of_none q hnd)]; exact q
    tbls := fun b ps q => ⟨#[], by rw [upd_ne (at_ne e q exo_tbl), upd_ne (ne_of_none q hnd), q]; simp⟩ }
  refine h dx _ hnd dne (I.un (t' := tk') Un1 fun b o q => ?_)
  by_cases hb : b = a
  · subst hb
    rw [upd_same] at q
    cases q
    exact exo_ok hx
  · rw [upd_ne hb] at q
    by_cases hd : b = dx
    · subst hd
      rw [upd_same] at q
      cases q
      exact exd_ok hn (relO_put (fs := []) ry fun g => True.intro)
    · rw [upd_ne hd] at q
      exact (I.hok b o q).stay (fun c v hc z => k c v (by
          rcases hc with hc | hc
          · rw [hc]
            exact hb
          · exact at_ne e hc exo_own) z)
        (fun c hc => by rw [upd_ne (at_ne e hc exo_own), upd_ne (ne_of_none hc hnd)]; exact hc) (fun c xs hc => by rw [upd_ne (at_ne e hc exo_tup), upd_ne (ne_of_none hc hnd)]; exact hc)
/-- self.f = y, a further one -/
theorem xst_more (T : XC X.K C) (I : Inv X pins σ H s) (e : H a = some (exo a C (some dx))) (ed : H dx = some (exd dx fs)) (hl : fs.length ≤ 900) (hno : PySem.W.findIn X.K (.ref C) f = some none) (ry : RelV y u)
    (h : ∀ s', Inv X pins σ (upd H dx (exd dx ((f, y) :: fs))) s' → Q () s') : wpAny (model X.prog X.w) A (setAttr (.ref a) f u) Q E s := by
  obtain ⟨B, newId, initId, tl, nm, q, N, bs, bm, sn, sub, ab, col, dd, k0, k1, k2, k3, k5, BX, hC, hbm⟩ := T.cls
  have hcl : PySem.W.clsIn X.K C = some { name := nm, bases := bs, mro := .ref C :: bm, ns := N, qualname := q, hasDict := true, slotNames := sn, subclasses := sub, abstract := ab, collection := col, hasDel := false } := by unfold PySem.W.clsIn; rw [hC] <;> rfl
  obtain ⟨t1, ho⟩ := exo_at I.hok e
  obtain ⟨mA, hns, rel⟩ := exd_at I.hok ed
  have hw := within_of rel
  obtain ⟨hp, g, d, t, os⟩ := s
  obtain ⟨oD, _, _, hoD, _, _⟩ := hns.count hw
  refine PySem.W.set_plain I.kIn (ox := { cls := .ref C, dict := some dx, data := .fields #[.ref t1, .none, .none, .none, .bool false, .none] }) (od := some oD) ⟨ho, rfl, rfl, hoD⟩ T.sa ?_
  refine PySem.EXV.osa_more BX.S I.kIn ho hns hw (by rw [List.length_map]; omega) hcl rfl hbm rfl hno (fun h' tk' k hn => ?_)
  have hd : ∃ o, h'.get? dx = some o := by
    obtain ⟨o, _, _, e', _⟩ := hn
    exact ⟨o, e'⟩
  exact h _ (I.write (t' := tk') (x := dx) (e := dx) (o := exd dx ((f, y) :: fs)) (by rw [ed]; exact True.intro) (.inl rfl) k hd (exd_ok hn (relO_put ry rel)))
end
/-- self.f = e, self an exception that is being made -/
def tXst (K : PySem.W.Frag) (f : Str) (to te : TE) : TS := fun D σ H => te σ H fun y H1 => to σ H1 fun x H2 => ∃ a C : Addr, x = .ref a ∧ XC K C ∧ PySem.W.findIn K (.ref C) f = some none ∧
  ((H2 a = some (exo a C none) ∧ ∀ dx, H2 dx = none → dx ≠ a → D.nx σ (upd (upd H2 dx (exd dx [(f, y)])) a (exo a C (some dx)))) ∨
    ∃ (dx : Addr) (fs : List (Str × V)), H2 a = some (exo a C (some dx)) ∧ H2 dx = some (exd dx fs) ∧ fs.length ≤ 900 ∧ D.nx σ (upd H2 dx (exd dx ((f, y) :: fs))))
section
variable {X : Cx} {o e : Expr} {es : List Expr} {to te : TE} {ta : TA} {f : Str} {p p' p1 p2 pos : Pos}
theorem ps_xst (ho : PE X o to) (he : PE X e te) (hs : swapsWith e (some (.Attribute o f p')) pos.line X.env = pure false := by rfl) : PS X (.Assign [.Attribute o f p'] e pos) (tXst X.K f to te) := by
  refine ⟨fun pins s σ H D I h => ?_⟩
  refine plainObj_wpAny_Assign_Attribute (thn (he.run pins s σ H _ I h) fun v s1 ⟨y, H1, I1, r1, q1⟩ => thn (ho.run pins s1 σ H1 _ I1 q1) fun u s2 ⟨x, H2, I2, r2, a, C, ex, T, hno, q⟩ => ?_) hs
  subst ex
  obtain rfl : u = Value.ref a := r2
  rcases q with ⟨ea, q⟩ | ⟨dx, fs, ea, ed, hl, q⟩
  · exact xst_new T I2 ea hno r1 fun dx s' n ne J => ⟨σ, _, J, q dx n ne⟩
  · exact xst_more T I2 ea ed hl hno r1 fun s' J => ⟨σ, _, J, q⟩
end
end L2

end PE2
section PE3
set_option maxHeartbeats 4000000
namespace L2
open PySem PySem.Spec PyProof.Rows
/-- a def without defaults, called with keywords -/
theorem FunD.kbn {K : PySem.W.Frag} {x qual : Str} {params : Arguments} {body : List Stmt} {scope : Scope} {kws : List (Str × V)} {f : Addr} {fd : FuncData} {ps ks : List Str} (F : FunD K x qual params body scope [] kws f fd) (n : Nat) (g : {α : Type} → List α → List α → List α)
    (hrel : ∀ {vs zs : List V} {us ws : List Value}, Vals vs us → Vals zs ws → Vals (g vs zs) (g us ws))
    (h : ∀ (kV doc pm : Value) (an : Option Addr) (cdv ct : Value) (us ws : List Value), us.length = n → ws.length = ks.length → bindArgs (PySem.W.fnOf x qual params body scope .none kV doc pm an cdv ct) ⟨us, ks.zip ws⟩ = pure (ps.zip (g us ws))) :
    KBn K fd ps n ks (fun us ws => g us ws) (fun vs zs => g vs zs) := by
  obtain ⟨oc, od, dV, kV, doc, pm, an, cdv, ct, osl, rfl, lk, hcd, hD, hK⟩ := F.ex
  rcases hD with ⟨_, rfl⟩ | ⟨e, _⟩
  · exact ⟨fun s us ws X l1 l2 => .of_eq (h kV doc pm an cdv ct us ws l1 l2), fun r1 r2 => hrel r1 r2⟩
  · exact absurd rfl e
/-- C(e, .., k = v, ..), C an own exception class: a new object, then __init__ keeping sp -/
def tXmk (C : Addr) (n m : Nat) (sp : Sp) (gV : List V → List V → List V) (t tk : TA) : TE := fun σ H Q => t σ H fun vs H1 => tk σ H1 fun zs H2 => vs.length = n ∧ zs.length = m ∧
  ∀ a, H2 a = none → sp (gV (.ref a :: vs) zs) (upd H2 a (exo a C none)) (fun v H3 => v = .non ∧ Q (.ref a) H3) E0
section
variable {X : Cx} {CX : CXT} {k n : Nat} {fI C : Addr} {fd : FuncData} {ps ks : List Str} {sp : Sp} {x : Str} {p pos : Pos} {e : Expr} {es : List Expr} {kws : List Keyword} {t tk : TA} {g : List Value → List Value → List Value} {gV : List V → List V → List V}
theorem run_xmk {pins : List (Addr × Obj)} {σ : St} {H : Hp} {s : Shared} {Q : VK} {us ws : List Value} {vs zs : List V} (T : XC X.K C) (iC : PySem.W.findIn X.K (.ref C) "__init__" = some (some (.ref fI))) (tI : PySem.W.typeIn X.K (.ref fI) = some (.type "function"))
    (F : FnOk X.prog X.w X.K X.mg X.base CX k fI fd ps sp) (hr : Room (k + 1) X.A) (hb : KBn X.K fd ps (n + 1) ks g gV) (hx : Passes CX X E0) (hn : n ≤ 1000) (I : Inv X pins σ H s) (r : Vals vs us) (rz : Vals zs ws) (l1 : vs.length = n) (l2 : zs.length = ks.length)
    (h : ∀ a, H a = none → sp (gV (.ref a :: vs) zs) (upd H a (exo a C none)) (fun v H2 => v = .non ∧ Q (.ref a) H2) E0) :
    wpAny (model X.prog X.w) X.A (call (.ref C) us (ks.zip ws)) (EP X pins σ Q) X.xe s := by
  obtain ⟨B, newId, initId, tl, nm, q, N, bs, bm, sn, sub, ab, col, dd, k0, k1, k2, k3, k5, BX, hC, hbm⟩ := T.cls
  obtain ⟨hp, gs, dr, tk', os⟩ := s
  have hsz : hp.objs.size ≤ hp.objs.size + 1 := Nat.le_succ _
  have hn1 : H (hp.objs.size + 1) = none := I.hok.fresh hsz
  have hq := h (hp.objs.size + 1) hn1
  have kk : ∀ b o, hp.get? b = some o → ((hp.push (PySem.W.kdv_tup us)).push (PySem.HandSPX.excO C hp.objs.size)).get? b = some o := fun b o e => Heap.get?_push_of_some _ (Heap.get?_push_of_some _ e)
  have hget : ((hp.push (PySem.W.kdv_tup us)).push (PySem.HandSPX.excO C hp.objs.size)).get? (hp.objs.size + 1) = some (PySem.HandSPX.excO C hp.objs.size) := by heap_get
  have I2 : Inv X pins σ (upd H (hp.objs.size + 1) (exo (hp.objs.size + 1) C none)) ⟨(hp.push (PySem.W.kdv_tup us)).push (PySem.HandSPX.excO C hp.objs.size), gs, dr, tk', os⟩ :=
    I.laid (t' := tk') (a := hp.objs.size + 1) (o := exo (hp.objs.size + 1) C none) (h' := (hp.push (PySem.W.kdv_tup us)).push (PySem.HandSPX.excO C hp.objs.size)) kk hsz (exo_ok hget)
  have r1 : Vals (V.ref (hp.objs.size + 1) :: vs) (Value.ref (hp.objs.size + 1) :: us) := .cons rfl r
  have r2 := hb.rel r1 rz
  have e1 : (Value.ref (hp.objs.size + 1) :: us).length = n + 1 := r1.length.symm.trans (congrArg Nat.succ l1)
  have e2 : ws.length = ks.length := rz.length.symm.trans l2
  have hus : us.length ≤ sizeLine := by
    rw [← r.length, l1]
    exact Nat.le_trans hn (by decide)
  refine wpAny_call (PySem.EXV.call_kw BX.F (fun Y => PySem.W.excTail_contains Y bm hbm) (I.kIn _ _ hC) (PySem.W.looks_findIn I.kIn iC) (fun self => PySem.W.bind_fn I.kIn self tI) hus
    (codeAny_mono (F.run _ X.stack _ _ ⟨Value.ref (hp.objs.size + 1) :: us, ks.zip ws⟩ (g (Value.ref (hp.objs.size + 1) :: us) ws) _ _ E0 (hr.make C us (ks.zip ws)) (I2.env0.make C us (ks.zip ws)) (hb.to _ (Value.ref (hp.objs.size + 1) :: us) ws I2.kIn e1 e2) r2 hq) fun r s' hq' => ?_))
  cases r with
  | error er => exact hx pins σ _ _ er s' I2 hq'
  | ok fl =>
    cases fl with
    | ret u =>
      obtain ⟨v, H', I3, rv, ev, q3⟩ := I2.after hq'
      subst ev
      exact ⟨rv, ⟨V.ref (hp.objs.size + 1), H', I3, rfl, q3⟩⟩
    | next => exact False.elim hq'
    | brk => exact False.elim hq'
    | cont => exact False.elim hq'
/-- C(e, ..) -/
theorem pe_xmk (T : XC X.K C) (iC : PySem.W.findIn X.K (.ref C) "__init__" = some (some (.ref fI))) (tI : PySem.W.typeIn X.K (.ref fI) = some (.type "function"))
    (F : FnOk X.prog X.w X.K X.mg X.base CX k fI fd ps sp) (hr : Room (k + 1) X.A) (hb : KBn X.K fd ps (n + 1) [] g gV) (hx : Passes CX X E0) (hn : n ≤ 1000) (hg : Gl X x) (hm : X.mg x = some (.ref C)) (ha : PA X (e :: es) t)
    (hdb : (x == ("__debug__" : Str)) = false := by decide) (he : starEach (e :: es) X.env = (false, eval e X.env) :: starEach es X.env := by rfl) (hpl : (backTo pos (starEach es X.env)).any (·.1) = false := by rfl) :
    PE X (.Call (.Name x p) (e :: es) [] pos) (tXmk C n 0 sp gV t tNil) := by
  refine ⟨fun pins s σ H Q I h => ?_⟩
  refine wpAny_Call_Name_kw (ld_glob I hg hm ?_ hdb)
  refine PySem.W.callWith_K (h₀ := X.base) I.ok.mod.kin T.kC (thn (ha.run pos pins s σ H _ I h) fun us s1 ⟨vs, H1, I1, r1, q1⟩ => ⟨I1.kIn, ?_⟩) he hpl
  obtain ⟨l1, l2, q2⟩ := q1
  exact run_xmk (ws := []) (zs := []) (ks := []) T iC tI F hr hb hx hn I1 r1 .nil l1 rfl q2
/-- C() -/
theorem pe_xmk0 (T : XC X.K C) (iC : PySem.W.findIn X.K (.ref C) "__init__" = some (some (.ref fI))) (tI : PySem.W.typeIn X.K (.ref fI) = some (.type "function"))
    (F : FnOk X.prog X.w X.K X.mg X.base CX k fI fd ps sp) (hr : Room (k + 1) X.A) (hb : KBn X.K fd ps 1 [] g gV) (hx : Passes CX X E0) (hg : Gl X x) (hm : X.mg x = some (.ref C)) 
    (hdb : (x == ("__debug__" : Str)) = false := by decide) (hpl : ((backTo pos (starEach [] X.env)).any (·.1) || (backToKw pos (keywordEach [] X.env)).any (·.1.isNone)) = false := by rfl) :
    PE X (.Call (.Name x p) [] [] pos) (tXmk C 0 0 sp gV tNil tNil) := by
  refine ⟨fun pins s σ H Q I h => ?_⟩
  refine wpAny_Call_Name_kw (ld_glob I hg hm ?_ hdb)
  refine PySem.W.callWith_KW0 (h₀ := X.base) I.ok.mod.kin T.kC rfl ?_ hpl
  obtain ⟨l1, l2, q2⟩ := (show tXmk C 0 0 sp gV tNil tNil σ H Q from h)
  refine wpAny_pure ⟨I.kIn, ?_⟩
  exact run_xmk (us := []) (vs := []) (ws := []) (zs := []) (ks := []) T iC tI F hr hb hx (Nat.zero_le _) I .nil .nil rfl rfl q2
/-- C(k = v, ..) -/
theorem pe_xmkK (T : XC X.K C) (iC : PySem.W.findIn X.K (.ref C) "__init__" = some (some (.ref fI))) (tI : PySem.W.typeIn X.K (.ref fI) = some (.type "function"))
    (F : FnOk X.prog X.w X.K X.mg X.base CX k fI fd ps sp) (hr : Room (k + 1) X.A) (hb : KBn X.K fd ps 1 ks g gV) (hx : Passes CX X E0) (hg : Gl X x) (hm : X.mg x = some (.ref C)) (hkw : PK X kws tk)
    (hall : (backToKw pos (keywordEach kws X.env)).all (·.1.isSome) = true := by rfl) (hks : (backToKw pos (keywordEach kws X.env)).filterMap (·.1) = ks := by rfl) (hdb : (x == ("__debug__" : Str)) = false := by decide)
    (hpl : ((backTo pos (starEach [] X.env)).any (·.1) || (backToKw pos (keywordEach kws X.env)).any (·.1.isNone)) = false := by rfl) :
    PE X (.Call (.Name x p) [] kws pos) (tXmk C 0 ks.length sp gV tNil tk) := by
  refine ⟨fun pins s σ H Q I h => ?_⟩
  refine wpAny_Call_Name_kw (ld_glob I hg hm ?_ hdb)
  refine PySem.W.callWith_KW0 (h₀ := X.base) I.ok.mod.kin T.kC hall ?_ hpl
  refine thn (hkw.run pos pins s σ H _ I h) fun ws s2 ⟨zs, H2, I2, rz, l1, l2, q2⟩ => ⟨I2.kIn, ?_⟩
  rw [hks]
  exact run_xmk (us := []) (vs := []) T iC tI F hr hb hx (Nat.zero_le _) I2 .nil rz rfl l2 q2
end

/-! ### e.f, isinstance(e, C) -/
/-- e.f of an exception that is tracked -/
def tXat (K : PySem.W.Frag) (f : Str) (te : TE) : TE := fun σ H Q => te σ H fun x H1 => ∃ (a C : Addr) (fs : List (Str × V)) (v : V), x = .ref a ∧ XC K C ∧ PySem.W.findIn K (.ref C) f = some none ∧ IsX H1 C fs a ∧ fs.lookup f = some v ∧ Q v H1
theorem pe_xat {X : Cx} {K : PySem.W.Frag} {e : Expr} {te : TE} {pos : Pos} {f : Str} (he : PE X e te) (hb : attributeBase e f X.env (eval e X.env) = eval e X.env := by rfl) (hK : X.K = K := by rfl) : PE X (.Attribute e f pos) (tXat K f te) := by
  subst hK
  refine ⟨fun pins s σ H Q I h => ?_⟩
  refine attr_of hb (thn (he.run pins s σ H _ I h) fun u s1 hh => ?_)
  obtain ⟨x, H1, I1, rx, a, C, fs, v, ex, T, hno, hx, l, q⟩ := hh
  subst ex
  obtain rfl : u = Value.ref a := rx
  rcases hx with ⟨rfl, _⟩ | ⟨dx, ea, ed⟩
  · cases l
  · obtain ⟨t1, ho⟩ := exo_at I1.hok ea
    obtain ⟨mA, hns, rel⟩ := exd_at I1.hok ed
    obtain ⟨od, hod, hl⟩ := lookIn_ns hns
    obtain ⟨w, hw, rw'⟩ := RelO.some_of (v := v) (o := mA f) (by rw [← l]; exact rel f)
    have J : PySem.W.InstAt s1.heap a { cls := .ref C, dict := some dx, data := .fields #[.ref t1, .none, .none, .none, .bool false, .none] } C (some od) := ⟨ho, rfl, rfl, hod⟩
    exact HandSPX.exc_get I1.kIn J T.ga T.gg T.exC (PySem.W.findObj_own T.hd hno rfl (by rw [hl, hw])) (handed_of rw') ⟨v, H1, I1.tok _, rw', q⟩
end L2

end PE3
section PE4
set_option maxHeartbeats 4000000
namespace L2
open PySem PySem.Spec PyProof.Rows
theorem XC.isCls {K : PySem.W.Frag} {C : Addr} (T : XC K C) : (PySem.W.clsIn K C).isSome = true := by
  obtain ⟨cd, hc, _⟩ := PySem.W.any_some T.hd
  rw [hc] <;> rfl
section
variable {X : Cx} {pins : List (Addr × Obj)} {σ : St} {H : Hp} {s : Shared}
theorem kit_x {a C : Addr} {fs : List (Str × V)} (I : Inv X pins σ H s) (T : XC X.K C) (h : IsX H C fs a) : ∃ P : Heap → Prop, PySem.W.KitX X.K (.ref a) (.ref C) P ∧ P s.heap := by
  rcases h with ⟨_, ea⟩ | ⟨dx, ea, ed⟩
  · obtain ⟨t1, ho⟩ := exo_at I.hok ea
    exact ⟨_, PySem.W.kitx_exc (od := none) T.isCls T.ga T.gg T.exC T.ha T.hn T.ht T.hm, ⟨ho, rfl, rfl, trivial⟩⟩
  · obtain ⟨t1, ho⟩ := exo_at I.hok ea
    obtain ⟨mA, ⟨od, es, ep, e1, _⟩, rel⟩ := exd_at I.hok ed
    exact ⟨_, PySem.W.kitx_exc (od := some od) T.isCls T.ga T.gg T.exC T.ha T.hn T.ht T.hm, ⟨ho, rfl, rfl, e1⟩⟩
end
/-- isinstance(e, c), e a tracked exception, c one class -/
def rIsX (K : PySem.W.Frag) : List V → Hp → VK → Prop := fun xs H Q => ∃ (a C : Addr) (fs : List (Str × V)) (c : V) (u : Value) (b : Bool), xs = [.ref a, c] ∧ ClsV c u ∧ XC K C ∧ IsX H C fs a ∧ PySem.W.kitOne K (.ref C) u = some b ∧ Q (.bl b) H
/-- isinstance(e, (c1, c2, ..)) -/
def rIsXT (K : PySem.W.Frag) : List V → Hp → VK → Prop := fun xs H Q => ∃ (a C tp : Addr) (fs : List (Str × V)) (cs : List V) (us : List Value) (b : Bool), xs = [.ref a, .ref tp] ∧ H tp = some (.tup cs) ∧ Paired ClsV cs us ∧ XC K C ∧ IsX H C fs a ∧ PySem.W.kitAny K (.ref C) us = some b ∧ Q (.bl b) H
section
variable {X : Cx}
theorem call_isX : CallR X (.builtin "isinstance") (rIsX X.K) := by
  intro pins s σ H xs us Q I r h
  obtain ⟨a, C, fs, c, u, b, rfl, k, T, hx, e, q⟩ := h
  obtain ⟨u1, u2, rfl, r1, r2⟩ := vals2 r
  have e2 := k.eq r2
  subst e2
  cases (show u1 = Value.ref a from r1)
  obtain ⟨P, Z, p⟩ := kit_x I T hx
  exact PySem.W.kia_one Z I.kIn p e (fun z => nomatch z) fun tk => ⟨.bl b, H, I.tok tk, rfl, q⟩
theorem call_isXT : CallR X (.builtin "isinstance") (rIsXT X.K) := by
  intro pins s σ H xs us Q I r h
  obtain ⟨a, C, tp, fs, cs, ws, b, rfl, hT, k, T, hx, e, q⟩ := h
  obtain ⟨u1, u2, rfl, r1, r2⟩ := vals2 r
  cases (show u1 = Value.ref a from r1)
  cases (show u2 = Value.ref tp from r2)
  obtain ⟨P, Z, p⟩ := kit_x I T hx
  obtain ⟨_, its, rv, o, h1, h2, n, h3⟩ := (show ObjOk X.prog X.w H s.heap tp (.tup cs) from I.hok tp _ hT)
  have e3 := ClsV.all k rv
  subst e3
  obtain ⟨oc, od, dt, sl⟩ := o
  simp only at h2 h3
  subst h2 h3
  exact PySem.W.kia_tup Z I.kIn p h1 e (fun z => nomatch z) fun tk => ⟨.bl b, H, I.tok tk, rfl, q⟩
end
end L2

end PE4
section PE5
set_option maxHeartbeats 4000000
/-! Promises of defs that are called while no repr runs: what repr tells is then told. -/
namespace L2
open PySem PySem.Spec PyProof.Rows
/-- a def keeps sp wherever it is called outside of any repr -/
structure FnG (P : Program) (w : World) (K : PySem.W.Frag) (mg : Str → Option Value) (base : Heap) (CX : CXT) (k : Nat) (f : Addr) (fd : FuncData) (ps : List Str) (sp : Sp) : Prop where
  len : ∀ vs H Q E, sp vs H Q E → vs.length = ps.length
  run : ∀ (A : Around) (outer : List Env) (s : Shared) (H : Hp) (args : Args) (us : List Value) (vs : List V) (Q : VK) (E : XK), A.guards = some [] → Room k A → Env0 P w K mg base A outer s H → BindsTo s fd args (ps.zip us) → Vals vs us → sp vs H Q E →
    codeAny (model P w) A (.call (.ref f) args) (CR CX outer P w H s Q E) s
theorem FnOk.g {P : Program} {w : World} {K : PySem.W.Frag} {mg : Str → Option Value} {base : Heap} {CX : CXT} {k : Nat} {f : Addr} {fd : FuncData} {ps : List Str} {sp : Sp} (F : FnOk P w K mg base CX k f fd ps sp) : FnG P w K mg base CX k f fd ps sp :=
  ⟨F.len, fun A outer s H args us vs Q E _ => F.run A outer s H args us vs Q E⟩
theorem deeper_guards {A : Around} {env : Env} (h : A.guards = some []) : (A.deeper env).guards = some [] := by
  have e : (A.deeper env).guards = A.guards := by rfl
  rw [e, h]
/-- the rule for a def, by its body, the guards told -/
theorem FunD.okG {CX : CXT} {P : Program} {w : World} {K : PySem.W.Frag} {mg : Str → Option Value} {base : Heap} {k : Nat} {f : Addr} {x qual : Str} {params : Arguments} {body : List Stmt} {scope : Scope} {dvs : List V} {kws : List (Str × V)} {fd : FuncData} {N ps : List Str} {sp : Sp}
    (F : FunD K x qual params body scope dvs kws f fd) (S : FnScope N ps scope) (len : ∀ vs H Q E, sp vs H Q E → vs.length = ps.length)
    (hbody : ∀ (cdv : Value) (A : Around) (outer : List Env) (s : Shared) (H : Hp) (vs : List V) (Q : VK) (E : XK), A.guards = some [] → Room k (A.deeper (envOfC qual scope s.heap.objs.size f cdv)) → sp vs H Q E →
      ∃ t, PSs (cxOf CX P w K mg base N qual scope f cdv A outer s H E) body t ∧ t { nx := fun _ H' => Q .non H', rt := Q } (start N vs) H) : FnG P w K mg base CX (k + 1) f fd ps sp := by
  obtain ⟨oc, od, dV, kV, doc, pm, an, cdv, ct, osl, rfl, lk, hcd, _, _⟩ := F.ex
  refine ⟨len, fun A outer s H args us vs Q E hg hr e0 hb r hsp => ?_⟩
  have old : ∀ b o, base.get? b = some o → s.heap.get? b = some o := fun b o e => (e0.bs b o e).1
  have KX : K.In s.heap := e0.mod.kin.keeps old
  have lim : s.heap.NoLimit := e0.mod.nolimit.keeps old
  refine codeAny_call_function hr.depth (KX _ _ lk) rfl S.co S.gen rfl (PySem.W.codeRec_of KX hcd) (hb _ _ _ _ (wpAny_newFunctionEnv_cells S.kind (fun y hy => ?_) fun env he s1 x => ?_))
  · rcases S.par y.1 (List.of_mem_zip (show (y.1, y.2) ∈ ps.zip us from hy)).1 with q | q
    · exact .inl q
    · exact .inr ⟨q, PySem.W.cellsFrom_some _ _ _ (.inl q)⟩
  · subst he
    obtain ⟨t, ht, hq⟩ := hbody cdv A outer s H vs Q E hg (hr.deeper _) hsp
    refine ⟨lim.keeps x.toInCall.keep, codeAny_func (wpAny_mono (ht.run [] s1 (start N vs) H _ (inv_start S hr.hd e0 (len _ _ _ _ hsp) r x) hq) (fun fl s' hs => ?_) fun e s' hs => hs)⟩
    cases fl with
    | ret u =>
      obtain ⟨v, σ', H', J, rv, q⟩ := hs
      exact ⟨v, H', J.os, J.bare, J.base, J.hok, rv, q⟩
    | next =>
      obtain ⟨σ', H', J, q⟩ := hs
      exact ⟨V.non, H', J.os, J.bare, J.base, J.hok, rfl, q⟩
    | brk =>
      obtain ⟨_, _, _, q⟩ := hs
      exact False.elim q
    | cont =>
      obtain ⟨_, _, _, q⟩ := hs
      exact False.elim q
section
variable {X : Cx} {CX : CXT} {k : Nat} {f C : Addr} {fd : FuncData} {ps : List Str} {sp : Sp} {dvs : List V} {ds : List Value} {E : XK} {x m : Str} {p pos apos : Pos} {e o : Expr} {es : List Expr} {ta : TE} {t : TA}
theorem runG {pins : List (Addr × Obj)} {σ : St} {H : Hp} {s : Shared} {Q : VK} {us : List Value} {vs : List V} (F : FnG X.prog X.w X.K X.mg X.base CX k f fd ps sp) (hG : X.A.guards = some []) (hr : Room k X.A) (hb : Binds X.K fd ps ds) (hd : Vals dvs ds) (hx : Passes CX X E)
    (I : Inv X pins σ H s) (r : Vals vs us) (h : sp (vs ++ dvs) H Q E) : wpAny (model X.prog X.w) X.A (call (.ref f) us) (EP X pins σ Q) X.xe s := by
  have r2 : Vals (vs ++ dvs) (us ++ ds) := r.append hd
  have hl : (us ++ ds).length = ps.length := r2.length.symm.trans (F.len _ _ _ _ h)
  refine wpAny_call (codeAny_mono (F.run X.A X.stack s H ⟨us, []⟩ (us ++ ds) (vs ++ dvs) Q E hG hr I.env0 (hb s us I.kIn hl) r2 h) fun r s' hq => ?_)
  cases r with
  | error e => exact hx pins σ H s e s' I hq
  | ok fl =>
    cases fl with
    | ret u => exact I.after hq
    | next => exact False.elim hq
    | brk => exact False.elim hq
    | cont => exact False.elim hq
/-- f(e, ..) where the guards are told -/
theorem pe_callG (F : FnG X.prog X.w X.K X.mg X.base CX k f fd ps sp) (hG : X.A.guards = some []) (hr : Room k X.A) (hg : Gl X x) (hm : X.mg x = some (.ref f)) (hk : PySem.W.keepIn X.K (.ref f) = true) (hb : Binds X.K fd ps ds) (hd : Vals dvs ds) (hx : Passes CX X E)
    (ha : PA X (e :: es) t) (hdb : (x == ("__debug__" : Str)) = false := by decide) (he : starEach (e :: es) X.env = (false, eval e X.env) :: starEach es X.env := by rfl) (hpl : (backTo pos (starEach es X.env)).any (·.1) = false := by rfl) :
    PE X (.Call (.Name x p) (e :: es) [] pos) (tCall sp dvs E t) :=
  ⟨fun pins s σ H Q I h => wpAny_Call_Name_kw (ld_glob I hg hm (PySem.W.callWith_K (h₀ := X.base) I.ok.mod.kin hk (thn (ha.run pos pins s σ H _ I h) fun us s1 ⟨vs, H1, I1, r, q⟩ => ⟨I1.kIn, runG F hG hr hb hd hx I1 r q⟩) he hpl) hdb)⟩
end
/-- a law's call where its def's promise wants the guards -/
theorem law_callG {P : Program} {w : World} {K : PySem.W.Frag} {mg mb : Str → Option Value} {CX : CXT} {k : Nat} {fa a : Addr} {fd : FuncData} {x : Str} {sp : Sp} {s₁ : Shared} {vs : List Value} {ns : List Int}
    (KX : K.In s₁.heap) (hns : s₁.heap.Ns mainGlobals mg) (hb : s₁.heap.Ns builtinsNs mb) (hbb : ∀ x : Str, x ≠ "__name__" → mb x = bootBuiltins x) (hlim : s₁.heap.NoLimit) (hg : s₁.gens = #[])
    (ha : s₁.heap.get? a = some { cls := .type "list", data := .seq vs.toArray }) (hi : IntsAre vs ns) (hl : ns.length ≤ sizeLine) (hr : Room k callerA)
    (F : ∀ base : Heap, K.In base → base.Ns mainGlobals mg → FnG P w K mg base CX k fa fd [x] sp) (hbind : ∀ (s : Shared) (u : Value), BindsTo s fd ⟨[u], []⟩ [(x, u)])
    (hsp : ∀ H : Hp, Only H → SqL K H a (ns.map V.int) → sp [.ref a] H (fun v _ => v = .bl true) fun _ _ _ => False)
    (hCX : ∀ H e s', CX [] H s₁ (fun _ _ _ => False) e s' → False) :
    codeAny (model P w) callerA (.call (.ref fa) ⟨[.ref a], []⟩) (fun r s' => r = .ok (.ret (.bool true)) ∧ OldK s₁.heap s'.heap ∧ s'.os = s₁.os ∧ AllBare s'.gens) s₁ := by
  -- what is tracked at the entry: the script, unless it is one of the module's own objects
  have core : ∀ H : Hp, Only H → SqL K H a (ns.map V.int) → HOk P w H s₁.heap → (∀ b, H b ≠ none → b = a ∧ K.lookup a = none) →
      codeAny (model P w) callerA (.call (.ref fa) ⟨[.ref a], []⟩) (fun r s' => r = .ok (.ret (.bool true)) ∧ OldK s₁.heap s'.heap ∧ s'.os = s₁.os ∧ AllBare s'.gens) s₁ := by
    intro H hO hS hok hA
    have keep : ∀ {b : Addr} {o : Obj}, s₁.heap.get? b = some o → (b = a → K.lookup a = none → False) → (hidT s₁.heap H).get? b = some o := fun {b o} e no => hidT_get e (by
      cases q : H b with
      | none => rfl
      | some u =>
        have z := hA b (by rw [q]; simp)
        exact (no z.1 z.2).elim)
    have nsK : ∀ {b : Addr} {m : Str → Option Value}, s₁.heap.Ns b m → (hidT s₁.heap H).Ns b m := fun {b m} ⟨o, es, ep, e, d, r⟩ => ⟨o, es, ep, keep e (fun z _ => by
      rw [z, ha] at e
      cases e
      cases d), d, r⟩
    have hKb : K.In (hidT s₁.heap H) := fun b o e => keep (KX b o e) fun z n => by
      rw [z, n] at e
      cases e
    obtain ⟨mc, h1, h2⟩ := hlim
    have e0 : Env0 P w K mg (hidT s₁.heap H) callerA [] s₁ H := ⟨rfl, ⟨hKb, nsK hns, ⟨mb, nsK hb, hbb⟩, ⟨mc, nsK h1, h2⟩⟩, fun b o e => of_hidT e, Nat.le_of_eq (hidT_size _ _), trivial, fun b hb => absurd (show b ∈ ([] : List Addr) from hb) (by simp), hok, .of_eq hg⟩
    refine codeAny_mono ((F _ hKb (nsK hns)).run callerA [] s₁ H ⟨[.ref a], []⟩ [.ref a] [.ref a] _ _ rfl hr e0 (hbind s₁ (.ref a)) (.cons rfl .nil) (hsp H hO hS)) fun r s' h => ?_
    cases r with
    | error e => exact (hCX H e s' h).elim
    | ok fl =>
      cases fl with
      | next => exact False.elim h
      | brk => exact False.elim h
      | cont => exact False.elim h
      | ret u =>
        obtain ⟨v, H', os, bare, un, hok', r', q⟩ := h
        cases (show v = .bl true from q)
        cases (show u = Value.bool true from r')
        refine ⟨rfl, OldK.of_keep fun b o e => ?_, os, bare⟩
        cases q : H b with
        | none => exact un.keep b o e q (fun z => absurd (show b ∈ ([] : List Addr) from z) (by simp)) (by simp)
        | some u =>
          obtain ⟨ob, xs, z⟩ : ∃ o xs, H b = some (.frz o (.lst xs)) := (hO b).resolve_left (by rw [q]; simp)
          have e1 := (hok b _ z).1
          rw [e] at e1
          cases e1
          exact (hok' b _ (un.frzs b _ _ z)).1
  have rv := vals_ints hi
  cases hk : K.lookup a with
  | some o =>
    have e := KX a o hk
    rw [ha] at e
    cases e
    exact core (fun _ => none) (fun _ => .inl rfl) (.inr ⟨_, vs.toArray, _, hk, rfl, rfl, rfl, by rw [List.size_toArray, hi.length]; exact hl, by simpa using rv⟩) (fun b u z => by cases (show (none : Option HO) = some u from z)) fun b z => absurd rfl z
  | none =>
    have at_ : ∀ b u, (if b = a then some (HO.frz { cls := .type "list", data := .seq vs.toArray } (.lst (ns.map V.int))) else none) = some u → b = a ∧ u = HO.frz { cls := .type "list", data := .seq vs.toArray } (.lst (ns.map V.int)) := fun b u z => by
      by_cases q : b = a
      · rw [if_pos q] at z
        exact ⟨q, (Option.some.inj z).symm⟩
      · rw [if_neg q] at z
        cases z
    refine core (fun b => if b = a then some (.frz { cls := .type "list", data := .seq vs.toArray } (.lst (ns.map V.int))) else none) (fun b => ?_) (.inl (.inr ⟨{ cls := .type "list", data := .seq vs.toArray }, if_pos rfl⟩)) (fun b u z => ?_) fun b z => ⟨?_, hk⟩
    · by_cases q : b = a
      · exact .inr ⟨_, _, if_pos q⟩
      · exact .inl (if_neg q)
    · obtain ⟨rfl, rfl⟩ := at_ b u z
      exact ⟨ha, by rw [List.length_map]; exact hl, vs, _, rv, ha⟩
    · cases q : (if b = a then some (HO.frz { cls := .type "list", data := .seq vs.toArray } (.lst (ns.map V.int))) else none) with
      | none => exact absurd q z
      | some u => exact (at_ b u q).1
/-- the end of a law -/
theorem walk_ofG {l : PySem.W.OpenLaw} {n k : Nat} {q : Program} {loose : List Str} {XP : (Str → Option Value) → Heap → Prop} {YP : World → Heap → Prop} {d : DefRec} {CX : World → CXT} {x : Str}
    (hn : l.most = some n) (hn2 : n ≤ sizeLine) (hdf : d.params.defaults = []) (hr : Room k callerA)
    (F : ∀ (w : World) (mg : Str → Option Value) (fa : Addr) (h : Heap), YP w h → h.Ns mainGlobals mg → mg d.name = some (.ref fa) →
      ∃ (K : PySem.W.Frag) (fd : FuncData) (sp : Sp), K.In h ∧ (∀ (s : Shared) (u : Value), BindsTo s fd ⟨[u], []⟩ [(x, u)]) ∧
        (∀ (H : Hp) (a : Addr) (ns : List Int), ns.length ≤ n → Only H → SqL K H a (ns.map V.int) → sp [.ref a] H (fun v _ => v = .bl true) fun _ _ _ => False) ∧
        ∀ base : Heap, K.In base → base.Ns mainGlobals mg → FnG l.prog w K mg base (CX w) k fa fd [x] sp)
    (hCX : ∀ (w : World) (H : Hp) (s : Shared) (e : Value) (s' : Shared), CX w [] H s (fun _ _ _ => False) e s' → False) :
    PySem.W.WalkO q loose XP YP l.row.toRowW d [] (fun f vs => PySem.call f vs) := by
  refine Att.attach_call hn hdf fun w s₀ s₁ mg mb fa o pm cd doc a vs ns G Y ho hd hcd hmg hobj hints hlen hg => ?_
  obtain ⟨K, fd, sp, KX, hb, hsp, hF⟩ := F w mg fa _ Y G.T.g hmg
  exact law_callG KX G.T.g G.T.b G.T.builtins G.T.nolimit hg hobj hints (Nat.le_trans hlen hn2) hr hF hb (fun H hO hS => hsp H a ns hlen hO hS) fun H e s' => hCX w H s₁ e s'
end L2

end PE5
section PE6
set_option maxHeartbeats 4000000
/-! What repr tells of data at any depth. -/
namespace L2
open PySem PySem.Spec PyProof.Rows
def kD : Key → PyData
  | .inl i => .int i
  | .inr x => .str x
mutual
/-- v is these data, by what is tracked -/
inductive Rp (H : Hp) : V → PyData → Prop
  | non : Rp H .non .none
  | bl (b : Bool) : Rp H (.bl b) (.bool b)
  | int (i : Int) : Rp H (.int i) (.int i)
  | str (x : Str) : Rp H (.str x) (.str x)
  | lst {a : Addr} {xs : List V} {ds : List PyData} : H a = some (.lst xs) → RpAll H xs ds → Rp H (.ref a) (.list ds)
  | tup {a : Addr} {xs : List V} {ds : List PyData} : H a = some (.tup xs) → RpAll H xs ds → Rp H (.ref a) (.tuple ds)
  | dic {a : Addr} {kvs : List (Key × V)} {ds : List (PyData × PyData)} : H a = some (.dK kvs) → RpKv H kvs ds → Rp H (.ref a) (.dict ds)
inductive RpAll (H : Hp) : List V → List PyData → Prop
  | nil : RpAll H [] []
  | cons {v : V} {vs : List V} {d : PyData} {ds : List PyData} : Rp H v d → RpAll H vs ds → RpAll H (v :: vs) (d :: ds)
inductive RpKv (H : Hp) : List (Key × V) → List (PyData × PyData) → Prop
  | nil : RpKv H [] []
  | cons {k : Key} {v : V} {kvs : List (Key × V)} {d : PyData} {ds : List (PyData × PyData)} : Rp H v d → RpKv H kvs ds → RpKv H ((k, v) :: kvs) ((kD k, d) :: ds)
end
mutual
theorem Rp.same {H H' : Hp} (s : Same H H') : ∀ {v : V} {d : PyData}, Rp H v d → Rp H' v d
  | _, _, .non => .non
  | _, _, .bl b => .bl b
  | _, _, .int i => .int i
  | _, _, .str x => .str x
  | _, _, .lst h r => .lst (s _ _ h) (RpAll.same s r)
  | _, _, .tup h r => .tup (s _ _ h) (RpAll.same s r)
  | _, _, .dic h r => .dic (s _ _ h) (RpKv.same s r)
theorem RpAll.same {H H' : Hp} (s : Same H H') : ∀ {vs : List V} {ds : List PyData}, RpAll H vs ds → RpAll H' vs ds
  | _, _, .nil => .nil
  | _, _, .cons h r => .cons (Rp.same s h) (RpAll.same s r)
theorem RpKv.same {H H' : Hp} (s : Same H H') : ∀ {vs : List (Key × V)} {ds : List (PyData × PyData)}, RpKv H vs ds → RpKv H' vs ds
  | _, _, .nil => .nil
  | _, _, .cons h r => .cons (Rp.same s h) (RpKv.same s r)
end
theorem key_read {h : Heap} {k : Key} {u : Value} (e : keyIs k u = true) : Reads h u (kD k) [] := by
  rcases keyIs_shape e with ⟨i, t, rfl, rfl⟩ | ⟨x, t, rfl, rfl⟩
  · exact Reads.int i t
  · exact Reads.str x t
section
variable {X : Cx} {pins : List (Addr × Obj)} {σ : St} {H : Hp} {s : Shared}
mutual
theorem Rp.reads (I : Inv X pins σ H s) (hm : ∀ a xs, H a = some (.lst xs) → a ≠ sysModules) : ∀ {v : V} {d : PyData} {u : Value}, Rp H v d → RelV v u → ∃ as, Reads s.heap u d as ∧ sysModules ∉ as
  | _, _, u, .non, r => by
    cases (show u = Value.none from r)
    exact ⟨[], .none, by simp⟩
  | _, _, u, .bl b, r => by
    cases (show u = Value.bool b from r)
    exact ⟨[], .bool b, by simp⟩
  | _, _, u, .int i, r => by
    obtain ⟨t, q⟩ := (show ∃ t, u = Value.int i t from r)
    cases q
    exact ⟨[], .int i t, by simp⟩
  | _, _, u, .str x, r => by
    obtain ⟨t, q⟩ := (show ∃ t, u = Value.str x t from r)
    cases q
    exact ⟨[], .str x t, by simp⟩
  | _, _, u, .lst (a := a) (xs := xs) h k, r => by
    cases (show u = Value.ref a from r)
    obtain ⟨_, its, n, rv, e⟩ := (show ObjOk X.prog X.w H s.heap a (.lst xs) from I.hok a _ h)
    obtain ⟨as, q, no⟩ := RpAll.reads I hm k rv
    exact ⟨_, .list e rfl rfl (by simpa using q), fun z => by
      rcases List.mem_cons.mp z with z | z
      · exact hm a xs h z.symm
      · exact no z⟩
  | _, _, u, .tup (a := a) (xs := xs) h k, r => by
    cases (show u = Value.ref a from r)
    obtain ⟨_, its, rv, o, e, c, n, dd⟩ := (show ObjOk X.prog X.w H s.heap a (.tup xs) from I.hok a _ h)
    obtain ⟨as, q, no⟩ := RpAll.reads I hm k rv
    exact ⟨_, .tuple e c dd (by simpa using q), no⟩
  | _, _, u, .dic (a := a) (kvs := kvs) h k, r => by
    cases (show u = Value.ref a from r)
    obtain ⟨_, ns, vs, kv, o, es, ep, e, ex, dd, _, pr, _⟩ := (show ObjOk X.prog X.w H s.heap a (.dK kvs) from I.hok a _ h)
    obtain ⟨as, bs, q1, q2, n1, n2⟩ := RpKv.reads I hm k kv pr
    exact ⟨_, .dict e ex.1 dd q1 q2, fun z => by
      rcases List.mem_append.mp z with z | z
      · rcases List.mem_cons.mp z with z | z
        · rw [← z] at ns
          simp at ns
        · exact n1 z
      · exact n2 z⟩
theorem RpAll.reads (I : Inv X pins σ H s) (hm : ∀ a xs, H a = some (.lst xs) → a ≠ sysModules) : ∀ {vs : List V} {ds : List PyData} {us : List Value}, RpAll H vs ds → Vals vs us → ∃ as, ReadsAll s.heap us ds as ∧ sysModules ∉ as
  | _, _, _, .nil, .nil => ⟨[], .nil, by simp⟩
  | _, _, _, .cons h k, .cons r t => by
    obtain ⟨as, q1, n1⟩ := Rp.reads I hm h r
    obtain ⟨bs, q2, n2⟩ := RpAll.reads I hm k t
    exact ⟨_, .cons q1 q2, fun z => (List.mem_append.mp z).elim n1 n2⟩
theorem RpKv.reads (I : Inv X pins σ H s) (hm : ∀ a xs, H a = some (.lst xs) → a ≠ sysModules) : ∀ {kvs : List (Key × V)} {ds : List (PyData × PyData)} {vs : List (Key × Value)} {es : List DictEntry}, RpKv H kvs ds → KV kvs vs → Pairs (mixKind X.prog X.w) es vs →
    ∃ as bs, ReadsAll s.heap (es.map (·.key)) (ds.map (·.1)) as ∧ ReadsAll s.heap (es.map (·.val)) (ds.map (·.2)) bs ∧ sysModules ∉ as ∧ sysModules ∉ bs
  | _, _, _, _, .nil, .nil, .nil => ⟨[], [], .nil, .nil, by simp, by simp⟩
  | _, _, _, _, .cons h k, .cons r t, .cons e1 e2 e3 => by
    obtain ⟨as, bs, q1, q2, n1, n2⟩ := RpKv.reads I hm k t e3
    obtain ⟨cs, q3, n3⟩ := Rp.reads I hm h r.2
    have hk := e1
    rw [← r.1] at hk
    refine ⟨_, _, .cons (key_read (h := s.heap) hk) q1, .cons (by dsimp only; rw [e2]; exact q3) q2, fun z => ?_, fun z => (List.mem_append.mp z).elim n3 n2⟩
    rcases List.mem_append.mp z with z | z
    · cases z
    · exact n1 z
end
end
/-- repr(v) -/
def rRepr (xs : List V) (H : Hp) (Q : VK) : Prop := ∃ (v : V) (d : PyData), xs = [v] ∧ Rp H v d ∧ d.showable = true ∧ d.shown.length ≤ sizeLine ∧ d.depth ≤ 60 ∧ Q (.str d.shown) H
/-- sys.modules is no list, by the written part -/
def noMods (K : PySem.W.Frag) : Bool := match K.lookup sysModules with
  | some ⟨.type c, _, _, _⟩ => decide (c ≠ "list")
  | _ => false
theorem noMods_ok {X : Cx} {pins : List (Addr × Obj)} {σ : St} {H : Hp} {s : Shared} (I : Inv X pins σ H s) (h : noMods X.K = true) : ∀ a xs, H a = some (.lst xs) → a ≠ sysModules := fun a xs e z => by
  subst z
  obtain ⟨_, its, n, rv, q⟩ := (show ObjOk X.prog X.w H s.heap sysModules (.lst xs) from I.hok _ _ e)
  unfold noMods at h
  cases k : X.K.lookup sysModules with
  | none =>
    rw [k] at h
    cases h
  | some o =>
    have q2 := I.kIn _ _ k
    rw [q] at q2
    cases q2
    rw [k] at h
    simp at h
theorem call_reprD {X : Cx} (hg : X.A.guards = some []) (hu : X.A.units + 64 < cLine) (hK : noMods X.K = true) : CallR X (.builtin "repr") rRepr := by
  intro pins s σ H xs us Q I r h
  obtain ⟨v, d, rfl, hr, hs, hl, hd, q⟩ := h
  obtain ⟨u, rfl, ru⟩ := vals1 r
  cases hr with
  | non =>
    cases (show u = Value.none from ru)
    exact PySem.P.repr_of_none ⟨.str _, H, I.tok _, ⟨_, rfl⟩, q⟩
  | bl b =>
    cases (show u = Value.bool b from ru)
    exact PySem.P.repr_of_bool ⟨.str _, H, I.tok _, ⟨_, rfl⟩, q⟩
  | int i =>
    obtain ⟨t, z⟩ := (show ∃ t, u = Value.int i t from ru)
    cases z
    exact PySem.P.repr_of_int (by simpa [PyData.showable] using hs) ⟨.str _, H, I.tok _, ⟨_, rfl⟩, q⟩
  | str x =>
    obtain ⟨t, z⟩ := (show ∃ t, u = Value.str x t from ru)
    cases z
    exact PySem.P.repr_of_str ⟨.str _, H, I.tok _, ⟨_, rfl⟩, q⟩ hl
  | lst h k =>
    obtain ⟨as, w, no⟩ := Rp.reads I (noMods_ok I hK) (.lst h k) ru
    cases (show u = Value.ref _ from ru)
    exact repr_of_reads' w hs (fun _ => no) hg (by omega) (fun _ _ e => e) (fun h' t tk kp => ⟨.str _, H, I.kept (t' := tk) kp, ⟨_, rfl⟩, q⟩) hl
  | tup h k =>
    obtain ⟨as, w, no⟩ := Rp.reads I (noMods_ok I hK) (.tup h k) ru
    cases (show u = Value.ref _ from ru)
    exact repr_of_reads' w hs (fun _ => no) hg (by omega) (fun _ _ e => e) (fun h' t tk kp => ⟨.str _, H, I.kept (t' := tk) kp, ⟨_, rfl⟩, q⟩) hl
  | dic h k =>
    obtain ⟨as, w, no⟩ := Rp.reads I (noMods_ok I hK) (.dic h k) ru
    cases (show u = Value.ref _ from ru)
    exact repr_of_reads' w hs (fun _ => no) hg (by omega) (fun _ _ e => e) (fun h' t tk kp => ⟨.str _, H, I.kept (t' := tk) kp, ⟨_, rfl⟩, q⟩) hl
end L2
/-! ### the head's facts: each def, and one Bool of the written part (sys.modules among it) -/
namespace He
open PySem PySem.Spec PyProof.Rows L2
def asY (g : Addr → Option Obj) (n : Nat) : List Addr := sysModules :: asD g n
def obsY (n : Nat) (fn : List DefD) (ex : PySem.W.Frag → Bool) (g : Addr → Option Obj) : Bool × List FnW := ((fn.all fun d => d.ok (frG g (asY g n))) && ex (frG g (asY g n)), fn.map fun d => fnW (frG g (asY g n)) d.at_)
structure SaysY (fn : List DefD) (ex : PySem.W.Frag → Bool) (K : PySem.W.Frag) : Prop where
  ok : (fn.all fun d => d.ok K) = true
  more : ex K = true
  fns : fn.map (fun d => fnW K d.at_) = fn.map DefD.val
theorem saysY_of {n : Nat} {fn : List DefD} {ex : PySem.W.Frag → Bool} {g : Addr → Option Obj} (e : obsY n fn ex g = (true, fn.map DefD.val)) : SaysY fn ex (frG g (asY g n)) := by
  have e1 : ((fn.all fun d => d.ok (frG g (asY g n))) && ex (frG g (asY g n))) = true := congrArg (fun z : Bool × List FnW => z.1) e
  exact ⟨(ba e1).1, (ba e1).2, congrArg (fun z : Bool × List FnW => z.2) e⟩
def hookY (n : Nat) (fn : List DefD) (ex : PySem.W.Frag → Bool) : PySem.W.Hook where
  α := Bool × List FnW
  obs := fun s => obsY n fn ex s.heap.get?
  val := fun _ => (true, fn.map DefD.val)
  says := fun _ h => ∃ K : PySem.W.Frag, K.In h ∧ SaysY fn ex K
  of := fun _ _ e => ⟨_, frG_in, saysY_of e⟩
  keeps := fun _ _ _ ⟨K, hK, c⟩ k => ⟨K, PySem.W.Frag.In.keeps hK k, c⟩
theorem obsY_eq {n : Nat} {fn : List DefD} {ex : PySem.W.Frag → Bool} {g : Addr → Option Obj} {s : Shared} (h : ∀ a, g a = s.heap.get? a) : obsY n fn ex g = (hookY n fn ex).obs s := by
  have e : g = s.heap.get? := funext h
  rw [e] <;> rfl
theorem SaysY.def_ {fn : List DefD} {ex : PySem.W.Frag → Bool} {K : PySem.W.Frag} (c : SaysY fn ex K) (i : Nat) {d : DefD} (h : fn[i]? = some d) : ∃ fd, FunD K d.name d.qual d.params d.body d.scope (d.dvs K) (d.kws K) (fAd K d.at_) fd := by
  have e2 : (fn.map fun d => fnW K d.at_)[i]? = (fn.map DefD.val)[i]? := by rw [c.fns]
  rw [List.getElem?_map, List.getElem?_map, h] at e2
  exact DefD.funD (Option.some.inj e2) (List.all_eq_true.mp c.ok d (List.mem_of_getElem? h))
end He

end PE6
section Pq4C
set_option maxHeartbeats 4000000
namespace C4
open PySem L2
def top (i : Nat) : Stmt := PySem.Challenge.pw_keptedits_k14_whole_one_map_then_another.main.body.getD i (.Pass ⟨0, 0, 0, 0⟩)
abbrev sPot : Stmt := top 51
abbrev sDraw : Stmt := top 52
abbrev sPick : Stmt := top 53
abbrev FD (K : PySem.W.Frag) (x : Str) (st : Stmt) (f : Addr) (fd : FuncData) : Prop := FunD K x x (defArgs st) (defBody st) (defScope st) [] [] f fd
/-! ### heaps: what stands but at p -/
def Bt (p : Addr) (H H' : Hp) : Prop := ∀ b o, b ≠ p → H b = some o → H' b = some o
theorem Bt.refl (p : Addr) (H : Hp) : Bt p H H := fun _ _ _ e => e
theorem Bt.trans {p : Addr} {H H1 H2 : Hp} (a : Bt p H H1) (b : Bt p H1 H2) : Bt p H H2 := fun c o n e => b c o n (a c o n e)
theorem Same.bt {p : Addr} {H H' : Hp} (s : Same H H') : Bt p H H' := fun b o _ e => s b o e
theorem same_upd {H : Hp} {p : Addr} {o : HO} (h : H p = none) : Same H (upd H p o) := fun b u e => by
  rw [upd_ne (ne_of_none e h)]
  exact e
theorem bt_upd {H : Hp} {p : Addr} {o : HO} : Bt p H (upd H p o) := fun b u n e => by
  rw [upd_ne n]
  exact e
/-- H without p -/
def hid (p : Addr) (H : Hp) : Hp := fun b => if b = p then none else H b
theorem hid_same (p : Addr) (H : Hp) : Same (hid p H) H := fun b o e => by
  unfold hid at e
  by_cases h : b = p
  · rw [if_pos h] at e
    cases e
  · rw [if_neg h] at e
    exact e
theorem Bt.hid {p : Addr} {H H' : Hp} (s : Bt p H H') : Same (hid p H) (hid p H') := fun b o e => by
  unfold C4.hid at e ⊢
  by_cases h : b = p
  · rw [if_pos h] at e
    cases e
  · rw [if_neg h] at e ⊢
    exact s b o h e
theorem Bt.free {p q : Addr} {H H' : Hp} (s : Bt p H H') (hq : q ≠ p) (h : H' q = none) : H q = none := by
  cases e : H q with
  | none => rfl
  | some o =>
    rw [s q o hq e] at h
    cases h
/-! ### the pot: two ints, the rest of the digits and the seed -/
def PotAt (H : Hp) (p : Addr) : Prop := ∃ x y : Int, H p = some (.lst [.int x, .int y]) ∧ 0 ≤ x ∧ 0 ≤ y ∧ y ≤ 2147483630
def spPot (K : PySem.W.Frag) : Sp := fun vs H Q _ => ∃ (a : Addr) (ns : List Int) (k : Int), vs = [.ref a, .int k] ∧ SqL K H a (ns.map V.int) ∧ ns.length ≤ 63 ∧ 0 ≤ k ∧ k ≤ 63 ∧
  ∀ (p : Addr) (x y : Int), H p = none → 0 ≤ x → 0 ≤ y → y ≤ 2147483630 → Q (.ref p) (upd H p (.lst [.int x, .int y]))
def spDraw : Sp := fun vs H Q _ => ∃ (p : Addr) (n : Int), vs = [.ref p, .int n] ∧ PotAt H p ∧ 0 < n ∧ n < 1073741824 ∧ ∀ (d : Int) (H' : Hp), 0 ≤ d → d < n → Bt p H H' → PotAt H' p → Q (.int d) H'
def spPick (K : PySem.W.Frag) : Sp := fun vs H Q _ => ∃ (p l : Addr) (xs : List V), vs = [.ref p, .ref l] ∧ PotAt H p ∧ l ≠ p ∧ H l = some (.lst xs) ∧ 0 < xs.length ∧ xs.length ≤ 1000 ∧
  ∀ (i : Nat) (v : V) (H' : Hp), xs[i]? = some v → Bt p H H' → PotAt H' p → Q v H'
structure TxtP (K : PySem.W.Frag) (mg : Str → Option Value) : Prop where
  len : mg "len" = none
  max : mg "max" = none
  abs : mg "abs" = none
  int : mg "int" = none
  divmod : mg "divmod" = none
section
variable {P : Program} {w : World} {K : PySem.W.Frag} {mg : Str → Option Value} {base : Heap}
theorem scPot : FnScope ["_law_script", "_law_k", "_law_cell"] ["_law_script", "_law_k"] (defScope sPot) := ⟨rfl, rfl, rfl, by decide +kernel, rfl, by decide +kernel, by decide +kernel⟩
theorem ok_pot {f : Addr} {fd : FuncData} (F : FD K "_law_pot" sPot f fd) (T : TxtP K mg) : FnOk P w K mg base CX0 1 f fd ["_law_script", "_law_k"] (spPot K) := by
  refine F.ok scPot (fun vs H Q E h => ?_) (fun cdv A outer s H vs Q E hr h => ?_)
  · obtain ⟨a, ns, k, rfl, _⟩ := h
    rfl
  · obtain ⟨a, ns, k, rfl, hS, hl, k0, k1, kk⟩ := h
    refine ⟨_, PSs.nox (pss_cons (ps_set (i := 2) scPot.nd rfl (Or.inl rfl) (pe_ifExp (pt_cmpR op_lt (pv 1) (pe_callB call_len_seq (by rfl) T.len PySem.boot_len (pa_cons (pv 0) pa_nil)) (nomark _)) (pe_ix ix_list (pv 0) (pv 1) (fun _ _ => rfl)) (pe_op op_mul pe_int (pv 1))))
      (pss_one (ps_ret (pe_lst (pa_cons (pe_callB (call_max2 rfl) (by rfl) T.max (by decide +kernel) (pa_cons pe_int (pa_cons (pe_op op_sub (pe_callB call_abs (by rfl) T.abs (by decide +kernel) (pa_cons (pv 2) pa_nil)) (pe_op op_pow pe_int pe_int)) pa_nil)))
        (pa_cons (pe_op op_add (pe_op op_mod (pe_callTy call_int1 (by rfl) T.int (by decide +kernel) (pa_cons (pe_op op_add (pe_op op_add (pe_op op_mul (pe_op op_mod (pe_callTy call_int1 (by rfl) T.int (by decide +kernel) (pa_cons (pe_callB call_abs (by rfl) T.abs (by decide +kernel) (pa_cons (pv 2) pa_nil)) pa_nil)) pe_int) pe_int) (pe_op op_mul pe_int (pv 1))) pe_int) pa_nil)) pe_int) pe_int) pa_nil)))))), ?_⟩
    refine ⟨_, rfl, _, rfl, a, _, rfl, .inl hS, _, _, rfl, rfl, _, rfl, ?_⟩
    have cell : ∀ c : Int, tRet (tLst (tCons (tCB (fun xs H Q => ∃ i j, xs = [V.int i, V.int j] ∧ Q (V.int (if j > i then j else i)) H) (tCons (tC (V.int 0)) (tCons (tOp (rI0 fun i j => V.int (i - j)) (tCB (fun xs H Q => ∃ i, xs = [V.int i] ∧ Q (V.int (if i < 0 then -i else i)) H) (tCons (tVar 2) tNil)) (tOp (rI CPow fun i j => V.int (i ^ j.toNat)) (tC (V.int 10)) (tC (V.int 18)))) tNil)))
        (tCons (tOp (rI0 fun i j => V.int (i + j)) (tOp (rI (fun _ j => 0 < j) fun i j => V.int (i % j)) (tCB (fun xs H Q => (∃ i, xs = [V.int i] ∧ Q (V.int i) H) ∨ ∃ k, xs = [V.bl k] ∧ Q (V.int (if k = true then 1 else 0)) H) (tCons (tOp (rI0 fun i j => V.int (i + j)) (tOp (rI0 fun i j => V.int (i + j))
          (tOp (rI CMul fun i j => V.int (i * j)) (tOp (rI (fun _ j => 0 < j) fun i j => V.int (i % j)) (tCB (fun xs H Q => (∃ i, xs = [V.int i] ∧ Q (V.int i) H) ∨ ∃ k, xs = [V.bl k] ∧ Q (V.int (if k = true then 1 else 0)) H) (tCons (tCB (fun xs H Q => ∃ i, xs = [V.int i] ∧ Q (V.int (if i < 0 then -i else i)) H) (tCons (tVar 2) tNil)) tNil)) (tC (V.int 2147483563))) (tC (V.int 40009)))
          (tOp (rI CMul fun i j => V.int (i * j)) (tC (V.int 61297)) (tVar 1))) (tC (V.int 17))) tNil)) (tC (V.int 2147483629))) (tC (V.int 1))) tNil))) { nx := fun _ H' => Q .non H', rt := Q } [some (.ref a), some (.int k), some (.int c)] H := fun c => by
      refine ⟨_, rfl, _, rfl, _, _, rfl, rfl, ⟨by decide, by decide, by decide⟩, _, _, rfl, rfl, _, _, rfl, ?_⟩
      refine ⟨_, rfl, _, rfl, .inl ⟨_, rfl, _, _, rfl, rfl, (by show (0 : Int) < 2147483563; decide), _, _, rfl, rfl, .inr ⟨by decide, by decide⟩, _, rfl, _, _, rfl, rfl, .inl ⟨by decide, by decide⟩, _, _, rfl, rfl, _, _, rfl, rfl, .inl ⟨_, rfl, _, _, rfl, rfl, (by show (0 : Int) < 2147483629; decide), _, _, rfl, rfl, ?_⟩⟩⟩
      refine ⟨by show 2 ≤ sizeLine; decide, fun p hp => kk p _ _ hp ?_ ?_ ?_⟩
      · split <;> omega
      · exact Int.add_nonneg (Int.emod_nonneg _ (by decide)) (by decide)
      · have := Int.emod_lt_of_pos (((if c < 0 then -c else c) % 2147483563 * 40009 + 61297 * k + 17)) (show (0 : Int) < 2147483629 by decide)
        omega
    refine ite2 (fun h => ?_) (fun h => ?_)
    · have hk : k.toNat < ns.length := by
        have := of_decide_eq_true h
        rw [List.length_map] at this
        omega
      refine ⟨_, rfl, _, rfl, a, _, k, .int (ns[k.toNat]'hk), rfl, rfl, hS, ?_, cell _⟩
      have e := atI_nat (xs := ns.map V.int) (j := k.toNat) (v := .int (ns[k.toNat]'hk)) (by rw [List.getElem?_map, List.getElem?_eq_getElem hk] <;> rfl)
      rw [Int.toNat_of_nonneg k0] at e
      exact e
    · exact ⟨_, rfl, _, _, rfl, rfl, .inl ⟨by decide, by decide⟩, cell _⟩
theorem scDraw : FnScope ["_law_pot_here", "_law_many", "_law_digit"] ["_law_pot_here", "_law_many"] (defScope sDraw) := ⟨rfl, rfl, rfl, by decide +kernel, rfl, by decide +kernel, by decide +kernel⟩
theorem ok_draw {f : Addr} {fd : FuncData} (F : FD K "_law_draw" sDraw f fd) (T : TxtP K mg) : FnOk P w K mg base CX0 1 f fd ["_law_pot_here", "_law_many"] spDraw := by
  refine F.ok scDraw (fun vs H Q E h => ?_) (fun cdv A outer s H vs Q E hr h => ?_)
  · obtain ⟨p, n, rfl, _⟩ := h
    rfl
  · obtain ⟨p, n, rfl, ⟨x, y, hp, x0, y0, y1⟩, n0, n1, kk⟩ := h
    refine ⟨_, PSs.nox (pss_cons (ps_if (pt_cmpR op_gt (pe_ix ix_list (pv 0) pe_int (fun _ _ => rfl)) pe_int (nomark _))
        (pss_cons (ps_asg (pe_callB call_divmod (by rfl) T.divmod (by decide +kernel) (pa_cons (pe_ix ix_list (pv 0) pe_int (fun _ _ => rfl)) (pa_cons (pv 1) pa_nil))) (pg_tup rfl (pgs_cons (pg_sub (pv 0) pe_int set_list) (pgs_cons (pg_name (i := 2) scDraw.nd rfl (.inl rfl)) pgs_nil))))
          (pss_one (ps_ret (pv 2)))) pss_nil)
      (pss_cons (ps_asg (pe_op op_mod (pe_callTy call_int1 (by rfl) T.int (by decide +kernel) (pa_cons (pe_op op_add (pe_op op_mul (pe_ix ix_list (pv 0) pe_int (fun _ _ => rfl)) pe_int) pe_int) pa_nil)) pe_int) (pg_sub (pv 0) pe_int set_list))
      (pss_one (ps_ret (pe_op op_mod (pe_callTy call_int1 (by rfl) T.int (by decide +kernel) (pa_cons (pe_op op_fdiv (pe_op op_mod (pe_callTy call_int1 (by rfl) T.int (by decide +kernel) (pa_cons (pe_op op_mul (pe_ix ix_list (pv 0) pe_int (fun _ _ => rfl)) (pe_ix ix_list (pv 0) pe_int (fun _ _ => rfl))) pa_nil)) pe_int) pe_int) pa_nil)) (pv 1)))))), ?_⟩
    refine ⟨_, rfl, p, _, _, .int x, rfl, rfl, SqL.of hp, rfl, _, _, rfl, rfl, _, rfl, ?_⟩
    refine ite2 (fun h => ?_) (fun h => ?_)
    · refine ⟨_, rfl, p, _, _, .int x, rfl, rfl, SqL.of hp, rfl, _, rfl, _, _, rfl, ⟨n0, n1⟩, fun t ht => ?_⟩
      have ntp : p ≠ t := ne_of_none hp ht
      refine ⟨t, _, rfl, SqT.of upd_same, rfl, ?_⟩
      refine ⟨_, _, rfl, _, rfl, p, _, _, 0, rfl, rfl, (by rw [upd_ne ntp]; exact hp), rfl, _, _, rfl, rfl, ?_⟩
      refine ⟨_, rfl, kk _ _ (Int.emod_nonneg _ (by omega)) (Int.emod_lt_of_pos _ n0) (fun b o nb e => ?_) ⟨x / n, y, upd_same, Int.ediv_nonneg x0 (by omega), y0, y1⟩⟩
      rw [upd_ne nb]
      exact same_upd ht b o e
    · refine ⟨_, rfl, p, _, _, .int y, rfl, rfl, SqL.of hp, rfl, _, _, rfl, rfl, .inr ⟨by decide, by decide⟩, _, _, rfl, rfl, .inl ⟨_, rfl, _, _, rfl, rfl, (by show (0 : Int) < 2147483587; decide), ?_⟩⟩
      refine ⟨_, rfl, p, _, _, 1, rfl, rfl, hp, rfl, ?_⟩
      have z0 : 0 ≤ (y * 44203 + 15511) % 2147483587 := Int.emod_nonneg _ (by decide)
      have z1 : (y * 44203 + 15511) % 2147483587 < 2147483587 := Int.emod_lt_of_pos _ (by decide)
      refine ⟨_, rfl, p, _, _, .int ((y * 44203 + 15511) % 2147483587), rfl, rfl, SqL.of upd_same, rfl, _, rfl, p, _, _, .int ((y * 44203 + 15511) % 2147483587), rfl, rfl, SqL.of upd_same, rfl, _, _, rfl, rfl, .inl ⟨by omega, by omega⟩,
        .inl ⟨_, rfl, _, _, rfl, rfl, (by show (0 : Int) < 2147483549; decide), _, _, rfl, rfl, ⟨by decide, by decide⟩, .inl ⟨_, rfl, _, rfl, _, _, rfl, rfl, n0, ?_⟩⟩⟩
      exact kk _ _ (Int.emod_nonneg _ (by omega)) (Int.emod_lt_of_pos _ n0) bt_upd ⟨x, _, upd_same, x0, z0, by omega⟩
theorem scPick : FnScope ["_law_pot_here", "_law_some_here"] ["_law_pot_here", "_law_some_here"] (defScope sPick) := ⟨rfl, rfl, rfl, by decide +kernel, rfl, by decide +kernel, by decide +kernel⟩
theorem ok_pick {f fd_ : Addr} {fd fdd : FuncData} (F : FD K "_law_pick" sPick f fd) (T : TxtP K mg) (GD : FnOk P w K mg base CX0 1 fd_ fdd ["_law_pot_here", "_law_many"] spDraw) (bD : Binds K fdd ["_law_pot_here", "_law_many"] []) (mD : mg "_law_draw" = some (.ref fd_)) (kD : PySem.W.keepIn K (.ref fd_) = true) :
    FnOk P w K mg base CX0 2 f fd ["_law_pot_here", "_law_some_here"] (spPick K) := by
  refine F.ok scPick (fun vs H Q E h => ?_) (fun cdv A outer s H vs Q E hr h => ?_)
  · obtain ⟨p, l, xs, rfl, _⟩ := h
    rfl
  · obtain ⟨p, l, xs, rfl, hP, nl, hl, l0, l1, kk⟩ := h
    refine ⟨_, PSs.nox (pss_one (ps_ret (pe_ix ix_list (pv 1) (pe_call GD hr rfl mD kD bD .nil pass0 (pa_cons (pv 0) (pa_cons (pe_callB call_len_seq (by rfl) T.len PySem.boot_len (pa_cons (pv 1) pa_nil)) pa_nil))) (fun _ _ => rfl)))), ?_⟩
    refine ⟨_, rfl, _, rfl, _, rfl, l, _, rfl, .inl (SqL.of hl), p, _, rfl, hP, by omega, by omega, fun d H' d0 d1 hb hp' => ?_⟩
    have hd : d.toNat < xs.length := by omega
    have e : xs[d.toNat]? = some (xs[d.toNat]'hd) := List.getElem?_eq_getElem hd
    refine ⟨l, xs, d, xs[d.toNat]'hd, rfl, rfl, SqL.of (hb l _ nl hl), ?_, kk d.toNat _ H' e hb hp'⟩
    have z := atI_nat e
    rw [Int.toNat_of_nonneg d0] at z
    exact z
end
/-- the def called x keeps sp -/
structure Kn (P : Program) (w : World) (K : PySem.W.Frag) (mg : Str → Option Value) (base : Heap) (k : Nat) (x : Str) (fa : Addr) (fd : FuncData) (ps : List Str) (sp : Sp) : Prop where
  f : FnOk P w K mg base CX0 k fa fd ps sp
  b : Binds K fd ps []
  m : mg x = some (.ref fa)
  k : PySem.W.keepIn K (.ref fa) = true
structure KnG (P : Program) (w : World) (K : PySem.W.Frag) (mg : Str → Option Value) (base : Heap) (k : Nat) (x : Str) (fa : Addr) (fd : FuncData) (ps : List Str) (sp : Sp) : Prop where
  f : FnG P w K mg base CX0 k fa fd ps sp
  b : Binds K fd ps []
  m : mg x = some (.ref fa)
  k : PySem.W.keepIn K (.ref fa) = true
theorem Same.free {H H' : Hp} {a : Addr} (s : Same H H') (n : H' a = none) : H a = none := by
  cases z : H a with
  | none => rfl
  | some o =>
    rw [s a o z] at n
    cases n
theorem PotAt.bt {H H' : Hp} {p : Addr} (s : Same H H') (h : PotAt H p) : PotAt H' p := by
  obtain ⟨x, y, e, r⟩ := h
  exact ⟨x, y, s _ _ e, r⟩
theorem pot_ne {H : Hp} {p q : Addr} (h : PotAt H p) (n : H q = none) : q ≠ p := fun e => by
  obtain ⟨x, y, z, _⟩ := h
  rw [e, z] at n
  cases n
theorem boot_all : bootBuiltins "all" = some (.builtin "all") := by decide +kernel
theorem all_true : ∀ n : Nat, (List.replicate n true).all id = true
  | 0 => rfl
  | n + 1 => by
    rw [List.replicate_succ, List.all_cons, all_true n] <;> rfl
theorem same_over {H H' : Hp} {l : Addr} {o : HO} (s : Same H H') (h : H l = none) : Same H (upd H' l o) := fun b u e => by
  rw [upd_ne (ne_of_none e h)]
  exact s _ _ e
def spRight : Sp := fun vs H Q _ => ∃ (p : Addr), vs = [.ref p] ∧ PotAt H p ∧ ∀ H', Bt p H H' → Q (.bl true) H'
theorem boot_len : bootBuiltins "len" = some (.builtin "len") := by decide +kernel
structure TT0 (mg : Str → Option Value) : Prop where
  rng : mg "range" = none
  enu : True
  len : mg "len" = none
end C4

end Pq4C
section Pq4D
set_option maxHeartbeats 4000000
namespace C4
open PySem L2
/-! ### what is a word, a kind, a value -/
abbrev s_is_number : Stmt := top 10
abbrev s_is_word : Stmt := top 11
abbrev s_is_kind : Stmt := top 12
abbrev s_is_value : Stmt := top 13
theorem boot_isi : bootBuiltins "isinstance" = some (.builtin "isinstance") := by decide +kernel
def strB : V → Bool
  | .str _ => true
  | _ => false
/-- isinstance tells whether x is a text -/
def AsStr (K : PySem.W.Frag) (H : Hp) (x : V) : Prop := ∃ t, TyX K H x t ∧ PySem.W.kitOne K t (.type "str") = some (strB x)
def letB (c : Nat) : Bool := decide (c < 128) && (Unicode.isAlpha c && (Unicode.isLower c && !(Unicode.isUpper c || Unicode.isTitle c)))
def wordB (z : Str) (m : Int) : Bool := decide (((z.length : Nat) : Int) ≤ m) && (Txt.isascii z && (Txt.isalpha z && Txt.islower z))
/-- one to so many letters are a word -/
theorem wordB_of {z : Str} {m : Nat} (l : 1 ≤ z.length) (k : z.length ≤ m) (h : ∀ c ∈ z.cps.toList, letB c = true) : wordB z m = true := by
  have g : ∀ c ∈ z.cps.toList, c < 128 ∧ Unicode.isAlpha c = true ∧ Unicode.isLower c = true ∧ (Unicode.isUpper c || Unicode.isTitle c) = false := fun c hc => by
    have e := h c hc
    unfold letB at e
    rw [Bool.and_eq_true, Bool.and_eq_true, Bool.and_eq_true, Bool.not_eq_true'] at e
    exact ⟨of_decide_eq_true e.1, e.2.1, e.2.2.1, e.2.2.2⟩
  have e1 : Txt.isascii z = true := by
    unfold Txt.isascii
    rw [← Array.all_toList, List.all_eq_true]
    exact fun c hc => decide_eq_true (g c hc).1
  have e2 : Txt.isalpha z = true := by
    unfold Txt.isalpha
    rw [← Array.all_toList, Bool.and_eq_true, List.all_eq_true]
    exact ⟨decide_eq_true l, fun c hc => (g c hc).2.1⟩
  have e3 : Txt.islower z = true := by
    unfold Txt.islower
    rw [← Array.any_toList, ← Array.any_toList, Bool.and_eq_true, Bool.not_eq_true', List.any_eq_true]
    refine ⟨?_, ?_⟩
    · have l' : 0 < z.cps.toList.length := by rw [Array.length_toList]; exact l
      exact ⟨z.cps.toList[0], List.getElem_mem l', (g _ (List.getElem_mem l')).2.2.1⟩
    · rw [List.any_eq_false]
      exact fun c hc => by rw [(g c hc).2.2.2]; decide
  unfold wordB
  rw [e1, e2, e3, Bool.true_and, Bool.true_and, Bool.and_true]
  exact decide_eq_true (by omega)
theorem word_asc {z : Str} {m : Nat} (h : wordB z m = true) : z.length ≤ m ∧ ∀ c ∈ z.cps.toList, c < 128 := by
  unfold wordB at h
  rw [Bool.and_eq_true, Bool.and_eq_true] at h
  have l := of_decide_eq_true h.1
  have e := h.2.1
  unfold Txt.isascii at e
  rw [← Array.all_toList, List.all_eq_true] at e
  exact ⟨by omega, fun c hc => of_decide_eq_true (e c hc)⟩
def isWd (x : V) (m : Int) : Bool := match x with
  | .str z => wordB z m
  | _ => false
structure TW (mg : Str → Option Value) : Prop where
  isi : mg "isinstance" = none
  str : mg "str" = none
  len : mg "len" = none
def spIsWord (K : PySem.W.Frag) : Sp := fun vs H Q _ => ∃ (x : V) (m : Int), vs = [x, .int m] ∧ m ≤ 1000 ∧ AsStr K H x ∧ (∀ z, x = .str z → z.length ≤ sizeLine) ∧ ∀ H', Same H H' → Q (.bl (isWd x m)) H'
theorem sc_is_word : FnScope ["value", "most"] ["value", "most"] (defScope s_is_word) := ⟨rfl, rfl, rfl, by decide +kernel, rfl, by decide +kernel, by decide +kernel⟩
section
variable {P : Program} {w : World} {K : PySem.W.Frag} {mg : Str → Option Value} {base : Heap} {f : Addr} {fd : FuncData}
theorem ok_is_word (F : FD K "is_word" s_is_word f fd) (T : TW mg) : FnOk P w K mg base CX0 1 f fd ["value", "most"] (spIsWord K) := by
  refine F.ok sc_is_word (fun vs H Q E h => ?_) (fun cdv A outer s H vs Q E hr h => ?_)
  · obtain ⟨x, m, rfl, _⟩ := h
    rfl
  obtain ⟨x, m, rfl, hm, ⟨t, ty, kt⟩, hz, q⟩ := h
  refine ⟨_, PSs.nox (pss_cons (ps_if (PW.pt (pw_or (pt_not (pt_val (pe_callB call_isi (by rfl) T.isi boot_isi (pa_cons (pv 0) (pa_cons (pe_bltn (v := .ty "str") (by rfl) T.str (by decide +kernel) rfl) pa_nil))))) (pw_or1 (pt_cmpR op_gt (pe_callB call_len_str (by rfl) T.len boot_len (pa_cons (pv 0) pa_nil)) (pv 1) (nomark _))))) (pss_one (ps_ret pe_bl)) pss_nil)
    (pss_one (ps_ret (pe_and (pe_m0 PySem.F.slot_str_isascii PySem.F.type_str_isascii mt_isascii (pv 0)) (pe_and (pe_m0 PySem.F.slot_str_isalpha PySem.F.type_str_isalpha mt_isalpha (pv 0)) (pe_one (pe_m0 PySem.F.slot_str_islower PySem.F.type_str_islower mt_islower (pv 0)))))))), ?_⟩
  refine ⟨_, rfl, x, .ty "str", t, _, _, rfl, .ty _, ty, kt, ?_⟩
  refine ⟨_, rfl, ?_⟩
  have nostr : isWd x m = false → strB x = false → Q (.bl false) H := fun e _ => by
    have z := q H (Same.refl H)
    rw [e] at z
    exact z
  cases x with
  | str z =>
    refine (show (if (!true) = true then _ else _) from ?_)
    rw [if_neg (by decide)]
    refine ⟨_, rfl, z, rfl, hz z rfl, _, rfl, _, _, rfl, rfl, _, rfl, ?_⟩
    have w := q H (Same.refl H)
    have e0 : isWd (.str z) m = (decide (((z.length : Nat) : Int) ≤ m) && (Txt.isascii z && (Txt.isalpha z && Txt.islower z))) := rfl
    rw [e0] at w
    refine ite2 (fun h1 => ?_) (fun h1 => ?_)
    · have h2 := of_decide_eq_true h1
      rw [decide_eq_false (by omega), Bool.false_and] at w
      exact w
    · have h2 := of_decide_eq_false (Bool.eq_false_iff.mpr h1)
      rw [decide_eq_true (by omega), Bool.true_and] at w
      refine ⟨_, rfl, ⟨_, rfl⟩, z, rfl, rfl, trivial, _, rfl, ?_⟩
      refine ite2 (fun a1 => ?_) (fun a1 => ?_)
      · rw [a1, Bool.true_and] at w
        refine ⟨_, rfl, ⟨_, rfl⟩, z, rfl, rfl, trivial, _, rfl, ?_⟩
        refine ite2 (fun a2 => ?_) (fun a2 => ?_)
        · rw [a2, Bool.true_and] at w
          exact ⟨_, rfl, ⟨_, rfl⟩, z, rfl, rfl, trivial, w⟩
        · rw [Bool.eq_false_iff.mpr a2, Bool.false_and] at w
          exact w
      · rw [Bool.eq_false_iff.mpr a1, Bool.false_and] at w
        exact w
  | _ => exact nostr rfl rfl
def spIsKind (K : PySem.W.Frag) : Sp := fun vs H Q _ => vs = [.str "text"] ∧ PySem.W.kitOne K (.type "str") (.type "str") = some true ∧ ∀ H', Same H H' → Q (.bl true) H'
theorem sc_is_kind : FnScope ["value"] ["value"] (defScope s_is_kind) := ⟨rfl, rfl, rfl, by decide +kernel, rfl, by decide +kernel, by decide +kernel⟩
theorem ok_is_kind (F : FD K "is_kind" s_is_kind f fd) (T : TW mg) : FnOk P w K mg base CX0 1 f fd ["value"] (spIsKind K) := by
  refine F.ok sc_is_kind (fun vs H Q E h => ?_) (fun cdv A outer s H vs Q E hr h => ?_)
  · obtain ⟨rfl, _⟩ := h
    rfl
  obtain ⟨rfl, kt, q⟩ := h
  refine ⟨_, PSs.nox (pss_one (ps_ret (pe_and (pe_callB call_isi (by rfl) T.isi boot_isi (pa_cons (pv 0) (pa_cons (pe_bltn (v := .ty "str") (by rfl) T.str (by decide +kernel) rfl) pa_nil))) (pe_one (pe_cmpR op_in_seq (pv 0) (pe_tup (pa_cons pe_str (pa_cons pe_str pa_nil))) (by rfl)))))), ?_⟩
  refine ⟨_, rfl, .str "text", .ty "str", .type "str", _, _, rfl, .ty _, .base (.str _), kt, true, rfl, ?_⟩
  refine (show (if true = true then _ else _) from ?_)
  rw [if_pos rfl]
  refine ⟨_, rfl, by show 2 ≤ sizeLine; decide, fun p hp => ?_⟩
  exact ⟨p, _, rfl, .inr (SqT.of upd_same), rfl, rfl, q _ (same_upd hp)⟩
def spIsValue (K : PySem.W.Frag) : Sp := fun vs H Q _ => ∃ (x : V), vs = [x, .str "text"] ∧ AsStr K H x ∧ (∀ z, x = .str z → z.length ≤ sizeLine) ∧ ∀ H', Same H H' → Q (.bl (isWd x 12)) H'
theorem sc_is_value : FnScope ["value", "kind"] ["value", "kind"] (defScope s_is_value) := ⟨rfl, rfl, rfl, by decide +kernel, rfl, by decide +kernel, by decide +kernel⟩
theorem tyx_same {H H' : Hp} {x : V} {t : Value} (s : Same H H') (h : TyX K H x t) : TyX K H' x t := by
  cases h with
  | base b =>
    refine .base ?_
    cases b with
    | non => exact .non
    | bl y => exact .bl y
    | int y => exact .int y
    | str y => exact .str y
    | flt y => exact .flt y
    | lst ea => exact .lst (s _ _ ea)
    | frz ea => exact .frz (s _ _ ea)
    | tup ea => exact .tup (s _ _ ea)
    | dK ea => exact .dK (s _ _ ea)
    | dT ea => exact .dT (s _ _ ea)
    | ins ea cl ha hn htk hm => exact .ins (s _ _ ea) cl ha hn htk hm
  | byt y => exact .byt y
  | set e => exact .set (s _ _ e)
  | kList e c => exact .kList e c
  | kTuple e c => exact .kTuple e c
  | kDict e c => exact .kDict e c
  | fTuple e => exact .fTuple (s _ _ e)
  | fDict e => exact .fDict (s _ _ e)
theorem asStr_same {H H' : Hp} {x : V} (s : Same H H') (h : AsStr K H x) : AsStr K H' x := by
  obtain ⟨t, a, b⟩ := h
  exact ⟨t, tyx_same s a, b⟩
def spIsNumber (K : PySem.W.Frag) : Sp := fun vs H Q _ => ∃ (x : V) (t : Value) (b1 b2 : Bool), vs = [x] ∧ TyX K H x t ∧ PySem.W.kitOne K t (.type "int") = some b1 ∧ PySem.W.kitOne K t (.type "bool") = some b2 ∧ ∀ H', Same H H' → Q (.bl (b1 && !b2)) H'
theorem sc_is_number : FnScope ["value"] ["value"] (defScope s_is_number) := ⟨rfl, rfl, rfl, by decide +kernel, rfl, by decide +kernel, by decide +kernel⟩
theorem ok_is_number (F : FD K "is_number" s_is_number f fd) (T : TW mg) (ti : mg "int" = none) (tb : mg "bool" = none) : FnOk P w K mg base CX0 1 f fd ["value"] (spIsNumber K) := by
  refine F.ok sc_is_number (fun vs H Q E h => ?_) (fun cdv A outer s H vs Q E hr h => ?_)
  · obtain ⟨x, t, b1, b2, rfl, _⟩ := h
    rfl
  obtain ⟨x, t, b1, b2, rfl, ty, k1, k2, q⟩ := h
  refine ⟨_, PSs.nox (pss_one (ps_ret (pe_and (pe_callB call_isi (by rfl) T.isi boot_isi (pa_cons (pv 0) (pa_cons (pe_bltn (v := .ty "int") (by rfl) ti (by decide +kernel) rfl) pa_nil))) (pe_one (pe_not (pe_callB call_isi (by rfl) T.isi boot_isi (pa_cons (pv 0) (pa_cons (pe_bltn (v := .ty "bool") (by rfl) tb (by decide +kernel) rfl) pa_nil)))))))), ?_⟩
  refine ⟨_, rfl, x, .ty "int", t, _, _, rfl, .ty _, ty, k1, b1, rfl, ?_⟩
  refine ite2 (fun h1 => ?_) (fun h1 => ?_)
  · refine ⟨_, rfl, x, .ty "bool", t, _, _, rfl, .ty _, ty, k2, b2, rfl, ?_⟩
    have z := q H (Same.refl H)
    rw [h1, Bool.true_and] at z
    exact z
  · have z := q H (Same.refl H)
    rw [Bool.eq_false_iff.mpr h1, Bool.false_and] at z
    exact z
structure Kv (P : Program) (w : World) (K : PySem.W.Frag) (mg : Str → Option Value) (base : Heap) (fN fW fK : Addr) (dN dW dK : FuncData) : Prop where
  n : Kn P w K mg base 1 "is_number" fN dN ["value"] (spIsNumber K)
  wo : Kn P w K mg base 1 "is_word" fW dW ["value", "most"] (spIsWord K)
  k : Kn P w K mg base 1 "is_kind" fK dK ["value"] (spIsKind K)
  s : PySem.W.kitOne K (.type "str") (.type "str") = some true
  m : ∃ t, mg "TEXT_LENGTH" = some (.int 12 t)
theorem ok_is_value {fN fW fK : Addr} {dN dW dK : FuncData} (F : FD K "is_value" s_is_value f fd) (W : Kv P w K mg base fN fW fK dN dW dK) : FnOk P w K mg base CX0 2 f fd ["value", "kind"] (spIsValue K) := by
  refine F.ok sc_is_value (fun vs H Q E h => ?_) (fun cdv A outer s H vs Q E hr h => ?_)
  · obtain ⟨x, rfl, _⟩ := h
    rfl
  obtain ⟨x, rfl, hx, hz, q⟩ := h
  obtain ⟨t, ht⟩ := W.m
  refine ⟨_, PSs.nox (pss_cons (ps_if (pt_not (pt_val (pe_call W.k.f hr rfl W.k.m W.k.k W.k.b .nil pass0 (pa_cons (pv 1) pa_nil)))) (pss_one (ps_ret pe_bl)) pss_nil)
    (pss_cons (ps_if (pt_cmpR op_eq (pv 1) pe_str (nomark _)) (pss_one (ps_ret (pe_call W.n.f hr rfl W.n.m W.n.k W.n.b .nil pass0 (pa_cons (pv 0) pa_nil)))) pss_nil)
    (pss_one (ps_ret (pe_call W.wo.f hr rfl W.wo.m W.wo.k W.wo.b .nil pass0 (pa_cons (pv 0) (pa_cons (pe_glob (v := .int 12) (by rfl) ht ⟨t, rfl⟩) pa_nil))))))), ?_⟩
  refine ⟨_, rfl, rfl, W.s, fun H1 s1 => ⟨true, rfl, ?_⟩⟩
  refine (show (if (!true) = true then _ else _) from ?_)
  rw [if_neg (by decide)]
  refine ⟨_, rfl, rfl, ?_⟩
  have e : decide (V.str "text" = V.str "number") = false := by decide +kernel
  refine ⟨_, rfl, ?_⟩
  rw [e]
  refine (show (if false = true then _ else _) from ?_)
  rw [if_neg (by decide)]
  exact ⟨_, rfl, x, 12, rfl, by decide, asStr_same s1 hx, hz, fun H2 s2 => q H2 (s1.trans s2)⟩
end
end C4

end Pq4D
section Pq4M
set_option maxHeartbeats 4000000
/-! The mathematics of pieces: what they say, their normal form. -/
namespace C4
abbrev Pc : Type := Option Int × Option Int × Option Int
def takeW (w : Option Int) (x : Int) : Int := w.getD x
def leO (x : Int) : Option Int → Bool
  | none => true
  | some e => decide (x ≤ e)
def geO (x : Int) (s : Option Int) : Prop := ∀ b, s = some b → b ≤ x
def evalP : List Pc → Int → Int
  | [], x => x
  | p :: r, x => if leO x p.2.1 = true then takeW p.2.2 x else evalP r x
def idxP : List Pc → Int → Nat
  | [], _ => 0
  | p :: r, x => if leO x p.2.1 = true then 0 else idxP r x + 1
/-- in sequence, from s on -/
def chn : Option Int → List Pc → Prop
  | _, [] => False
  | s, p :: r => p.1 = s ∧ ((p.2.1 = none ∧ r = []) ∨ ∃ e, p.2.1 = some e ∧ geO e s ∧ chn (some (e + 1)) r)
theorem leO_some {x e : Int} : leO x (some e) = true ↔ x ≤ e := decide_eq_true_iff
theorem chn_ne {s : Option Int} {l : List Pc} (h : chn s l) : l ≠ [] := by
  cases l with
  | nil => exact h.elim
  | cons p r => exact List.cons_ne_nil _ _
theorem chn_fst : ∀ {l : List Pc} {s : Option Int} {p : Pc}, chn s l → l[0]? = some p → p.1 = s
  | _ :: _, _, _, h, e => by
    cases (Option.some.inj e)
    exact h.1
theorem eval_idx : ∀ {l : List Pc} {s : Option Int} (x : Int), chn s l → ∃ p, l[idxP l x]? = some p ∧ leO x p.2.1 = true ∧ evalP l x = takeW p.2.2 x
  | p :: r, s, x, h => by
    by_cases c : leO x p.2.1 = true
    · refine ⟨p, ?_, c, ?_⟩
      · rw [idxP, if_pos c] <;> rfl
      · rw [evalP, if_pos c]
    · rcases h.2 with ⟨e, rfl⟩ | ⟨e, e1, e2, e3⟩
      · rw [e] at c
        exact absurd rfl c
      · obtain ⟨q, a1, a2, a3⟩ := eval_idx x e3
        refine ⟨q, ?_, a2, ?_⟩
        · rw [idxP, if_neg c, List.getElem?_cons_succ]
          exact a1
        · rw [evalP, if_neg c]
          exact a3
theorem idx_lt {l : List Pc} {s : Option Int} (x : Int) (h : chn s l) : idxP l x < l.length := by
  obtain ⟨p, e, _⟩ := eval_idx x h
  exact (List.getElem?_eq_some_iff.mp e).1
theorem chn_ge : ∀ {l : List Pc} {b : Int} {i : Nat} {p : Pc}, chn (some b) l → l[i]? = some p → ∃ c, p.1 = some c ∧ b ≤ c
  | q :: r, b, 0, p, h, e => by
    cases (Option.some.inj e)
    exact ⟨b, h.1, Int.le_refl _⟩
  | q :: r, b, i + 1, p, h, e => by
    have e' : r[i]? = some p := e
    rcases h.2 with ⟨_, rfl⟩ | ⟨f, f1, f2, f3⟩
    · cases e'
    · obtain ⟨c, c1, c2⟩ := chn_ge f3 e'
      have := f2 b rfl
      exact ⟨c, c1, by omega⟩
theorem idx_of : ∀ {l : List Pc} {s : Option Int} {i : Nat} {p : Pc} {x : Int}, chn s l → l[i]? = some p → geO x p.1 → leO x p.2.1 = true → idxP l x = i
  | q :: r, s, 0, p, x, h, e, g, c => by
    cases (Option.some.inj e)
    rw [idxP, if_pos c]
  | q :: r, s, i + 1, p, x, h, e, g, c => by
    have e' : r[i]? = some p := e
    rcases h.2 with ⟨_, rfl⟩ | ⟨f, f1, f2, f3⟩
    · cases e'
    · obtain ⟨d, d1, d2⟩ := chn_ge f3 e'
      have := g d d1
      rw [idxP, if_neg, idx_of f3 e' g c]
      rw [f1, leO_some]
      omega
theorem chn_next : ∀ {l : List Pc} {s : Option Int} {i : Nat} {p : Pc} {e : Int}, chn s l → l[i]? = some p → p.2.1 = some e → geO e p.1 ∧ ∃ q, l[i + 1]? = some q ∧ q.1 = some (e + 1)
  | q :: r, s, 0, p, e, h, hi, he => by
    cases (Option.some.inj hi)
    rcases h.2 with ⟨z, _⟩ | ⟨f, f1, f2, f3⟩
    · rw [z] at he
      cases he
    · rw [f1] at he
      cases he
      refine ⟨by rw [h.1]; exact f2, ?_⟩
      cases r with
      | nil => exact f3.elim
      | cons a b => exact ⟨a, rfl, f3.1⟩
  | q :: r, s, i + 1, p, e, h, hi, he => by
    have hi' : r[i]? = some p := hi
    rcases h.2 with ⟨_, rfl⟩ | ⟨f, f1, f2, f3⟩
    · cases hi'
    · obtain ⟨a, z, b, c⟩ := chn_next f3 hi' he
      exact ⟨a, z, b, c⟩
theorem chn_last : ∀ {l : List Pc} {s : Option Int} {i : Nat} {p : Pc}, chn s l → l[i]? = some p → (p.2.1 = none ↔ i + 1 = l.length)
  | q :: r, s, 0, p, h, hi => by
    cases (Option.some.inj hi)
    rcases h.2 with ⟨z, rfl⟩ | ⟨f, f1, f2, f3⟩
    · exact ⟨fun _ => rfl, fun _ => z⟩
    · refine ⟨(fun z => by rw [f1] at z; cases z), fun z => ?_⟩
      have : r = [] := List.length_eq_zero_iff.mp (by simpa using z)
      exact absurd this (chn_ne f3)
  | q :: r, s, i + 1, p, h, hi => by
    have hi' : r[i]? = some p := hi
    rcases h.2 with ⟨_, rfl⟩ | ⟨f, f1, f2, f3⟩
    · cases hi'
    · rw [chn_last f3 hi', List.length_cons]
      omega
/-- x stands in the i-th piece -/
theorem idx_next {l : List Pc} {s : Option Int} {i : Nat} {p : Pc} {e : Int} (h : chn s l) (hi : l[i]? = some p) (he : p.2.1 = some e) : idxP l (e + 1) = i + 1 ∧ ∃ q, l[i + 1]? = some q := by
  obtain ⟨g, q, hq, q1⟩ := chn_next h hi he
  refine ⟨idx_of h hq (by rw [q1]; intro b z; cases z; exact Int.le_refl _) ?_, q, hq⟩
  cases z : q.2.1 with
  | none => rfl
  | some f =>
    obtain ⟨g2, _⟩ := chn_next h hq z
    exact leO_some.mpr (g2 _ q1)
theorem leO_trans {x y : Int} {s : Option Int} (h : x ≤ y) (k : leO y s = true) : leO x s = true := by
  cases s with
  | none => rfl
  | some e =>
    have := leO_some.mp k
    exact leO_some.mpr (by omega)
theorem idx_ge : ∀ {l : List Pc} {s : Option Int} {i : Nat} {p : Pc} {x : Int}, chn s l → geO x s → l[i]? = some p → idxP l x = i → geO x p.1
  | q :: r, s, 0, p, x, h, g, e, z => by
    cases (Option.some.inj e)
    rw [h.1]
    exact g
  | q :: r, s, i + 1, p, x, h, g, e, z => by
    have e' : r[i]? = some p := e
    rcases h.2 with ⟨_, rfl⟩ | ⟨f, f1, f2, f3⟩
    · cases e'
    · rw [idxP] at z
      by_cases c : leO x q.2.1 = true
      · rw [if_pos c] at z
        cases z
      · rw [if_neg c] at z
        rw [f1, leO_some] at c
        refine idx_ge f3 (fun b hb => ?_) e' (by omega)
        cases hb
        omega
/-- further in the same piece -/
theorem idx_stay {l : List Pc} {i : Nat} {p : Pc} {x y : Int} (h : chn none l) (hi : l[i]? = some p) (z : idxP l x = i) (hxy : x ≤ y) (c : leO y p.2.1 = true) : idxP l y = i :=
  idx_of h hi (fun b hb => Int.le_trans (idx_ge h (fun b hb => nomatch hb) hi z b hb) hxy) c
theorem eval_at {l : List Pc} {s : Option Int} {i : Nat} {p : Pc} {x : Int} (h : chn s l) (hi : l[i]? = some p) (z : idxP l x = i) : evalP l x = takeW p.2.2 x ∧ leO x p.2.1 = true := by
  obtain ⟨q, a, b, c⟩ := eval_idx x h
  rw [z, hi] at a
  cases a
  exact ⟨c, b⟩
theorem idx_le {l : List Pc} {s : Option Int} {m : Nat} {p : Pc} {x : Int} (h : chn s l) (hm : l[m]? = some p) : leO x p.2.1 = true ↔ idxP l x ≤ m := by
  induction l generalizing s m with
  | nil => cases hm
  | cons q r ih =>
    cases m with
    | zero =>
      have e0 : q = p := Option.some.inj hm
      subst e0
      rw [idxP]
      by_cases c : leO x q.2.1 = true
      · rw [if_pos c]
        exact ⟨fun _ => Nat.le_refl _, fun _ => c⟩
      · rw [if_neg c]
        exact ⟨fun z => absurd z c, fun z => by omega⟩
    | succ m =>
      have hm' : r[m]? = some p := hm
      rcases h.2 with ⟨_, rfl⟩ | ⟨f, f1, f2, f3⟩
      · cases hm'
      · rw [idxP]
        by_cases c : leO x q.2.1 = true
        · rw [if_pos c]
          refine ⟨fun _ => Nat.zero_le _, fun _ => ?_⟩
          obtain ⟨d, d1, d2⟩ := chn_ge f3 hm'
          rw [f1, leO_some] at c
          cases z : p.2.1 with
          | none => rfl
          | some g =>
            obtain ⟨g1, _⟩ := chn_next f3 hm' z
            have := g1 d d1
            exact leO_some.mpr (by omega)
        · rw [if_neg c, ih f3 hm']
          omega
/-! ### normal pieces of a function -/
def wOf (f : Int → Int) (s : Int) : Option Int := if f s = s then (if f (s + 1) = s then some s else none) else some (f s)
def WOk (f : Int → Int) (s w : Option Int) : Prop := ∀ b, s = some b → w = wOf f b
/-- from s on w describes f just up to last -/
def Desc (f : Int → Int) (s w : Option Int) : Option Int → Prop
  | none => ∀ x, geO x s → f x = takeW w x
  | some e => geO e s ∧ (∀ x, geO x s → x ≤ e → f x = takeW w x) ∧ f (e + 1) ≠ takeW w (e + 1)
def Nrm (f : Int → Int) : Option Int → List Pc → Prop
  | _, [] => False
  | s, p :: r => p.1 = s ∧ WOk f s p.2.2 ∧ Desc f s p.2.2 p.2.1 ∧ match p.2.1 with
    | none => r = []
    | some e => Nrm f (some (e + 1)) r
theorem wOf_at {f : Int → Int} {s : Int} : f s = takeW (wOf f s) s := by
  unfold wOf takeW
  by_cases c : f s = s
  · rw [if_pos c]
    by_cases d : f (s + 1) = s
    · rw [if_pos d]
      exact c
    · rw [if_neg d]
      exact c
  · rw [if_neg c] <;> rfl
theorem take_two {w v : Option Int} {x : Int} (h1 : takeW w x = takeW v x) (h2 : takeW w (x + 1) = takeW v (x + 1)) : w = v := by
  unfold takeW at h1 h2
  cases w with
  | none => cases v with
    | none => rfl
    | some b =>
      simp only [Option.getD] at h1 h2
      omega
  | some a => cases v with
    | none =>
      simp only [Option.getD] at h1 h2
      omega
    | some b =>
      simp only [Option.getD] at h1
      rw [h1]
theorem desc_uniq {f : Int → Int} {s w : Option Int} : ∀ {a b : Option Int}, Desc f s w a → Desc f s w b → a = b
  | none, none, _, _ => rfl
  | none, some e, h, ⟨k1, k2, k3⟩ => absurd (h (e + 1) fun b hb => by have := k1 b hb; omega) k3
  | some e, none, ⟨k1, k2, k3⟩, h => absurd (h (e + 1) fun b hb => by have := k1 b hb; omega) k3
  | some d, some e, ⟨h1, h2, h3⟩, ⟨k1, k2, k3⟩ => by
    rcases Int.lt_trichotomy d e with q | q | q
    · exact absurd (k2 (d + 1) (fun b hb => by have := h1 b hb; omega) (by omega)) h3
    · rw [q]
    · exact absurd (h2 (e + 1) (fun b hb => by have := k1 b hb; omega) (by omega)) k3
theorem desc_low {f : Int → Int} {w : Option Int} : ∀ {a : Option Int}, Desc f none w a → ∃ e, ∀ x, x ≤ e → f x = takeW w x
  | none, h => ⟨0, fun x _ => h x fun b z => nomatch z⟩
  | some e, h => ⟨e, fun x hx => h.2.1 x (fun b z => nomatch z) hx⟩
theorem nrm_uniq {f : Int → Int} : ∀ {l m : List Pc} {s : Option Int}, Nrm f s l → Nrm f s m → l = m
  | p :: r, q :: t, s, ⟨h1, h2, h3, h4⟩, ⟨k1, k2, k3, k4⟩ => by
    have ew : p.2.2 = q.2.2 := by
      cases s with
      | some b => rw [h2 b rfl, k2 b rfl]
      | none =>
        obtain ⟨d, hd⟩ := desc_low h3
        obtain ⟨e, he⟩ := desc_low k3
        let x := (if d ≤ e then d else e) - 1
        have x1 : x + 1 ≤ d ∧ x + 1 ≤ e := by
          show (if d ≤ e then d else e) - 1 + 1 ≤ d ∧ (if d ≤ e then d else e) - 1 + 1 ≤ e
          split <;> omega
        exact take_two (x := x) ((hd x (by omega)).symm.trans (he x (by omega))) ((hd (x + 1) x1.1).symm.trans (he (x + 1) x1.2))
    have el : p.2.1 = q.2.1 := desc_uniq h3 (ew ▸ k3)
    have e0 : p = q := Prod.ext (h1.trans k1.symm) (Prod.ext el ew)
    subst e0
    cases z : p.2.1 with
    | none =>
      rw [z] at h4 k4
      rw [show r = [] from h4, show t = [] from k4]
    | some e =>
      rw [z] at h4 k4
      rw [nrm_uniq (show Nrm f (some (e + 1)) r from h4) k4]
theorem nrm_chn {f : Int → Int} : ∀ {l : List Pc} {s : Option Int}, Nrm f s l → chn s l ∧ ∀ x, geO x s → evalP l x = f x
  | p :: r, s, ⟨h1, h2, h3, h4⟩ => by
    cases z : p.2.1 with
    | none =>
      rw [z] at h3 h4
      refine ⟨⟨h1, .inl ⟨z, h4⟩⟩, fun x hx => ?_⟩
      rw [evalP, z, if_pos (show leO x none = true from rfl)]
      exact (h3 x hx).symm
    | some e =>
      rw [z] at h3 h4
      obtain ⟨c, v⟩ := nrm_chn (show Nrm f (some (e + 1)) r from h4)
      refine ⟨⟨h1, .inr ⟨e, z, h3.1, c⟩⟩, fun x hx => ?_⟩
      rw [evalP, z]
      by_cases q : x ≤ e
      · rw [if_pos (leO_some.mpr q)]
        exact (h3.2.1 x hx q).symm
      · rw [if_neg (fun t => q (leO_some.mp t))]
        refine v x fun b hb => ?_
        cases hb
        omega
end C4

end Pq4M
section Pq4O
set_option maxHeartbeats 4000000
namespace C4
open PySem PySem.Spec L2 PyProof.Rows
/-! ### pieces on the heap; is_stretch, the what of a place -/
def oV : Option Int → V
  | none => .non
  | some i => .int i
theorem oV_inj {a b : Option Int} (h : oV a = oV b) : a = b := by
  cases a <;> cases b <;> first | rfl | (cases h; done) | (cases h; rfl)
theorem oV_dec {a b : Option Int} : decide (oV a = oV b) = decide (a = b) := by
  by_cases h : a = b
  · rw [h, decide_eq_true rfl, decide_eq_true rfl]
  · rw [decide_eq_false h, decide_eq_false fun e => h (oV_inj e)]
theorem oV_none {a : Option Int} : decide (oV a = V.non) = decide (a = none) := oV_dec (b := none)
theorem oV_int {a : Option Int} {b : Int} : decide (oV a = V.int b) = decide (a = some b) := oV_dec (b := some b)
theorem scal_oV {a b : Option Int} : scal (oV a) (oV b) = true := by cases a <;> cases b <;> rfl
/-- a piece at t -/
def PcAt (H : Hp) (t : Addr) (p : Pc) : Prop := H t = some (.tup [oV p.1, oV p.2.1, oV p.2.2])
/-- pieces in a list or a tuple at L -/
def PcsAt (H : Hp) (L : Addr) (l : List Pc) : Prop := ∃ ts : List Addr, (H L = some (.lst (ts.map V.ref)) ∨ H L = some (.tup (ts.map V.ref))) ∧ Paired (PcAt H) ts l
theorem paired_at {α β : Type} {R : α → β → Prop} : ∀ {xs : List α} {ys : List β} {i : Nat} {y : β}, Paired R xs ys → ys[i]? = some y → ∃ x, xs[i]? = some x ∧ R x y
  | x :: xs, y :: ys, 0, z, .cons h _, e => by
    cases (Option.some.inj e)
    exact ⟨_, rfl, h⟩
  | x :: xs, y :: ys, i + 1, z, .cons _ t, e => paired_at (xs := xs) (ys := ys) (i := i) t e
  | [], [], _, _, .nil, e => nomatch e
theorem PcsAt.same {H H' : Hp} {L : Addr} {l : List Pc} (s : Same H H') (h : PcsAt H L l) : PcsAt H' L l := by
  obtain ⟨ts, a, b⟩ := h
  exact ⟨ts, a.imp (s _ _) (s _ _), b.mono fun t p e => s _ _ e⟩
theorem PcsAt.len {H : Hp} {L : Addr} {l : List Pc} {K : PySem.W.Frag} (h : PcsAt H L l) : ∃ xs : List V, (SqL K H L xs ∨ SqT K H L xs) ∧ xs.length = l.length := by
  obtain ⟨ts, a, b⟩ := h
  exact ⟨ts.map V.ref, a.imp SqL.of SqT.of, by rw [List.length_map, b.length]⟩
/-- pieces[i], a tuple -/
theorem ix_pc {K : PySem.W.Frag} {H : Hp} {L : Addr} {l : List Pc} {i : Nat} {p : Pc} {Q : VK} (h : PcsAt H L l) (e : l[i]? = some p) (q : ∀ t, PcAt H t p → Q (.ref t) H) : rIx K (.ref L) (.int i) H Q := by
  obtain ⟨ts, a, b⟩ := h
  obtain ⟨t, e1, e2⟩ := paired_at b e
  have e3 : (ts.map V.ref)[i]? = some (V.ref t) := by rw [List.getElem?_map, e1]; rfl
  rcases a with a | a
  · exact .inl ⟨L, _, i, _, rfl, rfl, SqL.of a, atI_nat e3, q t e2⟩
  · exact .inr (.inl ⟨L, _, i, _, rfl, rfl, SqT.of a, atI_nat e3, q t e2⟩)
theorem ix_1 {K : PySem.W.Frag} {H : Hp} {t : Addr} {p : Pc} {Q : VK} (h : PcAt H t p) (q : Q (oV p.2.1) H) : rIxT K (.ref t) (.int 1) H Q := ⟨t, _, 1, _, rfl, rfl, SqT.of h, rfl, q⟩
theorem ix_2 {K : PySem.W.Frag} {H : Hp} {t : Addr} {p : Pc} {Q : VK} (h : PcAt H t p) (q : Q (oV p.2.2) H) : rIxT K (.ref t) (.int 2) H Q := ⟨t, _, 2, _, rfl, rfl, SqT.of h, rfl, q⟩
abbrev s_is_stretch : Stmt := top 24
abbrev s_is_piece : Stmt := top 41
abbrev s_pieces : Stmt := top 42
abbrev s_what : Stmt := top 43
abbrev s_described : Stmt := top 44
abbrev s_taken : Stmt := top 45
abbrev s_place : Stmt := top 46
def spStretch : Sp := fun vs H Q _ => ∃ (a b : Option Int), vs = [oV a, oV b] ∧ (∀ x y, a = some x → b = some y → x ≤ y) ∧ ∀ H', Same H H' → Q (.bl true) H'
theorem sc_stretch : FnScope ["first", "last"] ["first", "last"] (defScope s_is_stretch) := ⟨rfl, rfl, rfl, by decide +kernel, rfl, by decide +kernel, by decide +kernel⟩
theorem num_int {K : PySem.W.Frag} {H : Hp} {i : Int} {Q : VK} {E : XK} (q : ∀ H', Same H H' → Q (.bl true) H') : spIsNumber K [.int i] H Q E :=
  ⟨.int i, .type "int", true, false, rfl, .base (.int i), kit_ty (show kitB "int" "int" = some true by decide +kernel), kit_ty (show kitB "int" "bool" = some false by decide +kernel), q⟩
theorem foll_ok {K : PySem.W.Frag} {σ : L2.St} {H : Hp} {L : Addr} {l : List Pc} {i : Nat} {p : Pc} {b : Int} {R : VK} (e0 : σ[0]? = some (some (.ref L))) (e1 : σ[1]? = some (some (.int i))) (e2 : σ[2]? = some (some (.int b))) (e3 : σ[3]? = some (some (oV p.2.1))) (e4 : σ[4]? = some (some (oV p.2.2)))
    (hl : PcsAt H L l) (hc : chn none l) (hi : l[i]? = some p) (hb : idxP l b = i) (lb : leO b p.2.1 = true) (r : ∀ fo, evalP l (b + 1) = takeW fo (b + 1) → R (oV fo) H) :
    tIf (tOr (tB (tIsN (tVar 3))) (tTest (tOp (rI0 fun i j => V.bl (decide (j < i))) (tVar 3) (tVar 2)))) (tVar 4) (tOp (rIxT K) (tOp (rIx K) (tVar 0) (tOp (rI0 fun i j => V.int (i + j)) (tVar 1) (tC (V.int 1)))) (tC (V.int 2))) σ H R := by
  refine ⟨_, e3, _, rfl, ?_⟩
  cases hp : p.2.1 with
  | none =>
    refine (show (if decide (oV none = V.non) = true then _ else _) from ?_)
    rw [show decide (oV none = V.non) = true from decide_eq_true rfl, if_pos rfl]
    refine (show (if true = true then _ else _) from ?_)
    rw [if_pos rfl]
    exact ⟨_, e4, r _ (eval_at hc hi (idx_stay hc hi hb (by omega) (by rw [hp]; rfl))).1⟩
  | some e =>
    refine (show (if decide (oV (some e) = V.non) = true then _ else _) from ?_)
    rw [show decide (oV (some e) = V.non) = false from decide_eq_false (fun z => nomatch z), if_neg (by decide)]
    rw [hp] at e3
    refine ⟨_, e3, _, e2, e, b, rfl, rfl, _, rfl, ?_⟩
    have le : b ≤ e := by
      rw [hp] at lb
      exact leO_some.mp lb
    refine ite2 (fun h => ?_) (fun h => ?_)
    · have h' : b < e := of_decide_eq_true h
      exact ⟨_, e4, r _ (eval_at hc hi (idx_stay hc hi hb (by omega) (by rw [hp]; exact leO_some.mpr (by omega)))).1⟩
    · have h' : ¬ b < e := fun z => h (decide_eq_true z)
      have eb : e = b := by omega
      subst eb
      obtain ⟨n1, q, hq⟩ := idx_next hc hi hp
      refine ⟨_, e0, _, e1, i, 1, rfl, rfl, ?_⟩
      have ci : (V.int ((i : Int) + 1)) = V.int ((i + 1 : Nat) : Int) := rfl
      show rIx K (.ref L) (V.int ((i + 1 : Nat) : Int)) H _
      refine ix_pc hl hq fun t ht => ?_
      exact ⟨t, _, _, _, rfl, rfl, SqT.of ht, rfl, r _ (eval_at hc hq n1).1⟩
section
variable {P : Program} {w : World} {K : PySem.W.Frag} {mg : Str → Option Value} {base : Heap} {f fN : Addr} {fd dN : FuncData}
theorem ok_stretch (F : FD K "is_stretch" s_is_stretch f fd) (T : TW mg) (N : Kn P w K mg base 1 "is_number" fN dN ["value"] (spIsNumber K)) : FnOk P w K mg base CX0 2 f fd ["first", "last"] spStretch := by
  refine F.ok sc_stretch (fun vs H Q E h => ?_) (fun cdv A outer s H vs Q E hr h => ?_)
  · obtain ⟨a, b, rfl, _⟩ := h
    rfl
  obtain ⟨a, b, rfl, hab, q⟩ := h
  refine ⟨_, PSs.nox (pss_cons (ps_if (pt_cmp (pc_isN (pv 0)) rfl) (pss_one (ps_ret (pe_or (pe_cmp (pc_isN (pv 1)) rfl) (pe_one (pe_call N.f hr rfl N.m N.k N.b .nil pass0 (pa_cons (pv 1) pa_nil)))))) pss_nil)
    (pss_one (ps_ret (pe_and (pe_call N.f hr rfl N.m N.k N.b .nil pass0 (pa_cons (pv 0) pa_nil)) (pe_one (pe_or (pe_cmp (pc_isN (pv 1)) rfl) (pe_one (pe_and (pe_call N.f hr rfl N.m N.k N.b .nil pass0 (pa_cons (pv 1) pa_nil)) (pe_one (pe_cmpR op_le (pv 0) (pv 1) (nomark _))))))))))), ?_⟩
  cases a with
  | none =>
    refine ⟨_, rfl, _, rfl, ?_⟩
    refine (show (if decide (oV none = V.non) = true then _ else _) from ?_)
    rw [show decide (oV none = V.non) = true from decide_eq_true rfl, if_pos rfl]
    refine ⟨_, rfl, decide (oV b = V.non), rfl, ?_⟩
    refine ite2 (fun h => q H (Same.refl H)) (fun h => ?_)
    cases b with
    | none => exact absurd (decide_eq_true rfl) h
    | some y => exact ⟨_, rfl, num_int (E := E0) fun H1 s1 => q H1 s1⟩
  | some x =>
    refine ⟨_, rfl, _, rfl, ?_⟩
    refine (show (if decide (oV (some x) = V.non) = true then _ else _) from ?_)
    rw [show decide (oV (some x) = V.non) = false from decide_eq_false (fun z => nomatch z), if_neg (by decide)]
    refine ⟨_, rfl, .int x, .type "int", true, false, rfl, .base (.int x), kit_ty (show kitB "int" "int" = some true by decide +kernel), kit_ty (show kitB "int" "bool" = some false by decide +kernel), fun H1 s1 => ⟨true, rfl, ?_⟩⟩
    rw [if_pos rfl]
    refine ⟨_, rfl, decide (oV b = V.non), rfl, ?_⟩
    refine ite2 (fun h => q H1 s1) (fun h => ?_)
    cases b with
    | none => exact absurd (decide_eq_true rfl) h
    | some y =>
      refine ⟨_, rfl, .int y, .type "int", true, false, rfl, .base (.int y), kit_ty (show kitB "int" "int" = some true by decide +kernel), kit_ty (show kitB "int" "bool" = some false by decide +kernel), fun H2 s2 => ⟨true, rfl, ?_⟩⟩
      rw [if_pos rfl]
      refine ⟨_, rfl, _, rfl, x, y, rfl, rfl, ?_⟩
      show Q (V.bl (decide (x ≤ y))) H2
      rw [decide_eq_true (hab x y rfl rfl)]
      exact q H2 (s1.trans s2)
abbrev nWhat : List Str := ["pieces", "at", "start", "last", "what", "follower"]
theorem sc_what : FnScope nWhat ["pieces", "at", "start"] (defScope s_what) := ⟨rfl, rfl, rfl, by decide +kernel, rfl, by decide +kernel, by decide +kernel⟩
/-- what describes the function of l from s on -/
def wAt (l : List Pc) (i : Nat) : Option Int → Option Int
  | none => match l[i]? with
    | some p => p.2.2
    | none => none
  | some b => wOf (evalP l) b
/-- s stands in the i-th piece -/
def StAt (l : List Pc) (i : Nat) (s : Option Int) : Prop := (s = none → i = 0) ∧ ∀ b, s = some b → idxP l b = i
def spWhat : Sp := fun vs H Q _ => ∃ (L : Addr) (l : List Pc) (i : Nat) (s : Option Int), vs = [.ref L, .int i, oV s] ∧ PcsAt H L l ∧ chn none l ∧ i < l.length ∧ StAt l i s ∧ Q (oV (wAt l i s)) H
theorem wOf_foll {f : Int → Int} {b : Int} {fo : Option Int} (h1 : f b = b) (h2 : f (b + 1) = takeW fo (b + 1)) : wOf f b = if fo = some b then some b else none := by
  unfold wOf
  rw [if_pos h1, h2]
  cases fo with
  | none =>
    show (if b + 1 = b then some b else none) = _
    rw [if_neg (by omega), if_neg (fun z => nomatch z)]
  | some c =>
    show (if c = b then some b else none) = _
    by_cases e : c = b
    · subst e
      rw [if_pos rfl, if_pos rfl]
    · rw [if_neg e, if_neg (fun z => e (Option.some.inj z))]
theorem ok_what (F : FD K "_normal_what" s_what f fd) : FnOk P w K mg base CX0 1 f fd ["pieces", "at", "start"] spWhat := by
  refine F.ok sc_what (fun vs H Q E h => ?_) (fun cdv A outer s H vs Q E hr h => ?_)
  · obtain ⟨L, l, i, s, rfl, _⟩ := h
    rfl
  obtain ⟨L, l, i, s, rfl, hl, hc, il, hs, q⟩ := h
  refine ⟨_, PSs.nox (pss_cons (ps_par (i := 3) (j := 4) (by rfl) sc_what.nd rfl rfl (by decide) rfl rfl (pa_cons (pe_ix ix_tup (pe_ix ix_seq (pv 0) (pv 1) (fun _ _ => rfl)) pe_int (fun _ _ => rfl)) (pa_cons (pe_ix ix_tup (pe_ix ix_seq (pv 0) (pv 1) (fun _ _ => rfl)) pe_int (fun _ _ => rfl)) pa_nil)) (by rfl))
    (pss_cons (ps_if (PW.pt (pw_or (pt_cmp (pc_isN (pv 2))) (pw_or1 (PW.pt (pw_and (pt_cmp (pc_notN (pv 4))) (pw_and1 (pt_cmpR op_ne (pv 4) (pv 2) (nomark _)))))))) (pss_one (ps_ret (pv 4))) pss_nil)
    (pss_cons (ps_set (i := 5) sc_what.nd rfl (Or.inl rfl) (pe_ifExp (PW.pt (pw_or (pt_cmp (pc_isN (pv 3))) (pw_or1 (pt_cmpR op_gt (pv 3) (pv 2) (nomark _))))) (pv 4) (pe_ix ix_tup (pe_ix ix_seq (pv 0) (pe_op op_add (pv 1) pe_int) (fun _ _ => rfl)) pe_int (fun _ _ => rfl))))
    (pss_one (ps_ret (pe_ifExp (pt_cmpR op_eq (pv 5) (pv 2) (nomark _)) (pv 2) pe_non)))))), ?_⟩
  have hi : l[i]? = some (l[i]'il) := List.getElem?_eq_getElem il
  generalize l[i]'il = p at hi
  refine ⟨_, rfl, _, rfl, ix_pc hl hi fun t1 h1 => ?_⟩
  refine ⟨t1, _, _, _, rfl, rfl, SqT.of h1, rfl, _, rfl, _, rfl, ix_pc hl hi fun t2 h2 => ?_⟩
  refine ⟨t2, _, _, _, rfl, rfl, SqT.of h2, rfl, _, _, rfl, ?_⟩
  refine ⟨_, rfl, _, rfl, ?_⟩
  cases s with
  | none =>
    refine (show (if decide (oV none = V.non) = true then _ else _) from ?_)
    rw [show decide (oV none = V.non) = true from decide_eq_true rfl, if_pos rfl]
    refine (show (if true = true then _ else _) from ?_)
    rw [if_pos rfl]
    refine ⟨_, rfl, ?_⟩
    have e : wAt l i none = p.2.2 := by
      unfold wAt
      rw [hi]
    rw [e] at q
    exact q
  | some b =>
    have hb := hs.2 b rfl
    obtain ⟨fb, lb⟩ := eval_at hc hi hb
    refine (show (if decide (oV (some b) = V.non) = true then _ else _) from ?_)
    rw [show decide (oV (some b) = V.non) = false from decide_eq_false (fun z => nomatch z), if_neg (by decide)]
    refine ⟨_, rfl, _, rfl, ?_⟩
    have finish : evalP l b = b → (wAt l i (some b) = wOf (evalP l) b) := fun _ => rfl
    obtain ⟨pf, pl, pw⟩ := p
    have tail : evalP l b = b → ∀ (x y : Option V) (D : Ends), D = { nx := fun _ H' => Q .non H', rt := Q } → tSeq (tAsg (tIf (tOr (tB (tIsN (tVar 3))) (tTest (tOp (rI0 fun i j => V.bl (decide (j < i))) (tVar 3) (tVar 2)))) (tVar 4) (tOp (rIxT K) (tOp (rIx K) (tVar 0) (tOp (rI0 fun i j => V.int (i + j)) (tVar 1) (tC (V.int 1)))) (tC (V.int 2)))) (gName 5)) (tRet (tIf (tTest (tOp rEq (tVar 5) (tVar 2))) (tVar 2) (tC V.non))) D [some (.ref L), some (.int i), some (.int b), some (oV pl), some (oV pw), none] H := fun fb' x y D hD => by
      subst hD
      dsimp only [tSeq, tAsg]
      refine foll_ok (p := (pf, pl, pw)) rfl rfl rfl rfl rfl hl hc hi hb lb fun fo hfo => ?_
      have ew := wOf_foll fb' hfo
      refine ⟨_, rfl, _, rfl, scal_oV (b := some b), _, rfl, ?_⟩
      rw [oV_int]
      refine ite2 (fun h => ?_) (fun h => ?_)
      · have e : fo = some b := of_decide_eq_true h
        rw [if_pos e] at ew
        refine ⟨_, rfl, ?_⟩
        have q' : Q (oV (wOf (evalP l) b)) H := q
        rw [ew] at q'
        exact q'
      · have e : fo ≠ some b := fun z => h (decide_eq_true z)
        rw [if_neg e] at ew
        have q' : Q (oV (wOf (evalP l) b)) H := q
        rw [ew] at q'
        exact q'
    cases pw with
    | none =>
      refine (show (if (!decide (oV none = V.non)) = true then _ else _) from ?_)
      rw [show (!decide (oV none = V.non)) = false by rw [show decide (oV none = V.non) = true from decide_eq_true rfl]; rfl, if_neg (by decide)]
      refine (show (if false = true then _ else _) from ?_)
      rw [if_neg (by decide)]
      exact tail fb none none _ rfl
    | some c =>
      refine (show (if (!decide (oV (some c) = V.non)) = true then _ else _) from ?_)
      rw [show (!decide (oV (some c) = V.non)) = true by rw [show decide (oV (some c) = V.non) = false from decide_eq_false (fun z => nomatch z)]; rfl, if_pos rfl]
      refine ⟨_, rfl, _, rfl, rfl, _, rfl, ?_⟩
      by_cases e : c = b
      · subst e
        refine (show (if (!decide (oV (some c) = oV (some c))) = true then _ else _) from ?_)
        rw [show (!decide (oV (some c) = oV (some c))) = false by rw [decide_eq_true rfl]; rfl, if_neg (by decide)]
        exact tail fb none none _ rfl
      · refine (show (if (!decide (oV (some c) = oV (some b))) = true then _ else _) from ?_)
        rw [show (!decide (oV (some c) = oV (some b))) = true by rw [decide_eq_false (fun z : oV (some c) = oV (some b) => e (V.int.inj z))]; rfl, if_pos rfl]
        refine ⟨_, rfl, ?_⟩
        have ew : wOf (evalP l) b = some c := by
          unfold wOf
          have fb2 : evalP l b = c := fb
          rw [fb2, if_neg e]
        have q' : Q (oV (wOf (evalP l) b)) H := q
        rw [ew] at q'
        exact q'
end
end C4

end Pq4O
section Pq4P
set_option maxHeartbeats 4000000
namespace C4
open PySem PySem.Spec L2 PyProof.Rows
/-! ### how far a what describes -/
def spTaken : Sp := fun vs H Q _ => ∃ (o : Option Int) (x : Int), vs = [oV o, .int x] ∧ Q (.int (takeW o x)) H
theorem sc_taken : FnScope ["what", "value"] ["what", "value"] (defScope s_taken) := ⟨rfl, rfl, rfl, by decide +kernel, rfl, by decide +kernel, by decide +kernel⟩
abbrev nDescr : List Str := ["pieces", "at", "start", "what", "last", "own_what"]
theorem sc_descr : FnScope nDescr ["pieces", "at", "start", "what"] (defScope s_described) := ⟨rfl, rfl, rfl, by decide +kernel, rfl, by decide +kernel, by decide +kernel⟩
def spDescr : Sp := fun vs H Q _ => ∃ (L : Addr) (l : List Pc) (i : Nat) (s : Option Int), vs = [.ref L, .int i, oV s, oV (wAt l i s)] ∧ PcsAt H L l ∧ chn none l ∧ i < l.length ∧ StAt l i s ∧
  ∀ (last : Option Int) (j : Nat) (t : Addr) (H' : Hp), Desc (evalP l) s (wAt l i s) last → (∀ e, last = some e → idxP l (e + 1) = j ∧ i < j) → Same H H' → H' t = some (.tup [oV last, .int j]) → Q (.ref t) H'
/-- where the walk stands: at the place i, from x on; it began at the place i0, from s on -/
def DSt (l : List Pc) (s w : Option Int) (i0 i : Nat) : Option Int → Prop
  | none => i = 0 ∧ s = none ∧ i0 = 0 ∧ ∀ p, l[0]? = some p → p.2.2 = w
  | some b => idxP l b = i ∧ (∀ x, geO x s → x < b → evalP l x = takeW w x) ∧ ((s = some b ∧ i = i0 ∧ w = wOf (evalP l) b) ∨ (geO (b - 1) s ∧ i0 < i))
theorem wOf_own {f : Int → Int} {b : Int} {o : Option Int} (h1 : f b = takeW o b) (h2 : f (b + 1) = takeW o (b + 1)) : wOf f b = o := by
  unfold wOf
  rw [h1, h2]
  cases o with
  | none =>
    show (if b = b then if b + 1 = b then some b else none else some b) = none
    rw [if_pos rfl, if_neg (by omega)]
  | some c =>
    show (if c = b then if c = b then some b else none else some c) = some c
    by_cases e : c = b
    · rw [if_pos e, if_pos e, e]
    · rw [if_neg e]
section
variable {l : List Pc} {s w : Option Int} {i0 i : Nat} {p : Pc}
theorem dst_low {b : Int} (d : DSt l s w i0 i (some b)) : geO b s := by
  intro c hc
  rcases d.2.2 with ⟨e, _⟩ | ⟨g, _⟩
  · rw [e] at hc
    cases hc
    exact Int.le_refl _
  · have := g c hc
    omega
/-- into the next piece -/
theorem dst_on {st : Option Int} {e : Int} (hc : chn none l) (hi : l[i]? = some p) (he : p.2.1 = some e) (d : DSt l s w i0 i st) (ok : ∀ b, st = some b → takeW p.2.2 b = takeW w b ∧ (p.2.2 = w ∨ e = b)) : DSt l s w i0 (i + 1) (some (e + 1)) := by
  obtain ⟨n1, _⟩ := idx_next hc hi he
  cases st with
  | none =>
    obtain ⟨rfl, rfl, rfl, hw⟩ := d
    refine ⟨n1, fun x _ hx => ?_, .inr ⟨(fun b z => nomatch z), by omega⟩⟩
    have h0 : idxP l x = 0 := idx_of hc hi (by rw [chn_fst hc hi]; exact fun b z => nomatch z) (by rw [he]; exact leO_some.mpr (by omega))
    rw [(eval_at hc hi h0).1, hw p hi]
  | some b =>
    have low := dst_low d
    obtain ⟨hb, pre, alt⟩ := d
    obtain ⟨o1, o2⟩ := ok b rfl
    obtain ⟨fb, lb⟩ := eval_at hc hi hb
    rw [he, leO_some] at lb
    refine ⟨n1, fun x hx hlt => ?_, .inr ⟨fun c z => ?_, ?_⟩⟩
    · by_cases q : x < b
      · exact pre x hx q
      · by_cases q2 : x = b
        · rw [q2, fb, o1]
        · have ow : p.2.2 = w := o2.elim id fun z => by omega
          have hx' : idxP l x = i := idx_stay hc hi hb (by omega) (by rw [he]; exact leO_some.mpr (by omega))
          rw [(eval_at hc hi hx').1, ow]
    · have := low c z
      omega
    · rcases alt with ⟨_, z, _⟩ | ⟨_, z⟩ <;> omega
/-- to the end of all -/
theorem dst_end {st : Option Int} (hc : chn none l) (hi : l[i]? = some p) (he : p.2.1 = none) (d : DSt l s w i0 i st) (ow : p.2.2 = w) : Desc (evalP l) s w none := by
  cases st with
  | none =>
    obtain ⟨rfl, rfl, rfl, hw⟩ := d
    intro x _
    have h0 : idxP l x = 0 := idx_of hc hi (by rw [chn_fst hc hi]; exact fun b z => nomatch z) (by rw [he]; rfl)
    rw [(eval_at hc hi h0).1, ow]
  | some b =>
    obtain ⟨hb, pre, alt⟩ := d
    intro x hx
    by_cases q : x < b
    · exact pre x hx q
    · rw [(eval_at hc hi (idx_stay hc hi hb (by omega) (by rw [he]; rfl))).1, ow]
/-- the value ahead is the last -/
theorem dst_before {b : Int} (hc : chn none l) (hi : l[i]? = some p) (d : DSt l s w i0 i (some b)) (ne : takeW p.2.2 b ≠ takeW w b) : Desc (evalP l) s w (some (b - 1)) ∧ idxP l (b - 1 + 1) = i ∧ i0 < i := by
  obtain ⟨hb, pre, alt⟩ := d
  obtain ⟨fb, _⟩ := eval_at hc hi hb
  have eb : b - 1 + 1 = b := by omega
  rcases alt with ⟨_, _, ew⟩ | ⟨g, z⟩
  · exfalso
    apply ne
    rw [← fb, ew]
    exact wOf_at
  · exact ⟨⟨g, fun x hx hle => pre x hx (by omega), by rw [eb, fb]; exact ne⟩, by rw [eb]; exact hb, z⟩
/-- this value is the last -/
theorem dst_here {b : Int} (hc : chn none l) (hi : l[i]? = some p) (d : DSt l s w i0 i (some b)) (nw : p.2.2 ≠ w) (eq : takeW p.2.2 b = takeW w b) (nl : p.2.1 ≠ some b) : Desc (evalP l) s w (some b) ∧ idxP l (b + 1) = i ∧ i0 < i := by
  have low := dst_low d
  obtain ⟨hb, pre, alt⟩ := d
  obtain ⟨fb, lb⟩ := eval_at hc hi hb
  have l1 : leO (b + 1) p.2.1 = true := by
    cases z : p.2.1 with
    | none => rfl
    | some e =>
      rw [z, leO_some] at lb
      rw [z] at nl
      have : e ≠ b := fun q => nl (by rw [q])
      exact leO_some.mpr (by omega)
  have h1 := idx_stay hc hi hb (show b ≤ b + 1 by omega) l1
  have f1 := (eval_at hc hi h1).1
  rcases alt with ⟨_, _, ew⟩ | ⟨g, z⟩
  · exact absurd ((wOf_own fb f1).symm.trans ew.symm) nw
  · refine ⟨⟨low, fun x hx hle => ?_, fun q => nw (take_two eq (f1.symm.trans q))⟩, h1, z⟩
    by_cases q : x < b
    · exact pre x hx q
    · have : x = b := by omega
      rw [this, fb, eq]
end
section
variable {P : Program} {w : World} {K : PySem.W.Frag} {mg : Str → Option Value} {base : Heap} {f fT : Addr} {fd dT : FuncData}
theorem ok_taken (F : FD K "_taken" s_taken f fd) : FnOk P w K mg base CX0 1 f fd ["what", "value"] spTaken := by
  refine F.ok sc_taken (fun vs H Q E h => ?_) (fun cdv A outer s H vs Q E hr h => ?_)
  · obtain ⟨o, x, rfl, _⟩ := h
    rfl
  obtain ⟨o, x, rfl, q⟩ := h
  refine ⟨_, PSs.nox (pss_one (ps_ret (pe_ifExp (pt_cmp (pc_isN (pv 0))) (pv 1) (pv 0)))), ?_⟩
  refine ⟨_, rfl, _, rfl, ?_⟩
  cases o with
  | none =>
    refine (show (if decide (oV none = V.non) = true then _ else _) from ?_)
    rw [show decide (oV none = V.non) = true from decide_eq_true rfl, if_pos rfl]
    exact ⟨_, rfl, q⟩
  | some c =>
    refine (show (if decide (oV (some c) = V.non) = true then _ else _) from ?_)
    rw [show decide (oV (some c) = V.non) = false from decide_eq_false (fun z => nomatch z), if_neg (by decide)]
    exact ⟨_, rfl, q⟩
theorem ok_described (F : FD K "_described" s_described f fd) (TK : Kn P w K mg base 1 "_taken" fT dT ["what", "value"] spTaken) : FnOk P w K mg base CX0 2 f fd ["pieces", "at", "start", "what"] spDescr := by
  refine F.ok sc_descr (fun vs H Q E h => ?_) (fun cdv A outer s H vs Q E hr h => ?_)
  · obtain ⟨L, l, i, s, rfl, _⟩ := h
    rfl
  obtain ⟨L, l, i0, s0, rfl, hl, hc, il, hs, q⟩ := h
  refine ⟨_, PSs.nox (pss_one (ps_while PassesOwn.never (pt_val pe_bl)
    (pss_cons (ps_par (i := 4) (j := 5) (by rfl) sc_descr.nd rfl rfl (by decide) rfl rfl (pa_cons (pe_ix ix_tup (pe_ix ix_seq (pv 0) (pv 1) (fun _ _ => rfl)) pe_int (fun _ _ => rfl)) (pa_cons (pe_ix ix_tup (pe_ix ix_seq (pv 0) (pv 1) (fun _ _ => rfl)) pe_int (fun _ _ => rfl)) pa_nil)) (by rfl))
    (pss_cons (ps_if (pt_cmpR op_ne (pv 5) (pv 3) (nomark _))
      (pss_cons (ps_if (pt_cmpR op_ne (pe_call TK.f hr rfl TK.m TK.k TK.b .nil pass0 (pa_cons (pv 5) (pa_cons (pv 2) pa_nil))) (pe_call TK.f hr rfl TK.m TK.k TK.b .nil pass0 (pa_cons (pv 3) (pa_cons (pv 2) pa_nil))) (nomark _)) (pss_one (ps_ret (pe_tup (pa_cons (pe_op op_sub (pv 2) pe_int) (pa_cons (pv 1) pa_nil))))) pss_nil)
      (pss_one (ps_if (pt_cmpR op_ne (pv 4) (pv 2) (nomark _)) (pss_one (ps_ret (pe_tup (pa_cons (pv 2) (pa_cons (pv 1) pa_nil))))) pss_nil))) pss_nil)
    (pss_cons (ps_if (pt_cmp (pc_isN (pv 4))) (pss_one (ps_ret (pe_tup (pa_cons pe_non (pa_cons (pv 1) pa_nil))))) pss_nil)
    (pss_cons (ps_aug (i := 1) sc_descr.nd rfl (Or.inl rfl) pe_int ip_add)
    (pss_one (ps_set (i := 2) sc_descr.nd rfl (Or.inl rfl) (pe_op op_add (pv 4) pe_int))))))))), ?_⟩
  generalize hw : wAt l i0 s0 = w0 at q
  have d0 : DSt l s0 w0 i0 i0 s0 := by
    cases s0 with
    | none =>
      have z := hs.1 rfl
      subst z
      refine ⟨rfl, rfl, rfl, fun p hp => ?_⟩
      rw [← hw]
      unfold wAt
      rw [hp]
    | some b => exact ⟨hs.2 b rfl, fun x hx hlt => absurd hlt (by have := hx b rfl; omega), .inl ⟨rfl, rfl, hw.symm⟩⟩
  refine ⟨fun m σ' H' => ∃ (i : Nat) (st : Option Int) (x y : Option V), σ' = [some (.ref L), some (.int i), some (oV st), some (oV w0), x, y] ∧ H' = H ∧ DSt l s0 w0 i0 i st ∧ i < l.length ∧ m = l.length - i, ⟨l.length - i0, i0, s0, none, none, rfl, rfl, d0, il, rfl⟩, ?_⟩
  rintro m σ' H' ⟨i, st, x, y, rfl, rfl, d, il', rfl⟩
  refine ⟨true, rfl, ?_⟩
  refine (show (if true = true then _ else _) from ?_)
  rw [if_pos rfl]
  refine ⟨fun σ2 H2 => ∃ (st2 : Option Int) (x y : Option V), σ2 = [some (.ref L), some (.int (i + 1 : Nat)), some (oV st2), some (oV w0), x, y] ∧ H2 = H' ∧ DSt l s0 w0 i0 (i + 1) st2 ∧ i + 1 < l.length, fun σ2 H2 ⟨st2, x, y, a, b, c, e⟩ => ⟨l.length - (i + 1), by omega, i + 1, st2, x, y, a, b, c, e, rfl⟩, ?_⟩
  have hi : l[i]? = some (l[i]'il') := List.getElem?_eq_getElem il'
  generalize l[i]'il' = p at hi
  refine ⟨_, rfl, _, rfl, ix_pc hl hi fun t1 h1 => ?_⟩
  refine ⟨t1, _, _, _, rfl, rfl, SqT.of h1, rfl, _, rfl, _, rfl, ix_pc hl hi fun t2 h2 => ?_⟩
  refine ⟨t2, _, _, _, rfl, rfl, SqT.of h2, rfl, _, _, rfl, ?_⟩
  obtain ⟨pf, pl, pw⟩ := p
  refine ⟨_, rfl, _, rfl, scal_oV, _, rfl, ?_⟩
  rw [oV_dec]
  by_cases ow : pw = w0
  · rw [show (!decide (pw = w0)) = false by rw [decide_eq_true ow]; rfl]
    refine (show (if false = true then _ else _) from ?_)
    rw [if_neg (by decide)]
    -- on, or the end
    refine ⟨_, rfl, _, rfl, ?_⟩
    cases hpl : pl with
    | none =>
      refine (show (if decide (oV none = V.non) = true then _ else _) from ?_)
      rw [show decide (oV none = V.non) = true from decide_eq_true rfl, if_pos rfl]
      subst hpl
      refine ⟨_, rfl, by show 2 ≤ sizeLine; decide, fun t ht => ?_⟩
      exact q none i t _ (dst_end hc hi rfl d ow) (fun e z => nomatch z) (same_upd ht) upd_same
    | some e =>
      refine (show (if decide (oV (some e) = V.non) = true then _ else _) from ?_)
      rw [show decide (oV (some e) = V.non) = false from decide_eq_false (fun z => nomatch z), if_neg (by decide)]
      subst hpl
      refine ⟨_, rfl, i, 1, rfl, rfl, ?_⟩
      refine ⟨_, rfl, e, 1, rfl, rfl, ?_⟩
      exact ⟨some (e + 1), _, _, rfl, rfl, dst_on hc hi rfl d (fun b _ => ⟨by rw [show pw = w0 from ow], .inl ow⟩), (List.getElem?_eq_some_iff.mp (idx_next hc hi rfl).2.choose_spec).1⟩
  · rw [show (!decide (pw = w0)) = true by rw [decide_eq_false ow]; rfl]
    refine (show (if true = true then _ else _) from ?_)
    rw [if_pos rfl]
    obtain ⟨b, rfl⟩ : ∃ b, st = some b := by
      cases st with
      | none => exact absurd (d.2.2.2 _ (by rw [← d.1]; exact hi)) ow
      | some b => exact ⟨b, rfl⟩
    refine ⟨_, rfl, _, rfl, pw, b, rfl, _, rfl, _, rfl, w0, b, rfl, rfl, _, rfl, ?_⟩
    by_cases eq : takeW pw b = takeW w0 b
    · refine (show (if (!decide (V.int (takeW pw b) = V.int (takeW w0 b))) = true then _ else _) from ?_)
      rw [show (!decide (V.int (takeW pw b) = V.int (takeW w0 b))) = false by rw [decide_eq_true (by rw [eq])]; rfl, if_neg (by decide)]
      refine ⟨_, rfl, _, rfl, scal_oV (b := some b), _, rfl, ?_⟩
      by_cases nl : pl = some b
      · refine (show (if (!decide (oV pl = oV (some b))) = true then _ else _) from ?_)
        rw [oV_dec, show (!decide (pl = some b)) = false by rw [decide_eq_true nl]; rfl, if_neg (by decide)]
        -- on, or the end
        refine ⟨_, rfl, _, rfl, ?_⟩
        cases hpl : pl with
        | none =>
          refine (show (if decide (oV none = V.non) = true then _ else _) from ?_)
          rw [show decide (oV none = V.non) = true from decide_eq_true rfl, if_pos rfl]
          subst hpl
          refine ⟨_, rfl, by show 2 ≤ sizeLine; decide, fun t ht => ?_⟩
          exact q none i t _ (by cases nl) (fun e z => nomatch z) (same_upd ht) upd_same
        | some e =>
          refine (show (if decide (oV (some e) = V.non) = true then _ else _) from ?_)
          rw [show decide (oV (some e) = V.non) = false from decide_eq_false (fun z => nomatch z), if_neg (by decide)]
          subst hpl
          refine ⟨_, rfl, i, 1, rfl, rfl, ?_⟩
          refine ⟨_, rfl, e, 1, rfl, rfl, ?_⟩
          exact ⟨some (e + 1), _, _, rfl, rfl, dst_on hc hi rfl d (fun c hcb => by cases hcb; exact ⟨eq, .inr (Option.some.inj nl)⟩), (List.getElem?_eq_some_iff.mp (idx_next hc hi rfl).2.choose_spec).1⟩
      · refine (show (if (!decide (oV pl = oV (some b))) = true then _ else _) from ?_)
        rw [oV_dec, show (!decide (pl = some b)) = true by rw [decide_eq_false nl]; rfl, if_pos rfl]
        obtain ⟨c1, c2, c3⟩ := dst_here hc hi d ow eq nl
        refine ⟨_, rfl, _, rfl, by show 2 ≤ sizeLine; decide, fun t ht => ?_⟩
        exact q (some b) i t _ c1 (fun e z => by cases z; exact ⟨c2, c3⟩) (same_upd ht) upd_same
    · refine (show (if (!decide (V.int (takeW pw b) = V.int (takeW w0 b))) = true then _ else _) from ?_)
      rw [show (!decide (V.int (takeW pw b) = V.int (takeW w0 b))) = true by rw [decide_eq_false (fun z => eq (V.int.inj z))]; rfl, if_pos rfl]
      obtain ⟨c1, c2, c3⟩ := dst_before hc hi d eq
      refine ⟨_, rfl, b, 1, rfl, rfl, _, rfl, by show 2 ≤ sizeLine; decide, fun t ht => ?_⟩
      exact q (some (b - 1)) i t _ c1 (fun e z => by cases z; exact ⟨c2, c3⟩) (same_upd ht) upd_same
end
end C4

end Pq4P
section Pq4Q
set_option maxHeartbeats 4000000
namespace C4
open PySem PySem.Spec L2 PyProof.Rows
/-! ### the normal pieces of some pieces -/
abbrev nPieces : List Str := ["pieces", "found", "start", "at", "what", "last"]
theorem sc_pieces : FnScope nPieces ["pieces"] (defScope s_pieces) := ⟨rfl, rfl, rfl, by decide +kernel, rfl, by decide +kernel, by decide +kernel⟩
/-- a tuple of pieces at t -/
def TupAt (H : Hp) (t : Addr) (l : List Pc) : Prop := ∃ ts : List Addr, H t = some (.tup (ts.map V.ref)) ∧ Paired (PcAt H) ts l
theorem TupAt.same {H H' : Hp} {t : Addr} {l : List Pc} (s : Same H H') (h : TupAt H t l) : TupAt H' t l := by
  obtain ⟨ts, a, b⟩ := h
  exact ⟨ts, s _ _ a, b.mono fun t p e => s _ _ e⟩
theorem TupAt.pcs {H : Hp} {t : Addr} {l : List Pc} (h : TupAt H t l) : PcsAt H t l := by
  obtain ⟨ts, a, b⟩ := h
  exact ⟨ts, .inr a, b⟩
def spPieces : Sp := fun vs H Q _ => ∃ (L : Addr) (l : List Pc), vs = [.ref L] ∧ PcsAt H L l ∧ chn none l ∧ l.length ≤ 1000 ∧ ∀ (t : Addr) (n : List Pc) (H' : Hp), Nrm (evalP l) none n → n.length ≤ l.length → Same H H' → TupAt H' t n → Q (.ref t) H'
section
variable {P : Program} {w : World} {K : PySem.W.Frag} {mg : Str → Option Value} {base : Heap} {f fW fD : Addr} {fd dW dD : FuncData}
theorem ok_pieces (F : FD K "_normal_pieces" s_pieces f fd) (tt : mg "tuple" = none) (W : Kn P w K mg base 1 "_normal_what" fW dW ["pieces", "at", "start"] spWhat) (D : Kn P w K mg base 2 "_described" fD dD ["pieces", "at", "start", "what"] spDescr) : FnOk P w K mg base CX0 3 f fd ["pieces"] spPieces := by
  refine F.ok sc_pieces (fun vs H Q E h => ?_) (fun cdv A outer s H vs Q E hr h => ?_)
  · obtain ⟨L, l, rfl, _⟩ := h
    rfl
  obtain ⟨L, l, rfl, hl, hc, hlen, q⟩ := h
  refine ⟨_, PSs.nox (pss_cons (ps_set (i := 1) sc_pieces.nd rfl (Or.inl rfl) (pe_lst pa_nil))
    (pss_cons (ps_asg (pe_tup (pa_cons pe_non (pa_cons pe_int pa_nil))) (pg_tup (by rfl) (pgs_cons (pg_name (i := 2) sc_pieces.nd rfl (Or.inl rfl)) (pgs_cons (pg_name (i := 3) sc_pieces.nd rfl (Or.inl rfl)) pgs_nil))))
    (pss_one (ps_while PassesOwn.never (pt_val pe_bl)
      (pss_cons (ps_set (i := 4) sc_pieces.nd rfl (Or.inl rfl) (pe_call W.f (hr.mono (by decide)) rfl W.m W.k W.b .nil pass0 (pa_cons (pv 0) (pa_cons (pv 3) (pa_cons (pv 2) pa_nil)))))
      (pss_cons (ps_asg (pe_call D.f hr rfl D.m D.k D.b .nil pass0 (pa_cons (pv 0) (pa_cons (pv 3) (pa_cons (pv 2) (pa_cons (pv 4) pa_nil))))) (pg_tup (by rfl) (pgs_cons (pg_name (i := 5) sc_pieces.nd rfl (Or.inl rfl)) (pgs_cons (pg_name (i := 3) sc_pieces.nd rfl (Or.inl rfl)) pgs_nil))))
      (pss_cons (ps_expr (pe_bm PySem.F.plainAttrs_list PySem.F.slot_list_append PySem.F.type_list_append mt_append (pv 1) (pa_cons (pe_tup (pa_cons (pv 2) (pa_cons (pv 5) (pa_cons (pv 4) pa_nil)))) pa_nil)))
      (pss_cons (ps_if (pt_cmp (pc_isN (pv 5))) (pss_one (ps_ret (pe_callTy call_tuple_of (by rfl) tt (by decide +kernel) (pa_cons (pv 1) pa_nil)))) pss_nil)
      (pss_one (ps_set (i := 2) sc_pieces.nd rfl (Or.inl rfl) (pe_op op_add (pv 5) pe_int))))))))))), ?_⟩
  refine ⟨Nat.zero_le _, fun g hg => ⟨by show 2 ≤ sizeLine; decide, fun c hcc => ⟨c, _, rfl, SqT.of upd_same, rfl, _, _, rfl, _, _, rfl, rfl, ?_⟩⟩⟩
  have sg : Same H (upd (upd H g (.lst [])) c (.tup [.non, .int 0])) := (same_upd hg).trans (same_upd hcc)
  have hg1 : (upd (upd H g (.lst [])) c (.tup [.non, .int 0])) g = some (.lst []) := by rw [upd_ne (ne_of_none upd_same hcc), upd_same]
  generalize upd (upd H g (.lst [])) c (.tup [.non, .int 0]) = H1 at sg hg1
  refine ⟨fun m σ' H' => ∃ (i : Nat) (st : Option Int) (ts : List Addr) (acc : List Pc) (x y : Option V), σ' = [some (.ref L), some (.ref g), some (oV st), some (.int i), x, y] ∧ Same H H' ∧ H' g = some (.lst (ts.map V.ref)) ∧ Paired (PcAt H') ts acc ∧ StAt l i st ∧ i < l.length ∧ acc.length ≤ i ∧ (∀ r, Nrm (evalP l) st r → Nrm (evalP l) none (acc ++ r)) ∧ m = l.length - i,
    ⟨l.length, 0, none, [], [], none, none, rfl, sg, hg1, .nil, ⟨fun _ => rfl, fun b z => nomatch z⟩, List.length_pos_iff.mpr (chn_ne hc), Nat.le_refl _, fun r hr => hr, rfl⟩, ?_⟩
  rintro m σ' H2 ⟨i, st, ts, acc, x, y, rfl, s2, hg2, pr, hs, il, al, hn, rfl⟩
  refine ⟨true, rfl, ?_⟩
  refine (show (if true = true then _ else _) from ?_)
  rw [if_pos rfl]
  refine ⟨fun σ' H' => ∃ (j : Nat) (st : Option Int) (ts : List Addr) (acc : List Pc) (x y : Option V), i < j ∧ σ' = [some (.ref L), some (.ref g), some (oV st), some (.int j), x, y] ∧ Same H H' ∧ H' g = some (.lst (ts.map V.ref)) ∧ Paired (PcAt H') ts acc ∧ StAt l j st ∧ j < l.length ∧ acc.length ≤ j ∧ (∀ r, Nrm (evalP l) st r → Nrm (evalP l) none (acc ++ r)),
    fun σ' H' ⟨j, st, ts, acc, x, y, ij, a1, a2, a3, a4, a5, a6, a7, a8⟩ => ⟨l.length - j, by omega, j, st, ts, acc, x, y, a1, a2, a3, a4, a5, a6, a7, a8, rfl⟩, ?_⟩
  refine ⟨_, rfl, _, rfl, _, rfl, L, l, i, st, rfl, hl.same s2, hc, il, hs, ?_⟩
  refine ⟨_, rfl, _, rfl, _, rfl, _, rfl, L, l, i, st, rfl, hl.same s2, hc, il, hs, fun last j t H3 hD hj s3 e3 => ?_⟩
  refine ⟨t, _, rfl, SqT.of e3, rfl, _, _, rfl, _, _, rfl, rfl, ?_⟩
  have hg3 := s3 _ _ hg2
  have wok : WOk (evalP l) st (wAt l i st) := fun b z => by rw [z]; rfl
  refine ⟨_, rfl, .inl ⟨rfl, _, SqL.of hg3⟩, _, rfl, _, rfl, _, rfl, by show 3 ≤ sizeLine; decide, fun p hp => ?_⟩
  have s4 := same_upd (o := HO.tup [oV st, oV last, oV (wAt l i st)]) hp
  have hg4 := s4 _ _ hg3
  have hp4 : (upd H3 p (.tup [oV st, oV last, oV (wAt l i st)])) p = some (.tup [oV st, oV last, oV (wAt l i st)]) := upd_same
  have pr4 := pr.mono fun t p e => s4 _ _ (s3 _ _ e)
  have z4 := (s2.trans s3).trans s4
  generalize upd H3 p (.tup [oV st, oV last, oV (wAt l i st)]) = H4 at s4 hg4 hp4 pr4 z4 ⊢
  have tl : ts.length = acc.length := pr.length
  refine ⟨g, _, _, rfl, rfl, hg4, by rw [List.length_map, tl]; exact Nat.lt_of_le_of_lt (show _ ≤ 1000 by omega) (by decide), ?_⟩
  have keep : ∀ a xs, H4 a = some (HO.tup xs) → (upd H4 g (.lst (ts.map V.ref ++ [.ref p]))) a = some (HO.tup xs) := fun a xs e => by
    have n : a ≠ g := fun z => by
      rw [z, hg4] at e
      cases e
    rw [upd_ne n]
    exact e
  have z5 : Same H (upd H4 g (.lst (ts.map V.ref ++ [.ref p]))) := same_over z4 hg
  have hg5 : (upd H4 g (.lst (ts.map V.ref ++ [.ref p]))) g = some (.lst ((ts ++ [p]).map V.ref)) := by rw [upd_same, List.map_append]; rfl
  have pr5 : Paired (PcAt (upd H4 g (.lst (ts.map V.ref ++ [.ref p])))) (ts ++ [p]) (acc ++ [(st, last, wAt l i st)]) := (pr4.mono fun t q e => keep _ _ e).snoc (keep _ _ hp4)
  generalize upd H4 g (.lst (ts.map V.ref ++ [.ref p])) = H5 at z5 hg5 pr5 ⊢
  refine ⟨_, rfl, _, rfl, ?_⟩
  cases last with
  | none =>
    refine (show (if decide (oV none = V.non) = true then _ else _) from ?_)
    rw [show decide (oV none = V.non) = true from decide_eq_true rfl, if_pos rfl]
    refine ⟨_, rfl, g, _, rfl, .inl ⟨SqL.of hg5, fun u hu => ?_⟩⟩
    have s6 := same_upd (o := HO.tup ((ts ++ [p]).map V.ref)) hu
    refine q u _ _ (hn [(st, none, wAt l i st)] ⟨rfl, wok, hD, rfl⟩) ?_ (z5.trans s6) ⟨ts ++ [p], upd_same, pr5.mono fun t q e => s6 _ _ e⟩
    rw [List.length_append, List.length_singleton]
    omega
  | some e =>
    refine (show (if decide (oV (some e) = V.non) = true then _ else _) from ?_)
    rw [show decide (oV (some e) = V.non) = false from decide_eq_false (fun z => nomatch z), if_neg (by decide)]
    obtain ⟨hj1, hj2⟩ := hj e rfl
    refine ⟨_, rfl, e, 1, rfl, rfl, ?_⟩
    refine ⟨j, some (e + 1), ts ++ [p], acc ++ [(st, some e, wAt l i st)], _, _, hj2, rfl, z5, hg5, pr5, ⟨fun z => (nomatch z), fun b z => by cases z; exact hj1⟩, by rw [← hj1]; exact idx_lt _ hc, ?_, fun r hr' => ?_⟩
    · rw [List.length_append, List.length_singleton]
      omega
    · rw [List.append_assoc]
      exact hn ((st, some e, wAt l i st) :: r) ⟨rfl, wok, hD, hr'⟩
end
end C4

end Pq4Q
section PE7
set_option maxHeartbeats 4000000
/-! Raising an exception of an own class over any of the bases, and what its suite asks of it. -/
namespace L2
open PySem PySem.Spec PyProof.Rows
/-- C(e, ..), made to be raised -/
def tXr (C : Addr) (n : Nat) (sp : Sp) (gV : List V → List V → List V) (t : TA) : St → Hp → XK → Prop := fun σ H Q => t σ H fun vs H1 => vs.length = n ∧ ∀ a, H1 a = none → sp (gV (.ref a :: vs) []) (upd H1 a (exo a C none))
  (fun v H2 => v = .non ∧ ∃ (d : Addr) (fs : List (Str × V)), H2 a = some (exo a C (some d)) ∧ H2 d = some (exd d fs) ∧ H1 d = none ∧ Q (.ref C) (some d) (upd (del H2 a) d (.xd fs))) E0
section
variable {X : Cx} {CX : CXT} {k n : Nat} {fI C : Addr} {fd : FuncData} {ps : List Str} {sp : Sp} {x : Str} {p pos : Pos} {e : Expr} {es : List Expr} {t : TA} {g : List Value → List Value → List Value} {gV : List V → List V → List V}
theorem pmk_xe (T : XC X.K C) (iC : PySem.W.findIn X.K (.ref C) "__init__" = some (some (.ref fI))) (tI : PySem.W.typeIn X.K (.ref fI) = some (.type "function"))
    (F : FnOk X.prog X.w X.K X.mg X.base CX k fI fd ps sp) (hr : Room (k + 1) X.A) (hb : KBn X.K fd ps (n + 1) [] g gV) (hx : Passes CX X E0) (hn : n ≤ 1000) (hg : Gl X x) (hm : X.mg x = some (.ref C)) (ha : PA X (e :: es) t)
    (hdb : (x == ("__debug__" : Str)) = false := by decide) (he : starEach (e :: es) X.env = (false, eval e X.env) :: starEach es X.env := by rfl) (hpl : (backTo pos (starEach es X.env)).any (·.1) = false := by rfl) :
    PMk X (.Call (.Name x p) (e :: es) [] pos) (tXr C n sp gV t) := by
  intro pins s σ H Q I h
  obtain ⟨B, newId, initId, tl, nm, q, N, bs, bm, sn, sub, ab, col, dd, k0, k1, k2, k3, k5, BX, hC, hbm⟩ := T.cls
  refine wpAny_Call_Name_kw (ld_glob I hg hm ?_ hdb)
  refine PySem.W.callWith_K (h₀ := X.base) I.ok.mod.kin T.kC (thn (ha.run pos pins s σ H _ I h) fun us s1 ⟨vs, H1, I1, r1, q1⟩ => ⟨I1.kIn, ?_⟩) he hpl
  obtain ⟨l1, q2⟩ := q1
  show wpAny _ _ (call (.ref C) us) _ _ _
  obtain ⟨hp, gs, dr, tk', os⟩ := s1
  have hsz : hp.objs.size ≤ hp.objs.size + 1 := Nat.le_succ _
  have hn1 : H1 (hp.objs.size + 1) = none := I1.hok.fresh hsz
  have hq := q2 (hp.objs.size + 1) hn1
  have kk : ∀ b o, hp.get? b = some o → ((hp.push (PySem.W.kdv_tup us)).push (PySem.HandSPX.excO C hp.objs.size)).get? b = some o := fun b o e => Heap.get?_push_of_some _ (Heap.get?_push_of_some _ e)
  have hget : ((hp.push (PySem.W.kdv_tup us)).push (PySem.HandSPX.excO C hp.objs.size)).get? (hp.objs.size + 1) = some (PySem.HandSPX.excO C hp.objs.size) := by heap_get
  have I2 : Inv X pins σ (upd H1 (hp.objs.size + 1) (exo (hp.objs.size + 1) C none)) ⟨(hp.push (PySem.W.kdv_tup us)).push (PySem.HandSPX.excO C hp.objs.size), gs, dr, tk', os⟩ :=
    I1.laid (t' := tk') (a := hp.objs.size + 1) (o := exo (hp.objs.size + 1) C none) (h' := (hp.push (PySem.W.kdv_tup us)).push (PySem.HandSPX.excO C hp.objs.size)) kk hsz (exo_ok hget)
  have r3 : Vals (V.ref (hp.objs.size + 1) :: vs) (Value.ref (hp.objs.size + 1) :: us) := .cons rfl r1
  have r2 := hb.rel (zs := []) (ws := []) r3 .nil
  have e1 : (Value.ref (hp.objs.size + 1) :: us).length = n + 1 := r3.length.symm.trans (congrArg Nat.succ l1)
  have hus : us.length ≤ sizeLine := by
    rw [← r1.length, l1]
    exact Nat.le_trans hn (by decide)
  refine wpAny_call (PySem.EXV.call_kw BX.F (fun Y => PySem.W.excTail_contains Y bm hbm) (I1.kIn _ _ hC) (PySem.W.looks_findIn I1.kIn iC) (fun self => PySem.W.bind_fn I1.kIn self tI) hus
    (codeAny_mono (F.run _ X.stack _ _ ⟨Value.ref (hp.objs.size + 1) :: us, []⟩ (g (Value.ref (hp.objs.size + 1) :: us) []) _ _ E0 (hr.make C us []) (I2.env0.make C us []) (hb.to _ (Value.ref (hp.objs.size + 1) :: us) [] I2.kIn e1 rfl) r2 hq) fun r s' hq' => ?_))
  cases r with
  | error er => exact hx pins σ _ _ er s' I2 hq'
  | ok fl =>
    cases fl with
    | ret u =>
      obtain ⟨v, H2, os2, bare2, un2, hok2, rv, ev, d, fs, ea, ed, hd1, q3⟩ := hq'
      subst ev
      obtain ⟨h2, g2, d2, t2, os'⟩ := s'
      exact ⟨rv, mk_end (raises_own T.exC T.tyC) I1 hsz kk un2 hok2 os2 bare2 ea ed hd1 q3⟩
    | next => exact False.elim hq'
    | brk => exact False.elim hq'
    | cont => exact False.elim hq'
end
theorem XC.xf {K : PySem.W.Frag} {C : Addr} (T : XC K C) : XfC K C := ⟨T.ga, T.gg, T.exC, T.hd⟩
/-- isinstance(e, c), e the exception that the suite holds, its dict at d -/
def rIsF (K : PySem.W.Frag) (a : Addr) (cls : Value) (d : Option Addr) : List V → Hp → VK → Prop := fun xs H Q => ∃ (C dd : Addr) (fs : List (Str × V)) (c : V) (u : Value) (b : Bool), xs = [.ref a, c] ∧ ClsV c u ∧ XC K C ∧ cls = .ref C ∧ d = some dd ∧ H dd = some (.xd fs) ∧ PySem.W.kitOne K (.ref C) u = some b ∧ Q (.bl b) H
theorem call_isF {X : Cx} {a : Addr} {cls : Value} {d : Option Addr} {oe : Obj} {pn : List (Addr × Obj)} (hz : Zc cls d oe) (hf : ∃ vs, oe.data = .fields vs) : CallR (X.suite a ((a, oe) :: pn)) (.builtin "isinstance") (rIsF X.K a cls d) := by
  intro pins s σ H xs us Q I r h
  obtain ⟨C, dd, fs, c, u, b, rfl, k, T, ec, ed, ea, e, q⟩ := h
  obtain ⟨u1, u2, rfl, r1, r2⟩ := vals2 r
  have e2 := k.eq r2
  subst e2
  cases (show u1 = Value.ref a from r1)
  subst ec
  subst ed
  obtain ⟨hget, _⟩ := I.pin (a, oe) (List.mem_append.mpr (.inl List.mem_cons_self))
  obtain ⟨vs, hv⟩ := hf
  have hx : ObjOk X.prog X.w H s.heap dd (.xd fs) := I.hok dd _ ea
  obtain ⟨mA, ⟨od, es, ep, e1, hds, hre⟩, rel⟩ := hx
  have J : PySem.W.InstAt s.heap a oe C (some od) := ⟨hget, hz.1, by unfold PySem.W.notCls; rw [hv] <;> rfl, by rw [hz.2]; exact e1⟩
  exact PySem.W.kia_one (PySem.W.kitx_exc (od := some od) T.isCls T.ga T.gg T.exC T.ha T.hn T.ht T.hm) I.kIn J e (fun z => nomatch z) fun tk => ⟨.bl b, H, I.tok tk, rfl, q⟩
theorem takes_no {X : Cx} : Takes X (fun _ _ _ _ => False) := fun u s' h => by
  obtain ⟨_, _, _, _, _, _, _, _, _, _, _, _, _, _, _, _, w⟩ := h
  exact w.elim
end L2

end PE7
section Pq4R
set_option maxHeartbeats 4000000
namespace C4
open PySem PySem.Spec L2 PyProof.Rows
/-! ### a piece is judged; NumberMap(pieces) -/
theorem boot_isi2 : bootBuiltins "isinstance" = some (.builtin "isinstance") := by decide +kernel
abbrev nPiece : List Str := ["pieces", "position", "piece", "first", "last", "what"]
theorem sc_piece : FnScope nPiece ["pieces", "position"] (defScope s_is_piece) := ⟨rfl, rfl, rfl, by decide +kernel, rfl, by decide +kernel, by decide +kernel⟩
def spPiece : Sp := fun vs H Q _ => ∃ (L : Addr) (l : List Pc) (i : Nat), vs = [.ref L, .int i] ∧ PcsAt H L l ∧ chn none l ∧ i < l.length ∧ ∀ H', Same H H' → Q (.bl true) H'
theorem chn_prev {l : List Pc} {s : Option Int} {i : Nat} {p : Pc} (h : chn s l) (hi : l[i + 1]? = some p) : ∃ q e, l[i]? = some q ∧ q.2.1 = some e ∧ p.1 = some (e + 1) := by
  have il : i + 1 < l.length := (List.getElem?_eq_some_iff.mp hi).1
  have hq : l[i]? = some (l[i]'(by omega)) := List.getElem?_eq_getElem (by omega)
  generalize l[i]'(by omega) = q at hq
  cases z : q.2.1 with
  | none =>
    have := (chn_last h hq).mp z
    omega
  | some e =>
    obtain ⟨_, r, hr, r1⟩ := chn_next h hq z
    rw [hi] at hr
    cases hr
    exact ⟨q, e, hq, z, r1⟩
theorem or_num {K : PySem.W.Frag} {σ : L2.St} {H : Hp} {i : Nat} {o : Option Int} (e : σ[i]? = some (some (oV o))) (R : Bool → Hp → Prop) (r : ∀ H2, Same H H2 → R true H2) : tOr (tB (tIsN (tVar i))) (tB (tCall (spIsNumber K) [] E0 (tCons (tVar i) tNil))) σ H R := by
  refine ⟨_, e, _, rfl, ?_⟩
  cases o with
  | none =>
    refine (show (if decide (oV none = V.non) = true then _ else _) from ?_)
    rw [show decide (oV none = V.non) = true from decide_eq_true rfl, if_pos rfl]
    exact r H (Same.refl H)
  | some c =>
    refine (show (if decide (oV (some c) = V.non) = true then _ else _) from ?_)
    rw [show decide (oV (some c) = V.non) = false from decide_eq_false (fun z => nomatch z), if_neg (by decide)]
    refine ⟨_, e, ?_⟩
    exact ⟨.int c, .type "int", true, false, rfl, .base (.int c), kit_ty (show kitB "int" "int" = some true by decide +kernel), kit_ty (show kitB "int" "bool" = some false by decide +kernel), fun H2 s2 => ⟨true, rfl, r H2 s2⟩⟩
section
variable {P : Program} {w : World} {K : PySem.W.Frag} {mg : Str → Option Value} {base : Heap} {f fS fN fP fI C CI : Addr} {fd dS dN dP dI : FuncData}
theorem ok_piece (F : FD K "_is_piece" s_is_piece f fd) (T : TW mg) (tt : mg "tuple" = none) (S : Kn P w K mg base 2 "is_stretch" fS dS ["first", "last"] spStretch) (N : Kn P w K mg base 1 "is_number" fN dN ["value"] (spIsNumber K)) : FnOk P w K mg base CX0 3 f fd ["pieces", "position"] spPiece := by
  refine F.ok sc_piece (fun vs H Q E h => ?_) (fun cdv A outer s H vs Q E hr h => ?_)
  · obtain ⟨L, l, i, rfl, _⟩ := h
    rfl
  obtain ⟨L, l, i, rfl, hl, hc, il, q⟩ := h
  refine ⟨_, PSs.nox (pss_cons (ps_set (i := 2) sc_piece.nd rfl (Or.inl rfl) (pe_ix ix_seq (pv 0) (pv 1) (fun _ _ => rfl)))
    (pss_cons (ps_if (PW.pt (pw_or (pt_not (pt_val (pe_callB call_isi (by rfl) T.isi boot_isi (pa_cons (pv 2) (pa_cons (pe_bltn (v := .ty "tuple") (by rfl) tt (by decide +kernel) rfl) pa_nil))))) (pw_or1 (pt_cmpR op_ne (pe_callB call_len_seq (by rfl) T.len boot_len (pa_cons (pv 2) pa_nil)) pe_int (nomark _))))) pss_never pss_nil)
    (pss_cons (ps_asg (pv 2) (pg_tup (by rfl) (pgs_cons (pg_name (i := 3) sc_piece.nd rfl (Or.inl rfl)) (pgs_cons (pg_name (i := 4) sc_piece.nd rfl (Or.inl rfl)) (pgs_cons (pg_name (i := 5) sc_piece.nd rfl (Or.inl rfl)) pgs_nil)))))
    (pss_cons (ps_if (PW.pt (pw_or (pt_not (pt_val (pe_call S.f hr rfl S.m S.k S.b .nil pass0 (pa_cons (pv 3) (pa_cons (pv 4) pa_nil))))) (pw_or1 (pt_not (PW.pt (pw_or (pt_cmp (pc_isN (pv 5))) (pw_or1 (pt_val (pe_call N.f (hr.mono (by decide)) rfl N.m N.k N.b .nil pass0 (pa_cons (pv 5) pa_nil)))))))))) pss_never pss_nil)
    (pss_cons (ps_if (pt_cmpR op_ne (pe_cmp (pc_isN (pv 4)) rfl) (pe_cmpR op_eq (pv 1) (pe_op op_sub (pe_callB call_len_seq (by rfl) T.len boot_len (pa_cons (pv 0) pa_nil)) pe_int) (nomark _)) (nomark _)) pss_never pss_nil)
    (pss_cons (ps_if (pt_cmpR op_eq (pv 1) pe_int (nomark _)) (pss_one (ps_ret (pe_cmp (pc_isN (pv 3)) rfl))) pss_nil)
    (pss_one (ps_ret (pe_cmpR op_eq (pv 3) (pe_op op_add (pe_ix ix_tup (pe_ix ix_seq (pv 0) (pe_op op_sub (pv 1) pe_int) (fun _ _ => rfl)) pe_int (fun _ _ => rfl)) pe_int) (nomark _)))))))))), ?_⟩
  have hi : l[i]? = some (l[i]'il) := List.getElem?_eq_getElem il
  generalize l[i]'il = p at hi
  refine ⟨_, rfl, _, rfl, ix_pc hl hi fun t ht => ?_⟩
  refine ⟨_, rfl, .ref t, .ty "tuple", .type "tuple", _, true, rfl, .ty _, .base (.tup ht), kit_ty (by decide +kernel), true, rfl, ?_⟩
  refine (show (if (!true) = true then _ else _) from ?_)
  rw [if_neg (by decide)]
  refine ⟨_, rfl, t, _, rfl, .inr (SqT.of ht), rfl, false, ?_, ?_⟩
  · show V.bl (!decide (V.int ((([oV p.1, oV p.2.1, oV p.2.2] : List V).length : Nat) : Int) = V.int 3)) = V.bl false
    rw [decide_eq_true (by rfl)] <;> rfl
  refine (show (if false = true then _ else _) from ?_)
  rw [if_neg (by decide)]
  refine ⟨_, rfl, t, _, rfl, SqT.of ht, rfl, _, _, rfl, _, _, rfl, _, _, rfl, rfl, ?_⟩
  refine ⟨_, rfl, _, rfl, p.1, p.2.1, rfl, fun x y hx hy => (chn_next hc hi hy).1 x hx, fun H1 s1 => ⟨true, rfl, ?_⟩⟩
  refine (show (if (!true) = true then _ else _) from ?_)
  rw [if_neg (by decide)]
  refine or_num (i := 5) rfl _ fun H2 s2 => ?_
  refine (show (if (!true) = true then _ else _) from ?_)
  rw [if_neg (by decide)]
  have z2 := s1.trans s2
  obtain ⟨xs, hx, hxl⟩ := (hl.same z2).len (K := K)
  refine ⟨_, rfl, _, rfl, _, rfl, L, xs, rfl, hx, _, _, rfl, rfl, rfl, rfl, false, ?_, ?_⟩
  · show V.bl (!decide (V.bl (decide (oV p.2.1 = V.non)) = V.bl (decide (V.int i = V.int ((xs.length : Int) - 1))))) = V.bl false
    have e1 : decide (oV p.2.1 = V.non) = decide (V.int (i : Int) = V.int ((xs.length : Int) - 1)) := by
      rw [oV_none]
      refine decide_eq_decide.mpr ((chn_last hc hi).trans ⟨fun z => ?_, fun z => ?_⟩)
      · rw [hxl, ← z]
        exact congrArg V.int (by omega)
      · have := V.int.inj z
        omega
    rw [e1, decide_eq_true rfl] <;> rfl
  refine (show (if false = true then _ else _) from ?_)
  rw [if_neg (by decide)]
  refine ⟨_, rfl, rfl, _, rfl, ?_⟩
  refine ite2 (fun h => ?_) (fun h => ?_)
  · have e0 : i = 0 := by
      have := V.int.inj (of_decide_eq_true h)
      omega
    subst e0
    refine ⟨_, rfl, ?_⟩
    have ef : p.1 = none := chn_fst hc hi
    show Q (V.bl (decide (oV p.1 = V.non))) H2
    rw [ef, show decide (oV none = V.non) = true from decide_eq_true rfl]
    exact q _ z2
  · have i0 : i ≠ 0 := fun z => h (decide_eq_true (by rw [z]; rfl))
    obtain ⟨k, rfl⟩ : ∃ k, i = k + 1 := ⟨i - 1, by omega⟩
    obtain ⟨r, e, hr', re, pe⟩ := chn_prev hc hi
    refine ⟨_, rfl, _, rfl, _, rfl, ((k + 1 : Nat) : Int), 1, rfl, rfl, ?_⟩
    show rIx K (.ref L) (V.int (((k + 1 : Nat) : Int) - 1)) H2 _
    rw [show (((k + 1 : Nat) : Int) - 1) = ((k : Nat) : Int) by omega]
    refine ix_pc (hl.same z2) hr' fun t2 ht2 => ?_
    refine ⟨t2, _, _, _, rfl, rfl, SqT.of ht2, rfl, ?_⟩
    rw [re]
    refine ⟨e, 1, rfl, rfl, ?_⟩
    rw [pe]
    refine ⟨rfl, ?_⟩
    show Q (V.bl (decide (V.int (e + 1) = V.int (e + 1)))) H2
    rw [decide_eq_true rfl]
    exact q _ z2
end
end C4

end Pq4R
section Pq4S
set_option maxHeartbeats 4000000
namespace C4
open PySem L2
/-! ### the object of a map of numbers; NumberMap(pieces) -/
def inCls (s : Stmt) (i : Nat) : Stmt := match s with
  | .ClassDef _ _ _ body .. => body.getD i (.Pass ⟨0, 0, 0, 0⟩)
  | _ => .Pass ⟨0, 0, 0, 0⟩
abbrev FM (K : PySem.W.Frag) (x q : Str) (st : Stmt) (f : Addr) (fd : FuncData) : Prop := FunD K x q (defArgs st) (defBody st) (defScope st) [] [] f fd
abbrev s_initIV : Stmt := inCls (top 3) 0
abbrev s_initIM : Stmt := inCls (top 5) 0
abbrev s_ninit : Stmt := inCls (top 37) 1
abbrev s_nsame : Stmt := inCls (top 37) 2
abbrev s_nconst : Stmt := inCls (top 37) 3
abbrev s_ncut : Stmt := inCls (top 37) 4
abbrev s_nreset : Stmt := inCls (top 37) 5
abbrev s_npieces : Stmt := inCls (top 37) 6
abbrev s_nrepr : Stmt := inCls (top 37) 8
abbrev s_nresult : Stmt := inCls (top 37) 9
abbrev s_ncontent : Stmt := match top 37 with
  | .ClassDef _ _ _ body .. => body.getLastD (.Pass ⟨0, 0, 0, 0⟩)
  | _ => .Pass ⟨0, 0, 0, 0⟩
abbrev s_kind : Stmt := inCls (top 36) 1
abbrev s_mat : Stmt := inCls (top 36) 2
abbrev s_meq : Stmt := inCls (top 36) 8
def spXI (K : PySem.W.Frag) (f : Str) : Sp := fun vs H Q _ => ∃ (a C : Addr) (y : V), vs = [.ref a, y] ∧ XC K C ∧ PySem.W.findIn K (.ref C) f = some none ∧ H a = some (exo a C none) ∧ ∀ dx, H dx = none → dx ≠ a → Q .non (upd (upd H dx (exd dx [(f, y)])) a (exo a C (some dx)))
theorem sc_initIV : FnScope ["self", "value"] ["self", "value"] (defScope s_initIV) := ⟨rfl, rfl, rfl, by decide +kernel, rfl, by decide +kernel, by decide +kernel⟩
theorem sc_initIM : FnScope ["self", "position"] ["self", "position"] (defScope s_initIM) := ⟨rfl, rfl, rfl, by decide +kernel, rfl, by decide +kernel, by decide +kernel⟩
/-- what is known of the exception classes -/
structure XcO (P : Program) (w : World) (K : PySem.W.Frag) (mg : Str → Option Value) (base : Heap) (C fI : Addr) (dI : FuncData) (xn f : Str) : Prop where
  x : XC K C
  i : PySem.W.findIn K (.ref C) "__init__" = some (some (.ref fI))
  t : PySem.W.typeIn K (.ref fI) = some (.type "function")
  m : mg xn = some (.ref C)
  no : PySem.W.findIn K (.ref C) f = some none
  g : FnOk P w K mg base CX0 1 fI dI ["self", f] (spXI K f)
  b : KBn K dI ["self", f] 2 [] (fun us _ => us) (fun us _ => us)
theorem xraise {K : PySem.W.Frag} {σ : St} {H : Hp} {i : Nat} {C : Addr} {f : Str} {y : V} (T : XC K C) (no : PySem.W.findIn K (.ref C) f = some none) (h : σ[i]? = some (some y)) {Q : XK} (q : ∀ dx H2, Same H H2 → H2 dx = some (.xd [(f, y)]) → Q (.ref C) (some dx) H2) :
    tXr C 1 (spXI K f) (fun us _ => us) (tCons (tVar i) tNil) σ H Q :=
  ⟨y, h, rfl, fun a ha => ⟨a, C, y, rfl, T, no, upd_same, fun dx hd ne => by
    have hx : H dx = none := by rw [← hd, upd_ne ne]
    refine ⟨rfl, dx, _, upd_same, by rw [upd_ne ne, upd_same], hx, q dx _ (fun b o e => ?_) upd_same⟩
    have hb : b ≠ a := ne_of_none e ha
    have hc : b ≠ dx := ne_of_none e hx
    rw [upd_ne hc, del_ne hb, upd_ne hb, upd_ne hc, upd_ne hb]
    exact e⟩⟩
section
variable {P : Program} {w : World} {K : PySem.W.Frag} {mg : Str → Option Value} {base : Heap} {f : Addr} {fd : FuncData}
theorem ok_initIV (F : FM K "__init__" "InvalidValue.__init__" s_initIV f fd) : FnOk P w K mg base CX0 1 f fd ["self", "value"] (spXI K "value") := by
  refine F.ok sc_initIV (fun vs H Q E h => ?_) (fun cdv A outer s H vs Q E hr h => ?_)
  · obtain ⟨a, C, y, rfl, _⟩ := h
    rfl
  obtain ⟨a, C, y, rfl, T, no, e, q⟩ := h
  exact ⟨_, PSs.nox (pss_one (ps_xst (pv 0) (pv 1))), _, rfl, _, rfl, a, C, rfl, T, no, .inl ⟨e, q⟩⟩
theorem ok_initIM (F : FM K "__init__" "InvalidMap.__init__" s_initIM f fd) : FnOk P w K mg base CX0 1 f fd ["self", "position"] (spXI K "position") := by
  refine F.ok sc_initIM (fun vs H Q E h => ?_) (fun cdv A outer s H vs Q E hr h => ?_)
  · obtain ⟨a, C, y, rfl, _⟩ := h
    rfl
  obtain ⟨a, C, y, rfl, T, no, e, q⟩ := h
  exact ⟨_, PSs.nox (pss_one (ps_xst (pv 0) (pv 1))), _, rfl, _, rfl, a, C, rfl, T, no, .inl ⟨e, q⟩⟩
end
structure NMc (K : PySem.W.Frag) (C : Addr) : Prop where
  cl : Cls K C
  nP : NoAttr K C "_pieces"
/-- at m: a map of numbers of the class at C with these normal pieces -/
def NMap (C : Addr) (H : Hp) (m : Addr) (n : List Pc) : Prop := ∃ dx u, H m = some (.ins C dx [("_pieces", .ref u)]) ∧ TupAt H u n
theorem NMap.same {C : Addr} {H H' : Hp} {m : Addr} {n : List Pc} (s : Same H H') (h : NMap C H m n) : NMap C H' m n := by
  obtain ⟨dx, u, a, b⟩ := h
  exact ⟨dx, u, s _ _ a, b.same s⟩
def spNInit (C : Addr) : Sp := fun vs H Q _ => ∃ (m dx L : Addr) (l : List Pc), vs = [.ref m, .ref L] ∧ H m = some (.ins C dx []) ∧ PcsAt H L l ∧ chn none l ∧ l.length ≤ 1000 ∧
  ∀ H' u n, Nrm (evalP l) none n → n.length ≤ l.length → H' m = some (.ins C dx [("_pieces", .ref u)]) → TupAt H' u n → Bt m H H' → Q .non H'
theorem sc_ninit : FnScope ["self", "pieces", "position"] ["self", "pieces"] (defScope s_ninit) := ⟨rfl, rfl, rfl, by decide +kernel, rfl, by decide +kernel, by decide +kernel⟩
section
variable {P : Program} {w : World} {K : PySem.W.Frag} {mg : Str → Option Value} {base : Heap} {f fN fP : Addr} {fd dN dP : FuncData}
theorem ok_ninit (F : FM K "__init__" "NumberMap.__init__" s_ninit f fd) (T : TW mg) (tt : mg "tuple" = none) (tl : mg "list" = none) (tr : mg "range" = none) {C : Addr} (N : NMc K C) (IP : Kn P w K mg base 3 "_is_piece" fP dP ["pieces", "position"] spPiece) (NP : Kn P w K mg base 3 "_normal_pieces" fN dN ["pieces"] spPieces) :
    FnOk P w K mg base CX0 4 f fd ["self", "pieces"] (spNInit C) := by
  refine F.ok sc_ninit (fun vs H Q E h => ?_) (fun cdv A outer s H vs Q E hr h => ?_)
  · obtain ⟨m, dx, L, l, rfl, _⟩ := h
    rfl
  obtain ⟨m, dx, L, l, rfl, hm, hl, hc, hlen, q⟩ := h
  refine ⟨_, PSs.nox (pss_cons (ps_if (PW.pt (pw_or (pt_not (pt_val (pe_callB call_isiT (by rfl) T.isi boot_isi (pa_cons (pv 1) (pa_cons (pe_tup (pa_cons (pe_bltn (v := .ty "list") (by rfl) tl (by decide +kernel) rfl) (pa_cons (pe_bltn (v := .ty "tuple") (by rfl) tt (by decide +kernel) rfl) pa_nil))) pa_nil))))) (pw_or1 (pt_cmpR op_eq (pe_callB call_len_seq (by rfl) T.len boot_len (pa_cons (pv 1) pa_nil)) pe_int (nomark _))))) pss_never pss_nil)
    (pss_cons (ps_for .never (by rfl) (pi_range1 rfl tr (pa_cons (pe_callB call_len_seq (by rfl) T.len boot_len (pa_cons (pv 1) pa_nil)) pa_nil)) (pg_name (i := 2) sc_ninit.nd rfl (Or.inl rfl)) (pss_one (ps_if (pt_not (pt_val (pe_call IP.f hr rfl IP.m IP.k IP.b .nil pass0 (pa_cons (pv 1) (pa_cons (pv 2) pa_nil))))) pss_never pss_nil)))
    (pss_one (ps_fld (pv 0) (pe_call NP.f hr rfl NP.m NP.k NP.b .nil pass0 (pa_cons (pv 1) pa_nil)) rfl)))), ?_⟩
  refine ⟨_, rfl, by show 2 ≤ sizeLine; decide, fun p hp' => ?_⟩
  have s1 : Same H (upd H p (.tup [.ty "list", .ty "tuple"])) := same_upd hp'
  have e1 : PySem.W.kitOne K (.type "list") (.type "list") = some true := kit_ty (by decide +kernel)
  have e2 : PySem.W.kitOne K (.type "tuple") (.type "list") = some false := kit_ty (by decide +kernel)
  have e3 : PySem.W.kitOne K (.type "tuple") (.type "tuple") = some true := kit_ty (by decide +kernel)
  have hp1 : (upd H p (.tup [.ty "list", .ty "tuple"])) p = some (.tup [.ty "list", .ty "tuple"]) := upd_same
  have hm1 := s1 _ _ hm
  have hl1 := hl.same s1
  generalize upd H p (.tup [.ty "list", .ty "tuple"]) = H1 at s1 hp1 hm1 hl1 ⊢
  have isok : ∃ t, TyX K H1 (.ref L) t ∧ PySem.W.kitAny K t [.type "list", .type "tuple"] = some true := by
    obtain ⟨ts, a, _⟩ := hl1
    rcases a with a | a
    · refine ⟨_, .base (.lst a), ?_⟩
      show (match PySem.W.kitOne K (.type "list") (.type "list") with | some true => some true | some false => (match PySem.W.kitOne K (.type "list") (.type "tuple") with | some true => some true | some false => some false | none => none) | none => none) = some true
      rw [e1]
    · refine ⟨_, .base (.tup a), ?_⟩
      show (match PySem.W.kitOne K (.type "tuple") (.type "list") with | some true => some true | some false => (match PySem.W.kitOne K (.type "tuple") (.type "tuple") with | some true => some true | some false => some false | none => none) | none => none) = some true
      rw [e2, e3]
  obtain ⟨t, ty, kt⟩ := isok
  refine ⟨.ref L, p, _, t, [.type "list", .type "tuple"], true, rfl, hp1, .cons (.ty _) (.cons (.ty _) .nil), ty, kt, true, rfl, ?_⟩
  refine (show (if (!true) = true then _ else _) from ?_)
  rw [if_neg (by decide)]
  obtain ⟨xs, hx, hxl⟩ := hl1.len (K := K)
  have l0 : 0 < l.length := List.length_pos_iff.mpr (chn_ne hc)
  refine ⟨_, rfl, L, xs, rfl, hx, rfl, false, ?_, ?_⟩
  · show V.bl (decide (V.int (xs.length : Int) = V.int 0)) = V.bl false
    rw [decide_eq_false (by intro e; have := V.int.inj e; omega)]
  refine (show (if false = true then _ else _) from ?_)
  rw [if_neg (by decide)]
  refine ⟨_, rfl, L, xs, rfl, hx, _, rfl, (by omega), (by omega), ?_⟩
  refine for_range (lo := 0) (n := xs.length) (fun i σ' H' => (∃ x : Option V, σ' = [some (.ref m), some (.ref L), x]) ∧ Same H1 H') ⟨⟨none, rfl⟩, Same.refl _⟩ (fun i σ' H2 hi ⟨⟨x, e⟩, z⟩ => ?_) (fun σ' H2 ⟨⟨x, e⟩, z⟩ => ?_)
  · subst e
    refine ⟨_, rfl, _, rfl, L, l, i, ?_, hl1.same z, hc, by omega, fun H3 s3 => ⟨true, rfl, ?_⟩⟩
    · rw [Int.zero_add] <;> rfl
    refine (show (if (!true) = true then _ else _) from ?_)
    rw [if_neg (by decide)]
    exact ⟨⟨_, rfl⟩, z.trans s3⟩
  · subst e
    refine ⟨_, rfl, L, l, rfl, hl1.same z, hc, hlen, fun u n H3 hn hle s3 tu => ?_⟩
    refine ⟨_, rfl, m, C, dx, _, rfl, s3 _ _ (z _ _ hm1), N.cl, N.nP, by decide, ?_⟩
    have nu : ∀ c xs, H3 c = some (HO.tup xs) → (upd H3 m (.ins C dx [("_pieces", .ref u)])) c = some (HO.tup xs) := fun c xs e => by
      have n : c ≠ m := fun y => by
        rw [y, s3 _ _ (z _ _ hm1)] at e
        cases e
      rw [upd_ne n]
      exact e
    refine q _ u n hn hle upd_same ?_ fun b o nb eb => ?_
    · obtain ⟨ts, a, b⟩ := tu
      exact ⟨ts, nu _ _ a, b.mono fun t p e => nu _ _ e⟩
    · rw [upd_ne nb]
      exact s3 _ _ (z _ _ (s1 _ _ eb))
end
end C4

end Pq4S
section PG11x
set_option maxHeartbeats 4000000
namespace PySem.W
open PySem PySem.Calls PyProof.Rows Builtin
section
variable {prog : Program} {w : World} {A : Around} {E : Value → Shared → Prop} {s : Shared} {K : Frag} {x C f : Addr} {ox : Obj} {od : Option Obj} {b tb : Value}
/-- a != b where the class has an own __eq__ alone -/
theorem cmp_notEq {Q : Value → Shared → Prop} (hu : A.units + 1 < cLine) (X : K.In s.heap) (I : InstAt s.heap x ox C od) (hb : Looks (model prog w) s.heap (typeOf b) tb) (hn : notFirst K C tb = true) (hne : findIn K (.ref C) "__ne__" = some (some (.builtin "object.__ne__")))
    (hob : mroIn K C (.type "object") = some true) (hs : findIn K (.ref C) "__eq__" = some (some (.ref f))) (hf : isFn K (.ref f) = true) (h : wpAny (model prog w) A.in1 (call (.ref f) [.ref x, b]) (fun v s' => ∃ k, v = .bool k ∧ Q (.bool (!k)) s') E s) :
    wpAny (model prog w) A (richCompare .NotEq (.ref x) b) Q E s := by
  have run : wpAny (model prog w) A (call (.builtin "object.__ne__") [.ref x, b]) (fun v s' => ∃ k, v = .bool k ∧ Q (.bool k) s') E s := by
    refine wpAny_call (codeAny_call_builtin PySem.F.cmp_object.ne.plain PySem.F.cmpEntry_ne (check_slot PySem.F.cmpKind_ne PySem.F.cmpSplit_ne (I.type.andThen (looks_mroIn X hob)) (PySem.F.cmpArgs_ne _ _) ?_))
    unfold Builtin.«object.__ne__»
    refine wpAny_bind (m := slotArgs "__ne__" 1 _) (wpAny_pure ?_)
    refine wpAny_bind (m := cRoomFor _ _) (wpAny_cRoomFor (show A.in1.units < cLine from hu) ?_)
    refine wpAny_bind (m := callSpecialIfBound? (.ref x) "__eq__" _) (ifBound_K X I hs hf (wpAny_mono h (fun v s' hv => ?_) fun _ _ e => e))
    obtain ⟨k, rfl, q⟩ := hv
    exact wpAny_bind (wpAny_truthy_bool (wpAny_pure ⟨!k, rfl, q⟩))
  have one : wpAny (model prog w) A (tryCompare (.ref x) "__ne__" b) (fun r s' => ∃ k, r = some (.bool k) ∧ Q (.bool k) s') E s := by
    unfold tryCompare
    refine wpAny_bind ?_
    simp only [callSpecialIfBound?, bindSpecialIfBound?]
    refine wpAny_holding (wpAny_bind (wpAny_bind (wpAny_bind (I.type.here ((looks_findIn X hne).here ?_)))))
    refine wpAny_bind (wpAny_askSetting (wpAny_ite ?_))
    have fin : ∀ Q2 : Option Value → Shared → Prop, (∀ s' k, Q (.bool k) s' → Q2 (some (.bool k)) s') → wpAny (model prog w) A (call (.builtin "object.__ne__") ([.ref x] ++ [b]) >>= fun v => pure (some v)) Q2 E s := fun Q2 q2 => by
      refine wpAny_bind (wpAny_mono run (fun v s' hv => ?_) fun _ _ e => e)
      obtain ⟨k, rfl, q⟩ := hv
      exact wpAny_pure (q2 s' k q)
    split
    · exact wpAny_bind ((Looks.of_pure (PySem.F.cmp_object.ne.bind _)).here (wpAny_pure (by exact fin _ fun s' k q => wpAny_pure ⟨k, rfl, q⟩)))
    · exact wpAny_tryCatch (wpAny_bind ((Looks.of_pure (PySem.F.cmp_object.ne.bind _)).here (wpAny_pure (by exact fin _ fun s' k q => wpAny_pure ⟨k, rfl, q⟩))))
  unfold richCompare
  simp only [oneThing_ref]
  refine wpAny_holding (wpAny_bind (wpAny_cRoomFor (Nat.lt_of_succ_lt hu) ?_))
  refine wpAny_bind (I.type.here (wpAny_bind (hb.here ?_)))
  split
  · rename_i q
    have e : subIn K tb (.ref C) = some false := by
      rcases Bool.or_eq_true_iff.mp hn with e | e
      · rw [beq_iff_eq.mp e] at q
        simp at q
      · exact beq_iff_eq.mp e
    refine wpAny_bind ((looks_subIn X e).here ?_)
    simp only [Bool.false_eq_true, if_false]
    refine wpAny_bind (wpAny_mono one (fun r s' z => ?_) fun _ _ e => e)
    obtain ⟨v, rfl, hq⟩ := z
    exact wpAny_pure hq
  · refine wpAny_bind (wpAny_pure ?_)
    simp only [Bool.false_eq_true, if_false]
    refine wpAny_bind (wpAny_mono one (fun r s' z => ?_) fun _ _ e => e)
    obtain ⟨v, rfl, hq⟩ := z
    exact wpAny_pure hq
end
end PySem.W

namespace L2
open PySem PySem.Spec PyProof.Rows
/-- what the written part says of a class with an own __eq__ at f -/
structure EqO (K : PySem.W.Frag) (C f : Addr) : Prop where
  eq : PySem.W.findIn K (.ref C) "__eq__" = some (some (.ref f))
  fn : PySem.W.isFn K (.ref f) = true
  ne : PySem.W.findIn K (.ref C) "__ne__" = some (some (.builtin "object.__ne__"))
  ob : PySem.W.mroIn K C (.type "object") = some true
/-- the other side of a comparison: an instance, a list, a tuple, a dict, a text -/
def OthV (K : PySem.W.Frag) (C : Addr) (H : Hp) (y : V) : Prop := (∃ b, y = .ref b ∧ ((∃ C' dy gs, H b = some (.ins C' dy gs) ∧ PySem.W.notFirst K C (.ref C') = true) ∨ (∃ xs, H b = some (.lst xs) ∧ PySem.W.notFirst K C (.type "list") = true) ∨ (∃ xs, H b = some (.tup xs) ∧ PySem.W.notFirst K C (.type "tuple") = true) ∨ ∃ ks, H b = some (.dK ks) ∧ PySem.W.notFirst K C (.type "dict") = true)) ∨ ∃ z, y = .str z ∧ PySem.W.notFirst K C (.type "str") = true
section
variable {X : Cx} {pins : List (Addr × Obj)} {σ : St} {H : Hp} {s : Shared} {C f : Addr} {fd : FuncData} {ps : List Str} {sp : Sp} {k : Nat} {u : Value} {y : V}
theorem OthV.looks (I : Inv X pins σ H s) (h : OthV X.K C H y) (r : RelV y u) : ∃ tb, PySem.W.Looks (model X.prog X.w) s.heap (typeOf u) tb ∧ PySem.W.notFirst X.K C tb = true := by
  rcases h with ⟨b, rfl, h⟩ | ⟨z, rfl, n⟩
  · cases (show u = Value.ref b from r)
    rcases h with ⟨C', dy, gs, e, n⟩ | ⟨xs, e, n⟩ | ⟨xs, e, n⟩ | ⟨ks, e, n⟩
    · obtain ⟨mA, J, _⟩ := ins_get I.hok e
      obtain ⟨od, J, _⟩ := J.look
      exact ⟨_, J.type, n⟩
    · obtain ⟨_, its, k, rv, o⟩ := (show ObjOk X.prog X.w H s.heap b (.lst xs) from I.hok b _ e)
      exact ⟨_, fun A Q E s' kp q => wpAny_typeOf ⟨_, kp _ _ o, rfl⟩ q, n⟩
    · obtain ⟨_, its, rv, o, h1, h2, _⟩ := (show ObjOk X.prog X.w H s.heap b (.tup xs) from I.hok b _ e)
      exact ⟨_, fun A Q E s' kp q => wpAny_typeOf ⟨_, kp _ _ h1, h2⟩ q, n⟩
    · obtain ⟨_, _, vs, _, o, es, ep, h1, h2, _⟩ := (show ObjOk X.prog X.w H s.heap b (.dK ks) from I.hok b _ e)
      exact ⟨_, fun A Q E s' kp q => wpAny_typeOf ⟨_, kp _ _ h1, h2.1⟩ q, n⟩
  · obtain ⟨t, rfl⟩ := (show ∃ t, u = Value.str z t from r)
    exact ⟨.type "str", fun A Q E s' kp q => wpAny_typeOf rfl q, n⟩
/-- the own method's run, somewhere below the body -/
theorem own_run {A : Around} {E : Value → Shared → Prop} {Q : VK} {us : List Value} {vs : List V} (F : FnOk X.prog X.w X.K X.mg X.base CX0 k f fd ps sp) (hb : Binds X.K fd ps []) (hr : Room k A) (fr : A.frames = X.A.frames) (I : Inv X pins σ H s) (r : Vals vs us) (h : sp vs H Q E0) :
    wpAny (model X.prog X.w) A (call (.ref f) us) (EP X pins σ Q) E s := by
  have e0 : Env0 X.prog X.w X.K X.mg X.base A X.stack s H := by
    have e := I.env0
    exact ⟨by rw [fr]; exact e.frames, e.mod, e.bs, e.bsz, e.funs, e.frf, e.hok, e.bare⟩
  have hl : us.length = ps.length := r.length.symm.trans (F.len _ _ _ _ h)
  refine wpAny_call (codeAny_mono (F.run A X.stack s H ⟨us, []⟩ us vs Q E0 hr e0 (by
    have z := hb s us I.kIn (by simpa using hl)
    simpa using z) r h) fun r s' hq => ?_)
  cases r with
  | error e => exact (show False from hq).elim
  | ok fl =>
    cases fl with
    | ret w => exact I.after hq
    | next => exact False.elim hq
    | brk => exact False.elim hq
    | cont => exact False.elim hq
/-- .. where the guards are told -/
theorem own_runG {A : Around} {E : Value → Shared → Prop} {Q : VK} {us : List Value} {vs : List V} (F : FnG X.prog X.w X.K X.mg X.base CX0 k f fd ps sp) (hG : A.guards = some []) (hb : Binds X.K fd ps []) (hr : Room k A) (fr : A.frames = X.A.frames) (I : Inv X pins σ H s) (r : Vals vs us) (h : sp vs H Q E0) :
    wpAny (model X.prog X.w) A (call (.ref f) us) (EP X pins σ Q) E s := by
  have e0 : Env0 X.prog X.w X.K X.mg X.base A X.stack s H := by
    have e := I.env0
    exact ⟨by rw [fr]; exact e.frames, e.mod, e.bs, e.bsz, e.funs, e.frf, e.hok, e.bare⟩
  have hl : us.length = ps.length := r.length.symm.trans (F.len _ _ _ _ h)
  refine wpAny_call (codeAny_mono (F.run A X.stack s H ⟨us, []⟩ us vs Q E0 hG hr e0 (by
    have z := hb s us I.kIn (by simpa using hl)
    simpa using z) r h) fun r s' hq => ?_)
  cases r with
  | error e => exact (show False from hq).elim
  | ok fl =>
    cases fl with
    | ret w => exact I.after hq
    | next => exact False.elim hq
    | brk => exact False.elim hq
    | cont => exact False.elim hq
end
/-- a == b, a != b by the own __eq__ of a's class -/
def rEqO (K : PySem.W.Frag) (C : Addr) (sp : Sp) (neg : Bool) : R2 := fun x y H Q => ∃ a dx fs, x = .ref a ∧ H a = some (.ins C dx fs) ∧ OthV K C H y ∧ sp [.ref a, y] H (fun v H' => ∃ k, v = .bl k ∧ Q (.bl (if neg = true then !k else k)) H') E0
section
variable {X : Cx} {C f : Addr} {fd : FuncData} {ps : List Str} {sp : Sp} {k : Nat}
theorem frames_in1 {A : Around} : A.in1.frames = A.frames := by rfl
theorem guards_in1 {A : Around} (h : A.guards = some []) : A.in1.guards = some [] := by
  have e : A.in1.guards = A.guards := by rfl
  rw [e, h]
theorem op_eqO (T : EqO X.K C f) (F : FnOk X.prog X.w X.K X.mg X.base CX0 k f fd ps sp) (hb : Binds X.K fd ps []) (hr : Room k X.A) : OpR X (compareOp .Eq) (rEqO X.K C sp false) := by
  intro pins s σ H x y v u Q I rx ry h
  obtain ⟨a, dx, fs, rfl, ea, oy, q⟩ := h
  cases (show v = Value.ref a from rx)
  obtain ⟨mA, J, _⟩ := ins_get I.hok ea
  obtain ⟨od, J, _⟩ := J.look
  obtain ⟨tb, hl, hn⟩ := oy.looks I ry
  obtain ⟨m, hF⟩ := I.fr
  refine PySem.W.cmp_K (op := .Eq) hr.units0 hF I.ok.mod.kin J hl hn T.eq T.fn ?_
  refine wpAny_mono (own_run (vs := [.ref a, y]) F hb hr rfl I (.cons rfl (.cons ry .nil)) q) (fun r s' hq => ?_) fun _ _ e => e
  obtain ⟨z, H', I', rz, kk, ez, q2⟩ := hq
  subst ez
  cases (show r = Value.bool kk from rz)
  exact ⟨.bl kk, H', I', rfl, q2⟩
theorem op_neO (T : EqO X.K C f) (F : FnOk X.prog X.w X.K X.mg X.base CX0 k f fd ps sp) (hb : Binds X.K fd ps []) (hr : Room (k + 1) X.A) : OpR X (compareOp .NotEq) (rEqO X.K C sp true) := by
  intro pins s σ H x y v u Q I rx ry h
  obtain ⟨a, dx, fs, rfl, ea, oy, q⟩ := h
  cases (show v = Value.ref a from rx)
  obtain ⟨mA, J, _⟩ := ins_get I.hok ea
  obtain ⟨od, J, _⟩ := J.look
  obtain ⟨tb, hl, hn⟩ := oy.looks I ry
  refine PySem.W.cmp_notEq (hr.in1.units0) I.kIn J hl hn T.ne T.ob T.eq T.fn ?_
  refine wpAny_mono (own_run (vs := [.ref a, y]) F hb hr.in1 frames_in1 I (.cons rfl (.cons ry .nil)) q) (fun r s' hq => ?_) fun _ _ e => e
  obtain ⟨z, H', I', rz, kk, ez, q2⟩ := hq
  subst ez
  cases (show r = Value.bool kk from rz)
  exact ⟨kk, rfl, .bl (!kk), H', I', rfl, q2⟩
/-- repr(a) by the own __repr__ of a's class -/
def rReprO (C : Addr) (sp : Sp) : List V → Hp → VK → Prop := fun xs H Q => ∃ a dx fs, xs = [.ref a] ∧ H a = some (.ins C dx fs) ∧ sp [.ref a] H (fun v H' => ∃ z : Str, v = .str z ∧ Q (.str z) H') E0
theorem call_reprO (hs : PySem.W.findIn X.K (.ref C) "__repr__" = some (some (.ref f))) (hf : PySem.W.isFn X.K (.ref f) = true) (F : FnG X.prog X.w X.K X.mg X.base CX0 k f fd ps sp) (hG : X.A.guards = some []) (hb : Binds X.K fd ps []) (hr : Room (k + 1) X.A) :
    CallR X (.builtin "repr") (rReprO C sp) := by
  intro pins s σ H xs us Q I r h
  obtain ⟨a, dx, fs, rfl, ea, q⟩ := h
  rw [Vals.ref1 r]
  obtain ⟨mA, J, _⟩ := ins_get I.hok ea
  obtain ⟨od, J, _⟩ := J.look
  obtain ⟨m, hF⟩ := I.fr
  refine PySem.W.repr_K (hr.in1.units0) hF I.ok.mod.kin J hs hf ?_
  refine wpAny_mono (own_runG (vs := [.ref a]) F (guards_in1 hG) hb hr.in1 frames_in1 I (.cons rfl .nil) q) (fun r s' hq => ?_) fun _ _ e => e
  obtain ⟨z, H', I', rz, zz, ez, q2⟩ := hq
  subst ez
  obtain ⟨t, ez⟩ := (show ∃ t, r = Value.str zz t from rz)
  subst ez
  exact ⟨.str zz, H', I', ⟨t, rfl⟩, q2⟩
end
/-- {x!r}: data -/
def tFmtD (te : TE) : TE := fun σ H Q => te σ H fun x H1 => ∃ d : PyData, Rp H1 x d ∧ d.showable = true ∧ d.shown.length ≤ sizeLine ∧ d.depth ≤ 60 ∧ Q (.str d.shown) H1
theorem pe_fmtD {X : Cx} {e : Expr} {te : TE} {pos : Pos} (hg : X.A.guards = some []) (hu : X.A.units + 64 < cLine) (hK : noMods X.K = true) (he : PE X e te) : PE X (.FormattedValue e 114 none pos) (tFmtD te) := by
  refine ⟨fun pins s σ H Q I h => ?_⟩
  refine wpAny_FormattedValue_repr (thn (he.run pins s σ H _ I h) fun v s1 hv => ?_)
  obtain ⟨x, H1, I1, r1, d, hr, hs, hl, hd, q⟩ := hv
  have fin : ∀ (s2 : Shared) (tk : Nat), Inv X pins σ H1 s2 → wpAny (model X.prog X.w) X.A (formatField (.str d.shown tk) Str.empty) (EP X pins σ Q) X.xe s2 := fun s2 tk I2 => wpAny_formatField_str ⟨.str d.shown, H1, I2, ⟨_, rfl⟩, q⟩ ⟨.str d.shown, H1, I2.tok _, ⟨_, rfl⟩, q⟩ hl
  cases hr with
  | non =>
    cases (show v = Value.none from r1)
    exact pyReprObj_none (fin _ _ (I1.tok _))
  | bl b =>
    cases (show v = Value.bool b from r1)
    exact pyReprObj_bool (fin _ _ (I1.tok _))
  | int i =>
    obtain ⟨t, z⟩ := (show ∃ t, v = Value.int i t from r1)
    cases z
    exact pyReprObj_int (by simpa [PyData.showable] using hs) (fin _ _ (I1.tok _))
  | str x =>
    obtain ⟨t, z⟩ := (show ∃ t, v = Value.str x t from r1)
    cases z
    exact pyReprObj_str (fin _ _ (I1.tok _)) hl
  | lst h k =>
    obtain ⟨as, w, no⟩ := Rp.reads I1 (noMods_ok I1 hK) (.lst h k) r1
    cases (show v = Value.ref _ from r1)
    exact pyReprObj_of_reads w hs (fun _ => no) hg (by omega) (fun _ _ e => e) (fun h' t tk kp => fin _ _ (I1.kept (t' := tk) kp)) hl
  | tup h k =>
    obtain ⟨as, w, no⟩ := Rp.reads I1 (noMods_ok I1 hK) (.tup h k) r1
    cases (show v = Value.ref _ from r1)
    exact pyReprObj_of_reads w hs (fun _ => no) hg (by omega) (fun _ _ e => e) (fun h' t tk kp => fin _ _ (I1.kept (t' := tk) kp)) hl
  | dic h k =>
    obtain ⟨as, w, no⟩ := Rp.reads I1 (noMods_ok I1 hK) (.dic h k) r1
    cases (show v = Value.ref _ from r1)
    exact pyReprObj_of_reads w hs (fun _ => no) hg (by omega) (fun _ _ e => e) (fun h' t tk kp => fin _ _ (I1.kept (t' := tk) kp)) hl
end L2

namespace L2
open PySem PySem.Spec PyProof.Rows
/-- C(..), C in the i-th slot -/
def tMakeL (i : Nat) (C : Addr) (sp : Sp) (dvs : List V) (E : XK) (t : TA) : TE := fun σ H Q => σ[i]? = some (some (.ref C)) ∧ tMake C sp dvs E t σ H Q
section
variable {X : Cx} {CX : CXT} {k i : Nat} {f C p g : Addr} {mc : Value} {fd : FuncData} {ps : List Str} {sp : Sp} {dvs : List V} {ds : List Value} {E : XK} {x m : Str} {pp pos apos : Pos} {e o : Expr} {es : List Expr} {t : TA} {ta : TE} {pl : Sem Bool}
theorem pe_makeL (M : Mk X.K C f) (F : FnOk X.prog X.w X.K X.mg X.base CX k f fd ps sp) (hr : Room (k + 1) X.A) (hN : X.N[i]? = some x) (hv : Vis X.env.scope x) (hb : Binds X.K fd ps ds) (hd : Vals dvs ds) (hx : Passes CX X E) (ha : PA X (e :: es) t)
    (hdb : (x == ("__debug__" : Str)) = false := by decide) (hcd : (x == ("__classdict__" : Str)) = false := by decide) (he : starEach (e :: es) X.env = (false, eval e X.env) :: starEach es X.env := by rfl) (hpl : (backTo pos (starEach es X.env)).any (·.1) = false := by rfl) :
    PE X (.Call (.Name x pp) (e :: es) [] pos) (tMakeL i C sp dvs E t) := by
  refine ⟨fun pins s σ H Q I h => ?_⟩
  obtain ⟨hs, ht⟩ := h
  refine wpAny_Call_Name_kw (thn ((pe_var (pos := pp) hN hv hdb hcd).run pins s σ H (fun v H1 => v = .ref C ∧ H1 = H) I ⟨.ref C, hs, rfl, rfl⟩) fun u s1 ⟨v, H1, I1, r1, q1⟩ => ?_)
  obtain ⟨rfl, rfl⟩ := q1
  cases r1
  exact PySem.W.callWith_K (h₀ := X.base) I.ok.mod.kin M.kp (thn (ha.run pos pins s1 σ _ _ I1 ht) fun us s2 ⟨vs, H2, I2, r, q⟩ => ⟨I2.kIn, run_make M F hr hb hd hx I2 r q⟩) he hpl
theorem pe_makeL0 (M : Mk X.K C f) (F : FnOk X.prog X.w X.K X.mg X.base CX k f fd ps sp) (hr : Room (k + 1) X.A) (hN : X.N[i]? = some x) (hv : Vis X.env.scope x) (hb : Binds X.K fd ps ds) (hd : Vals dvs ds) (hx : Passes CX X E)
    (hdb : (x == ("__debug__" : Str)) = false := by decide) (hcd : (x == ("__classdict__" : Str)) = false := by decide) : PE X (.Call (.Name x pp) [] [] pos) (tMakeL i C sp dvs E tNil) := by
  refine ⟨fun pins s σ H Q I h => ?_⟩
  obtain ⟨hs, ht⟩ := h
  refine wpAny_Call_Name_kw (thn ((pe_var (pos := pp) hN hv hdb hcd).run pins s σ H (fun v H1 => v = .ref C ∧ H1 = H) I ⟨.ref C, hs, rfl, rfl⟩) fun u s1 ⟨v, H1, I1, r1, q1⟩ => ?_)
  obtain ⟨rfl, rfl⟩ := q1
  cases r1
  exact PySem.W.callWith_K0 I1.kIn M.kp (run_make (us := []) M F hr hb hd hx I1 .nil ht)
/-- C.m(), m a classmethod -/
theorem pe_cmeth0 (he : PE X o ta) (r : ClX.CRead X.K C mc) (c : ClX.CMet X.K C mc m p g) (F : FnR X.prog X.w X.K X.mg X.base CX k g sp) (hr : Room k X.A) (hx : Passes CX X E)
    (ht : eval (.Call (.Attribute o m apos) [] [] pos) X.env = (eval o X.env >>= fun ov => standAt apos.atName >>= fun _ => holding [ov] (getMethod ov m pl) >>= fun q => callWith pos q.1 q.2 (backTo pos (starEach [] X.env)) (backToKw pos (keywordEach [] X.env))) := by rfl) :
    PE X (.Call (.Attribute o m apos) [] [] pos) (ClX.tCMeth C sp E ta tNil) := by
  refine ⟨fun pins s σ H Q I h => ?_⟩
  refine PySem.W.methodCall_KW (pl := pl) (thn (he.run pins s σ H _ I h) fun u s1 ⟨y, H1, I1, rx, ex, q⟩ => ?_) ht
  subst ex
  obtain rfl : u = Value.ref C := rx
  refine ClX.getmethcm_ok I1 r c fun s2 I2 => ?_
  exact PySem.W.callWith_M0 (K := X.K) (first := []) ⟨ClX.pin_at I2, I2.kIn⟩ c.fi (ClX.run_cm (us := []) (vs := []) F hr hx I2 .nil q)
end
end L2

/-! A def that is called within an except suite, and never raises. -/
namespace L2
open PySem PySem.Spec PyProof.Rows L2H
structure FnW (P : Program) (w : World) (K : PySem.W.Frag) (mg : Str → Option Value) (base : Heap) (k : Nat) (f : Addr) (fd : FuncData) (ps : List Str) (sp : Sp) : Prop where
  len : ∀ vs H Q E, sp vs H Q E → vs.length = ps.length
  run : ∀ (A : Around) (outer : List Env) (s : Shared) (H : Hp) (args : Args) (us : List Value) (vs : List V) (Q : VK) (E : XK) (p : Addr × Obj), A.guards = some [] → RoomH k A → PinOk outer H s p → Env0 P w K mg base A outer s H → BindsTo s fd args (ps.zip us) → Vals vs us → sp vs H Q E →
    codeAny (model P w) A (.call (.ref f) args) (CR CX0 outer P w H s Q E) s
theorem FunD.okW {P : Program} {w : World} {K : PySem.W.Frag} {mg : Str → Option Value} {base : Heap} {k : Nat} {f : Addr} {x qual : Str} {params : Arguments} {body : List Stmt} {scope : Scope} {dvs : List V} {kws : List (Str × V)} {fd : FuncData} {N ps : List Str} {sp : Sp}
    (F : FunD K x qual params body scope dvs kws f fd) (S : FnScope N ps scope) (len : ∀ vs H Q E, sp vs H Q E → vs.length = ps.length)
    (hbody : ∀ (cdv : Value) (A : Around) (outer : List Env) (s : Shared) (H : Hp) (vs : List V) (Q : VK) (E : XK) (p : Addr × Obj), A.guards = some [] → RoomH k (A.deeper (envOfC qual scope s.heap.objs.size f cdv)) → sp vs H Q E →
      ∃ t, PSs (cxH CX0 P w K mg base N qual scope f cdv A outer s H E p) body t ∧ t { nx := fun _ H' => Q .non H', rt := Q } (start N vs) H) : FnW P w K mg base (k + 1) f fd ps sp := by
  obtain ⟨oc, od, dV, kV, doc, pm, an, cdv, ct, osl, rfl, lk, hcd, _, _⟩ := F.ex
  refine ⟨len, fun A outer s H args us vs Q E p hg hr hpin e0 hb r hsp => ?_⟩
  have hl := len _ _ _ _ hsp
  have old : ∀ b o, base.get? b = some o → s.heap.get? b = some o := fun b o e => (e0.bs b o e).1
  have KX : K.In s.heap := e0.mod.kin.keeps old
  have lim : s.heap.NoLimit := e0.mod.nolimit.keeps old
  refine codeAny_call_function hr.depth (KX _ _ lk) rfl S.co S.gen rfl (PySem.W.codeRec_of KX hcd) (hb _ _ _ _ (wpAny_newFunctionEnv_cells S.kind (fun y hy => ?_) fun env he s1 x => ?_))
  · rcases S.par y.1 (List.of_mem_zip (show (y.1, y.2) ∈ ps.zip us from hy)).1 with q | q
    · exact .inl q
    · exact .inr ⟨q, PySem.W.cellsFrom_some _ _ _ (.inl q)⟩
  · subst he
    obtain ⟨t, ht, hq⟩ := hbody cdv A outer s H vs Q E p hg (hr.deeper _) hsp
    refine ⟨lim.keeps x.toInCall.keep, codeAny_func (wpAny_mono (ht.run [] s1 (start N vs) H _ (inv_startH S hpin e0 hl r x) hq) (fun fl s' hs => ?_) fun e s' hs => hs)⟩
    cases fl with
    | ret u =>
      obtain ⟨v, σ', H', J, rv, q⟩ := hs
      exact ⟨v, H', J.os, J.bare, J.base, J.hok, rv, q⟩
    | next =>
      obtain ⟨σ', H', J, q⟩ := hs
      exact ⟨V.non, H', J.os, J.bare, J.base, J.hok, rfl, q⟩
    | brk =>
      obtain ⟨_, _, _, q⟩ := hs
      exact False.elim q
    | cont =>
      obtain ⟨_, _, _, q⟩ := hs
      exact False.elim q
theorem roomH_in1 {k : Nat} {A : Around} (r : RoomH (k + 1) A) : RoomH k A.in1 :=
  ⟨by have := r.dp; show A.depth + 3 * k + 5 < _; omega, by have := r.un; show A.units + 1 + 16 * k + 200 < _; omega⟩
section
variable {X : Cx} {C f : Addr} {fd : FuncData} {ps : List Str} {sp : Sp} {k : Nat}
theorem own_runW {pins : List (Addr × Obj)} {σ : St} {H : Hp} {s : Shared} {A : Around} {E : Value → Shared → Prop} {Q : VK} {us : List Value} {vs : List V} (F : FnW X.prog X.w X.K X.mg X.base k f fd ps sp) (hG : A.guards = some []) (hb : Binds X.K fd ps []) (hr : RoomH k A) (fr : A.frames = X.A.frames) (hc : ∃ p, p ∈ X.pn) (I : Inv X pins σ H s) (r : Vals vs us) (h : sp vs H Q E0) :
    wpAny (model X.prog X.w) A (call (.ref f) us) (EP X pins σ Q) E s := by
  have e0 : Env0 X.prog X.w X.K X.mg X.base A X.stack s H := by
    have e := I.env0
    exact ⟨by rw [fr]; exact e.frames, e.mod, e.bs, e.bsz, e.funs, e.frf, e.hok, e.bare⟩
  obtain ⟨p, hp⟩ := hc
  have P1 := I.pin p (List.mem_append_left _ hp)
  have hpin : PinOk X.stack H s p := ⟨P1.1, P1.2.1, fun hm => (List.mem_cons.mp (I.stkSub p.1 hm)).elim P1.2.2.1 P1.2.2.2.1, P1.2.2.2.2⟩
  have hl : us.length = ps.length := r.length.symm.trans (F.len _ _ _ _ h)
  refine wpAny_call (codeAny_mono (F.run A X.stack s H ⟨us, []⟩ us vs Q E0 p hG hr hpin e0 (by
    have z := hb s us I.kIn (by simpa using hl)
    simpa using z) r h) fun r s' hq => ?_)
  cases r with
  | error e => exact (show False from hq).elim
  | ok fl =>
    cases fl with
    | ret w => exact I.after hq
    | next => exact False.elim hq
    | brk => exact False.elim hq
    | cont => exact False.elim hq
theorem call_reprW (hs : PySem.W.findIn X.K (.ref C) "__repr__" = some (some (.ref f))) (hf : PySem.W.isFn X.K (.ref f) = true) (F : FnW X.prog X.w X.K X.mg X.base k f fd ps sp) (hc : ∃ p, p ∈ X.pn) (hG : X.A.guards = some []) (hb : Binds X.K fd ps []) (hr : RoomH (k + 1) X.A) :
    CallR X (.builtin "repr") (rReprO C sp) := by
  intro pins s σ H xs us Q I r h
  obtain ⟨a, dx, fs, rfl, ea, q⟩ := h
  rw [Vals.ref1 r]
  obtain ⟨mA, J, _⟩ := ins_get I.hok ea
  obtain ⟨od, J, _⟩ := J.look
  obtain ⟨m, hF⟩ := I.fr
  refine PySem.W.repr_K (by have := (roomH_in1 hr).un; omega) hF I.ok.mod.kin J hs hf ?_
  refine wpAny_mono (own_runW (vs := [.ref a]) F (guards_in1 hG) hb (roomH_in1 hr) frames_in1 hc I (.cons rfl .nil) q) (fun r s' hq => ?_) fun _ _ e => e
  obtain ⟨z, H', I', rz, zz, ez, q2⟩ := hq
  subst ez
  obtain ⟨t, ez⟩ := (show ∃ t, r = Value.str zz t from rz)
  subst ez
  exact ⟨.str zz, H', I', ⟨t, rfl⟩, q2⟩
end
end L2

namespace L2
open PySem PySem.Spec PyProof.Rows
/-- o.m(..) that may raise, at these slots -/
def tMethW (C : Addr) (m : Str) (sp : Sp) (E : St → XK) (ta : TE) (t : TA) : TE := fun σ H Q => ta σ H fun x H1 => ∃ a dx fs, x = .ref a ∧ H1 a = some (.ins C dx fs) ∧ fs.lookup m = none ∧ t σ H1 fun vs H2 => sp (.ref a :: vs) H2 Q (E σ)
theorem pe_methW {X : Cx} {CX : CXT} {k : Nat} {C f : Addr} {fd : FuncData} {ps : List Str} {sp : Sp} {E : St → XK} {m : Str} {pos apos : Pos} {e o : Expr} {es : List Expr} {ta : TE} {t : TA} {pl : Sem Bool}
    (he : PE X o ta) (c : Cls X.K C) (hm : Meth X.K C m f) (F : FnOk X.prog X.w X.K X.mg X.base CX k f fd ps sp) (hr : Room k X.A) (hb : Binds X.K fd ps []) (hx : ∀ σ, PassesAt CX X σ (E σ)) (ha : PA X (e :: es) t)
    (hst : starEach (e :: es) X.env = (false, eval e X.env) :: starEach es X.env := by rfl) (hpl : (backTo pos (starEach es X.env)).any (·.1) = false := by rfl)
    (ht : eval (.Call (.Attribute o m apos) (e :: es) [] pos) X.env = (do
      let ov ← eval o X.env
      standAt apos.atName
      let (f, first) ← holding [ov] (getMethod ov m pl)
      callWith pos f first (backTo pos (starEach (e :: es) X.env)) (backToKw pos (keywordEach [] X.env))) := by rfl) :
    PE X (.Call (.Attribute o m apos) (e :: es) [] pos) (tMethW C m sp E ta t) := by
  refine ⟨fun pins s σ H Q I h => ?_⟩
  refine PySem.W.methodCall_KW (pl := pl) (thn (he.run pins s σ H _ I h) fun u s1 ⟨x, H1, I1, rx, a, dx, fs, ex, ea, l, q⟩ => ?_) ht
  subst ex
  obtain rfl : u = Value.ref a := rx
  refine getmeth_ok I1 ea c hm l ?_
  refine PySem.W.callWith_K (first := [.ref a]) (h₀ := X.base) I.ok.mod.kin hm.kp (thn (ha.run pos pins s1 σ H1 _ I1 q) fun us s2 ⟨vs, H2, I2, r, q2⟩ => ⟨I2.kIn, ?_⟩) hst hpl
  exact run_fnS (us := .ref a :: us) (vs := .ref a :: vs) F hr hb (hx σ) I2 (.cons rfl r) q2
end L2
namespace L2
open PySem
/-- a dict comprehension over a walk: Pv by the turn and the heap (the new dict at D within) -/
theorem dc_it {J : It} {n : Nat} {G : Hp → Prop} {Y : Nat → Hp → V → Hp → Prop} (w : Walk J n G Y) {g : TG} {tt : TT} {tk tv : TE} {vs : List Nat} {σ : St} {H1 : Hp} {D : Addr} {Qd : Hp → Prop} (Pv : Nat → Hp → Prop) (h0 : Pv 0 (upd H1 D (.dK []))) (hG : ∀ i H, i ≤ n → Pv i H → G H)
    (hs : ∀ i x H H', i < n → Pv i H → Y i H x H' → g x (wipe σ vs) H' fun σ2 H2 => wipe σ2 vs = wipe σ vs ∧ tt σ2 H2 fun b H3 =>
      if b = true then tk σ2 H3 fun y H4 => tv σ2 H4 fun z H5 => ∃ kvs k, y = kV k ∧ H5 D = some (.dK kvs) ∧ kvs.length < sizeLine ∧ Pv (i + 1) (upd H5 D (.dK (putK kvs k z))) else Pv (i + 1) H3) (hd : ∀ H, Pv n H → Qd H) :
    ∃ W : Nat → Nat → Hp → Prop, (∃ m, W 0 m (upd H1 D (.dK []))) ∧ ∀ i m H, W i m H →
      (J.stop i H ∧ Qd H) ∨ (J.go i H ∧ ∃ Nx : Hp → Prop, (∀ H', Nx H' → ∃ m', m' < m ∧ W (i + 1) m' H') ∧ ∀ x H', J.yld i H x H' → g x (wipe σ vs) H' fun σ2 H2 => wipe σ2 vs = wipe σ vs ∧ tt σ2 H2 fun b H3 =>
        if b = true then tk σ2 H3 fun y H4 => tv σ2 H4 fun z H5 => ∃ kvs k, y = kV k ∧ H5 D = some (.dK kvs) ∧ kvs.length < sizeLine ∧ Nx (upd H5 D (.dK (putK kvs k z))) else Nx H3) := by
  refine ⟨fun i m H => m = n - i ∧ i ≤ n ∧ Pv i H, ⟨n, by simp, Nat.zero_le _, h0⟩, ?_⟩
  rintro i m H ⟨rfl, hi, p⟩
  have q := hG i H hi p
  by_cases hlt : i < n
  · exact .inr ⟨w.goes i H hlt q, Pv (i + 1), fun H' p' => ⟨n - (i + 1), by omega, rfl, hlt, p'⟩, fun x H' y => hs i x H H' hlt p (w.yields i H x H' hlt q y)⟩
  · have e : i = n := by omega
    subst e
    exact .inl ⟨w.stops H q, hd H p⟩
end L2

end PG11x
section Pq4T
set_option maxHeartbeats 4000000
namespace C4
open PySem PySem.Spec L2 PyProof.Rows
/-! ### where a number stands, what it is taken to -/
abbrev nPlace : List Str := ["pieces", "value", "low", "high", "middle"]
theorem sc_place : FnScope nPlace ["pieces", "value"] (defScope s_place) := ⟨rfl, rfl, rfl, by decide +kernel, rfl, by decide +kernel, by decide +kernel⟩
def spPlace : Sp := fun vs H Q _ => ∃ (L : Addr) (l : List Pc) (x : Int), vs = [.ref L, .int x] ∧ PcsAt H L l ∧ chn none l ∧ l.length ≤ 1000 ∧ Q (.int (idxP l x)) H
def spResult (C : Addr) : Sp := fun vs H Q _ => ∃ (m : Addr) (n : List Pc) (x : Int), vs = [.ref m, .int x] ∧ NMap C H m n ∧ chn none n ∧ n.length ≤ 1000 ∧ Q (.int (evalP n x)) H
theorem sc_result : FnScope ["self", "value"] ["self", "value"] (defScope s_nresult) := ⟨rfl, rfl, rfl, by decide +kernel, rfl, by decide +kernel, by decide +kernel⟩
section
variable {P : Program} {w : World} {K : PySem.W.Frag} {mg : Str → Option Value} {base : Heap} {f fT fP : Addr} {fd dT dP : FuncData}
theorem ok_place (F : FD K "_place_of" s_place f fd) (tl : mg "len" = none) : FnOk P w K mg base CX0 1 f fd ["pieces", "value"] spPlace := by
  refine F.ok sc_place (fun vs H Q E h => ?_) (fun cdv A outer s H vs Q E hr h => ?_)
  · obtain ⟨L, l, x, rfl, _⟩ := h
    rfl
  obtain ⟨L, l, x, rfl, hl, hc, hlen, q⟩ := h
  refine ⟨_, PSs.nox (pss_cons (ps_if (pt_cmp (pc_isN (pv 1))) pss_never pss_nil)
    (pss_cons (ps_par (i := 2) (j := 3) (by rfl) sc_place.nd rfl rfl (by decide) rfl rfl (pa_cons pe_int (pa_cons (pe_op op_sub (pe_callB call_len_seq (by rfl) tl boot_len (pa_cons (pv 0) pa_nil)) pe_int) pa_nil)) (by rfl))
    (pss_cons (ps_while PassesOwn.never (pt_cmpR op_lt (pv 2) (pv 3) (nomark _))
      (pss_cons (ps_set (i := 4) sc_place.nd rfl (Or.inl rfl) (pe_op op_fdiv (pe_op op_add (pv 2) (pv 3)) pe_int))
      (pss_one (ps_if (pt_cmpR op_lt (pe_ix ix_tup (pe_ix ix_seq (pv 0) (pv 4) (fun _ _ => rfl)) pe_int (fun _ _ => rfl)) (pv 1) (nomark _))
        (pss_one (ps_set (i := 2) sc_place.nd rfl (Or.inl rfl) (pe_op op_add (pv 4) pe_int)))
        (pss_one (ps_set (i := 3) sc_place.nd rfl (Or.inl rfl) (pv 4)))))))
    (pss_one (ps_ret (pv 2)))))), ?_⟩
  refine ⟨_, rfl, _, rfl, ?_⟩
  refine (show (if decide (V.int x = V.non) = true then _ else _) from ?_)
  rw [show decide (V.int x = V.non) = false from decide_eq_false (fun z => nomatch z), if_neg (by decide)]
  obtain ⟨xs, hx, hxl⟩ := hl.len (K := K)
  refine ⟨_, rfl, L, xs, rfl, hx, _, _, rfl, rfl, _, _, rfl, ?_⟩
  have l0 : 0 < l.length := List.length_pos_iff.mpr (chn_ne hc)
  have il := idx_lt x hc
  refine ⟨fun m σ' H' => ∃ (a b : Nat) (y : Option V), σ' = [some (.ref L), some (.int x), some (.int a), some (.int b), y] ∧ H' = H ∧ a ≤ idxP l x ∧ idxP l x ≤ b ∧ b < l.length ∧ m = b - a, ⟨l.length - 1 - 0, 0, l.length - 1, none, ?_, rfl, Nat.zero_le _, by omega, by omega, rfl⟩, ?_⟩
  · have ee : ((l.length : Int) - 1) = ((l.length - 1 : Nat) : Int) := by omega
    show [some (V.ref L), some (V.int x), some (V.int 0), some (V.int ((xs.length : Int) - 1)), none] = _
    rw [hxl, ee] <;> rfl
  rintro m σ' H' ⟨a, b, y, rfl, rfl, h1, h2, h3, rfl⟩
  refine ⟨_, rfl, _, rfl, a, b, rfl, rfl, _, rfl, ?_⟩
  refine ite2 (fun h => ?_) (fun h => ?_)
  · have ab : a < b := by
      have := of_decide_eq_true h
      omega
    refine ⟨fun σ2 H2 => ∃ (a2 b2 : Nat) (y : Option V), b2 - a2 < b - a ∧ σ2 = [some (.ref L), some (.int x), some (.int a2), some (.int b2), y] ∧ H2 = H' ∧ a2 ≤ idxP l x ∧ idxP l x ≤ b2 ∧ b2 < l.length, fun σ2 H2 ⟨a2, b2, y, k0, k1, k2, k3, k4, k5⟩ => ⟨b2 - a2, k0, a2, b2, y, k1, k2, k3, k4, k5, rfl⟩, ?_⟩
    refine ⟨_, rfl, _, rfl, a, b, rfl, rfl, _, _, rfl, rfl, ⟨(by decide : (0 : Int) < 2), (by decide : (2 : Int) < 1073741824)⟩, ?_⟩
    have em : ((a : Int) + (b : Int)) / 2 = (((a + b) / 2 : Nat) : Int) := by omega
    have ml : (a + b) / 2 < l.length := by omega
    have hm : l[(a + b) / 2]? = some (l[(a + b) / 2]'ml) := List.getElem?_eq_getElem ml
    generalize l[(a + b) / 2]'ml = p at hm
    obtain ⟨e, he⟩ : ∃ e, p.2.1 = some e := by
      cases z : p.2.1 with
      | none =>
        have := (chn_last hc hm).mp z
        omega
      | some e => exact ⟨e, rfl⟩
    refine ⟨_, rfl, _, rfl, ?_⟩
    show rIx K (.ref L) (V.int (((a : Int) + (b : Int)) / 2)) H' _
    rw [em]
    refine ix_pc hl hm fun t ht => ?_
    refine ⟨t, _, _, _, rfl, rfl, SqT.of ht, rfl, _, rfl, ?_⟩
    rw [he]
    refine ⟨e, x, rfl, rfl, _, rfl, ?_⟩
    have key := idx_le (x := x) hc hm
    rw [he, leO_some] at key
    refine ite2 (fun h => ?_) (fun h => ?_)
    · have ex : e < x := of_decide_eq_true h
      refine ⟨_, rfl, _, _, rfl, rfl, ?_⟩
      have : ¬ idxP l x ≤ (a + b) / 2 := fun z => by have := key.mpr z; omega
      exact ⟨(a + b) / 2 + 1, b, _, by omega, (by show [some (V.ref L), some (V.int x), some (V.int (((a : Int) + (b : Int)) / 2 + 1)), some (V.int (b : Int)), some (V.int (((a : Int) + (b : Int)) / 2))] = _; rw [em]; rfl), rfl, by omega, h2, h3⟩
    · have ex : x ≤ e := by
        have : ¬ e < x := fun z => h (decide_eq_true z)
        omega
      refine ⟨_, rfl, ?_⟩
      exact ⟨a, (a + b) / 2, _, by omega, (by show [some (V.ref L), some (V.int x), some (V.int (a : Int)), some (V.int (((a : Int) + (b : Int)) / 2)), some (V.int (((a : Int) + (b : Int)) / 2))] = _; rw [em]), rfl, h1, key.mp ex, by omega⟩
  · have ab : ¬ a < b := fun z => h (decide_eq_true (by omega))
    have e : a = idxP l x := by omega
    subst e
    exact ⟨_, rfl, q⟩
theorem ok_result {C : Addr} (F : FM K "_result" "NumberMap._result" s_nresult f fd) (N : NMc K C) (TK : Kn P w K mg base 1 "_taken" fT dT ["what", "value"] spTaken) (PL : Kn P w K mg base 1 "_place_of" fP dP ["pieces", "value"] spPlace) : FnOk P w K mg base CX0 2 f fd ["self", "value"] (spResult C) := by
  refine F.ok sc_result (fun vs H Q E h => ?_) (fun cdv A outer s H vs Q E hr h => ?_)
  · obtain ⟨m, n, x, rfl, _⟩ := h
    rfl
  obtain ⟨m, n, x, rfl, ⟨dx, u, hm, hu⟩, hc, hl, q⟩ := h
  refine ⟨_, PSs.nox (pss_one (ps_ret (pe_call TK.f hr rfl TK.m TK.k TK.b .nil pass0 (pa_cons (pe_ix ix_tup (pe_ix ix_seq (pe_fld (pv 0) rfl) (pe_call PL.f hr rfl PL.m PL.k PL.b .nil pass0 (pa_cons (pe_fld (pv 0) rfl) (pa_cons (pv 1) pa_nil))) (fun _ _ => rfl)) pe_int (fun _ _ => rfl)) (pa_cons (pv 1) pa_nil))))), ?_⟩
  obtain ⟨p, hp, _, hv⟩ := eval_idx x hc
  rw [hv] at q
  refine ⟨_, rfl, m, C, dx, _, .ref u, rfl, hm, N.cl, N.nP, rfl, _, rfl, m, C, dx, _, .ref u, rfl, hm, N.cl, N.nP, rfl, _, rfl, u, n, x, rfl, hu.pcs, hc, hl, ?_⟩
  refine ix_pc hu.pcs hp fun t ht => ?_
  exact ⟨t, _, _, _, rfl, rfl, SqT.of ht, rfl, _, rfl, p.2.2, x, rfl, q⟩
end
end C4

end Pq4T
section Pq4U
set_option maxHeartbeats 4000000
namespace C4
open PySem PySem.Spec L2 PyProof.Rows
/-! ### what the written part says of the classes; at of a number, and of anything else; ==, repr, pieces -/
structure TcO (K : PySem.W.Frag) (C CM : Addr) (kd : Str) : Prop where
  cl : Cls K C
  ha : PySem.W.findIn K (.ref C) "__class__" = some (some (.builtin "object.__class__"))
  hn : PySem.W.specialIn K (.builtin "object.__class__") "__get__" = some (some (.builtin "getset_descriptor.__get__"))
  htk : PySem.W.takesIn K (.builtin "object.__class__") = some true
  hm : PySem.W.mroIn K C (.type "object") = some true
  kit : PySem.W.kitOne K (.ref C) (.ref CM) = some true
  knd : ∃ u, Con K C "KIND" (.str kd) u
theorem TcO.ty {K : PySem.W.Frag} {C CM : Addr} {kd : Str} (T : TcO K C CM kd) {H : Hp} {a dx : Addr} {fs : List (Str × V)} (e : H a = some (.ins C dx fs)) : TyX K H (.ref a) (.ref C) := .base (.ins e T.cl T.ha T.hn T.htk T.hm)
def spIsKindN (K : PySem.W.Frag) : Sp := fun vs H Q _ => vs = [.str "number"] ∧ ∀ H', Same H H' → Q (.bl true) H'
def spIsValN (K : PySem.W.Frag) : Sp := fun vs H Q _ => ∃ (x : V) (t : Value) (b1 b2 : Bool), vs = [x, .str "number"] ∧ TyX K H x t ∧ PySem.W.kitOne K t (.type "int") = some b1 ∧ PySem.W.kitOne K t (.type "bool") = some b2 ∧ ∀ H', Same H H' → Q (.bl (b1 && !b2)) H'
def spAtN (C : Addr) : Sp := fun vs H Q _ => ∃ (m : Addr) (n : List Pc) (x : Int), vs = [.ref m, .int x] ∧ NMap C H m n ∧ chn none n ∧ n.length ≤ 1000 ∧ ∀ H', Same H H' → Q (.int (evalP n x)) H'
def spAtX (K : PySem.W.Frag) (C CI : Addr) : Sp := fun vs H _ E => ∃ (m : Addr) (n : List Pc) (x : V) (t : Value) (b1 b2 : Bool), vs = [.ref m, x] ∧ NMap C H m n ∧ TyX K H x t ∧ PySem.W.kitOne K t (.type "int") = some b1 ∧ PySem.W.kitOne K t (.type "bool") = some b2 ∧ (b1 && !b2) = false ∧
  ∀ d H', Same H H' → H' d = some (.xd [("value", x)]) → E (.ref CI) (some d) H'
theorem sc_mat : FnScope ["self", "value"] ["self", "value"] (defScope s_mat) := ⟨rfl, rfl, rfl, by decide +kernel, rfl, by decide +kernel, by decide +kernel⟩
theorem sc_kind : FnScope ["self"] ["self"] (defScope s_kind) := ⟨rfl, rfl, rfl, by decide +kernel, rfl, by decide +kernel, by decide +kernel⟩
theorem sc_ncontent : FnScope ["self"] ["self"] (defScope s_ncontent) := ⟨rfl, rfl, rfl, by decide +kernel, rfl, by decide +kernel, by decide +kernel⟩
theorem sc_npieces : FnScope ["self"] ["self"] (defScope s_npieces) := ⟨rfl, rfl, rfl, by decide +kernel, rfl, by decide +kernel, by decide +kernel⟩
theorem sc_nrepr : FnScope ["self"] ["self"] (defScope s_nrepr) := ⟨rfl, rfl, rfl, by decide +kernel, rfl, by decide +kernel, by decide +kernel⟩
theorem sc_meq : FnScope ["self", "other"] ["self", "other"] (defScope s_meq) := ⟨rfl, rfl, rfl, by decide +kernel, rfl, by decide +kernel, by decide +kernel⟩
def spKind (C : Addr) : Sp := fun vs H Q _ => ∃ (m dx : Addr) (fs : List (Str × V)), vs = [.ref m] ∧ H m = some (.ins C dx fs) ∧ fs.lookup ("KIND" : Str) = none ∧ Q (.str "number") H
def spContent (C : Addr) : Sp := fun vs H Q _ => ∃ (m dx u : Addr), vs = [.ref m] ∧ H m = some (.ins C dx [("_pieces", .ref u)]) ∧ Q (.ref u) H
/-- a list of pieces at t -/
def LstAt (H : Hp) (t : Addr) (l : List Pc) : Prop := ∃ ts : List Addr, H t = some (.lst (ts.map V.ref)) ∧ Paired (PcAt H) ts l
theorem LstAt.same {H H' : Hp} {t : Addr} {l : List Pc} (s : Same H H') (h : LstAt H t l) : LstAt H' t l := by
  obtain ⟨ts, a, b⟩ := h
  exact ⟨ts, s _ _ a, b.mono fun t p e => s _ _ e⟩
theorem LstAt.pcs {H : Hp} {t : Addr} {l : List Pc} (h : LstAt H t l) : PcsAt H t l := by
  obtain ⟨ts, a, b⟩ := h
  exact ⟨ts, .inl a, b⟩
def spPiecesM (C : Addr) : Sp := fun vs H Q _ => ∃ (m : Addr) (n : List Pc), vs = [.ref m] ∧ NMap C H m n ∧ ∀ g H', H g = none → Same H H' → LstAt H' g n → Q (.ref g) H'
/-! data -/
def oD : Option Int → PyData
  | none => .none
  | some i => .int i
def pD (p : Pc) : PyData := .tuple [oD p.1, oD p.2.1, oD p.2.2]
theorem eqv_oD {a b : Option Int} : PyData.eqv (oD a) (oD b) = decide (a = b) := by
  cases a with
  | none => cases b with
    | none => rfl
    | some j => exact (decide_eq_false (fun z => nomatch z)).symm
  | some i => cases b with
    | none => exact (decide_eq_false (fun z => nomatch z)).symm
    | some j =>
      show (i == j) = _
      by_cases e : i = j
      · subst e
        rw [beq_self_eq_true, decide_eq_true rfl]
      · rw [beq_eq_false_iff_ne.mpr e, decide_eq_false fun z => e (Option.some.inj z)]
theorem eqv_pD {p q : Pc} : PyData.eqv (pD p) (pD q) = decide (p = q) := by
  show (PyData.eqv (oD p.1) (oD q.1) && (PyData.eqv (oD p.2.1) (oD q.2.1) && (PyData.eqv (oD p.2.2) (oD q.2.2) && true))) = _
  rw [eqv_oD, eqv_oD, eqv_oD, Bool.and_true, ← Bool.decide_and, ← Bool.decide_and]
  refine decide_eq_decide.mpr ⟨fun ⟨a, b, c⟩ => Prod.ext a (Prod.ext b c), fun e => by rw [e]; exact ⟨rfl, rfl, rfl⟩⟩
theorem eqv_pDs : ∀ (l n : List Pc), PyData.eqvAll (l.map pD) (n.map pD) = decide (l = n)
  | [], [] => rfl
  | [], _ :: _ => by
    rw [decide_eq_false (fun e => nomatch e)] <;> rfl
  | _ :: _, [] => by
    rw [decide_eq_false (fun e => nomatch e)] <;> rfl
  | p :: l, q :: n => by
    show (PyData.eqv (pD p) (pD q) && PyData.eqvAll (l.map pD) (n.map pD)) = _
    rw [eqv_pDs l n, eqv_pD, ← Bool.decide_and]
    exact decide_eq_decide.mpr ⟨fun ⟨a, b⟩ => by rw [a, b], fun e => ⟨(List.cons.inj e).1, (List.cons.inj e).2⟩⟩
theorem dp_oV {K : PySem.W.Frag} {H : Hp} : ∀ a : Option Int, Dp K H (oV a) (oD a)
  | none => .non
  | some i => .int i
theorem dp_pc {K : PySem.W.Frag} {H : Hp} {t : Addr} {p : Pc} (h : PcAt H t p) : Dp K H (.ref t) (pD p) := .tup (SqT.of h) (.cons (dp_oV _) (.cons (dp_oV _) (.cons (dp_oV _) .nil)))
theorem dp_pcs {K : PySem.W.Frag} {H : Hp} : ∀ {ts : List Addr} {l : List Pc}, Paired (PcAt H) ts l → DpAll K H (ts.map V.ref) (l.map pD)
  | _, _, .nil => .nil
  | _, _, .cons h t => .cons (dp_pc h) (dp_pcs t)
theorem dp_tup {K : PySem.W.Frag} {H : Hp} {t : Addr} {l : List Pc} (h : TupAt H t l) : Dp K H (.ref t) (.tuple (l.map pD)) := by
  obtain ⟨ts, a, b⟩ := h
  exact .tup (SqT.of a) (dp_pcs b)
theorem dp_lst {K : PySem.W.Frag} {H : Hp} {t : Addr} {l : List Pc} (h : LstAt H t l) : Dp K H (.ref t) (.list (l.map pD)) := by
  obtain ⟨ts, a, b⟩ := h
  exact .lst (SqL.of a) (dp_pcs b)
theorem rp_oV {H : Hp} : ∀ a : Option Int, Rp H (oV a) (oD a)
  | none => .non
  | some i => .int i
theorem rp_pc {H : Hp} {t : Addr} {p : Pc} (h : PcAt H t p) : Rp H (.ref t) (pD p) := .tup h (.cons (rp_oV _) (.cons (rp_oV _) (.cons (rp_oV _) .nil)))
theorem rp_pcs {H : Hp} : ∀ {ts : List Addr} {l : List Pc}, Paired (PcAt H) ts l → RpAll H (ts.map V.ref) (l.map pD)
  | _, _, .nil => .nil
  | _, _, .cons h t => .cons (rp_pc h) (rp_pcs t)
theorem rp_lst {H : Hp} {t : Addr} {l : List Pc} (h : LstAt H t l) : Rp H (.ref t) (.list (l.map pD)) := by
  obtain ⟨ts, a, b⟩ := h
  exact .lst a (rp_pcs b)
theorem lay_oD : ∀ a : Option Int, PyData.canLay0 (oD a) = true ∧ PyData.depth (oD a) ≤ 1
  | none => ⟨rfl, by decide⟩
  | some i => ⟨rfl, by
    first
      | decide
      | (show 1 ≤ 1; decide)
      | (show 0 ≤ 1; decide)⟩
theorem lay_pDs : ∀ l : List Pc, PyData.canLayAll0 (l.map pD) = true ∧ PyData.depthAll (l.map pD) ≤ 2
  | [] => ⟨rfl, by simp [PyData.depthAll]⟩
  | p :: l => by
    obtain ⟨a, b⟩ := lay_pDs l
    obtain ⟨a1, b1⟩ := lay_oD p.1
    obtain ⟨a2, b2⟩ := lay_oD p.2.1
    obtain ⟨a3, b3⟩ := lay_oD p.2.2
    refine ⟨?_, ?_⟩
    · show ((PyData.canLay0 (oD p.1) && (PyData.canLay0 (oD p.2.1) && (PyData.canLay0 (oD p.2.2) && true))) && PyData.canLayAll0 (l.map pD)) = true
      rw [a, a1, a2, a3] <;> rfl
    · simp only [List.map_cons, pD, PyData.depthAll, PyData.depth]
      omega
theorem shaped_tup (l : List Pc) : SeqAt.shaped (.tuple (l.map pD)) = true := by
  obtain ⟨a, b⟩ := lay_pDs l
  have h2 : PyData.depth (.tuple (l.map pD)) ≤ 64 := by
    simp only [PyData.depth]
    omega
  show (PyData.canLayAll0 (l.map pD) && decide (PyData.depth (.tuple (l.map pD)) ≤ 64)) = true
  rw [a, decide_eq_true h2] <;> rfl
theorem shaped_lst (l : List Pc) : SeqAt.shaped (.list (l.map pD)) = true := by
  obtain ⟨a, b⟩ := lay_pDs l
  have h2 : PyData.depth (.list (l.map pD)) ≤ 64 := by
    simp only [PyData.depth]
    omega
  show (PyData.canLayAll0 (l.map pD) && decide (PyData.depth (.list (l.map pD)) ≤ 64)) = true
  rw [a, decide_eq_true h2] <;> rfl
end C4

end Pq4U
section Pq4V
set_option maxHeartbeats 4000000
namespace C4
open PySem PySem.Spec L2 PyProof.Rows
/-! ### numbers of up to forty digits: what repr tells of pieces -/
def SmO (a : Option Int) : Prop := ∀ i, a = some i → i.natAbs < 10 ^ 40
def SmP (l : List Pc) : Prop := ∀ p ∈ l, SmO p.1 ∧ SmO p.2.1 ∧ SmO p.2.2
theorem small_log {i : Int} (h : i.natAbs < 10 ^ 40) : i.natAbs.log2 < 1920 := by
  by_cases z : i.natAbs = 0
  · rw [z]
    decide
  · exact (Nat.log2_lt z).mpr (Nat.lt_of_lt_of_le h (by decide))
theorem shown_oD {a : Option Int} (h : SmO a) : (oD a).shown.length ≤ 41 := by
  cases a with
  | none =>
    show (PyData.none).shown.length ≤ 41
    decide +kernel
  | some i =>
    have e := int_text_length_le10 (k := 40) (by decide) (h i rfl)
    show (Str.ofString (toString i)).length ≤ 41
    rw [PySem.ofString_length]
    exact e
theorem showable_oD {a : Option Int} (h : SmO a) : (oD a).showable = true := by
  cases a with
  | none => rfl
  | some i => exact decide_eq_true (small_log (h i rfl))
theorem shown_pD {p : Pc} (h : SmO p.1 ∧ SmO p.2.1 ∧ SmO p.2.2) : (pD p).shown.length ≤ 140 := by
  have a := shown_oD h.1
  have b := shown_oD h.2.1
  have c := shown_oD h.2.2
  have t := tupleText_len_le [(oD p.1).shown, (oD p.2.1).shown, (oD p.2.2).shown]
  show (tupleText [(oD p.1).shown, (oD p.2.1).shown, (oD p.2.2).shown]).length ≤ 140
  simp only [List.map_cons, List.map_nil, List.sum_cons, List.sum_nil, List.length_cons, List.length_nil] at t
  omega
theorem showable_pD {p : Pc} (h : SmO p.1 ∧ SmO p.2.1 ∧ SmO p.2.2) : (pD p).showable = true := by
  show (PyData.showable (oD p.1) && (PyData.showable (oD p.2.1) && (PyData.showable (oD p.2.2) && true))) = true
  rw [showable_oD h.1, showable_oD h.2.1, showable_oD h.2.2] <;> rfl
theorem shown_sum : ∀ {l : List Pc}, SmP l → ((PyData.shownAll (l.map pD)).map (·.length)).sum ≤ 140 * l.length ∧ (PyData.shownAll (l.map pD)).length = l.length
  | [], _ => ⟨Nat.le_refl _, rfl⟩
  | p :: l, h => by
    obtain ⟨a, b⟩ := shown_sum (l := l) fun q hq => h q (List.mem_cons_of_mem _ hq)
    have c := shown_pD (h p List.mem_cons_self)
    refine ⟨?_, ?_⟩
    · show ((pD p).shown.length :: (PyData.shownAll (l.map pD)).map (·.length)).sum ≤ _
      rw [List.sum_cons, List.length_cons]
      omega
    · show (PyData.shownAll (l.map pD)).length + 1 = l.length + 1
      rw [b]
theorem showable_all : ∀ {l : List Pc}, SmP l → PyData.showableAll (l.map pD) = true
  | [], _ => rfl
  | p :: l, h => by
    show ((pD p).showable && PyData.showableAll (l.map pD)) = true
    rw [showable_pD (h p List.mem_cons_self), showable_all fun q hq => h q (List.mem_cons_of_mem _ hq)] <;> rfl
theorem lst_shown {l : List Pc} (h : SmP l) (hl : l.length ≤ 100) : (PyData.list (l.map pD)).showable = true ∧ (PyData.list (l.map pD)).shown.length ≤ 15000 ∧ (PyData.list (l.map pD)).depth ≤ 60 := by
  obtain ⟨a, b⟩ := shown_sum h
  refine ⟨showable_all h, ?_, ?_⟩
  · have t := listText_len_le (PyData.shownAll (l.map pD))
    show (listText (PyData.shownAll (l.map pD))).length ≤ 15000
    omega
  · have := (lay_pDs l).2
    show PyData.depthAll (l.map pD) + 1 ≤ 60
    omega
def nmText (n : List Pc) : Str := Str.empty ++ "NumberMap(" ++ (PyData.list (n.map pD)).shown ++ ")"
def spReprN (C : Addr) : Sp := fun vs H Q _ => ∃ (m : Addr) (n : List Pc), vs = [.ref m] ∧ NMap C H m n ∧ SmP n ∧ n.length ≤ 100 ∧ ∀ H', Same H H' → Q (.str (nmText n)) H'
def spEq (K : PySem.W.Frag) (C CM CT : Addr) : Sp := fun vs H Q _ => ∃ (m : Addr) (n : List Pc) (y : V), vs = [.ref m, y] ∧ NMap C H m n ∧
  ((∃ (m2 : Addr) (n2 : List Pc), y = .ref m2 ∧ NMap C H m2 n2 ∧ Q (.bl (decide (n = n2))) H) ∨
    (∃ t, TyX K H y t ∧ PySem.W.kitOne K t (.ref CM) = some false ∧ Q (.bl false) H) ∨ ∃ (b dx : Addr) (fs : List (Str × V)), y = .ref b ∧ H b = some (.ins CT dx fs) ∧ fs.lookup ("KIND" : Str) = none ∧ Q (.bl false) H)
section
variable {P : Program} {w : World} {K : PySem.W.Frag} {mg : Str → Option Value} {base : Heap} {f fK fN fV fR fC fI C CM CT CI : Addr} {fd dK dN dV dR dC dI : FuncData}
theorem ok_is_kindN (F : FD K "is_kind" s_is_kind f fd) (T : TW mg) : FnOk P w K mg base CX0 1 f fd ["value"] (spIsKindN K) := by
  refine F.ok sc_is_kind (fun vs H Q E h => ?_) (fun cdv A outer s H vs Q E hr h => ?_)
  · obtain ⟨rfl, _⟩ := h
    rfl
  obtain ⟨rfl, q⟩ := h
  refine ⟨_, PSs.nox (pss_one (ps_ret (pe_and (pe_callB call_isi (by rfl) T.isi boot_isi (pa_cons (pv 0) (pa_cons (pe_bltn (v := .ty "str") (by rfl) T.str (by decide +kernel) rfl) pa_nil))) (pe_one (pe_cmpR op_in_seq (pv 0) (pe_tup (pa_cons pe_str (pa_cons pe_str pa_nil))) (by rfl)))))), ?_⟩
  refine ⟨_, rfl, .str "number", .ty "str", .type "str", _, _, rfl, .ty _, .base (.str _), kit_ty (show kitB "str" "str" = some true by decide +kernel), true, rfl, ?_⟩
  refine (show (if true = true then _ else _) from ?_)
  rw [if_pos rfl]
  refine ⟨_, rfl, by show 2 ≤ sizeLine; decide, fun p hp => ?_⟩
  exact ⟨p, _, rfl, .inr (SqT.of upd_same), rfl, rfl, q _ (same_upd hp)⟩
theorem ok_is_valN (F : FD K "is_value" s_is_value f fd) (KI : Kn P w K mg base 1 "is_kind" fK dK ["value"] (spIsKindN K)) (N : Kn P w K mg base 1 "is_number" fN dN ["value"] (spIsNumber K)) : FnOk P w K mg base CX0 2 f fd ["value", "kind"] (spIsValN K) := by
  refine F.ok sc_is_value (fun vs H Q E h => ?_) (fun cdv A outer s H vs Q E hr h => ?_)
  · obtain ⟨x, t, b1, b2, rfl, _⟩ := h
    rfl
  obtain ⟨x, t, b1, b2, rfl, ty, k1, k2, q⟩ := h
  refine ⟨_, PSs.nox (pss_cons (ps_if (pt_not (pt_val (pe_call KI.f hr rfl KI.m KI.k KI.b .nil pass0 (pa_cons (pv 1) pa_nil)))) (pss_one (ps_ret pe_bl)) pss_nil)
    (pss_cons (ps_if (pt_cmpR op_eq (pv 1) pe_str (nomark _)) (pss_one (ps_ret (pe_call N.f hr rfl N.m N.k N.b .nil pass0 (pa_cons (pv 0) pa_nil)))) pss_nil) pss_never)), ?_⟩
  refine ⟨_, rfl, rfl, fun H1 s1 => ⟨true, rfl, ?_⟩⟩
  refine (show (if (!true) = true then _ else _) from ?_)
  rw [if_neg (by decide)]
  refine ⟨_, rfl, rfl, true, ?_, ?_⟩
  · show V.bl (decide (V.str "number" = V.str "number")) = V.bl true
    rw [decide_eq_true rfl]
  refine (show (if true = true then _ else _) from ?_)
  rw [if_pos rfl]
  exact ⟨_, rfl, x, t, b1, b2, rfl, tyx_same s1 ty, k1, k2, fun H2 s2 => q H2 (s1.trans s2)⟩
theorem ok_at_n (F : FM K "at" "Map.at" s_mat f fd) (N : NMc K C) (O : TcO K C CM "number") (IV : Kn P w K mg base 2 "is_value" fV dV ["value", "kind"] (spIsValN K)) (GR : FnOk P w K mg base CX0 2 fR dR ["self", "value"] (spResult C)) (bR : Binds K dR ["self", "value"] []) (mR : Meth K C "_result" fR) : FnOk P w K mg base CX0 3 f fd ["self", "value"] (spAtN C) := by
  refine F.ok sc_mat (fun vs H Q E h => ?_) (fun cdv A outer s H vs Q E hr h => ?_)
  · obtain ⟨m, n, x, rfl, _⟩ := h
    rfl
  obtain ⟨m, n, x, rfl, nm, hc, hl, q⟩ := h
  obtain ⟨u1, k1⟩ := O.knd
  refine ⟨_, PSs.nox (pss_cons (ps_if (pt_not (pt_val (pe_call IV.f hr rfl IV.m IV.k IV.b .nil pass0 (pa_cons (pv 1) (pa_cons (pe_con (pv 0) rfl) pa_nil))))) pss_never pss_nil)
    (pss_one (ps_ret (pe_meth (pv 0) N.cl mR GR hr bR .nil pass0 (pa_cons (pv 1) pa_nil))))), ?_⟩
  obtain ⟨dx, u, hm, hu⟩ := nm
  refine ⟨_, rfl, _, rfl, m, C, dx, _, _, u1, rfl, hm, N.cl, k1, rfl, .int x, .type "int", true, false, rfl, .base (.int x), kit_ty (show kitB "int" "int" = some true by decide +kernel), kit_ty (show kitB "int" "bool" = some false by decide +kernel), fun H1 s1 => ⟨true, rfl, ?_⟩⟩
  refine (show (if (!true) = true then _ else _) from ?_)
  rw [if_neg (by decide)]
  exact ⟨_, rfl, m, dx, _, rfl, s1 _ _ hm, rfl, _, rfl, m, n, x, rfl, ⟨dx, u, s1 _ _ hm, hu.same s1⟩, hc, hl, q H1 s1⟩
theorem ok_at_x (F : FM K "at" "Map.at" s_mat f fd) (N : NMc K C) (O : TcO K C CM "number") (IV : Kn P w K mg base 2 "is_value" fV dV ["value", "kind"] (spIsValN K)) (GR : FnOk P w K mg base CX0 2 fR dR ["self", "value"] (spResult C)) (bR : Binds K dR ["self", "value"] []) (mR : Meth K C "_result" fR)
    (XI : XcO P w K mg base CI fI dI "InvalidValue" "value") : FnOk P w K mg base (L2.CX P w) 3 f fd ["self", "value"] (spAtX K C CI) := by
  refine F.ok sc_mat (fun vs H Q E h => ?_) (fun cdv A outer s H vs Q E hr h => ?_)
  · obtain ⟨m, n, x, t, b1, b2, rfl, _⟩ := h
    rfl
  obtain ⟨m, n, x, t, b1, b2, rfl, ⟨dx, u, hm, hu⟩, ty, k2, k3, no, q⟩ := h
  have hr2 : Room 2 _ := hr
  obtain ⟨u1, k1⟩ := O.knd
  refine ⟨_, pss_cons (ps_if (pt_not (pt_val (pe_call IV.f hr rfl IV.m IV.k IV.b .nil pass0 (pa_cons (pv 1) (pa_cons (pe_con (pv 0) rfl) pa_nil))))) (pss_one (ps_raise rfl (takes_of rfl rfl rfl rfl) (pmk_xe XI.x XI.i XI.t XI.g hr2 XI.b pass0 (by decide) rfl XI.m (pa_cons (pv 1) pa_nil)))) pss_nil)
    (pss_one (ps_ret (pe_meth (pv 0) N.cl mR GR hr bR .nil pass0 (pa_cons (pv 1) pa_nil)))), ?_⟩
  refine ⟨_, rfl, _, rfl, m, C, dx, _, _, u1, rfl, hm, N.cl, k1, rfl, x, t, b1, b2, rfl, ty, k2, k3, fun H1 s1 => ⟨b1 && !b2, rfl, ?_⟩⟩
  rw [no]
  refine (show (if (!false) = true then _ else _) from ?_)
  rw [if_pos (by decide)]
  exact xraise XI.x XI.no rfl fun d H2 s2 e2 => q d H2 (s1.trans s2) e2
theorem ok_kind (F : FM K "kind" "Map.kind" s_kind f fd) (O : TcO K C CM "number") : FnOk P w K mg base CX0 1 f fd ["self"] (spKind C) := by
  refine F.ok sc_kind (fun vs H Q E h => ?_) (fun cdv A outer s H vs Q E hr h => ?_)
  · obtain ⟨m, dx, fs, rfl, _⟩ := h
    rfl
  obtain ⟨m, dx, fs, rfl, hm, hl, q⟩ := h
  obtain ⟨u1, k1⟩ := O.knd
  exact ⟨_, PSs.nox (pss_one (ps_ret (pe_con (pv 0) rfl))), _, rfl, m, C, dx, _, _, u1, rfl, hm, O.cl, k1, hl, q⟩
theorem ok_content (F : FM K "_content" "NumberMap._content" s_ncontent f fd) (N : NMc K C) : FnOk P w K mg base CX0 1 f fd ["self"] (spContent C) := by
  refine F.ok sc_ncontent (fun vs H Q E h => ?_) (fun cdv A outer s H vs Q E hr h => ?_)
  · obtain ⟨m, dx, u, rfl, _⟩ := h
    rfl
  obtain ⟨m, dx, u, rfl, hm, q⟩ := h
  exact ⟨_, PSs.nox (pss_one (ps_ret (pe_fld (pv 0) rfl))), _, rfl, m, C, dx, _, .ref u, rfl, hm, N.cl, N.nP, rfl, q⟩
theorem ok_npieces (F : FM K "pieces" "NumberMap.pieces" s_npieces f fd) (N : NMc K C) (tl : mg "list" = none) : FnOk P w K mg base CX0 1 f fd ["self"] (spPiecesM C) := by
  refine F.ok sc_npieces (fun vs H Q E h => ?_) (fun cdv A outer s H vs Q E hr h => ?_)
  · obtain ⟨m, n, rfl, _⟩ := h
    rfl
  obtain ⟨m, n, rfl, ⟨dx, u, hm, ts, hu, pr⟩, q⟩ := h
  refine ⟨_, PSs.nox (pss_one (ps_ret (pe_callTy call_list_of (by rfl) tl (by decide +kernel) (pa_cons (pe_fld (pv 0) rfl) pa_nil)))), ?_⟩
  refine ⟨_, rfl, m, C, dx, _, .ref u, rfl, hm, N.cl, N.nP, rfl, u, _, rfl, .inr (SqT.of hu), fun g hg => ?_⟩
  have s1 := same_upd (o := HO.lst (ts.map V.ref)) hg
  exact q g _ hg s1 ⟨ts, upd_same, pr.mono fun t p e => s1 _ _ e⟩
theorem ok_nrepr (F : FM K "__repr__" "NumberMap.__repr__" s_nrepr f fd) (N : NMc K C) (tl : mg "list" = none) (hK : noMods K = true) : FnG P w K mg base CX0 1 f fd ["self"] (spReprN C) := by
  refine F.okG sc_nrepr (fun vs H Q E h => ?_) (fun cdv A outer s H vs Q E hg hr h => ?_)
  · obtain ⟨m, n, rfl, _⟩ := h
    rfl
  obtain ⟨m, n, rfl, ⟨dx, u, hm, ts, hu, pr⟩, sm, hl, q⟩ := h
  have hG := deeper_guards (env := PyProof.Rows.envOfC "NumberMap.__repr__" (defScope s_nrepr) s.heap.objs.size f cdv) hg
  have hu' := hr.units
  refine ⟨_, PSs.nox (pss_one (ps_ret (pe_joined (.cons pe_str (.cons (pe_fmtD (by exact hG) (by exact hu') (by exact hK) (pe_callTy call_list_of (by rfl) tl (by decide +kernel) (pa_cons (pe_fld (pv 0) rfl) pa_nil))) (.cons pe_str .nil)))))), ?_⟩
  obtain ⟨a1, a2, a3⟩ := lst_shown sm hl
  have e1 : (Str.empty ++ "NumberMap(" : Str).length = 10 := by decide +kernel
  have e2 : (")" : Str).length = 1 := by decide +kernel
  have big : 20000 ≤ sizeLine := by decide
  refine ⟨_, rfl, by rw [e1]; exact Nat.le_trans (by decide) big, _, rfl, m, C, dx, _, .ref u, rfl, hm, N.cl, N.nP, rfl, u, _, rfl, .inr (SqT.of hu), fun g hgg => ?_⟩
  have s1 := same_upd (o := HO.lst (ts.map V.ref)) hgg
  have lg : LstAt (upd H g (.lst (ts.map V.ref))) g n := ⟨ts, upd_same, pr.mono fun t p e => s1 _ _ e⟩
  refine ⟨_, rp_lst lg, a1, Nat.le_trans a2 (by decide), a3, _, rfl, ?_, _, rfl, ?_, q _ s1⟩
  · rw [strLen_append, e1]
    omega
  · rw [strLen_append, strLen_append, e1, e2]
    omega
theorem ok_meq (F : FM K "__eq__" "Map.__eq__" s_meq f fd) (N : NMc K C) (O : TcO K C CM "number") (OT : TcO K CT CM "text") (ti : mg "isinstance" = none) (tM : mg "Map" = some (.ref CM))
    (GC : FnOk P w K mg base CX0 1 fC dC ["self"] (spContent C)) (bC : Binds K dC ["self"] []) (mC : Meth K C "_content" fC) : FnOk P w K mg base CX0 2 f fd ["self", "other"] (spEq K C CM CT) := by
  refine F.ok sc_meq (fun vs H Q E h => ?_) (fun cdv A outer s H vs Q E hr h => ?_)
  · obtain ⟨m, n, y, rfl, _⟩ := h
    rfl
  obtain ⟨m, n, y, rfl, ⟨dx, u, hm, hu⟩, h⟩ := h
  have hun := hr.units
  obtain ⟨u1, k1⟩ := O.knd
  obtain ⟨u2, k2⟩ := OT.knd
  refine ⟨_, PSs.nox (pss_one (ps_ret (pe_and (pe_callB call_isi (by rfl) ti boot_isi (pa_cons (pv 1) (pa_cons (pe_glob (v := .ref CM) rfl tM rfl) pa_nil))) (pe_and (pe_cmpR op_eq (pe_con (pv 0) rfl) (pe_con (pv 1) rfl) (nomark _))
    (pe_one (pe_cmpR (op_eqD (by exact hun)) (pe_meth0 (pv 0) N.cl mC GC hr bC .nil pass0) (pe_meth0 (pv 1) N.cl mC GC hr bC .nil pass0) (nomark _))))))), ?_⟩
  rcases h with ⟨m2, n2, rfl, ⟨dy, v, hm2, hv⟩, q⟩ | ⟨t, ty, kt, q⟩ | ⟨b, dy, fs, rfl, hb, hl, q⟩
  · refine ⟨_, rfl, .ref m2, .ref CM, .ref C, _, _, rfl, .own _, O.ty hm2, O.kit, true, rfl, ?_⟩
    refine (show (if true = true then _ else _) from ?_)
    rw [if_pos rfl]
    refine ⟨_, rfl, m, C, dx, _, _, u1, rfl, hm, N.cl, k1, rfl, _, rfl, m2, C, dy, _, _, u1, rfl, hm2, N.cl, k1, rfl, rfl, true, ?_, ?_⟩
    · show V.bl (decide (V.str "number" = V.str "number")) = V.bl true
      rw [decide_eq_true rfl]
    refine (show (if true = true then _ else _) from ?_)
    rw [if_pos rfl]
    refine ⟨_, rfl, m, dx, _, rfl, hm, rfl, m, dx, u, rfl, hm, _, rfl, m2, dy, _, rfl, hm2, rfl, m2, dy, v, rfl, hm2, _, _, dp_tup hu, dp_tup hv, shaped_tup n, shaped_tup n2, ?_⟩
    show Q (V.bl (PyData.eqvAll (n.map pD) (n2.map pD))) H
    rw [eqv_pDs]
    exact q
  · refine ⟨_, rfl, y, .ref CM, t, _, _, rfl, .own _, ty, kt, false, rfl, ?_⟩
    refine (show (if false = true then _ else _) from ?_)
    rw [if_neg (by decide)]
    exact q
  · refine ⟨_, rfl, .ref b, .ref CM, .ref CT, _, _, rfl, .own _, OT.ty hb, OT.kit, true, rfl, ?_⟩
    refine (show (if true = true then _ else _) from ?_)
    rw [if_pos rfl]
    refine ⟨_, rfl, m, C, dx, _, _, u1, rfl, hm, N.cl, k1, rfl, _, rfl, b, CT, dy, _, _, u2, rfl, hb, OT.cl, k2, hl, rfl, false, ?_, ?_⟩
    · show V.bl (decide (V.str "number" = V.str "text")) = V.bl false
      rw [decide_eq_false (by decide +kernel)]
    refine (show (if false = true then _ else _) from ?_)
    rw [if_neg (by decide)]
    exact q
end
end C4

end Pq4V
section Pq4tG
set_option maxHeartbeats 4000000
namespace C4.T
open C4
open PySem L2
/-! ### a table of words -/
structure Tab (n : Nat) (kvs : List (Key × V)) : Prop where
  each : ∀ q ∈ kvs, ∃ a b : Str, q = (Sum.inr a, V.str b) ∧ wordB a 12 = true ∧ wordB b 12 = true
  nd : (kvs.map (·.1)).Nodup
  len : kvs.length ≤ n
theorem Tab.nil : Tab 0 [] := ⟨fun q h => absurd h List.not_mem_nil, List.nodup_nil, Nat.le_refl _⟩
theorem putK_keys {kvs : List (Key × V)} {k : Key} {v : V} : (putK kvs k v).map (·.1) = if (kvs.any fun kv => decide (kv.1 = k)) = true then kvs.map (·.1) else kvs.map (·.1) ++ [k] := by
  unfold putK
  split
  · rw [List.map_map]
    apply List.map_congr_left
    intro q _
    show (if q.1 = k then (q.1, v) else q).1 = q.1
    split <;> rfl
  · rw [List.map_append]
    rfl
theorem Tab.put {n : Nat} {kvs : List (Key × V)} {a b : Str} (t : Tab n kvs) (wa : wordB a 12 = true) (wb : wordB b 12 = true) : Tab (n + 1) (putK kvs (Sum.inr a) (V.str b)) := by
  refine ⟨fun q hq => ?_, ?_, ?_⟩
  · unfold putK at hq
    split at hq
    · obtain ⟨r, hr, e⟩ := List.mem_map.mp hq
      by_cases h : r.1 = Sum.inr a
      · rw [if_pos h] at e
        exact ⟨a, b, by rw [← e, h], wa, wb⟩
      · rw [if_neg h] at e
        exact e ▸ t.each r hr
    · rcases List.mem_append.mp hq with h | h
      · exact t.each q h
      · exact ⟨a, b, List.mem_singleton.mp h, wa, wb⟩
  · rw [putK_keys]
    split
    · exact t.nd
    · rename_i h
      refine List.nodup_append.mpr ⟨t.nd, by simp, fun x hx y hy => ?_⟩
      rw [List.mem_singleton.mp hy]
      intro e
      obtain ⟨r, hr, er⟩ := List.mem_map.mp hx
      exact h (List.any_eq_true.mpr ⟨r, hr, decide_eq_true (er.trans e)⟩)
  · have e := congrArg List.length (putK_keys (kvs := kvs) (k := Sum.inr a) (v := V.str b))
    rw [List.length_map] at e
    have l := t.len
    rw [e]
    split
    · rw [List.length_map]
      omega
    · rw [List.length_append, List.length_map, List.length_singleton]
      omega
/-- what the law's table says of a word -/
def orV (last : V) (z : Str) : V := if last = .non then .str z else last
def atV (kvs : List (Key × V)) (last : V) (z : Str) : V := match valV kvs (Sum.inr z) with
  | some v => v
  | none => orV last z
end C4.T

end Pq4tG
section Pq4tH
set_option maxHeartbeats 4000000
namespace C4.T
open C4
open PySem L2
/-! ### a map of texts: its object, what it says of a word -/
abbrev s_usual : Stmt := inCls (top 38) 8
abbrev s_result : Stmt := inCls (top 38) 9
structure TMc (K : PySem.W.Frag) (C : Addr) : Prop where
  cl : Cls K C
  nE : NoAttr K C "_exceptions"
  nR : NoAttr K C "_rest"
/-- at m: a map of texts of the class at C with these exceptions and this rest -/
def TMap (C : Addr) (H : Hp) (m : Addr) (kvs : List (Key × V)) (r : V) : Prop := ∃ dx d, H m = some (.ins C dx [("_rest", r), ("_exceptions", .ref d)]) ∧ H d = some (.dK kvs)
theorem TMap.same {C : Addr} {H H' : Hp} {m : Addr} {kvs : List (Key × V)} {r : V} (s : Same H H') (h : TMap C H m kvs r) : TMap C H' m kvs r := by
  obtain ⟨dx, d, a, b⟩ := h
  exact ⟨dx, d, s _ _ a, s _ _ b⟩
def spUsual (C : Addr) : Sp := fun vs H Q _ => ∃ (m dx : Addr) (fs : List (Str × V)) (r : V) (z : Str), vs = [.ref m, .str z] ∧ H m = some (.ins C dx fs) ∧ fs.lookup ("_rest" : Str) = some r ∧ Q (orV r z) H
def spResult (C : Addr) : Sp := fun vs H Q _ => ∃ (m : Addr) (kvs : List (Key × V)) (r : V) (z : Str), vs = [.ref m, .str z] ∧ TMap C H m kvs r ∧ Q (atV kvs r z) H
theorem sc_usual : FnScope ["self", "value"] ["self", "value"] (defScope s_usual) := ⟨rfl, rfl, rfl, by decide +kernel, rfl, by decide +kernel, by decide +kernel⟩
theorem sc_result : FnScope ["self", "value"] ["self", "value"] (defScope s_result) := ⟨rfl, rfl, rfl, by decide +kernel, rfl, by decide +kernel, by decide +kernel⟩
section
variable {P : Program} {w : World} {K : PySem.W.Frag} {mg : Str → Option Value} {base : Heap} {f fU C : Addr} {fd dU : FuncData}
theorem ok_usual (F : FM K "_usual" "TextMap._usual" s_usual f fd) (T : TMc K C) : FnOk P w K mg base CX0 1 f fd ["self", "value"] (spUsual C) := by
  refine F.ok sc_usual (fun vs H Q E h => ?_) (fun cdv A outer s H vs Q E hr h => ?_)
  · obtain ⟨m, dx, fs, r, z, rfl, _⟩ := h
    rfl
  obtain ⟨m, dx, fs, r, z, rfl, hm, hl, q⟩ := h
  refine ⟨_, PSs.nox (pss_one (ps_ret (pe_ifExp (pt_cmp (pc_isN (pe_fld (pv 0) rfl))) (pv 1) (pe_fld (pv 0) rfl)))), ?_⟩
  refine ⟨_, rfl, m, C, dx, _, r, rfl, hm, T.cl, T.nR, hl, _, rfl, ?_⟩
  unfold orV at q
  by_cases h : r = .non
  · rw [decide_eq_true h]
    rw [if_pos h] at q
    exact ⟨_, rfl, q⟩
  · rw [decide_eq_false h]
    rw [if_neg h] at q
    exact ⟨_, rfl, m, C, dx, _, r, rfl, hm, T.cl, T.nR, hl, q⟩
theorem ok_result (F : FM K "_result" "TextMap._result" s_result f fd) (T : TMc K C) (GU : FnOk P w K mg base CX0 1 fU dU ["self", "value"] (spUsual C)) (bU : Binds K dU ["self", "value"] []) (mU : Meth K C "_usual" fU) : FnOk P w K mg base CX0 2 f fd ["self", "value"] (spResult C) := by
  refine F.ok sc_result (fun vs H Q E h => ?_) (fun cdv A outer s H vs Q E hr h => ?_)
  · obtain ⟨m, kvs, r, z, rfl, _⟩ := h
    rfl
  obtain ⟨m, kvs, r, z, rfl, ⟨dx, d, hm, hd⟩, q⟩ := h
  have hu := hr.units
  have hu1 : A.units + 3 + 1 < cLine := by have h : A.units + 3 + 64 < cLine := hu; omega
  refine ⟨_, PSs.nox (pss_one (ps_ret (pe_dget2 hu1 (pe_fld (pv 0) rfl) (pv 1) (pe_meth (pv 0) T.cl mU GU hr bU .nil pass0 (pa_cons (pv 1) pa_nil)) (by constructor <;> rfl)))), ?_⟩
  refine ⟨_, rfl, m, C, dx, _, .ref d, rfl, hm, T.cl, T.nE, rfl, ?_⟩
  refine ⟨d, rfl, .inl ⟨kvs, .inl hd⟩, ?_⟩
  refine ⟨_, rfl, _, rfl, m, dx, _, rfl, hm, rfl, _, rfl, m, dx, _, r, z, rfl, hm, rfl, ?_⟩
  refine ⟨_, DGet.k (k := Sum.inr z) hd, ?_⟩
  unfold atV at q
  cases e : valV kvs (Sum.inr z) with
  | some v =>
    rw [e] at q
    exact q
  | none =>
    rw [e] at q
    exact q
end
end C4.T

end Pq4tH
section Pq4tI
set_option maxHeartbeats 4000000
namespace C4.T
open C4
open PySem L2
theorem put_new {kvs : List (Key × V)} {k : Key} {v : V} (h : k ∉ kvs.map (·.1)) : putK kvs k v = kvs ++ [(k, v)] := by
  unfold putK
  rw [if_neg]
  intro e
  obtain ⟨q, hq, eq⟩ := List.any_eq_true.mp e
  exact h (List.mem_map.mpr ⟨q, hq, of_decide_eq_true eq⟩)
theorem take_put {kvs : List (Key × V)} {i : Nat} {k : Key} {v : V} (nd : (kvs.map (·.1)).Nodup) (e : kvs[i]? = some (k, v)) : putK (kvs.take i) k v = kvs.take (i + 1) := by
  have s : kvs.take (i + 1) = kvs.take i ++ [(k, v)] := by rw [List.take_succ, e]; rfl
  rw [put_new, s]
  intro h
  have n2 : ((kvs.take (i + 1)).map (·.1)).Nodup := by
    rw [List.map_take]
    exact nd.sublist (List.take_sublist _ _)
  rw [s, List.map_append] at n2
  exact (List.nodup_append.mp n2).2.2 k h k (by simp) rfl
theorem get_at {kvs : List (Key × V)} {i : Nat} {k : Key} {v : V} (nd : (kvs.map (·.1)).Nodup) (e : kvs[i]? = some (k, v)) : valV kvs k = some v := by
  induction kvs generalizing i with
  | nil => cases e
  | cons q r ih =>
    cases i with
    | zero =>
      cases (show q = (k, v) from Option.some.inj e)
      exact valV_pos rfl
    | succ i =>
      have e' : r[i]? = some (k, v) := e
      have hk : k ∈ r.map (·.1) := List.mem_map.mpr ⟨_, List.mem_of_getElem? e', rfl⟩
      have nn := List.nodup_cons.mp (show (q.1 :: r.map (·.1)).Nodup from nd)
      rw [valV_neg (fun z => nn.1 (by rw [z]; exact hk))]
      exact ih nn.2 e'
abbrev s_exceptions : Stmt := inCls (top 38) 5
def spExceptions (C : Addr) : Sp := fun vs H Q _ => ∃ (m : Addr) (kvs : List (Key × V)) (r : V), vs = [.ref m] ∧ TMap C H m kvs r ∧ (kvs.map (·.1)).Nodup ∧ kvs.length ≤ 1000 ∧ ∀ D H', H D = none → Same H H' → H' D = some (.dK kvs) → Q (.ref D) H'
theorem sc_exceptions : FnScope ["self", "old"] ["self"] (defScope s_exceptions) := ⟨rfl, rfl, rfl, by decide +kernel, rfl, by decide +kernel, by decide +kernel⟩
section
variable {P : Program} {w : World} {K : PySem.W.Frag} {mg : Str → Option Value} {base : Heap} {f C : Addr} {fd : FuncData}
theorem ok_exceptions (F : FM K "exceptions" "TextMap.exceptions" s_exceptions f fd) (T : TMc K C) : FnOk P w K mg base CX0 1 f fd ["self"] (spExceptions C) := by
  refine F.ok sc_exceptions (fun vs H Q E h => ?_) (fun cdv A outer s H vs Q E hr h => ?_)
  · obtain ⟨m, kvs, r, rfl, _⟩ := h
    rfl
  obtain ⟨m, kvs, r, rfl, ⟨dx, d, hm, hd⟩, nd, hl, q⟩ := h
  have hu := hr.units
  have hu1 : A.units + 3 + 1 < cLine := by have h : A.units + 3 + 64 < cLine := hu; omega
  refine ⟨_, PSs.nox (pss_one (ps_ret (pe_lock (pe_dc (own := [("old", 1)]) (g := gName 1) (tt := tYes) (tk := tVar 1) (tv := tDGet (tFld K (tVar 0) "_exceptions") (tVar 1)) rfl sc_exceptions.nd (pi_keys (pe_fld (pv 0) rfl)) (blkOk_by (N := ["self", "old"]) (sc := defScope s_exceptions) (by decide +kernel)) (fun _ _ _ _ _ => pg_name (i := 1) sc_exceptions.nd rfl (Or.inl rfl)) (fun _ _ _ _ _ => pts_nil)
      (fun _ _ _ _ _ => by exact (pv 1)) (fun _ _ _ _ _ => by exact (pe_dget hu1 (pe_fld (pv 0) rfl) (pv 1) (fun _ _ => rfl))))))), ?_⟩
  have ne : m ≠ d := fun e => by
    rw [e, hd] at hm
    cases hm
  refine ⟨d, _, hd, trivial, fun od => ?_⟩
  have hm1 : (upd H d (.frz od (.dK kvs))) m = some (.ins C dx [("_rest", r), ("_exceptions", .ref d)]) := by rw [upd_ne ne]; exact hm
  refine ⟨_, rfl, m, C, dx, _, .ref d, rfl, hm1, T.cl, T.nE, rfl, d, od, rfl, .inl ⟨kvs, upd_same, fun D hD => ?_⟩⟩
  have nD : D ≠ d := fun e => by
    rw [e, upd_same] at hD
    cases hD
  have hD0 : H D = none := by rw [← hD, upd_ne nD]
  refine dc_it (walk_keys (kvs := kvs)) (fun i H' => Same (upd H d (.frz od (.dK kvs))) H' ∧ H' D = some (.dK (kvs.take i))) ⟨same_upd hD, upd_same⟩ (fun i H' _ ⟨z, _⟩ => z _ _ upd_same) (fun i x H1 H2 hi ⟨z, hD1⟩ y => ?_) fun H1 ⟨z, hD1⟩ => ?_
  · obtain ⟨rfl, k, v, e, rfl⟩ := y
    refine ⟨rfl, ?_⟩
    simp only [tYes, ↓reduceIte]
    refine ⟨_, rfl, _, rfl, m, C, dx, _, .ref d, rfl, z _ _ hm1, T.cl, T.nE, rfl, _, rfl, d, v, rfl, ?_, kvs.take i, k, rfl, hD1, ?_, same_over z hD, ?_⟩
    · exact .inl ⟨kvs, k, .inr ⟨_, z _ _ upd_same⟩, rfl, (get_at nd e).symm⟩
    · rw [List.length_take]
      exact Nat.lt_of_le_of_lt (show min i kvs.length ≤ 1000 by omega) (by decide)
    · rw [upd_same, take_put nd e]
  · refine ⟨z _ _ upd_same, q D _ hD0 (fun b o e => ?_) ?_⟩
    · by_cases h : b = d
      · rw [h, hd] at e
        rw [h, upd_same]
        exact e
      · rw [upd_ne h]
        exact z b o (by rw [upd_ne h]; exact e)
    · rw [upd_ne nD, hD1, List.take_length]
end
end C4.T

end Pq4tI
section Pq4tJ
set_option maxHeartbeats 4000000
namespace C4.T
open C4
open PySem L2
/-! ### TextMap(exceptions, rest) of what is allowed -/
abbrev s_init : Stmt := inCls (top 38) 1
theorem boot_sorted : bootBuiltins "sorted" = some (.builtin "sorted") := by decide +kernel
/-- a rest: None or a word -/
def RestOk (r : V) : Prop := r = .non ∨ ∃ z : Str, r = .str z ∧ wordB z 12 = true
/-- the exceptions that are kept of kvs: ex, sorted -/
def NormOf (kvs : List (Key × V)) (r : V) (ex : List (Key × V)) : Prop := ∃ (ks ys : List Str), kvs.map (·.1) = ks.map Sum.inr ∧ ys.Perm ks ∧ PyProof.Rows.sortedS ys = true ∧
  ex = (ys.filter fun k => !decide (atV kvs .non k = orV r k)).map fun k => (Sum.inr k, atV kvs .non k)
def spInitT (C : Addr) : Sp := fun vs H Q _ => ∃ (m dx : Addr) (e r : V) (kvs : List (Key × V)), vs = [.ref m, e, r] ∧ H m = some (.ins C dx []) ∧ Tab 60 kvs ∧ RestOk r ∧ ((e = .non ∧ kvs = []) ∨ ∃ g, e = .ref g ∧ H g = some (.dK kvs)) ∧
  ∀ H' ex d, NormOf kvs r ex → H d = none → H' m = some (.ins C dx [("_rest", r), ("_exceptions", .ref d)]) → H' d = some (.dK ex) → Bt m H H' → Q .non H'
abbrev nInit : List Str := ["self", "exceptions", "rest", "given", "old", "new"]
theorem sc_init : FnScope nInit ["self", "exceptions", "rest"] (defScope s_init) := ⟨rfl, rfl, rfl, by decide +kernel, rfl, by decide +kernel, by decide +kernel⟩
theorem seq_made {te : TE} {u : TS} {D : Ends} {σ : St} {σ2 : Addr → St} {H : Hp} {i : Nat} {kvs : List (Key × V)} (h1 : ∀ Q : VK, (∀ g H1, Same H H1 → H1 g = some (.dK kvs) → Q (.ref g) H1) → te σ H Q) (hs : ∀ g, σ.set i (some (.ref g)) = σ2 g) (h2 : ∀ g H1, Same H H1 → H1 g = some (.dK kvs) → u D (σ2 g) H1) :
    tSeq (tAsg te (gName i)) u D σ H := h1 _ fun g H1 s hg => by
  have z := h2 g H1 s hg
  rw [← hs g] at z
  exact z
theorem if_non {c : TT} {t v : TS} {D : Ends} {σ : St} {H : Hp} (h : ∀ Q : Bool → Hp → Prop, (∀ H1, Same H H1 → Q false H1) → c σ H Q) (q : ∀ H1, Same H H1 → v D σ H1) : tSeq (tIfS c t tNext) v D σ H :=
  h _ fun H1 s => show (if false = true then _ else _) from by rw [if_neg (by decide)]; exact q H1 s
theorem asStr_str {K : PySem.W.Frag} {H : Hp} (z : Str) : AsStr K H (.str z) := ⟨.type "str", .base (.str z), kit_ty (show kitB "str" "str" = some true by decide +kernel)⟩
theorem word_len {z : Str} (h : wordB z 12 = true) : z.length ≤ sizeLine := Nat.le_trans (word_asc (m := 12) h).1 (by decide)
/-- is_value(name, 'text') of a word -/
theorem word_at {K : PySem.W.Frag} {E : XK} {σ : St} {H : Hp} {i : Nat} {z : Str} (e : σ[i]? = some (some (.str z))) (hw : wordB z 12 = true) : ∀ Q : Bool → Hp → Prop, (∀ H1, Same H H1 → Q true H1) → tB (tCall (spIsValue K) [] E (tCons (tVar i) (tCons (tC (.str "text")) tNil))) σ H Q := fun Q q =>
  ⟨_, e, .str z, rfl, asStr_str z, fun y h => by cases h; exact word_len hw, fun H1 s => ⟨isWd (.str z) 12, rfl, by rw [show isWd (.str z) 12 = true from hw]; exact q H1 s⟩⟩
theorem tab_keys {n : Nat} {kvs : List (Key × V)} (t : Tab n kvs) : ∃ ks : List Str, kvs.map (·.1) = ks.map Sum.inr := by
  have h := t.each
  clear t
  induction kvs with
  | nil => exact ⟨[], rfl⟩
  | cons q r ih =>
    obtain ⟨ks, e⟩ := ih fun x hx => h x (List.mem_cons_of_mem _ hx)
    obtain ⟨a, b, rfl, _⟩ := h q List.mem_cons_self
    exact ⟨a :: ks, by rw [List.map_cons, List.map_cons, e]⟩
theorem orV_str {r : V} (h : RestOk r) (k : Str) : ∃ y : Str, orV r k = .str y := by
  rcases h with rfl | ⟨z, rfl, _⟩
  · exact ⟨k, if_pos rfl⟩
  · exact ⟨z, if_neg (fun e => nomatch e)⟩
theorem tor {t u : TT} {σ : St} {H : Hp} {Q : Bool → Hp → Prop} (ht : ∀ Q : Bool → Hp → Prop, (∀ H1, Same H H1 → Q false H1) → t σ H Q) (hu : ∀ H1, Same H H1 → u σ H1 Q) : tOr t u σ H Q :=
  ht _ fun H1 s => show (if false = true then _ else _) from by rw [if_neg (by decide)]; exact hu H1 s
theorem if_no {c : TT} {t u : TS} {D : Ends} {σ : St} {H : Hp} (h : ∀ Q : Bool → Hp → Prop, (∀ H1, Same H H1 → Q false H1) → c σ H Q) (q : ∀ H1, Same H H1 → u D σ H1) : tIfS c t u D σ H :=
  h _ fun H1 s => show (if false = true then _ else _) from by rw [if_neg (by decide)]; exact q H1 s
structure TI12 (mg : Str → Option Value) : Prop where
  isi : mg "isinstance" = none
  dict : mg "dict" = none
  sorted : mg "sorted" = none
section
variable {P : Program} {w : World} {K : PySem.W.Frag} {mg : Str → Option Value} {base : Heap} {f fV fU fI C IM : Addr} {fd dV dU dI : FuncData}
theorem ok_init (F : FunD K "__init__" "TextMap.__init__" (defArgs s_init) (defBody s_init) (defScope s_init) [.non, .non] [] f fd) (T : TI12 mg) (TC : TMc K C) (IV : Kn P w K mg base 2 "is_value" fV dV ["value", "kind"] (spIsValue K))
    (GU : FnOk P w K mg base CX0 1 fU dU ["self", "value"] (spUsual C)) (bU : Binds K dU ["self", "value"] []) (mU : Meth K C "_usual" fU)
    (X0 : XC K IM) (iIM : PySem.W.findIn K (.ref IM) "__init__" = some (some (.ref fI))) (tIM : PySem.W.typeIn K (.ref fI) = some (.type "function")) (mIM : mg "InvalidMap" = some (.ref IM)) {spI : Sp} (GI : FnOk P w K mg base CX0 1 fI dI ["self", "position"] spI) (bI : KBn K dI ["self", "position"] 2 [] (fun us _ => us) (fun us _ => us)) :
    FnOk P w K mg base CX0 3 f fd ["self", "exceptions", "rest"] (spInitT C) := by
  refine F.ok sc_init (fun vs H Q E h => ?_) (fun cdv A outer s H vs Q E hr h => ?_)
  · obtain ⟨m, dx, e, r, kvs, rfl, _⟩ := h
    rfl
  obtain ⟨m, dx, e, r, kvs, rfl, hm, tab, hrest, he, q⟩ := h
  have hu := hr.units
  have hu1 : A.units + 3 + 1 < cLine := by have h : A.units + 3 + 64 < cLine := hu; omega
  have hr2 : Room 2 _ := hr
  refine ⟨_, PSs.nox (pss_cons (ps_set (i := 3) sc_init.nd rfl (Or.inr rfl) (pe_ifExp (pt_cmp (pc_isN (pv 1))) pe_dnewK (pv 1)))
    (pss_cons (ps_if (PW.pt (pw_or (pt_not (pt_val (pe_callB call_isi (by rfl) T.isi boot_isi (pa_cons (pv 3) (pa_cons (pe_bltn (v := .ty "dict") (by rfl) T.dict (by decide +kernel) rfl) pa_nil))))) (pw_or1 (pt_not (PW.pt (pw_or (pt_cmp (pc_isN (pv 2))) (pw_or1 (pt_val (pe_call IV.f hr rfl IV.m IV.k IV.b .nil pass0 (pa_cons (pv 2) (pa_cons pe_str pa_nil)))))))))))
      (pss_one (ps_raise rfl takes_no (pmk_xe X0 iIM tIM GI hr2 bI pass0 (by decide) rfl mIM (pa_cons (pe_un un_neg pe_int) pa_nil)))) pss_nil)
    (pss_cons (ps_lock (ps_for .never (by rfl) (pi_items (pv 3)) (pg_tup (by rfl) (pgs_cons (pg_name (i := 4) sc_init.nd rfl (Or.inl rfl)) (pgs_cons (pg_name (i := 5) sc_init.nd rfl (Or.inl rfl)) pgs_nil)))
      (pss_one (ps_if (PW.pt (pw_or (pt_not (pt_val (pe_call IV.f hr rfl IV.m IV.k IV.b .nil pass0 (pa_cons (pv 4) (pa_cons pe_str pa_nil))))) (pw_or1 (pt_not (pt_val (pe_call IV.f hr rfl IV.m IV.k IV.b .nil pass0 (pa_cons (pv 5) (pa_cons pe_str pa_nil))))))))
        (pss_one (ps_raise rfl takes_no (pmk_xe X0 iIM tIM GI hr2 bI pass0 (by decide) rfl mIM (pa_cons (pe_un un_neg pe_int) pa_nil)))) pss_nil))))
    (pss_cons (ps_fld (pv 0) (pv 2) rfl)
    (pss_one (ps_fld (pv 0) (pe_dc (own := [("old", 4)]) (g := gName 4) (tk := tVar 4) (tv := tDGet (tVar 3) (tVar 4)) rfl sc_init.nd (pi_list (pe_callB (call_sortedD rfl) (by rfl) T.sorted boot_sorted (pa_cons (pv 3) pa_nil))) (blkOk_by (N := nInit) (sc := defScope s_init) (by decide +kernel)) (fun _ _ _ _ _ => pg_name (i := 4) sc_init.nd rfl (Or.inl rfl))
      (fun _ _ _ _ _ => pts_one (pt_cmpR op_ne (pe_dget hu1 (pv 3) (pv 4) (fun _ _ => rfl)) (pe_meth (pv 0) TC.cl mU GU (hr.mono (by decide)) bU .nil pass0 (pa_cons (pv 4) pa_nil)) (nomark _)))
      (fun _ _ _ _ _ => by exact (pv 4)) (fun _ _ _ _ _ => by exact (pe_dget hu1 (pv 3) (pv 4) (fun _ _ => rfl)))) rfl)))))), ?_⟩
  refine seq_made (kvs := kvs) (σ2 := fun g => [some (.ref m), some e, some r, some (.ref g), none, none]) (fun Q' k => ?_) (fun _ => rfl) (fun g H1 s1 hg => ?_)
  · rcases he with ⟨rfl, rfl⟩ | ⟨g, rfl, hg⟩
    · exact ⟨_, rfl, _, rfl, fun p hp => k p _ (same_upd hp) upd_same⟩
    · exact ⟨_, rfl, _, rfl, _, rfl, k g H (Same.refl H) hg⟩
  have hm1 := s1 _ _ hm
  have nmg : m ≠ g := fun e => by
    rw [e, hg] at hm1
    cases hm1
  refine if_non (fun Q0 q0 => ?_) fun H2 s2 => ?_
  · refine tor (fun Q1 q1 => ⟨_, rfl, .ref g, .ty "dict", .type "dict", _, true, rfl, .ty _, .base (.dK hg), kit_ty (by decide +kernel), true, rfl, q1 H1 (Same.refl H1)⟩) fun H3 s3 => ?_
    rcases hrest with rfl | ⟨z, rfl, hz⟩
    · exact ⟨_, rfl, _, rfl, q0 H3 s3⟩
    · exact ⟨_, rfl, _, rfl, word_at rfl hz _ fun H4 s4 => q0 H4 (s3.trans s4)⟩
  have hg2 := s2 _ _ hg
  have hm2 := s2 _ _ hm1
  refine ⟨g, _, hg2, trivial, fun od => ⟨_, rfl, g, od, kvs, rfl, upd_same, ?_⟩⟩
  refine for_it walk_items (fun i σ' H' => (∃ x4 x5 : Option V, σ' = [some (.ref m), some e, some r, some (.ref g), x4, x5]) ∧ Same (upd H2 g (.frz od (.dK kvs))) H') ⟨⟨none, none, rfl⟩, Same.refl _⟩ (fun i σ' H' _ ⟨_, z⟩ => z _ _ upd_same) (fun i x σ' H' H'' hi ⟨⟨x4, x5, e0⟩, z⟩ y => ?_) (fun σ' H' ⟨⟨x4, x5, e0⟩, z⟩ => ?_)
  · subst e0
    obtain ⟨T, kx, v, rfl, nT, rfl, e1, e2⟩ := y
    have ei : kvs[i]? = some (kvs[i]'hi) := List.getElem?_eq_getElem hi
    obtain ⟨a, b, eab, wa, wb⟩ := tab.each _ (List.getElem_mem hi)
    replace e1 : kvs[i]?.map (fun kv => kV kv.1) = some kx := e1
    replace e2 : kvs[i]?.map Prod.snd = some v := e2
    rw [ei, eab] at e1 e2
    cases e1
    cases e2
    refine ⟨T, _, rfl, SqT.of upd_same, rfl, _, _, rfl, _, _, rfl, rfl, ?_⟩
    refine if_no (fun Q0 q0 => tor (fun Q1 q1 => word_at rfl wa _ fun H4 s4 => q1 H4 s4) fun H4 s4 => word_at rfl wb _ fun H5 s5 => q0 H5 (s4.trans s5)) fun H5 s5 => ?_
    exact ⟨⟨_, _, rfl⟩, (z.trans (same_upd nT)).trans s5⟩
  subst e0
  have s3 : Same H2 (upd H' g (.dK kvs)) := fun b o e => by
    by_cases h : b = g
    · rw [h, hg2] at e
      rw [h, upd_same]
      exact e
    · rw [upd_ne h]
      exact z b o (by rw [upd_ne h]; exact e)
  refine ⟨z _ _ upd_same, ?_⟩
  generalize upd H' g (.dK kvs) = H3 at s3
  have hm3 := s3 _ _ hm2
  have hg3 := s3 _ _ hg2
  refine ⟨_, rfl, _, rfl, m, C, dx, _, rfl, hm3, TC.cl, TC.nR, by decide, ?_⟩
  have hg4 : (upd H3 m (.ins C dx (putF "_rest" r []))) g = some (.dK kvs) := by rw [upd_ne (Ne.symm nmg)]; exact hg3
  generalize hH4 : upd H3 m (.ins C dx (putF "_rest" r [])) = H4 at hg4 ⊢
  have hm4 : H4 m = some (.ins C dx [("_rest", r)]) := by rw [← hH4, upd_same]; rfl
  obtain ⟨ks, hks⟩ := tab_keys tab
  have lks : ks.length ≤ 60 := by
    have := congrArg List.length hks
    rw [List.length_map, List.length_map] at this
    have := tab.len
    omega
  refine ⟨_, rfl, g, kvs, ks, rfl, .inl hg4, hks, by omega, fun ys p hperm hsort hp => ⟨p, rfl, ⟨_, SqL.of upd_same⟩, fun D hD => ?_⟩⟩
  have ksn : ks.Nodup := by
    have n := tab.nd
    rw [hks] at n
    exact List.Pairwise.imp (fun h e => h (congrArg Sum.inr e)) (List.pairwise_map.mp n)
  have ysn : ys.Nodup := hperm.nodup_iff.mpr ksn
  have lys : ys.length = ks.length := hperm.length_eq
  have nmD : m ≠ D := fun h => by
    rw [← h, upd_ne (ne_of_none hm4 hp), hm4] at hD
    cases hD
  have hm5 : (upd H4 p (.lst (ys.map V.str))) m = some (.ins C dx [("_rest", r)]) := by rw [upd_ne (ne_of_none hm4 hp)]; exact hm4
  have hg5 : (upd H4 p (.lst (ys.map V.str))) g = some (.dK kvs) := by rw [upd_ne (ne_of_none hg4 hp)]; exact hg4
  have hp5 : (upd H4 p (.lst (ys.map V.str))) p = some (.lst (ys.map V.str)) := upd_same
  have s45 : Same H4 (upd H4 p (.lst (ys.map V.str))) := same_upd hp
  generalize upd H4 p (.lst (ys.map V.str)) = H5 at *
  refine dc_it (walk_list (xs := ys.map V.str)) (fun i H' => Same H5 H' ∧ H' D = some (.dK (((ys.take i).filter fun k => !decide (atV kvs .non k = orV r k)).map fun k => (Sum.inr k, atV kvs .non k)))) ⟨same_upd hD, upd_same⟩ (fun i H' _ ⟨z, _⟩ => SqL.of (z _ _ hp5)) (fun i x H6 H7 hi ⟨z6, hD6⟩ y => ?_) fun H6 ⟨z6, hD6⟩ => ?_
  · obtain ⟨rfl, hx⟩ := y
    rw [List.length_map] at hi
    have ek : ys[i]? = some (ys[i]'hi) := List.getElem?_eq_getElem hi
    rw [List.getElem?_map, ek] at hx
    generalize ys[i]'hi = k at ek hx
    cases (show V.str k = x from Option.some.inj hx)
    have hmem : (Sum.inr k : Key) ∈ kvs.map (·.1) := by
      rw [hks]
      exact List.mem_map.mpr ⟨k, hperm.mem_iff.mp (List.mem_of_getElem? ek), rfl⟩
    obtain ⟨q1, hq1, eq1⟩ := List.mem_map.mp hmem
    obtain ⟨j, hj⟩ := List.getElem?_of_mem hq1
    obtain ⟨a, b, eab, wa, wb⟩ := tab.each _ hq1
    subst eab
    have ea : a = k := Sum.inr.inj (show (Sum.inr a : Key) = Sum.inr k from eq1)
    subst ea
    have hv : valV kvs (Sum.inr a) = some (.str b) := get_at tab.nd hj
    have av : atV kvs .non a = .str b := by
      unfold atV
      rw [hv]
    have tk : ys.take (i + 1) = ys.take i ++ [a] := by rw [List.take_succ, ek]; rfl
    have hm6 := z6 _ _ hm5
    have hg6 := z6 _ _ hg5
    have dg : DGet H7 g (.str a) (some (.str b)) := hv ▸ DGet.k (k := Sum.inr a) hg6
    obtain ⟨y, ey⟩ := orV_str hrest a
    have nin : (Sum.inr a : Key) ∉ (((ys.take i).filter fun k => !decide (atV kvs .non k = orV r k)).map fun k => ((Sum.inr k : Key), atV kvs .non k)).map (·.1) := fun h => by
      obtain ⟨w1, h1, e1⟩ := List.mem_map.mp h
      obtain ⟨w2, h2, e2⟩ := List.mem_map.mp h1
      subst e2
      have e3 : w2 = a := Sum.inr.inj e1
      subst e3
      have n2 : (ys.take (i + 1)).Nodup := ysn.sublist (List.take_sublist _ _)
      rw [tk] at n2
      exact (List.nodup_append.mp n2).2.2 w2 (List.mem_filter.mp h2).1 w2 (by simp) rfl
    refine ⟨rfl, ?_⟩
    refine ⟨_, rfl, _, rfl, g, _, rfl, dg, _, rfl, m, dx, _, rfl, hm6, rfl, _, rfl, m, dx, _, r, a, rfl, hm6, rfl, by rw [ey]; rfl, _, rfl, ?_⟩
    refine ite2 (fun h => ?_) (fun h => ?_)
    · refine ⟨_, rfl, _, rfl, _, rfl, g, _, rfl, dg, _, Sum.inr a, rfl, hD6, ?_, same_over z6 hD, ?_⟩
      · rw [List.length_map]
        have l1 := List.length_filter_le (fun k => !decide (atV kvs .non k = orV r k)) (ys.take i)
        have l2 : (ys.take i).length ≤ ys.length := by rw [List.length_take]; exact Nat.min_le_right _ _
        exact Nat.lt_of_le_of_lt (show _ ≤ 60 by omega) (by decide)
      · rw [upd_same, put_new nin, tk, List.filter_append, List.filter_cons, List.filter_nil, av, if_pos h, List.map_append, List.map_cons, List.map_nil, av]
    · refine ⟨z6, ?_⟩
      rw [hD6, tk, List.filter_append, List.filter_cons, List.filter_nil, av, if_neg h, List.append_nil]
  · refine ⟨_, rfl, m, C, dx, _, rfl, z6 _ _ hm5, TC.cl, TC.nE, by show 1 < 1000; decide, ?_⟩
    rw [List.length_map, List.take_of_length_le (Nat.le_refl _)] at hD6
    have old : ∀ b o, b ≠ m → H b = some o → H5 b = some o := fun b o nb eb => s45 _ _ (by
      rw [← hH4, upd_ne nb]
      exact s3 _ _ (s2 _ _ (s1 _ _ eb)))
    have dn : H D = none := by
      cases z : H D with
      | none => rfl
      | some o =>
        have z5 := old D o (Ne.symm nmD) z
        rw [hD] at z5
        cases z5
    refine q _ _ D ⟨ks, ys, hks, hperm, hsort, rfl⟩ dn upd_same (by rw [upd_ne (Ne.symm nmD)]; exact hD6) fun b o nb eb => ?_
    rw [upd_ne nb]
    exact z6 _ _ (old b o nb eb)
end
end C4.T

end Pq4tJ
section Pq4tL
set_option maxHeartbeats 4000000
namespace C4.T
open C4
open PySem L2
/-! ### what the kept exceptions say -/
theorem valV_words (f : Str → V) (z : Str) : ∀ l : List Str, valV (l.map fun k => ((Sum.inr k : Key), f k)) (Sum.inr z) = if z ∈ l then some (f z) else none
  | [] => by rw [if_neg List.not_mem_nil]; rfl
  | k :: l => by
    rw [List.map_cons]
    by_cases h : k = z
    · subst h
      rw [valV_pos rfl, if_pos List.mem_cons_self]
    · rw [valV_neg (fun e => h (Sum.inr.inj e)), valV_words f z l]
      by_cases h2 : z ∈ l
      · rw [if_pos h2, if_pos (List.mem_cons_of_mem _ h2)]
      · rw [if_neg h2, if_neg]
        intro h3
        rcases List.mem_cons.mp h3 with e | e
        · exact h e.symm
        · exact h2 e
theorem valV_key {kvs : List (Key × V)} {k : Key} : (valV kvs k).isSome = true ↔ k ∈ kvs.map (·.1) := by
  induction kvs with
  | nil => exact ⟨fun h => (nomatch (show false = true from h)), fun h => absurd h List.not_mem_nil⟩
  | cons q r ih =>
    by_cases h : q.1 = k
    · rw [valV_pos h]
      exact ⟨fun _ => by rw [List.map_cons, h]; exact List.mem_cons_self, fun _ => rfl⟩
    · rw [valV_neg h, ih, List.map_cons]
      exact ⟨fun z => List.mem_cons_of_mem _ z, fun z => (List.mem_cons.mp z).resolve_left (Ne.symm h)⟩
theorem atV_of {kvs : List (Key × V)} {r : V} {z : Str} {o : Option V} (h : valV kvs (Sum.inr z) = o) : atV kvs r z = o.getD (orV r z) := by
  subst h
  unfold atV
  cases valV kvs (Sum.inr z) <;> rfl
/-- the kept exceptions and the rest say what the given ones and the rest say -/
theorem norm_at {kvs ex : List (Key × V)} {r : V} (h : NormOf kvs r ex) (z : Str) : atV ex r z = atV kvs r z := by
  obtain ⟨ks, ys, hks, hp, hs, rfl⟩ := h
  have hz : (valV kvs (Sum.inr z)).isSome = true ↔ z ∈ ys := by
    rw [valV_key, hks, hp.mem_iff]
    exact ⟨fun h => by
      obtain ⟨w, hw, e⟩ := List.mem_map.mp h
      exact Sum.inr.inj e ▸ hw, fun h => List.mem_map.mpr ⟨z, h, rfl⟩⟩
  have e1 : atV ((ys.filter fun k => !decide (atV kvs .non k = orV r k)).map fun k => ((Sum.inr k : Key), atV kvs .non k)) r z = (if z ∈ ys.filter (fun k => !decide (atV kvs .non k = orV r k)) then some (atV kvs .non z) else none).getD (orV r z) := atV_of (valV_words _ _ _)
  rw [e1]
  cases e : valV kvs (Sum.inr z) with
  | none =>
    have nz : z ∉ ys := fun h => by
      have := hz.mpr h
      rw [e] at this
      cases this
    rw [if_neg (fun h => nz (List.mem_filter.mp h).1)]
    show orV r z = atV kvs r z
    unfold atV
    rw [e]
  | some v =>
    have mz : z ∈ ys := hz.mp (by rw [e]; rfl)
    have a1 : atV kvs .non z = v := by unfold atV; rw [e]
    have a2 : atV kvs r z = v := by unfold atV; rw [e]
    rw [a2]
    by_cases h : v = orV r z
    · rw [if_neg (fun hm => by
        have := (List.mem_filter.mp hm).2
        rw [a1, decide_eq_true h] at this
        cases this)]
      exact h.symm
    · rw [if_pos (List.mem_filter.mpr ⟨mz, by rw [a1, decide_eq_false h]; rfl⟩)]
      exact a1
abbrev s_rest : Stmt := inCls (top 38) 4
theorem sc_rest : FnScope ["self"] ["self"] (defScope s_rest) := ⟨rfl, rfl, rfl, by decide +kernel, rfl, by decide +kernel, by decide +kernel⟩
def spRest (C : Addr) : Sp := fun vs H Q _ => ∃ (m : Addr) (kvs : List (Key × V)) (r : V), vs = [.ref m] ∧ TMap C H m kvs r ∧ Q r H
section
variable {P : Program} {w : World} {K : PySem.W.Frag} {mg : Str → Option Value} {base : Heap} {f C : Addr} {fd : FuncData}
theorem ok_rest (F : FM K "rest" "TextMap.rest" s_rest f fd) (T : TMc K C) : FnOk P w K mg base CX0 1 f fd ["self"] (spRest C) := by
  refine F.ok sc_rest (fun vs H Q E h => ?_) (fun cdv A outer s H vs Q E hr h => ?_)
  · obtain ⟨m, kvs, r, rfl, _⟩ := h
    rfl
  obtain ⟨m, kvs, r, rfl, ⟨dx, d, hm, hd⟩, q⟩ := h
  exact ⟨_, PSs.nox (pss_one (ps_ret (pe_fld (pv 0) rfl))), _, rfl, m, C, dx, _, r, rfl, hm, T.cl, T.nR, rfl, q⟩
end
end C4.T

end Pq4tL
section PM12
set_option maxHeartbeats 4000000
/-! sorted(set(xs)), xs a list of texts. -/
namespace TxSet
open PySem PySem.Spec PyProof.Rows L2
def keyT (e : Int × Value) : Str := match e.2 with
  | .str k _ => k
  | _ => Str.empty
def GoodT (P : Program) (w : World) (e : Int × Value) : Prop := ∃ k tk, e.2 = Value.str k tk ∧ e.1 = (PySem.strKind P w).hash k
/-- the entries es with the table t are those of a set of just the texts zs -/
structure Tb (P : Program) (w : World) (es : Array (Int × Value)) (t : SetTable) (zs : List Str) : Prop where
  good : ∀ e ∈ es.toList, GoodT P w e
  nd : (es.toList.map keyT).Nodup
  mem : ∀ k, k ∈ zs ↔ k ∈ es.toList.map keyT
  le : es.size ≤ zs.length
  fit : t.fits es.size = true
  ris : Ris t.place.toList
  led : w.params.followText "set-order" = true ∨ t.led = true
/-- at a: a set of the texts zs -/
def Tx (P : Program) (w : World) (h : Heap) (a : Addr) (zs : List Str) : Prop := ∃ o es ep t, h.get? a = some o ∧ o.ExactSet ∧ o.data = .set es ep t ∧ Tb P w es t zs
section
variable {P : Program} {w : World} {h h' : Heap} {a : Addr} {zs : List Str}
theorem Tx.at (R : Tx P w h a zs) (k : ∀ o, h.get? a = some o → h'.get? a = some o) : Tx P w h' a zs := by
  obtain ⟨o, es, ep, t, ho, r⟩ := R
  exact ⟨o, es, ep, t, k o ho, r⟩
theorem elemsT {l : List (Int × Value)} (g : ∀ e ∈ l, GoodT P w e) : ElemsOf (PySem.strKind P w) l := fun e he => by
  obtain ⟨k, tk, h1, h2⟩ := g e he
  exact ⟨⟨k, by rw [h1]; exact strKind_is P w k tk, h2⟩, by rw [h1] <;> rfl⟩
theorem isT {e : Int × Value} (g : GoodT P w e) (k : Str) : (PySem.strKind P w).is k e.2 = true ↔ keyT e = k := by
  obtain ⟨k0, tk, h1, _⟩ := g
  unfold keyT
  rw [h1]
  constructor
  · intro q
    obtain ⟨t, et⟩ := Value.isStrOf_shape (show Value.isStrOf k (.str k0 tk) = true from q)
    injection et
  · intro q
    have q' : k0 = k := q
    subst q'
    exact strKind_is P w k0 tk
theorem memT {l : List (Int × Value)} (g : ∀ e ∈ l, GoodT P w e) (k : Str) : k ∈ l.map keyT ↔ ∃ e ∈ l, (PySem.strKind P w).is k e.2 = true := by
  rw [List.mem_map]
  exact ⟨fun ⟨e, he, q⟩ => ⟨e, he, (isT (g e he) k).2 q⟩, fun ⟨e, he, q⟩ => ⟨e, he, (isT (g e he) k).1 q⟩⟩
theorem Tb.perm {es es2 : Array (Int × Value)} {t t2 : SetTable} (T : Tb P w es t zs) (pm : es2.toList.Perm es.toList) (hf : t2.fits es2.size = true) (hr : Ris t2.place.toList) (hl : t2.led = t.led) : Tb P w es2 t2 zs where
  good := fun e he => T.good e (pm.mem_iff.mp he)
  nd := (pm.map keyT).nodup_iff.mpr T.nd
  mem := fun k => (T.mem k).trans (pm.map keyT).mem_iff.symm
  le := by
    have e := pm.length_eq
    rw [Array.length_toList, Array.length_toList] at e
    rw [e]
    exact T.le
  fit := hf
  ris := hr
  led := T.led.imp id fun z => by rw [hl]; exact z
theorem Tb.table {es : Array (Int × Value)} {t t2 : SetTable} (T : Tb P w es t zs) (hf : t2.fits es.size = true) (hr : Ris t2.place.toList) (hl : w.params.followText "set-order" = true ∨ t2.led = true) : Tb P w es t2 zs := ⟨T.good, T.nd, T.mem, T.le, hf, hr, hl⟩
end
section
variable {P : Program} {w : World} {A : Around} {E : Value → Shared → Prop} {s : Shared} {a : Addr} {zs : List Str}
/-- the new entries stored, the table laid anew where it is too full -/
theorem tail_tx {g : Bool → Sem Unit} (hg : ∀ (b : Bool) (s₁ : Shared) (Q' : Unit → Shared → Prop), Q' () s₁ → wpAny (model P w) A (g b) Q' E s₁) {o : Obj} {es es1 : Array (Int × Value)} {ep : Nat} {t t2 : SetTable} (ho : s.heap.get? a = some o) (hex : o.ExactSet) (hd : o.data = .set es ep t)
    (T : Tb P w es1 t2 zs) (hz : zs.length < 64) {wasDummy : Bool} {R : Option Bool → Shared → Prop} (hR : ∀ h', Heap.SameBut a s.heap h' → Tx P w h' a zs → R (some true) { s with heap := h' }) :
    wpAny (model P w) A (storeSet a es1 t2 >>= fun _ => if (!wasDummy && t2.tooFull) = true then g (relayAll t2 es1 (SetTable.grown es1.size)).2.2 >>= fun _ => storeSet a (relayAll t2 es1 (SetTable.grown es1.size)).1 (relayAll t2 es1 (SetTable.grown es1.size)).2.1 >>= fun _ => pure (some true) else pure (some true)) R E s := by
  have hb1 : es1.size < scanBound := by
    have := T.le
    unfold scanBound
    omega
  refine wpAny_bind (wpAny_storeSet_of ho hd ?_ (fits_of_scanBound hb1))
  have ho1 := store_at (es' := es1) (t' := t2) ho hd
  have sb1 := Heap.SameBut.update s.heap a (Obj.putSet es1 t2)
  split
  · have T2 := T.perm (relayAll_perm t2 es1 (SetTable.grown es1.size)) (relayAll_fits t2 es1 (SetTable.grown es1.size)) (relayAll_ris t2 es1 (SetTable.grown es1.size)) (relayAll_led t2 es1 (SetTable.grown es1.size))
    generalize relayAll t2 es1 (SetTable.grown es1.size) = Z at T2 ⊢
    obtain ⟨es2, t3, gave⟩ := Z
    dsimp only at T2 ⊢
    have hb2 : es2.size < scanBound := by
      have := T2.le
      unfold scanBound
      omega
    refine wpAny_bind (hg _ _ _ (wpAny_bind (wpAny_storeSet_of ho1 rfl ?_ (fits_of_scanBound hb2))))
    exact wpAny_pure (hR _ (sb1.trans (Heap.SameBut.update _ a _)) ⟨_, es2, _, t3, store_at (es' := es2) (t' := t3) ho1 rfl, hex, rfl, T2⟩)
  · exact wpAny_pure (hR _ sb1 ⟨_, es1, _, t2, ho1, hex, rfl, T⟩)
/-- a text put in -/
theorem add_tx {k : Str} {tk : Tok} {Q : Bool → Shared → Prop} (R : Tx P w s.heap a zs) (room : zs.length + 1 < 64) (hQ : ∀ h' b, Heap.SameBut a s.heap h' → Tx P w h' a (zs ++ [k]) → Q b { s with heap := h' }) :
    wpAny (model P w) A (setAddHashed a (.str k tk) ((PySem.strKind P w).hash k)) Q E s := by
  obtain ⟨o, es, ep, t, ho, hex, hd, T⟩ := R
  have hkey : (PySem.strKind P w).is k (.str k tk) = true := strKind_is P w k tk
  have hsc : (Value.str k tk).scannable = true := rfl
  have hel : ElemsOf (PySem.strKind P w) es.toList := elemsT T.good
  have hb : es.size < scanBound := by
    have := T.le
    unfold scanBound
    omega
  have room2 : (zs ++ [k]).length < 64 := by
    rw [List.length_append, List.length_singleton]
    exact room
  unfold setAddHashed setAddHashedIn
  refine wpAny_holding (wpAny_bind (wpAny_setState_of ho hd T.fit ?_))
  dsimp only
  rw [byScan_of hsc hb hel]
  simp only [↓reduceIte]
  unfold setAddByScan
  refine wpAny_bind (wpAny_bind (wpAny_rule (wpAny_bind (wpAny_setScan_of hkey ho hd T.fit hel ?_))))
  cases hfi : List.findIdx? (fun e => (PySem.strKind P w).is k e.2) es.toList with
  | some j =>
    dsimp only
    obtain ⟨hj, pj, _⟩ := List.findIdx?_eq_some_iff_getElem.mp hfi
    have hk : k ∈ es.toList.map keyT := (memT (P := P) (w := w) T.good k).2 ⟨_, List.getElem_mem hj, pj⟩
    refine wpAny_pure (wpAny_pure (hQ s.heap _ (Heap.SameBut.refl a s.heap) ⟨o, es, ep, t, ho, hex, hd, T.good, T.nd, fun i => ?_, ?_, T.fit, T.ris, T.led⟩))
    · rw [List.mem_append, List.mem_singleton, ← T.mem i]
      exact ⟨fun z => z.elim id fun e => (T.mem i).2 (e ▸ hk), .inl⟩
    · rw [List.length_append]
      exact Nat.le_trans T.le (Nat.le_add_right _ _)
  | none =>
    dsimp only
    have hnk : k ∉ es.toList.map keyT := fun z => by
      obtain ⟨e, he, q⟩ := (memT (P := P) (w := w) T.good k).1 z
      have c := List.findIdx?_eq_none_iff.mp hfi e he
      rw [q] at c
      cases c
    have hgw : ∀ (b : Bool) {s₁ : Shared} {Q' : Unit → Shared → Prop}, Q' () s₁ → wpAny (model P w) A (match b with | true => rule "set.scan.the-table-gave-way" | false => pure ()) Q' E s₁ := fun b s₁ Q' q => by
      cases b
      · exact wpAny_pure q
      · exact wpAny_rule q
    have pm := layNew_perm t es ((PySem.strKind P w).hash k) (.str k tk)
    have hf1 := layNew_fits t es ((PySem.strKind P w).hash k) (.str k tk)
    have hr1 := layNew_ris t es ((PySem.strKind P w).hash k) (.str k tk) T.ris
    have hl1 := layNew_led t es ((PySem.strKind P w).hash k) (.str k tk)
    generalize layNew t es ((PySem.strKind P w).hash k) (.str k tk) = Z at pm hf1 hr1 hl1 ⊢
    obtain ⟨es1, t1, wasDummy, gave⟩ := Z
    dsimp only at pm hf1 hr1 hl1 ⊢
    rw [Array.toList_push] at pm
    have pc : es1.toList.Perm (((PySem.strKind P w).hash k, Value.str k tk) :: es.toList) := pm.trans (List.perm_append_singleton _ _)
    have pk : (es1.toList.map keyT).Perm (k :: es.toList.map keyT) := pc.map keyT
    have hsz : es1.size = es.size + 1 := by rw [← Array.length_toList, pc.length_eq, List.length_cons, Array.length_toList]
    have hled : w.params.followText "set-order" = true ∨ t1.led = true := T.led.imp id fun z => by rw [hl1]; exact z
    have T1 : Tb P w es1 t1 (zs ++ [k]) := {
      good := fun e he => by
        rcases List.mem_cons.mp (pc.mem_iff.mp he) with z | z
        · rw [z]
          exact ⟨k, tk, rfl, rfl⟩
        · exact T.good e z
      nd := pk.nodup_iff.mpr (List.nodup_cons.mpr ⟨hnk, T.nd⟩)
      mem := fun i => by
        rw [List.mem_append, List.mem_singleton, T.mem i, pk.mem_iff, List.mem_cons]
        exact Or.comm
      le := by
        rw [hsz, List.length_append, List.length_singleton]
        exact Nat.succ_le_succ T.le
      fit := hf1
      ris := hr1
      led := hled }
    refine wpAny_bind (hgw _ ?_)
    split
    · refine wpAny_bind ?_
      rw [hashByValue_scannable 8 hsc]
      refine wpAny_pure (tail_tx (fun b s₁ Q' q => ?_) ho hex hd (T1.table ?_ ?_ ?_) room2 fun h' sb r => ?_)
      · cases b
        · exact wpAny_pure q
        · exact wpAny_rule q
      · first
          | (split <;> first | exact hf1 | exact SetTable.fits_plain_off hf1)
          | exact hf1
      · first
          | (split <;> exact hr1)
          | exact hr1
      · first
          | (split <;> exact hled)
          | exact hled
      · dsimp only
        exact wpAny_pure (hQ h' _ sb r)
    · refine wpAny_bind (wpAny_pure ?_)
      simp only [↓reduceIte]
      refine tail_tx (fun b s₁ Q' q => ?_) ho hex hd T1 room2 fun h' sb r => ?_
      · cases b
        · exact wpAny_pure q
        · exact wpAny_rule q
      · dsimp only
        exact wpAny_pure (hQ h' _ sb r)
end
end TxSet

end PM12
section PN12
set_option maxHeartbeats 4000000
namespace TxSet
open PySem PySem.Spec PyProof.Rows L2
theorem new_tx {P : Program} {w : World} {h : Heap} {a : Addr} (ho : h.get? a = some { cls := .type "set", dict := none, data := .set #[] 0 (.fresh 0 0 (!w.params.followText "set-order")) }) : Tx P w h a [] :=
  ⟨_, #[], 0, _, ho, ⟨rfl, rfl, rfl⟩, rfl, (fun e he => by simp at he), (by simp), (fun k => by simp), Nat.le_refl _, (by rfl), List.Pairwise.nil, by
    show _ ∨ (!w.params.followText "set-order") = true
    cases w.params.followText "set-order"
    · exact .inr rfl
    · exact .inl rfl⟩
section
variable {P : Program} {w : World} {A : Around} {E : Value → Shared → Prop} {s : Shared}
/-- the loop that puts the texts in -/
theorem loop_tx {I : Addr} {fp wr : List Addr} {G : Array GenState → Array GenState → Prop} {n : Nat} {Pv : Nat → Value → Prop} {St : Nat → Shared → Prop} {R : Result → Shared → Prop} (W : WalksS P w A.in1 I fp wr G n Pv St) (S : Addr) (hSf : S ∉ fp) (xs : List Str) (hn : xs.length = n) (h64 : n < 64)
    (hval : ∀ i v, Pv i v → ∃ t, v = .str (xs.getD i Str.empty) t) :
    ∀ (k i : Nat) (s : Shared), n - i = k → i ≤ n → St i s → Tx P w s.heap S (xs.take i) → (∀ s', Moved (S :: wr) G s s' → Tx P w s'.heap S xs → R (.ok (.ret .none)) s') →
      codeAny (model P w) A (.builtin "set.update.loop" ⟨[.ref S, .ref I], []⟩) R s := by
  have hSw : S ∉ wr := fun z => hSf (W.sub _ z)
  have wider : ∀ b ∈ wr, b ∈ S :: wr := fun b hb => List.mem_cons_of_mem _ hb
  intro k
  induction k with
  | zero =>
    intro i s hk hi hst hS hR
    have hin : i = n := by omega
    subst hin
    rw [List.take_of_length_le (Nat.le_of_eq hn)] at hS
    refine codeAny_builtin F.entry_set_update_loop ?_
    rw [Around.under_plainId F.plain_set_update_loop _]
    show wpAny _ A.in1 (pyNext (.ref I) >>= _) _ _ s
    refine wpAny_bind (W.done s _ _ hst fun s' hm => ?_)
    show wpAny _ A.in1 (ret Value.none) _ _ s'
    exact wpAny_pure (hR s' (hm.mono wider) (hS.at fun o e => hm.heap S o hSw e))
  | succ k ih =>
    intro i s hk hi hst hS hR
    have hlt : i < n := by omega
    refine codeAny_builtin F.entry_set_update_loop ?_
    rw [Around.under_plainId F.plain_set_update_loop _]
    show wpAny _ A.in1 (pyNext (.ref I) >>= _) _ _ s
    refine wpAny_bind (W.item i s _ _ hlt hst fun v s' hP hst' hm => ?_)
    obtain ⟨t, rfl⟩ := hval i v hP
    have hS1 : Tx P w s'.heap S (xs.take i) := hS.at fun o e => hm.heap S o hSw e
    have hx : xs[i]? = some (xs.getD i Str.empty) := by
      rw [List.getD_eq_getElem?_getD, List.getElem?_eq_getElem (by omega)] <;> rfl
    show wpAny _ A.in1 (holding [Value.str (xs.getD i Str.empty) t] (setAdd S (.str (xs.getD i Str.empty) t)) >>= _) _ _ s'
    refine wpAny_bind (wpAny_holding ?_)
    unfold setAdd
    refine wpAny_holding (wpAny_bind ((PySem.strKind P w).pyHash (k := xs.getD i Str.empty) (strKind_is _ _ _ _) ?_))
    refine add_tx (s := { s' with toks := s'.toks + 1 }) hS1 (by rw [List.length_take]; omega) fun h' b hsb hS2 => ?_
    have hS3 : Tx P w h' S (xs.take (i + 1)) := by
      rw [List.take_add_one, hx]
      exact hS2
    refine wpAny_pure ⟨plainId_quiet F.plain_set_update_loop _, ih (i + 1) _ (by omega) hlt (W.frame _ s' _ _ hst' (Nat.le_succ _) fun b hb o e => ?_) hS3 fun s'' hm'' hS'' => ?_⟩
    · rw [hsb.2 b (fun z : b = S => hSf (by rw [← z]; exact hb))]
      exact e
    · refine hR s'' (Moved.trans W.gtrans ((hm.mono wider).then_heap (Nat.le_succ _) fun b o hb e => ?_) hm'') hS''
      rw [hsb.2 b (fun z : b = S => hb (by rw [z]; exact List.mem_cons_self))]
      exact e
abbrev newSet (w : World) : Obj := { cls := .type "set", dict := none, data := .set #[] 0 (.fresh 0 0 (!w.params.followText "set-order")) }
set_option maxHeartbeats 3200000 in
/-- set(xs) -/
theorem set_of {l : Addr} {items : Array Value} {xs : List Str} {Q : Value → Shared → Prop} (hh : A.handled = none) (hl : s.heap.IsList l items) (hi : StrsAre items.toList xs) (h64 : xs.length < 64)
    (h : ∀ (h' : Heap) (tk : Nat), Tx P w h' s.heap.objs.size xs → (∀ b o, b < s.heap.objs.size → s.heap.get? b = some o → h'.get? b = some o) → Q (.ref s.heap.objs.size) { s with heap := h', toks := tk }) :
    wpAny (model P w) A (call (.type "set") [.ref l]) Q E s := by
  obtain ⟨c, tl, hmro⟩ := PySem.F.called_set.mro
  have m1 := PySem.F.called_set.made
  have m2 := PySem.F.called_set.sub
  refine wpAny_call (codeAny_of_tree ?_)
  show wpAny _ _ (callAny (.type "set") _) _ _ _
  refine wpAny_pure ⟨Code.quiet_builtin _ (by decide +kernel), codeAny_builtin PySem.F.entry_type_call ?_⟩
  rw [Around.under_plain (weight_type_call_type "set" [.ref l] []) rfl]
  have m3 := PySem.F.called_set.notType
  have m4 := PySem.F.called_set.canCreate
  have m5 := PySem.F.typeCall_set_1 (.ref l)
  repeat (any_goals (first | assumption | wp_step))
  refine codeAny_mono (code_set_led1 (.ref l) (E := E) (Q₁ := fun obj s₁ => obj = .ref s.heap.objs.size ∧ s₁ = { s with heap := s.heap.push (newSet w) }) ⟨rfl, rfl⟩) fun r s₁ hr => ?_
  cases r with
  | error e => exact hr
  | ok fl =>
    cases fl with
    | ret obj =>
      obtain ⟨rfl, rfl⟩ := hr
      have hS : (s.heap.push (newSet w)).get? s.heap.objs.size = some (newSet w) := Heap.get?_push_size _ rfl
      have hT : Shared.TypeIs { s with heap := s.heap.push (newSet w) } (.ref s.heap.objs.size) "set" := ⟨_, hS, rfl⟩
      have m6 := PySem.F.called_set.init.lookup
      have m7 := PySem.F.called_set.init.bind (.ref s.heap.objs.size)
      repeat (any_goals (first | assumption | wp_step))
      refine codeAny_mono (codeAny_call_builtin (R := wants (fun r s₂ => r = .none ∧ ∃ h' tk, s₂ = { s with heap := h', toks := tk } ∧ Tx P w h' s.heap.objs.size xs ∧ (∀ b o, b < s.heap.objs.size → s.heap.get? b = some o → h'.get? b = some o)) E)
        PySem.F.called_set.init.plain PySem.F.entry_set_init (check_set_init_1 hT ?_)) fun r₂ s₂ hr₂ => ?_
      · obtain ⟨⟨ocls, odict, odata, oslots⟩, hol, hcl, nl, hdl⟩ := hl
        simp only at hcl hdl
        subst hcl hdl
        have hol' : (s.heap.push (newSet w)).get? l = some { cls := .type "list", dict := odict, data := .seq items nl, slots := oslots } := Heap.get?_push_of_some _ hol
        have hsls := PySem.F.sub_list_set
        have hslf := PySem.F.sub_list_frozenset
        have hne : (Value.type "list" == Value.type "dict") = false := by decide
        have hl1 : (s.heap.push (newSet w)).IsList l items := ⟨_, hol', rfl, nl, rfl⟩
        unfold Builtin.«set.__init__» noKeywords Builtin.Frozenset.updateFrom
        generalize hPI : pyIter = PI
        wp_walk
        subst hPI
        refine wpAny_pyIter_list hl1 ?_
        refine wpAny_bind (wpAny_runValue ?_)
        have hlS : l < s.heap.objs.size := Heap.lt_size hol
        have hh3 : A.in1.in1.in1.handled = none := by simp [hh]
        have hneI : l ≠ (s.heap.push (newSet w)).objs.size := by
          rw [Heap.size_push]
          exact Nat.ne_of_lt (Nat.lt_succ_of_lt hlS)
        have hSf : s.heap.objs.size ∉ [(s.heap.push (newSet w)).objs.size, l] := by
          rw [Heap.size_push]
          simp only [List.mem_cons, List.mem_singleton, List.not_mem_nil, or_false, not_or]
          exact ⟨Nat.ne_of_lt (Nat.lt_succ_self _), Nat.ne_of_gt hlS⟩
        have hsz : xs.length = items.size := by rw [← StrsAre.len_eq hi, Array.length_toList]
        refine loop_tx ((Walks.list hh3 _ l hneI items).toS) s.heap.objs.size hSf xs hsz (by rw [← hsz]; exact h64) (fun i v hv => SS.strs_at hi i v (by rw [Array.getElem?_toList]; exact hv)) (items.size - 0) 0 _ (by omega) (Nat.zero_le _)
          ⟨⟨_, Heap.get?_push_size _ rfl, rfl, rfl⟩, (hl1.push _)⟩ ?start ?last
        case start =>
          have z : ((s.heap.push (newSet w)).push { cls := .type "list_iterator", data := .fields #[.ref l, .int 0 0] }).get? s.heap.objs.size = some (newSet w) := Heap.get?_push_of_some _ hS
          exact new_tx z
        case last =>
          intro s' hm hS'
          obtain ⟨h', g', d', tk', os'⟩ := s'
          have eg : g' = s.gens := hm.gens
          have ed : d' = s.drawn := hm.drawn
          have eo : os' = s.os := hm.os
          subst eg ed eo
          show wpAny _ _ _ _ _ _
          refine wpAny_pure ?_
          show wpAny _ _ (ret Value.none) _ _ _
          refine wpAny_pure ⟨rfl, h', tk', rfl, hS', fun b o hb e => ?_⟩
          refine hm.heap b o ?_ (Heap.get?_push_of_some _ (Heap.get?_push_of_some _ e))
          rw [Heap.size_push]
          simp only [List.mem_cons, List.mem_singleton, List.not_mem_nil, or_false, not_or]
          exact ⟨Nat.ne_of_lt hb, Nat.ne_of_lt (Nat.lt_succ_of_lt hb)⟩
      · cases r₂ with
        | error e => exact hr₂
        | ok fl₂ =>
          cases fl₂ with
          | ret r =>
            obtain ⟨rfl, h', tk, rfl, hS', hk'⟩ := hr₂
            repeat (any_goals (first | assumption | wp_step))
            exact h _ _ hS' hk'
          | _ => exact hr₂.elim
    | _ => exact hr.elim
theorem strs_of : ∀ (l : List Value), (∀ v ∈ l, ∃ k tk, v = Value.str k tk) → StrsAre l (l.map fun v => match v with | .str k _ => k | _ => Str.empty)
  | [], _ => .nil
  | v :: l, h => by
    obtain ⟨k, tk, rfl⟩ := h v List.mem_cons_self
    exact .cons k tk (strs_of l fun u hu => h u (List.mem_cons_of_mem _ hu))
/-- sorted(s) -/
theorem sorted_of {a : Addr} {xs : List Str} {Q : Value → Shared → Prop} (R : Tx P w s.heap a xs) (hh : A.handled = none) (h64 : xs.length < 64)
    (hQ : ∀ s' p (out : Array Value) (c : Nat) (ys : List Str), (∀ b o, s.heap.get? b = some o → s'.heap.get? b = some o) → s'.gens = s.gens → s'.os = s.os → s.heap.objs.size ≤ p →
      s'.heap.get? p = some (seqObj "list" out c) → StrsAre out.toList ys → sortedS ys = true → ys.Nodup → (∀ k, k ∈ ys ↔ k ∈ xs) → ys.length ≤ xs.length → Q (.ref p) s') :
    wpAny (model P w) A (call (.builtin "sorted") [.ref a]) Q E s := by
  obtain ⟨o, es, ep, t, ho, hex, hd, T⟩ := R
  have hn : es.size < 64 := Nat.lt_of_le_of_lt T.le h64
  refine Calls.call_function_entry kind_sorted plain_sorted entry_sorted (args_sorted1 _) ?_
  unfold Builtin.«sorted»
  refine wpAny_bind (m := checkCount "sorted" 1 1 _) (wpAny_pure ?_)
  refine wpAny_bind (collect_set (A := A.in1) hh ⟨o, ho, hex.1, hd⟩ T.fit (by unfold scanBound; omega) T.ris T.led fun s1 vs k1 hz g1 o1 pm => ?_)
  have hvl : vs.length = es.size := by rw [pm.length_eq, List.length_map, Array.length_toList]
  have hI := strs_of vs fun v hv => by
    obtain ⟨e, he, q⟩ := List.mem_map.mp (pm.mem_iff.mp hv)
    obtain ⟨k, tk, h1, _⟩ := T.good e he
    exact ⟨k, tk, by rw [← q]; exact h1⟩
  have pk : (vs.map fun v => match v with | .str k _ => k | _ => Str.empty).Perm (es.toList.map keyT) := by
    have q := pm.map fun v : Value => match v with | .str k _ => k | _ => Str.empty
    rw [List.map_map] at q
    exact q
  generalize (vs.map fun v => match v with | .str k _ => k | _ => Str.empty) = zs at hI pk
  refine wpAny_bind (wpAny_newList ?_ (by rw [hvl, sizeLine_eq]; omega))
  have hoL : (s1.heap.push (seqObj "list" vs.toArray 0)).get? s1.heap.objs.size = some (seqObj "list" vs.toArray 0) := Heap.get?_push_size _ rfl
  refine wpAny_bind (wpAny_holding (wpAny_call_entry slot_list_sort ⟨_, hoL, rfl⟩ entry_list_sort (list_sort_treeK strKind_oneLt hoL hI.keysOf (fun v₁ v₂ rest e => keyKind_strs (by rw [← e]; exact hI)) (by rw [hvl]; exact hn) fun st' hp hs => ?_) (args_list_sort _)))
  obtain ⟨ys, a1, a2, a3⟩ := sorted_out_str hI hp hs
  have pn : ys.Perm (es.toList.map keyT) := a2.trans pk
  obtain ⟨c, hc⟩ := sortedHeap_at (vs := vs) (out := (arrOf st').map (·.2)) hoL
  refine ⟨_, rfl, wpAny_pure ⟨_, rfl, hQ _ s1.heap.objs.size _ c ys (fun b u e => ?_) g1 o1 hz hc a1 a3 (pn.nodup_iff.mpr T.nd) (fun k => by rw [pn.mem_iff, ← T.mem k]) ?_⟩⟩
  · have q := k1 b u e
    have hlt := Heap.lt_size q
    show (sortedHeap (s1.heap.push (seqObj "list" vs.toArray 0)) s1.heap.objs.size vs _).get? b = some u
    rw [sortedHeap_old (Nat.ne_of_lt hlt) (by rw [size_push']; exact Nat.lt_succ_of_lt hlt)]
    exact Heap.get?_push_of_some _ q
  · rw [pn.length_eq, List.length_map, Array.length_toList]
    exact T.le
end
end TxSet

end PN12
section PO12
set_option maxHeartbeats 4000000
namespace L2
open PySem PySem.Spec PyProof.Rows TxSet
/-- a set of the texts xs -/
def TxO (P : Program) (w : World) (a : Addr) (xs : List Str) : HO := .ext fun h => Tx P w h a xs
theorem txO_new {w : World} {P : Program} {H : Hp} {h : Heap} {a : Addr} {xs : List Str} (R : Tx P w h a xs) : ObjOk P w H h a (TxO P w a xs) := by
  have ⟨o, _, _, _, ho, _⟩ := R
  exact ⟨R, ⟨o, ho⟩, fun h1 h2 p k => Tx.at p k⟩
section
variable {X : Cx}
/-- set(xs), texts -/
def rSetTx (K : PySem.W.Frag) (P : Program) (w : World) : List V → Hp → VK → Prop := fun vs H Q => ∃ (l : Addr) (xs : List Str), vs = [V.ref l] ∧ SqL K H l (xs.map V.str) ∧ xs.length < 64 ∧ ∀ a, H a = none → Q (.ref a) (upd H a (TxO P w a xs))
theorem cr_setTx (hc : X.calm = true) : CallR X (.type "set") (rSetTx X.K X.prog X.w) := by
  intro pins s σ H vs us Q I r h
  obtain ⟨l, xs, rfl, hs, h64, q⟩ := h
  obtain ⟨its, rv, hl, _⟩ := I.list hs
  rw [Vals.ref1 r]
  refine set_of (I.ok.hd hc) hl.isList rv.strs h64 fun h' tk hS k => ?_
  have kk : ∀ b o, s.heap.get? b = some o → h'.get? b = some o := fun b o e => k b o (Heap.lt_size e) e
  exact ⟨.ref _, upd H s.heap.objs.size (TxO X.prog X.w s.heap.objs.size xs), I.laid (t' := tk) kk (Nat.le_refl _) (txO_new hS), rfl, q _ (I.hok.fresh (Nat.le_refl _))⟩
/-- sorted(s), s a set of texts -/
def rSortedTx (P : Program) (w : World) : List V → Hp → VK → Prop := fun vs H Q => ∃ (a : Addr) (xs : List Str), vs = [V.ref a] ∧ H a = some (TxO P w a xs) ∧ xs.length < 64 ∧
  ∀ (ys : List Str) (p : Addr), sortedS ys = true → ys.Nodup → (∀ k, k ∈ ys ↔ k ∈ xs) → ys.length ≤ xs.length → H p = none → Q (.ref p) (upd H p (.lst (ys.map V.str)))
theorem cr_sortedTx (hc : X.calm = true) : CallR X (.builtin "sorted") (rSortedTx X.prog X.w) := by
  intro pins s σ H vs us Q I r h
  obtain ⟨a, xs, rfl, ha, h64, q⟩ := h
  have R : Tx X.prog X.w s.heap a xs := (I.hok a _ ha).1
  rw [Vals.ref1 r]
  refine sorted_of R (I.ok.hd hc) h64 fun s' p out c ys k g o hp hg hi hs nd hm hl => ?_
  have hlen : (ys.map V.str).length ≤ sizeLine := by
    rw [List.length_map, sizeLine_eq]
    omega
  have hn : H p = none := I.hok.fresh hp
  have J : Inv X pins σ (upd H p (.lst (ys.map V.str))) { s with heap := s'.heap, gens := s'.gens, drawn := s'.drawn, toks := s'.toks } :=
    I.call (ch := []) (Un.laid k hp hn) (I.hok.laid k hp ⟨hlen, out.toList, c, vals_of_strs hi, hg⟩) (by rw [g]; exact I.bare) (fun _ z => nomatch z)
  have e : s' = { s with heap := s'.heap, gens := s'.gens, drawn := s'.drawn, toks := s'.toks } := by
    cases s'
    cases s
    cases o
    rfl
  rw [e]
  exact ⟨.ref p, _, J, rfl, q ys p hs nd hm hl hn⟩
end
end L2

end PO12
section PP12x
set_option maxHeartbeats 4000000
/-! == of two pairs (dict of flat values, flat value), both answers. -/
namespace PySem.SeqAt
open AutoSeq1 (wpAny_loadPart')
open MeetsSeq MeetsSeq2 MeetsSeq3 SeqRoads2
/-- two tuples, item by item, within one model -/
theorem pairs_eqIn {prog : Program} {w : World} (l b : Addr) (us vs : Array Value) (n n2 : Nat) (dd dd2 : Option Addr) (sl sl2 : Array (Option Value)) (e : Nat → Bool) :
    MeetsIn prog w (Builtin.«tuple.__eq__» ⟨[.ref l, .ref b], []⟩) (fun A R s => s.heap.get? l = some { cls := .type "tuple", dict := dd, data := .seq us n, slots := sl } ∧ s.heap.get? b = some { cls := .type "tuple", dict := dd2, data := .seq vs n2, slots := sl2 } ∧
      (∀ j (h1 : j < us.size) (h2 : j < vs.size), EqP prog w A.in1 s us[j] vs[j] (e j)) ∧ R (.ok (.ret (.bool ((List.range (min us.size vs.size)).all e && us.size == vs.size)))) s) := by
  intro A R s h
  obtain ⟨hp, g, d, tk, os⟩ := s
  obtain ⟨hl, hb, he, h⟩ := h
  have f2 := AutoSeq1.sub_tuple_tuple
  have hZ : (us.toList.zip vs.toList).length = min us.size vs.size := by simp
  wp_walk using wpAny_loadPart' hl, wpAny_loadPart' hb, wpAny_forIn_list _ (fun rest b s' => b.1 = none ∧ s' = ⟨hp, g, d, tk, os⟩ ∧ ∃ i, rest = (us.toList.zip vs.toList).drop i ∧ R (.ok (.ret (.bool (((List.range (min us.size vs.size)).drop i).all e && us.size == vs.size)))) ⟨hp, g, d, tk, os⟩) _
  case turn =>
    rintro ⟨y, x⟩ rest b s' ⟨hb', rfl, i, hz, hR⟩
    have hlt : i < (us.toList.zip vs.toList).length := by
      by_cases c : i < (us.toList.zip vs.toList).length
      · exact c
      · rw [List.drop_of_length_le (Nat.le_of_not_lt c)] at hz
        cases hz
    have hm : i < min us.size vs.size := hZ ▸ hlt
    have h1 : i < us.size := Nat.lt_of_lt_of_le hm (Nat.min_le_left _ _)
    have h2 : i < vs.size := Nat.lt_of_lt_of_le hm (Nat.min_le_right _ _)
    rw [List.drop_eq_getElem_cons hlt] at hz
    injection hz with hyx hrest
    have hy : y = us[i] := by
      have := congrArg Prod.fst hyx
      simpa using this
    have hx : x = vs[i] := by
      have := congrArg Prod.snd hyx
      simpa using this
    subst hy hx
    have hd : (List.range (min us.size vs.size)).drop i = i :: (List.range (min us.size vs.size)).drop (i + 1) := by simp [List.drop_eq_getElem_cons, hm]
    rw [hd, List.all_cons] at hR
    refine wpAny_bind (he i h1 h2 _ _ ?_)
    cases hy : e i with
    | true =>
      rw [hy] at hR
      wp_walk
      exact ⟨rfl, rfl, i + 1, hrest, by simpa using hR⟩
    | false =>
      rw [hy] at hR
      wp_walk
      simpa using hR
  case fin =>
    rintro ⟨b1, b2⟩ s' ⟨hb', rfl, i, hz, hR⟩
    simp only at hb'
    subst hb'
    have hge : min us.size vs.size ≤ i := by
      by_cases c : i < (us.toList.zip vs.toList).length
      · rw [List.drop_eq_getElem_cons c] at hz
        cases hz
      · exact hZ ▸ Nat.le_of_not_lt c
    rw [List.drop_of_length_le (by simpa using hge)] at hR
    wp_walk
    simpa [Builtin.Tuple.tupleCompareSizes] using hR
  case h => exact ⟨rfl, rfl, 0, rfl, by simpa using h⟩
theorem rcP_pairs {prog : Program} {w : World} {A : Around} {s : Shared} {l b : Addr} {us vs : Array Value} {e : Nat → Bool} (hl : s.heap.IsTuple l us) (hb : s.heap.IsTuple b vs) (hu : A.units < cLine)
    (he : ∀ j (h1 : j < us.size) (h2 : j < vs.size), EqP prog w A.in1 s us[j] vs[j] (e j)) (E Q : Value → Shared → Prop) (h : Q (.bool ((List.range (min us.size vs.size)).all e && us.size == vs.size)) s) : wpAny (model prog w) A (richCompare .Eq (.ref l) (.ref b)) Q E s := by
  obtain ⟨⟨cls, dd, data, sl⟩, ho, hc, n, hd⟩ := id hl
  obtain ⟨⟨cls2, dd2, data2, sl2⟩, ho2, hc2, n2, hd2⟩ := id hb
  simp only at hc hd hc2 hd2
  subst hc hd hc2 hd2
  exact wpAny_richCompare_same_room (op := .Eq) ⟨_, ho, rfl⟩ ⟨_, ho2, rfl⟩ F.slot_tuple_eq (call_meetsIn F.slot_tuple_eq ⟨_, ho, rfl⟩ F.entry_tuple_eq (F.args_tuple_eq_2 _ _) (pairs_eqIn l b us vs n n2 dd dd2 sl sl2 e) ⟨ho, ho2, he, show Value.bool ((List.range (min us.size vs.size)).all e && us.size == vs.size) ≠ Value.notImplemented ∧ Q (.bool ((List.range (min us.size vs.size)).all e && us.size == vs.size)) s from ⟨(fun x => nomatch x), h⟩⟩) hu
end PySem.SeqAt
namespace L2
open PySem PySem.Spec PyProof.Rows
theorem get_atL {kvs : List (Key × V)} {i : Nat} {k : Key} {v : V} (nd : (kvs.map (·.1)).Nodup) (e : kvs[i]? = some (k, v)) : valV kvs k = some v := by
  induction kvs generalizing i with
  | nil => cases e
  | cons q r ih =>
    cases i with
    | zero =>
      cases (show q = (k, v) from Option.some.inj e)
      exact valV_pos rfl
    | succ i =>
      have e' : r[i]? = some (k, v) := e
      have hk : k ∈ r.map (·.1) := List.mem_map.mpr ⟨_, List.mem_of_getElem? e', rfl⟩
      have nn := List.nodup_cons.mp (show (q.1 :: r.map (·.1)).Nodup from nd)
      rw [valV_neg (fun z => nn.1 (by rw [z]; exact hk))]
      exact ih nn.2 e'
/-- whether the dict ls has each pair of another one -/
def hitB (ls : List (Key × V)) : List (Key × V) → Bool
  | [] => true
  | (k, v) :: r => match valV ls k with
    | none => false
    | some y => eqV v y && hitB ls r
def eqDk (ks ls : List (Key × V)) : Bool := decide (ks.length = ls.length) && hitB ls ks
theorem hits_both {P : Program} {w : World} {A : Around} {s : Shared} {ls : List (Key × V)} {vb : List (Key × Value)} (rb : KV ls vb) (fb : ∀ q ∈ ls, flatV q.2 = true) {ks : List (Key × V)} {va : List (Key × Value)} (ra : KV ks va) : (∀ q ∈ ks, flatV q.2 = true) → PySem.W.KeqHitsP P w A s vb va (hitB ls ks) := by
  unfold KV at ra
  induction ra with
  | nil => intro _; exact .nil
  | @cons p q ps qs h t k =>
    intro hp
    obtain ⟨h1, h2⟩ := h
    obtain ⟨k1, v1⟩ := p
    obtain ⟨key, v⟩ := q
    have h1' : k1 = key := h1
    subst h1'
    have rr := rb.val k1
    show PySem.W.KeqHitsP P w A s vb ((k1, v) :: qs) (hitB ls ((k1, v1) :: ps))
    cases e : valV ls k1 with
    | none =>
      rw [e] at rr
      have z : valueAt vb k1 = none := by
        cases q0 : valueAt vb k1 with
        | none => rfl
        | some y =>
          rw [q0] at rr
          exact (show False from rr).elim
      have eh : hitB ls ((k1, v1) :: ps) = false := by
        unfold hitB
        rw [e]
      rw [eh]
      exact .miss z
    | some y =>
      rw [e] at rr
      obtain ⟨u, hy, ry⟩ := rr.some_of
      have eh : hitB ls ((k1, v1) :: ps) = (eqV v1 y && hitB ls ps) := by
        rw [hitB]
        rw [e]
      rw [eh]
      have fy : flatV y = true := by
        unfold valV at e
        cases hf : ls.find? fun kv => decide (kv.1 = k1) with
        | none =>
          rw [hf] at e
          cases e
        | some z =>
          rw [hf] at e
          cases e
          exact fb z (List.mem_of_find?_eq_some hf)
      exact .hit hy ((eqAt_V h2 ry (hp _ List.mem_cons_self) fy).eqP) (k fun q hq => hp q (List.mem_cons_of_mem _ hq))
theorem hitB_self {ls : List (Key × V)} (nd : (ls.map (·.1)).Nodup) (hs : ∀ q ∈ ls, ∃ z : Str, q.2 = .str z) : ∀ ks : List (Key × V), (∀ q ∈ ks, q ∈ ls) → hitB ls ks = true
  | [], _ => rfl
  | (k, v) :: r, h => by
    have hm := h _ List.mem_cons_self
    obtain ⟨i, hi⟩ := List.getElem?_of_mem hm
    have e : valV ls k = some v := get_atL nd hi
    rw [hitB]
    rw [e]
    obtain ⟨z, ez⟩ := hs _ hm
    have ez' : v = .str z := ez
    subst ez'
    show ((z == z) && hitB ls r) = true
    rw [beq_self_eq_true, Bool.true_and]
    exact hitB_self nd hs r fun q hq => h q (List.mem_cons_of_mem _ hq)
/-- (d, v) == (e, u): dicts of texts -/
def rEqTD (K : PySem.W.Frag) : R2 := fun x y H Q => ∃ (t1 t2 d1 d2 : Addr) (r1 r2 : V) (k1 k2 : List (Key × V)), x = .ref t1 ∧ y = .ref t2 ∧ SqT K H t1 [.ref d1, r1] ∧ SqT K H t2 [.ref d2, r2] ∧ H d1 = some (.dK k1) ∧ H d2 = some (.dK k2) ∧
  (∀ q ∈ k1, ∃ z : Str, q.2 = .str z) ∧ (∀ q ∈ k2, ∃ z : Str, q.2 = .str z) ∧ (k1.map (·.1)).Nodup ∧ flatV r1 = true ∧ flatV r2 = true ∧ Q (.bl (eqDk k1 k2 && eqV r1 r2)) H
theorem op_eqTD {X : Cx} (hu : X.A.units + 64 < cLine) : OpR X (compareOp .Eq) (rEqTD X.K) := by
  intro pins s σ H x y v u Q I rx ry h
  obtain ⟨t1, t2, d1, d2, r1, r2, k1, k2, rfl, rfl, h1, h2, e1, e2, s1, s2, nd, f1, f2, q⟩ := h
  cases (show v = Value.ref t1 from rx)
  cases (show u = Value.ref t2 from ry)
  obtain ⟨us, ru, iu, _⟩ := I.tuple h1
  obtain ⟨vs, rv, iv, _⟩ := I.tuple h2
  have fl : ∀ {ks : List (Key × V)}, (∀ q ∈ ks, ∃ z : Str, q.2 = .str z) → ∀ q ∈ ks, flatV q.2 = true := fun hh p hp => by
    obtain ⟨z, e⟩ := hh p hp
    rw [e] <;> rfl
  cases ru with
  | cons a1 ru =>
    cases ru with
    | cons b1 ru =>
      cases ru
      cases rv with
      | cons a2 rv =>
        cases rv with
        | cons b2 rv =>
          cases rv
          cases (show _ = Value.ref d1 from a1)
          cases (show _ = Value.ref d2 from a2)
          have he0 : SeqAt.EqP X.prog X.w X.A.in1 s (.ref d1) (.ref d2) (eqDk k1 k2) := by
            by_cases e : d1 = d2
            · subst e
              rw [e1] at e2
              cases e2
              have z : eqDk k1 k1 = true := by
                unfold eqDk
                rw [decide_eq_true rfl, Bool.true_and]
                exact hitB_self nd s1 k1 fun _ h => h
              rw [z]
              exact (SeqAt.EqAt.same _).eqP
            · refine SeqAt.eqP_refs e fun E Q q => ?_
              obtain ⟨_, ya, va, ra, da⟩ := (show ObjOk X.prog X.w H s.heap d1 (.dK k1) from I.hok d1 _ e1)
              obtain ⟨_, yb, vb, rb, db⟩ := (show ObjOk X.prog X.w H s.heap d2 (.dK k2) from I.hok d2 _ e2)
              refine PySem.W.rcP_dicts (knd := mixKind X.prog X.w) ya yb da db (by show X.A.units + 1 < cLine; omega) (fun _ => hits_both rb (fl s2) ra (fl s1)) E Q ?_
              have e3 : (va.length == vb.length) = decide (k1.length = k2.length) := by
                rw [← ra.length, ← rb.length]
                by_cases c : k1.length = k2.length
                · rw [decide_eq_true c, c, beq_self_eq_true]
                · rw [decide_eq_false c]
                  exact beq_eq_false_iff_ne.mpr c
              rw [e3]
              exact q
          have he1 := (eqAt_V (A := X.A.in1) (s := s) b1 b2 f1 f2).eqP (prog := X.prog) (w := X.w)
          refine SeqAt.rcP_pairs (e := fun j => if j = 0 then eqDk k1 k2 else eqV r1 r2) iu iv (by omega) (fun j g1 g2 => ?_) _ _ ?_
          · match j, g1, g2 with
            | 0, _, _ => exact he0
            | 1, _, _ => exact he1
            | j + 2, g1, _ => exact absurd g1 (by simp)
          · refine ⟨.bl _, H, I, ?_, q⟩
            show Value.bool _ = Value.bool (eqDk k1 k2 && eqV r1 r2)
            congr 1
            show ((List.range (min 2 2)).all (fun j => if j = 0 then eqDk k1 k2 else eqV r1 r2) && (2 == 2)) = (eqDk k1 k2 && eqV r1 r2)
            simp [List.range, List.range.loop]
end L2

end PP12x
section Pq4tT
set_option maxHeartbeats 4000000
namespace C4.T
open C4
open PySem L2
/-! ### what the written part says of the classes -/
abbrev s_same : Stmt := inCls (top 38) 2
abbrev s_constant : Stmt := inCls (top 38) 3
abbrev s_repr : Stmt := inCls (top 38) 7
abbrev s_content : Stmt := match top 38 with
  | .ClassDef _ _ _ body .. => body.getLastD (.Pass ⟨0, 0, 0, 0⟩)
  | _ => .Pass ⟨0, 0, 0, 0⟩
abbrev s_kind : Stmt := inCls (top 36) 1
abbrev s_mat : Stmt := inCls (top 36) 2
abbrev s_meq : Stmt := inCls (top 36) 8
def Txt (ex : List (Key × V)) : Prop := ∀ q ∈ ex, ∃ z : Str, q.2 = .str z
def spContent (C : Addr) : Sp := fun vs H Q _ => ∃ (m dx d : Addr) (r : V), vs = [.ref m] ∧ H m = some (.ins C dx [("_rest", r), ("_exceptions", .ref d)]) ∧ ∀ t H', Same H H' → H' t = some (.tup [.ref d, r]) → Q (.ref t) H'
def spEq (K : PySem.W.Frag) (C CM CN : Addr) : Sp := fun vs H Q _ => ∃ (m : Addr) (ex : List (Key × V)) (r y : V), vs = [.ref m, y] ∧ TMap C H m ex r ∧
  ((∃ (m2 : Addr) (ex2 : List (Key × V)) (r2 : V), y = .ref m2 ∧ TMap C H m2 ex2 r2 ∧ Txt ex ∧ Txt ex2 ∧ (ex.map (·.1)).Nodup ∧ flatV r = true ∧ flatV r2 = true ∧ ∀ H', Same H H' → Q (.bl (eqDk ex ex2 && eqV r r2)) H') ∨
    (∃ t, TyX K H y t ∧ PySem.W.kitOne K t (.ref CM) = some false ∧ Q (.bl false) H) ∨ ∃ (b dx : Addr) (fs : List (Str × V)), y = .ref b ∧ H b = some (.ins CN dx fs) ∧ fs.lookup ("KIND" : Str) = none ∧ Q (.bl false) H)
theorem sc_content : FnScope ["self"] ["self"] (defScope s_content) := ⟨rfl, rfl, rfl, by decide +kernel, rfl, by decide +kernel, by decide +kernel⟩
theorem sc_meq : FnScope ["self", "other"] ["self", "other"] (defScope s_meq) := ⟨rfl, rfl, rfl, by decide +kernel, rfl, by decide +kernel, by decide +kernel⟩
theorem sc_kind : FnScope ["self"] ["self"] (defScope s_kind) := ⟨rfl, rfl, rfl, by decide +kernel, rfl, by decide +kernel, by decide +kernel⟩
theorem sc_mat : FnScope ["self", "value"] ["self", "value"] (defScope s_mat) := ⟨rfl, rfl, rfl, by decide +kernel, rfl, by decide +kernel, by decide +kernel⟩
theorem sc_same : FnScope ["cls"] ["cls"] (defScope s_same) := ⟨rfl, rfl, rfl, by decide +kernel, rfl, by decide +kernel, by decide +kernel⟩
theorem sc_constant : FnScope ["cls", "value"] ["cls", "value"] (defScope s_constant) := ⟨rfl, rfl, rfl, by decide +kernel, rfl, by decide +kernel, by decide +kernel⟩
theorem sc_repr : FnScope ["self"] ["self"] (defScope s_repr) := ⟨rfl, rfl, rfl, by decide +kernel, rfl, by decide +kernel, by decide +kernel⟩
section
variable {P : Program} {w : World} {K : PySem.W.Frag} {mg : Str → Option Value} {base : Heap} {f fC C CN CM : Addr} {fd dC : FuncData}
theorem ok_content (F : FM K "_content" "TextMap._content" s_content f fd) (T : TMc K C) : FnOk P w K mg base CX0 1 f fd ["self"] (spContent C) := by
  refine F.ok sc_content (fun vs H Q E h => ?_) (fun cdv A outer s H vs Q E hr h => ?_)
  · obtain ⟨m, dx, d, r, rfl, _⟩ := h
    rfl
  obtain ⟨m, dx, d, r, rfl, hm, q⟩ := h
  refine ⟨_, PSs.nox (pss_one (ps_ret (pe_tup (pa_cons (pe_fld (pv 0) rfl) (pa_cons (pe_fld (pv 0) rfl) pa_nil))))), ?_⟩
  exact ⟨_, rfl, m, C, dx, _, .ref d, rfl, hm, T.cl, T.nE, rfl, _, rfl, m, C, dx, _, r, rfl, hm, T.cl, T.nR, rfl, by show 2 ≤ sizeLine; decide, fun p hp => q p _ (same_upd hp) upd_same⟩
theorem ok_meq (F : FM K "__eq__" "Map.__eq__" s_meq f fd) (T : TMc K C) (O : TcO K C CM "text") (N : TcO K CN CM "number") (ti : mg "isinstance" = none) (tM : mg "Map" = some (.ref CM))
    (GC : FnOk P w K mg base CX0 1 fC dC ["self"] (spContent C)) (bC : Binds K dC ["self"] []) (mC : Meth K C "_content" fC) : FnOk P w K mg base CX0 2 f fd ["self", "other"] (spEq K C CM CN) := by
  refine F.ok sc_meq (fun vs H Q E h => ?_) (fun cdv A outer s H vs Q E hr h => ?_)
  · obtain ⟨m, ex, r, y, rfl, _⟩ := h
    rfl
  obtain ⟨m, ex, r, y, rfl, ⟨dx, d, hm, hd⟩, h⟩ := h
  have hu := hr.units
  have hu64 : A.units + 3 + 64 < cLine := hu
  obtain ⟨u1, k1⟩ := O.knd
  obtain ⟨u2, k2⟩ := N.knd
  refine ⟨_, PSs.nox (pss_one (ps_ret (pe_and (pe_callB call_isi (by rfl) ti boot_isi (pa_cons (pv 1) (pa_cons (pe_glob (v := .ref CM) rfl tM rfl) pa_nil))) (pe_and (pe_cmpR op_eq (pe_con (pv 0) rfl) (pe_con (pv 1) rfl) (nomark _))
    (pe_one (pe_cmpR (op_eqTD (by exact hu)) (pe_meth0 (pv 0) T.cl mC GC hr bC .nil pass0) (pe_meth0 (pv 1) T.cl mC GC hr bC .nil pass0) (nomark _))))))), ?_⟩
  rcases h with ⟨m2, ex2, r2, rfl, ⟨dy, d2, hm2, hd2⟩, t1, t2, nd, f1, f2, q⟩ | ⟨t, ty, kt, q⟩ | ⟨b, dy, fs, rfl, hb, hl, q⟩
  · refine ⟨_, rfl, .ref m2, .ref CM, .ref C, _, _, rfl, .own _, O.ty hm2, O.kit, true, rfl, ?_⟩
    refine (show (if true = true then _ else _) from ?_)
    rw [if_pos rfl]
    refine ⟨_, rfl, m, C, dx, _, _, u1, rfl, hm, T.cl, k1, rfl, _, rfl, m2, C, dy, _, _, u1, rfl, hm2, T.cl, k1, rfl, rfl, true, ?_, ?_⟩
    · show V.bl (decide (V.str "text" = V.str "text")) = V.bl true
      rw [decide_eq_true rfl]
    refine (show (if true = true then _ else _) from ?_)
    rw [if_pos rfl]
    refine ⟨_, rfl, m, dx, _, rfl, hm, rfl, m, dx, d, r, rfl, hm, fun p1 H1 s1 e1 => ?_⟩
    refine ⟨_, rfl, m2, dy, _, rfl, s1 _ _ hm2, rfl, m2, dy, d2, r2, rfl, s1 _ _ hm2, fun p2 H2 s2 e2 => ?_⟩
    exact ⟨p1, p2, d, d2, r, r2, ex, ex2, rfl, rfl, SqT.of (s2 _ _ e1), SqT.of e2, s2 _ _ (s1 _ _ hd), s2 _ _ (s1 _ _ hd2), t1, t2, nd, f1, f2, q H2 (s1.trans s2)⟩
  · refine ⟨_, rfl, y, .ref CM, t, _, _, rfl, .own _, ty, kt, false, rfl, ?_⟩
    refine (show (if false = true then _ else _) from ?_)
    rw [if_neg (by decide)]
    exact q
  · refine ⟨_, rfl, .ref b, .ref CM, .ref CN, _, _, rfl, .own _, N.ty hb, N.kit, true, rfl, ?_⟩
    refine (show (if true = true then _ else _) from ?_)
    rw [if_pos rfl]
    refine ⟨_, rfl, m, C, dx, _, _, u1, rfl, hm, T.cl, k1, rfl, _, rfl, b, CN, dy, _, _, u2, rfl, hb, N.cl, k2, hl, rfl, false, ?_, ?_⟩
    · show V.bl (decide (V.str "text" = V.str "number")) = V.bl false
      rw [decide_eq_false (by decide +kernel)]
    refine (show (if false = true then _ else _) from ?_)
    rw [if_neg (by decide)]
    exact q
def spKind (C : Addr) : Sp := fun vs H Q _ => ∃ (m dx : Addr) (fs : List (Str × V)), vs = [.ref m] ∧ H m = some (.ins C dx fs) ∧ fs.lookup ("KIND" : Str) = none ∧ Q (.str "text") H
theorem ok_kind (F : FM K "kind" "Map.kind" s_kind f fd) (O : TcO K C CM "text") : FnOk P w K mg base CX0 1 f fd ["self"] (spKind C) := by
  refine F.ok sc_kind (fun vs H Q E h => ?_) (fun cdv A outer s H vs Q E hr h => ?_)
  · obtain ⟨m, dx, fs, rfl, _⟩ := h
    rfl
  obtain ⟨m, dx, fs, rfl, hm, hl, q⟩ := h
  obtain ⟨u1, k1⟩ := O.knd
  exact ⟨_, PSs.nox (pss_one (ps_ret (pe_con (pv 0) rfl))), _, rfl, m, C, dx, _, _, u1, rfl, hm, O.cl, k1, hl, q⟩
end
end C4.T

end Pq4tT
section Pq4tU
set_option maxHeartbeats 4000000
/-! The mathematics of kept exceptions: sorted, unique, equal just where they say the same. -/
namespace C4.T
open C4
open PySem PySem.Spec L2 PyProof.Rows
def leS (a b : Str) : Prop := a.cps.toList ≤ b.cps.toList
theorem str_ext {a b : Str} (h : a.cps.toList = b.cps.toList) : a = b := by
  obtain ⟨⟨a⟩⟩ := a
  obtain ⟨⟨b⟩⟩ := b
  exact congrArg (fun l : List Nat => (⟨⟨l⟩⟩ : Str)) h
theorem leS_anti {a b : Str} (h : leS a b) (g : leS b a) : a = b := str_ext (List.le_antisymm h g)
theorem rising_pw : ∀ (l : List Str) (p : Str), risingS p l = true → (p :: l).Pairwise leS
  | [], p, _ => List.pairwise_singleton _ _
  | x :: r, p, h => by
    obtain ⟨h1, h2⟩ := Bool.and_eq_true_iff.mp (show (!ltCps x.cps.toList p.cps.toList && risingS x r) = true from h)
    have ih := rising_pw r x h2
    have px : leS p x := by
      rw [ltCps_eq] at h1
      have n : ¬ x.cps.toList < p.cps.toList := of_decide_eq_false (by simpa using h1)
      exact List.not_lt.mp n
    refine List.pairwise_cons.mpr ⟨fun y hy => ?_, ih⟩
    rcases List.mem_cons.mp hy with e | hy
    · rw [e]
      exact px
    · exact List.le_trans px (List.rel_of_pairwise_cons ih hy)
theorem sorted_pw : ∀ {l : List Str}, sortedS l = true → l.Pairwise leS
  | [], _ => List.Pairwise.nil
  | x :: r, h => rising_pw r x h
theorem pw_uniq : ∀ {l m : List Str}, l.Pairwise leS → m.Pairwise leS → l.Perm m → l = m
  | [], m, _, _, p => (List.Perm.nil_eq p)
  | a :: l, [], _, _, p => (List.Perm.nil_eq p.symm).symm
  | a :: l, b :: m, hl, hm, p => by
    have e : a = b := by
      rcases List.mem_cons.mp (p.mem_iff.mp List.mem_cons_self) with e | h1
      · exact e
      · rcases List.mem_cons.mp (p.mem_iff.mpr List.mem_cons_self) with e | h2
        · exact e.symm
        · exact leS_anti (List.rel_of_pairwise_cons hl h2) (List.rel_of_pairwise_cons hm h1)
    subst e
    rw [pw_uniq (List.pairwise_cons.mp hl).2 (List.pairwise_cons.mp hm).2 (List.Perm.cons_inv p)]
theorem sub_perm : ∀ {l m : List Str}, l.Nodup → (∀ x ∈ l, x ∈ m) → l.length = m.length → l.Perm m
  | [], m, _, _, e => by
    rw [List.length_eq_zero_iff.mp (show m.length = 0 from e.symm)]
  | a :: l, m, nd, h, e => by
    obtain ⟨n1, n2⟩ := List.nodup_cons.mp nd
    have ha := h a List.mem_cons_self
    have pm := List.perm_cons_erase ha
    refine (List.Perm.cons a (sub_perm n2 (fun x hx => ?_) ?_)).trans pm.symm
    · have ne : x ≠ a := fun z => n1 (z ▸ hx)
      exact (List.mem_erase_of_ne ne).mpr (h x (List.mem_cons_of_mem _ hx))
    · have q := pm.length_eq
      rw [List.length_cons] at q e
      omega
theorem mem_perm : ∀ {l m : List Str}, l.Nodup → m.Nodup → (∀ x, x ∈ l ↔ x ∈ m) → l.Perm m := fun {l m} nl nm h => by
  have le1 : ∀ {l m : List Str}, l.Nodup → (∀ x ∈ l, x ∈ m) → l.length ≤ m.length := fun {l} => by
    induction l with
    | nil => intro m _ _; exact Nat.zero_le _
    | cons a l ih =>
      intro m nd h
      obtain ⟨n1, n2⟩ := List.nodup_cons.mp nd
      have pm := List.perm_cons_erase (h a List.mem_cons_self)
      have z := ih (m := m.erase a) n2 fun x hx => (List.mem_erase_of_ne (show x ≠ a from fun z => n1 (z ▸ hx))).mpr (h x (List.mem_cons_of_mem _ hx))
      have q := pm.length_eq
      rw [List.length_cons] at q ⊢
      omega
  exact sub_perm nl (fun x hx => (h x).1 hx) (Nat.le_antisymm (le1 nl fun x hx => (h x).1 hx) (le1 nm fun x hx => (h x).2 hx))
/-- kept exceptions: sorted words that are taken to words -/
def NL (ex : List (Key × V)) : Prop := ∃ (ks : List Str) (f : Str → Str), ex = ks.map (fun k => ((Sum.inr k : Key), V.str (f k))) ∧ sortedS ks = true ∧ ks.Nodup ∧ (∀ k ∈ ks, wordB k 12 = true ∧ wordB (f k) 12 = true) ∧ ks.length ≤ 60
theorem NL.nil : NL [] := ⟨[], fun k => k, rfl, rfl, List.nodup_nil, fun k h => absurd h List.not_mem_nil, Nat.zero_le _⟩
theorem NL.txt {ex : List (Key × V)} (h : NL ex) : Txt ex := by
  obtain ⟨ks, f, rfl, _⟩ := h
  intro q hq
  obtain ⟨k, hk, rfl⟩ := List.mem_map.mp hq
  exact ⟨f k, rfl⟩
theorem keys_map {ks : List Str} {f : Str → V} : (ks.map (fun k => ((Sum.inr k : Key), f k))).map (·.1) = ks.map Sum.inr := by
  rw [List.map_map] <;> rfl
theorem nodup_inr {ks : List Str} (h : ks.Nodup) : (ks.map (Sum.inr : Str → Key)).Nodup := List.pairwise_map.mpr (List.Pairwise.imp (fun n e => n (Sum.inr.inj e)) h)
theorem NL.nd {ex : List (Key × V)} (h : NL ex) : (ex.map (·.1)).Nodup := by
  obtain ⟨ks, f, rfl, _, nd, _⟩ := h
  rw [keys_map]
  exact nodup_inr nd
theorem NL.tab {ex : List (Key × V)} (h : NL ex) : Tab 60 ex := by
  have nd := h.nd
  obtain ⟨ks, f, rfl, _, _, hw, hl⟩ := h
  refine ⟨fun q hq => ?_, nd, by rw [List.length_map]; exact hl⟩
  obtain ⟨k, hk, rfl⟩ := List.mem_map.mp hq
  exact ⟨k, f k, rfl, hw k hk⟩
theorem Tab.mono {n m : Nat} {kvs : List (Key × V)} (t : Tab n kvs) (h : n ≤ m) : Tab m kvs := ⟨t.each, t.nd, Nat.le_trans t.len h⟩
theorem tab_key {n : Nat} {kvs : List (Key × V)} (t : Tab n kvs) {k : Str} (h : (Sum.inr k : Key) ∈ kvs.map (·.1)) : ∃ z : Str, wordB k 12 = true ∧ wordB z 12 = true ∧ valV kvs (Sum.inr k) = some (.str z) := by
  obtain ⟨q, hq, e⟩ := List.mem_map.mp h
  obtain ⟨i, hi⟩ := List.getElem?_of_mem hq
  obtain ⟨a, b, rfl, wa, wb⟩ := t.each q hq
  have ea : a = k := Sum.inr.inj e
  subst ea
  exact ⟨b, wa, wb, get_at t.nd hi⟩
theorem norm_NL {n : Nat} {kvs ex : List (Key × V)} {r : V} (t : Tab n kvs) (hn : n ≤ 60) (h : NormOf kvs r ex) : NL ex := by
  obtain ⟨ks, ys, hks, hp, hs, rfl⟩ := h
  have key : ∀ {k : Str}, k ∈ ys → (Sum.inr k : Key) ∈ kvs.map (·.1) := fun {k} hk => by
    rw [hks]
    exact List.mem_map.mpr ⟨k, hp.mem_iff.mp hk, rfl⟩
  have nk : ks.Nodup := by
    have z := t.nd
    rw [hks] at z
    exact List.Pairwise.imp (fun h e => h (congrArg Sum.inr e)) (List.pairwise_map.mp z)
  have ny : ys.Nodup := hp.nodup_iff.mpr nk
  refine ⟨ys.filter fun k => !decide (atV kvs .non k = orV r k), fun k => match atV kvs .non k with | .str z => z | _ => Str.empty, ?_, ?_, ny.sublist List.filter_sublist, fun k hk => ?_, ?_⟩
  · refine List.map_congr_left fun k hk => ?_
    obtain ⟨z, _, _, e⟩ := tab_key t (key (List.mem_filter.mp hk).1)
    have a : atV kvs .non k = .str z := by unfold atV; rw [e]
    show _ = ((Sum.inr k : Key), V.str (match atV kvs .non k with | .str z => z | _ => Str.empty))
    rw [a]
  · have pw := (sorted_pw hs).sublist (List.filter_sublist (p := fun k => !decide (atV kvs .non k = orV r k)) (l := ys))
    refine sortedS_of_pairwise _ (pw.imp fun {a b} h => ?_)
    rw [ltCps_eq]
    exact decide_eq_false (List.not_lt.mpr h)
  · obtain ⟨z, w1, w2, e⟩ := tab_key t (key (List.mem_filter.mp hk).1)
    have a : atV kvs .non k = .str z := by unfold atV; rw [e]
    refine ⟨w1, ?_⟩
    show wordB (match atV kvs .non k with | .str z => z | _ => Str.empty) 12 = true
    rw [a]
    exact w2
  · have l1 := List.length_filter_le (fun k => !decide (atV kvs .non k = orV r k)) ys
    have l2 := hp.length_eq
    have l3 := congrArg List.length hks
    rw [List.length_map, List.length_map] at l3
    have := t.len
    omega
theorem hit_all {ls : List (Key × V)} : ∀ {ks : List (Key × V)}, hitB ls ks = true → ∀ q ∈ ks, ∃ y, valV ls q.1 = some y ∧ eqV q.2 y = true
  | [], _, q, hq => absurd hq List.not_mem_nil
  | (k, v) :: r, h, q, hq => by
    rw [hitB] at h
    cases e : valV ls k with
    | none =>
      rw [e] at h
      cases h
    | some y =>
      rw [e] at h
      obtain ⟨h1, h2⟩ := Bool.and_eq_true_iff.mp (show (eqV v y && hitB ls r) = true from h)
      rcases List.mem_cons.mp hq with rfl | hq
      · exact ⟨y, e, h1⟩
      · exact hit_all h2 q hq
theorem eq_norm {ex ey : List (Key × V)} (h : NL ex) (g : NL ey) : eqDk ex ey = decide (ex = ey) := by
  by_cases e : ex = ey
  · subst e
    unfold eqDk
    rw [decide_eq_true rfl, decide_eq_true rfl, Bool.true_and]
    exact hitB_self h.nd h.txt ex fun _ z => z
  · rw [decide_eq_false e]
    cases q : eqDk ex ey with
    | false => rfl
    | true =>
      exfalso
      obtain ⟨q1, q2⟩ := Bool.and_eq_true_iff.mp (show (decide (ex.length = ey.length) && hitB ey ex) = true from q)
      have len := of_decide_eq_true q1
      obtain ⟨ks, f, rfl, s1, n1, w1, _⟩ := h
      obtain ⟨ls, g2, rfl, s2, n2, w2, _⟩ := g
      rw [List.length_map, List.length_map] at len
      have hit : ∀ k ∈ ks, k ∈ ls ∧ f k = g2 k := fun k hk => by
        obtain ⟨y, e1, e2⟩ := hit_all q2 _ (List.mem_map.mpr ⟨k, hk, rfl⟩)
        have v := valV_words (fun k => V.str (g2 k)) k ls
        rw [e1] at v
        by_cases hm : k ∈ ls
        · rw [if_pos hm] at v
          cases v
          exact ⟨hm, eq_of_beq (show (f k == g2 k) = true from e2)⟩
        · rw [if_neg hm] at v
          cases v
      have pm := sub_perm n1 (fun x hx => (hit x hx).1) len
      have ee := pw_uniq (sorted_pw s1) (sorted_pw s2) pm
      subst ee
      exact e (List.map_congr_left fun k hk => by rw [(hit k hk).2])
/-- normal exceptions that say the same are the same -/
theorem norm_alike {n m : Nat} {k1 k2 ex ey : List (Key × V)} {r : V} (t1 : Tab n k1) (t2 : Tab m k2) (h1 : NormOf k1 r ex) (h2 : NormOf k2 r ey) (same : ∀ z : Str, (Sum.inr z : Key) ∈ k1.map (·.1) ∨ (Sum.inr z : Key) ∈ k2.map (·.1) → atV k1 r z = atV k2 r z) : ex = ey := by
  have out : ∀ {k : List (Key × V)} {z : Str}, (Sum.inr z : Key) ∉ k.map (·.1) → atV k r z = orV r z := fun {k z} hn => by
    have e : valV k (Sum.inr z) = none := by
      cases q : valV k (Sum.inr z) with
      | none => rfl
      | some v => exact absurd (valV_key.mp (by rw [q]; rfl)) hn
    exact atV_of e
  have all : ∀ z, atV k1 r z = atV k2 r z := fun z => by
    by_cases c1 : (Sum.inr z : Key) ∈ k1.map (·.1)
    · exact same z (.inl c1)
    · by_cases c2 : (Sum.inr z : Key) ∈ k2.map (·.1)
      · exact same z (.inr c2)
      · rw [out c1, out c2]
  have own : ∀ {n : Nat} {k : List (Key × V)} {z : Str}, Tab n k → (Sum.inr z : Key) ∈ k.map (·.1) → atV k .non z = atV k r z := fun {n k z} t hz => by
    obtain ⟨y, _, _, e⟩ := tab_key t hz
    rw [atV_of e, atV_of e] <;> rfl
  obtain ⟨ks, ys, e1, p1, s1, rfl⟩ := h1
  obtain ⟨ls, zs, e2, p2, s2, rfl⟩ := h2
  have nk : ∀ {n : Nat} {k : List (Key × V)} {ks ys : List Str}, Tab n k → k.map (·.1) = ks.map Sum.inr → ys.Perm ks → ys.Nodup := fun t e p => by
    have z := t.nd
    rw [e] at z
    exact p.nodup_iff.mpr (List.Pairwise.imp (fun h e => h (congrArg Sum.inr e)) (List.pairwise_map.mp z))
  have mk : ∀ {k : List (Key × V)} {ks ys : List Str} {z : Str}, k.map (·.1) = ks.map Sum.inr → ys.Perm ks → (z ∈ ys ↔ (Sum.inr z : Key) ∈ k.map (·.1)) := fun {k ks ys z} e p => by
    rw [e, p.mem_iff]
    exact ⟨fun h => List.mem_map.mpr ⟨z, h, rfl⟩, fun h => by
      obtain ⟨w, hw, q⟩ := List.mem_map.mp h
      exact Sum.inr.inj q ▸ hw⟩
  have mf : ∀ {n : Nat} {k : List (Key × V)} {ks ys : List Str} {z : Str}, Tab n k → k.map (·.1) = ks.map Sum.inr → ys.Perm ks → (z ∈ ys.filter (fun q => !decide (atV k .non q = orV r q)) ↔ atV k r z ≠ orV r z) := fun {n k ks ys z} t e p => by
    rw [List.mem_filter, mk e p]
    constructor
    · rintro ⟨h, q⟩ c
      rw [own t h, c, decide_eq_true rfl] at q
      cases q
    · intro c
      have h : (Sum.inr z : Key) ∈ k.map (·.1) := by
        by_cases hh : (Sum.inr z : Key) ∈ k.map (·.1)
        · exact hh
        · exact absurd (out hh) c
      exact ⟨h, by rw [own t h, decide_eq_false c]; rfl⟩
  have pm : (ys.filter fun q => !decide (atV k1 .non q = orV r q)).Perm (zs.filter fun q => !decide (atV k2 .non q = orV r q)) :=
    mem_perm ((nk t1 e1 p1).sublist List.filter_sublist) ((nk t2 e2 p2).sublist List.filter_sublist) fun x => by rw [mf t1 e1 p1, mf t2 e2 p2, all x]
  have ee := pw_uniq ((sorted_pw s1).sublist List.filter_sublist) ((sorted_pw s2).sublist List.filter_sublist) pm
  rw [← ee]
  refine List.map_congr_left fun k hk => ?_
  have h1 : (Sum.inr k : Key) ∈ k1.map (·.1) := (mk e1 p1).1 (List.mem_filter.mp hk).1
  have h2 : (Sum.inr k : Key) ∈ k2.map (·.1) := (mk e2 p2).1 (List.mem_filter.mp (ee ▸ hk)).1
  rw [own t1 h1, own t2 h2, all k]
theorem norm_uniq {n : Nat} {k ex ey : List (Key × V)} {r : V} (t : Tab n k) (h1 : NormOf k r ex) (h2 : NormOf k r ey) : ex = ey := norm_alike t t h1 h2 fun _ _ => rfl
/-- normal exceptions, kept again -/
theorem norm_again {n : Nat} {k ex ey : List (Key × V)} {r : V} (t : Tab n k) (hn : n ≤ 60) (h1 : NormOf k r ex) (h2 : NormOf ex r ey) : ey = ex := norm_alike (norm_NL t hn h1).tab t h2 h1 fun z _ => norm_at h1 z
theorem eqV_rest {r1 r2 : V} (h1 : RestOk r1) (h2 : RestOk r2) : eqV r1 r2 = decide (r1 = r2) := by
  rcases h1 with rfl | ⟨a, rfl, _⟩
  · rcases h2 with rfl | ⟨b, rfl, _⟩
    · exact (decide_eq_true rfl).symm
    · exact (decide_eq_false (fun e => nomatch e)).symm
  · rcases h2 with rfl | ⟨b, rfl, _⟩
    · exact (decide_eq_false (fun e => nomatch e)).symm
    · show (a == b) = _
      by_cases e : a = b
      · subst e
        rw [beq_self_eq_true, decide_eq_true rfl]
      · rw [decide_eq_false fun z => e (V.str.inj z)]
        exact beq_eq_false_iff_ne.mpr e
theorem flat_rest {r : V} (h : RestOk r) : flatV r = true := by
  rcases h with rfl | ⟨a, rfl, _⟩ <;> rfl
end C4.T

end Pq4tU
section Pq4tV
set_option maxHeartbeats 4000000
namespace C4.T
open C4
open PySem L2
/-! ### InvalidValue(value); at of a word, and of anything else -/
def spAtW (C : Addr) : Sp := fun vs H Q _ => ∃ (m : Addr) (ex : List (Key × V)) (r : V) (z : Str), vs = [.ref m, .str z] ∧ TMap C H m ex r ∧ wordB z 12 = true ∧ ∀ H', Same H H' → Q (atV ex r z) H'
def spAtX (K : PySem.W.Frag) (C CI : Addr) : Sp := fun vs H _ E => ∃ (m : Addr) (ex : List (Key × V)) (r x : V), vs = [.ref m, x] ∧ TMap C H m ex r ∧ AsStr K H x ∧ (∀ z, x = .str z → z.length ≤ sizeLine) ∧ isWd x 12 = false ∧ ∀ d H', Same H H' → H' d = some (.xd [("value", x)]) → E (.ref CI) (some d) H'
section
variable {P : Program} {w : World} {K : PySem.W.Frag} {mg : Str → Option Value} {base : Heap} {f fV fR fI fS C CM CI : Addr} {fd dV dR dI dS : FuncData}
theorem ok_at_w (F : FM K "at" "Map.at" s_mat f fd) (T : TMc K C) (O : TcO K C CM "text") (IV : Kn P w K mg base 2 "is_value" fV dV ["value", "kind"] (spIsValue K)) (GR : FnOk P w K mg base CX0 2 fR dR ["self", "value"] (spResult C)) (bR : Binds K dR ["self", "value"] []) (mR : Meth K C "_result" fR)
    (XI : XcO P w K mg base CI fI dI "InvalidValue" "value") : FnOk P w K mg base CX0 3 f fd ["self", "value"] (spAtW C) := by
  refine F.ok sc_mat (fun vs H Q E h => ?_) (fun cdv A outer s H vs Q E hr h => ?_)
  · obtain ⟨m, ex, r, z, rfl, _⟩ := h
    rfl
  obtain ⟨m, ex, r, z, rfl, tm, hz, q⟩ := h
  have hr2 : Room 2 _ := hr
  obtain ⟨u1, k1⟩ := O.knd
  refine ⟨_, PSs.nox (pss_cons (ps_if (pt_not (pt_val (pe_call IV.f hr rfl IV.m IV.k IV.b .nil pass0 (pa_cons (pv 1) (pa_cons (pe_con (pv 0) rfl) pa_nil))))) (pss_one (ps_raise rfl takes_no (pmk_xe XI.x XI.i XI.t XI.g hr2 XI.b pass0 (by decide) rfl XI.m (pa_cons (pv 1) pa_nil)))) pss_nil)
    (pss_one (ps_ret (pe_meth (pv 0) T.cl mR GR hr bR .nil pass0 (pa_cons (pv 1) pa_nil))))), ?_⟩
  obtain ⟨dx, d, hm, hd⟩ := tm
  refine ⟨_, rfl, _, rfl, m, C, dx, _, _, u1, rfl, hm, T.cl, k1, rfl, .str z, rfl, asStr_str z, fun y h => by cases h; exact word_len hz, fun H1 s1 => ⟨isWd (.str z) 12, rfl, ?_⟩⟩
  rw [show isWd (.str z) 12 = true from hz]
  refine (show (if (!true) = true then _ else _) from ?_)
  rw [if_neg (by decide)]
  exact ⟨_, rfl, m, dx, _, rfl, s1 _ _ hm, rfl, _, rfl, m, ex, r, z, rfl, ⟨dx, d, s1 _ _ hm, s1 _ _ hd⟩, q H1 s1⟩
theorem ok_at_x (F : FM K "at" "Map.at" s_mat f fd) (T : TMc K C) (O : TcO K C CM "text") (IV : Kn P w K mg base 2 "is_value" fV dV ["value", "kind"] (spIsValue K)) (GR : FnOk P w K mg base CX0 2 fR dR ["self", "value"] (spResult C)) (bR : Binds K dR ["self", "value"] []) (mR : Meth K C "_result" fR)
    (XI : XcO P w K mg base CI fI dI "InvalidValue" "value") : FnOk P w K mg base (L2.CX P w) 3 f fd ["self", "value"] (spAtX K C CI) := by
  refine F.ok sc_mat (fun vs H Q E h => ?_) (fun cdv A outer s H vs Q E hr h => ?_)
  · obtain ⟨m, ex, r, x, rfl, _⟩ := h
    rfl
  obtain ⟨m, ex, r, x, rfl, ⟨dx, d, hm, hd⟩, ax, lx, nx, q⟩ := h
  have hr2 : Room 2 _ := hr
  obtain ⟨u1, k1⟩ := O.knd
  refine ⟨_, pss_cons (ps_if (pt_not (pt_val (pe_call IV.f hr rfl IV.m IV.k IV.b .nil pass0 (pa_cons (pv 1) (pa_cons (pe_con (pv 0) rfl) pa_nil))))) (pss_one (ps_raise rfl (takes_of rfl rfl rfl rfl) (pmk_xe XI.x XI.i XI.t XI.g hr2 XI.b pass0 (by decide) rfl XI.m (pa_cons (pv 1) pa_nil)))) pss_nil)
    (pss_one (ps_ret (pe_meth (pv 0) T.cl mR GR hr bR .nil pass0 (pa_cons (pv 1) pa_nil)))), ?_⟩
  refine ⟨_, rfl, _, rfl, m, C, dx, _, _, u1, rfl, hm, T.cl, k1, rfl, x, rfl, ax, lx, fun H1 s1 => ⟨isWd x 12, rfl, ?_⟩⟩
  rw [nx]
  refine (show (if (!false) = true then _ else _) from ?_)
  rw [if_pos (by decide)]
  exact xraise XI.x XI.no rfl fun d H2 s2 e2 => q d H2 (s1.trans s2) e2
/-! ### TextMap.same(), TextMap.constant_map(value) -/
def spSame (C : Addr) : Sp := fun vs H Q _ => vs = [.ref C] ∧ ∀ m H', TMap C H' m [] .non → Same H H' → Q (.ref m) H'
def spConst (C : Addr) : Sp := fun vs H Q _ => ∃ z : Str, vs = [.ref C, .str z] ∧ wordB z 12 = true ∧ ∀ m H', TMap C H' m [] (.str z) → Same H H' → Q (.ref m) H'
theorem norm_nil {r : V} {ex : List (Key × V)} (h : NormOf [] r ex) : ex = [] := by
  obtain ⟨ks, ys, e, p, s, rfl⟩ := h
  have : ks = [] := by
    cases ks with
    | nil => rfl
    | cons a l => cases e
  subst this
  have : ys = [] := (List.Perm.nil_eq p.symm).symm
  subst this
  rfl
theorem made_same {H H' : Hp} {m dx : Addr} {o : HO} {H0 : Hp} (hx : H m = none) (hd : H dx = none) (ne : dx ≠ m) (e : H0 = upd (upd H dx (.own m)) m o) (b : Bt m H0 H') : Same H H' := fun c u z => by
  subst e
  have n1 : c ≠ m := ne_of_none z hx
  have n2 : c ≠ dx := ne_of_none z hd
  exact b c u n1 (by rw [upd_ne n1, upd_ne n2]; exact z)
structure MkT (P : Program) (w : World) (K : PySem.W.Frag) (mg : Str → Option Value) (base : Heap) (C fI : Addr) (dI : FuncData) : Prop where
  mkC : Mk K C fI
  g : FnOk P w K mg base CX0 3 fI dI ["self", "exceptions", "rest"] (spInitT C)
  b : Binds K dI ["self", "exceptions", "rest"] []
  b2 : ∃ ds, Vals [V.non, V.non] ds ∧ Binds K dI ["self", "exceptions", "rest"] ds
  m : mg "TextMap" = some (.ref C)
theorem ok_same (F : FM K "same" "TextMap.same" s_same f fd) (T : MkT P w K mg base C fI dI) : FnOk P w K mg base CX0 5 f fd ["cls"] (spSame C) := by
  refine F.ok sc_same (fun vs H Q E h => ?_) (fun cdv A outer s H vs Q E hr h => ?_)
  · obtain ⟨rfl, _⟩ := h
    rfl
  obtain ⟨rfl, q⟩ := h
  obtain ⟨ds, hd, hb⟩ := T.b2
  refine ⟨_, PSs.nox (pss_one (ps_ret (pe_makeL0 (i := 0) T.mkC T.g hr rfl (.inl rfl) hb hd pass0))), ?_⟩
  refine ⟨rfl, fun m dx hm hdx ne => ⟨m, dx, .non, .non, [], rfl, upd_same, Tab.nil.mono (by decide), .inl rfl, .inl ⟨rfl, rfl⟩, fun H' ex d hn _ e1 e2 hB => ?_⟩⟩
  have z := norm_nil hn
  subst z
  exact ⟨rfl, q m H' ⟨dx, d, e1, e2⟩ (made_same hm hdx ne rfl hB)⟩
theorem ok_constant (F : FM K "constant_map" "TextMap.constant_map" s_constant f fd) (T : MkT P w K mg base C fI dI) (IV : Kn P w K mg base 2 "is_value" fV dV ["value", "kind"] (spIsValue K)) (XI : XcO P w K mg base CI fS dS "InvalidValue" "value") : FnOk P w K mg base CX0 5 f fd ["cls", "value"] (spConst C) := by
  refine F.ok sc_constant (fun vs H Q E h => ?_) (fun cdv A outer s H vs Q E hr h => ?_)
  · obtain ⟨z, rfl, _⟩ := h
    rfl
  obtain ⟨z, rfl, hz, q⟩ := h
  refine ⟨_, PSs.nox (pss_cons (ps_if (pt_not (pt_val (pe_call IV.f (hr.mono (by decide)) rfl IV.m IV.k IV.b .nil pass0 (pa_cons (pv 1) (pa_cons pe_str pa_nil))))) (pss_one (ps_raise rfl takes_no (pmk_xe XI.x XI.i XI.t XI.g (hr.mono (by decide)) XI.b pass0 (by decide) rfl XI.m (pa_cons (pv 1) pa_nil)))) pss_nil)
    (pss_one (ps_ret (pe_makeL (i := 0) T.mkC T.g hr rfl (.inl rfl) T.b .nil pass0 (pa_cons pe_dnewK (pa_cons (pv 1) pa_nil)))))), ?_⟩
  refine word_at rfl hz _ fun H1 s1 => ?_
  refine (show (if (!true) = true then _ else _) from ?_)
  rw [if_neg (by decide)]
  refine ⟨rfl, fun g hg => ⟨_, rfl, fun m dx hm hdx ne => ?_⟩⟩
  have ng : g ≠ m := fun e => by
    rw [← e, upd_same] at hm
    cases hm
  have ng2 : g ≠ dx := fun e => by
    rw [← e, upd_same] at hdx
    cases hdx
  refine ⟨m, dx, .ref g, .str z, [], rfl, upd_same, Tab.nil.mono (by decide), .inr ⟨z, rfl, hz⟩, .inr ⟨g, rfl, by rw [upd_ne ng, upd_ne ng2, upd_same]⟩, fun H' ex d hn _ e1 e2 hB => ?_⟩
  have e := norm_nil hn
  subst e
  exact ⟨rfl, q m H' ⟨dx, d, e1, e2⟩ ((s1.trans (same_upd hg)).trans (made_same hm hdx ne rfl hB))⟩
end
end C4.T

end Pq4tV
section Pq4tW
set_option maxHeartbeats 4000000
namespace C4.T
open C4
open PySem PySem.Spec L2 PyProof.Rows
/-! ### repr of exceptions and rest, of a map -/
def vD : V → PyData
  | .str z => .str z
  | _ => .none
def exL (ex : List (Key × V)) : List (PyData × PyData) := ex.map fun q => (kD q.1, vD q.2)
theorem exL_rp {H : Hp} : ∀ {ex : List (Key × V)}, Txt ex → RpKv H ex (exL ex)
  | [], _ => .nil
  | (k, v) :: r, h => by
    obtain ⟨z, e⟩ := h (k, v) List.mem_cons_self
    have e' : v = .str z := e
    subst e'
    exact .cons (.str z) (exL_rp fun q hq => h q (List.mem_cons_of_mem _ hq))
theorem ex_rp {H : Hp} {d : Addr} {ex : List (Key × V)} (h : Txt ex) (e : H d = some (.dK ex)) : Rp H (.ref d) (.dict (exL ex)) := .dic e (exL_rp h)
theorem rest_rp {H : Hp} {r : V} (h : RestOk r) : Rp H r (vD r) := by
  rcases h with rfl | ⟨z, rfl, _⟩
  · exact .non
  · exact .str z
theorem word_chars {z : Str} (h : wordB z 12 = true) : z.length ≤ 12 ∧ ∀ c ∈ z.cps.toList, c < 16 ^ 8 := ⟨(word_asc (m := 12) h).1, fun c hc => Nat.lt_trans ((word_asc (m := 12) h).2 c hc) (by decide)⟩
theorem word_shown {z : Str} (h : wordB z 12 = true) : (PyData.str z).shown.length ≤ 122 := by
  obtain ⟨l, c⟩ := word_chars h
  have := PySem.StrLaws.reprText_len z c
  show (reprText z).length ≤ 122
  omega
theorem rest_shown {r : V} (h : RestOk r) : (vD r).shown.length ≤ 122 := by
  rcases h with rfl | ⟨z, rfl, hz⟩
  · show (PyData.none).shown.length ≤ 122
    decide +kernel
  · exact word_shown hz
theorem piled_le : ∀ {ts : List Str} {b : Nat}, (∀ t ∈ ts, t.length ≤ b) → piled ts ≤ ts.length * (b + 2)
  | [], b, _ => by simp [piled]
  | t :: ts, b, h => by
    have h1 := h t List.mem_cons_self
    have h2 := piled_le (ts := ts) fun u hu => h u (List.mem_cons_of_mem _ hu)
    rw [piled_cons, List.length_cons, Nat.succ_mul]
    omega
theorem shownKv_each : ∀ {ex : List (Key × V)}, (∀ q ∈ ex, ∃ a b : Str, q = (Sum.inr a, V.str b) ∧ wordB a 12 = true ∧ wordB b 12 = true) → ∀ t ∈ PyData.shownKv (exL ex), t.length ≤ 246
  | [], _, t, ht => absurd ht List.not_mem_nil
  | q :: r, h, t, ht => by
    obtain ⟨a, b, rfl, wa, wb⟩ := h q List.mem_cons_self
    have ht' : t ∈ (PyData.shown (.str a) ++ ": " ++ PyData.shown (.str b)) :: PyData.shownKv (exL r) := ht
    rcases List.mem_cons.mp ht' with rfl | ht'
    · have h1 := word_shown wa
      have h2 := word_shown wb
      rw [strLen_append, strLen_append]
      have e : (": " : Str).length = 2 := by decide +kernel
      omega
    · exact shownKv_each (fun q hq => h q (List.mem_cons_of_mem _ hq)) t ht'
theorem shownKv_len : ∀ (l : List (PyData × PyData)), (PyData.shownKv l).length = l.length
  | [] => rfl
  | (k, v) :: r => by
    show (PyData.shownKv r).length + 1 = r.length + 1
    rw [shownKv_len r]
theorem ex_shown {ex : List (Key × V)} (t : Tab 60 ex) : (PyData.dict (exL ex)).shown.length ≤ 15000 := by
  have h := shownKv_each t.each
  have hl : (PyData.shownKv (exL ex)).length ≤ 60 := by
    rw [shownKv_len]
    unfold exL
    rw [List.length_map]
    exact t.len
  show (dictText (PyData.shownKv (exL ex))).length ≤ 15000
  generalize PyData.shownKv (exL ex) = ts at h hl
  unfold dictText
  rw [strLen_append, strLen_append]
  have e1 : ("{" : Str).length = 1 := by decide +kernel
  have e2 : ("}" : Str).length = 1 := by decide +kernel
  have p := piled_le h
  have p2 : ts.length * (246 + 2) ≤ 60 * 248 := Nat.mul_le_mul_right _ hl
  by_cases c : ts = []
  · subst c
    have e3 : (Str.join ", " ([] : List Str)).length = 0 := by decide +kernel
    omega
  · have q := join_length_add ts c
    omega
theorem ex_showable : ∀ {ex : List (Key × V)}, (∀ q ∈ ex, ∃ a b : Str, q = (Sum.inr a, V.str b) ∧ wordB a 12 = true ∧ wordB b 12 = true) → PyData.showableKv (exL ex) = true
  | [], _ => rfl
  | q :: r, h => by
    obtain ⟨a, b, rfl, _, _⟩ := h q List.mem_cons_self
    show (true && true && PyData.showableKv (exL r)) = true
    rw [ex_showable fun q hq => h q (List.mem_cons_of_mem _ hq)] <;> rfl
theorem rest_showable {r : V} (h : RestOk r) : (vD r).showable = true := by
  rcases h with rfl | ⟨z, rfl, _⟩ <;> rfl
theorem ex_depth : ∀ {ex : List (Key × V)}, (∀ q ∈ ex, ∃ a b : Str, q = (Sum.inr a, V.str b) ∧ wordB a 12 = true ∧ wordB b 12 = true) → PyData.depthKv (exL ex) ≤ 2
  | [], _ => by decide
  | q :: r, h => by
    obtain ⟨a, b, rfl, _, _⟩ := h q List.mem_cons_self
    have ih := ex_depth fun q hq => h q (List.mem_cons_of_mem _ hq)
    show max (max (PyData.depth (.str a)) (PyData.depth (.str b))) (PyData.depthKv (exL r)) ≤ 2
    have d1 : PyData.depth (.str a) ≤ 2 := by first | decide | (show 1 ≤ 2; decide) | (show 0 ≤ 2; decide)
    have d2 : PyData.depth (.str b) ≤ 2 := by first | decide | (show 1 ≤ 2; decide) | (show 0 ≤ 2; decide)
    omega
/-- what repr tells of a map -/
def tmText (ex : List (Key × V)) (r : V) : Str := Str.empty ++ "TextMap(" ++ (PyData.dict (exL ex)).shown ++ ", " ++ (vD r).shown ++ ")"
def spReprT (C : Addr) : Sp := fun vs H Q _ => ∃ (m : Addr) (ex : List (Key × V)) (r : V), vs = [.ref m] ∧ TMap C H m ex r ∧ Tab 60 ex ∧ RestOk r ∧ Q (.str (tmText ex r)) H
theorem ex_ok {ex : List (Key × V)} (t : Tab 60 ex) : (PyData.dict (exL ex)).showable = true ∧ (PyData.dict (exL ex)).shown.length ≤ sizeLine ∧ (PyData.dict (exL ex)).depth ≤ 60 := by
  refine ⟨ex_showable t.each, Nat.le_trans (ex_shown t) (by decide), ?_⟩
  have h := ex_depth t.each
  show PyData.depthKv (exL ex) + 1 ≤ 60
  omega
theorem rest_ok {r : V} (h : RestOk r) : (vD r).showable = true ∧ (vD r).shown.length ≤ sizeLine ∧ (vD r).depth ≤ 60 := by
  refine ⟨rest_showable h, Nat.le_trans (rest_shown h) (by decide), ?_⟩
  rcases h with rfl | ⟨z, rfl, _⟩
  · decide
  · show PyData.depth (.str z) ≤ 60
    first
      | decide
      | (show 1 ≤ 60; decide)
      | (show 0 ≤ 60; decide)
theorem tab_txt {n : Nat} {ex : List (Key × V)} (t : Tab n ex) : Txt ex := fun q hq => by
  obtain ⟨a, b, rfl, _, _⟩ := t.each q hq
  exact ⟨b, rfl⟩
theorem pre_len : (Str.empty ++ "TextMap(" : Str).length = 8 := by decide +kernel
section
variable {P : Program} {w : World} {K : PySem.W.Frag} {mg : Str → Option Value} {base : Heap} {f C : Addr} {fd : FuncData}
theorem ok_repr (F : FM K "__repr__" "TextMap.__repr__" s_repr f fd) (T : TMc K C) (hK : noMods K = true) : FnG P w K mg base CX0 1 f fd ["self"] (spReprT C) := by
  refine F.okG sc_repr (fun vs H Q E h => ?_) (fun cdv A outer s H vs Q E hg hr h => ?_)
  · obtain ⟨m, ex, r, rfl, _⟩ := h
    rfl
  obtain ⟨m, ex, r, rfl, ⟨dx, d, hm, hd⟩, tb, ro, q⟩ := h
  have hG := deeper_guards (env := PyProof.Rows.envOfC "TextMap.__repr__" (defScope s_repr) s.heap.objs.size f cdv) hg
  have hu := hr.units
  refine ⟨_, PSs.nox (pss_one (ps_ret (pe_joined (.cons pe_str (.cons (pe_fmtD (by exact hG) (by exact hu) (by exact hK) (pe_fld (pv 0) rfl)) (.cons pe_str (.cons (pe_fmtD (by exact hG) (by exact hu) (by exact hK) (pe_fld (pv 0) rfl)) (.cons pe_str .nil)))))))), ?_⟩
  obtain ⟨a1, a2, a3⟩ := ex_ok tb
  obtain ⟨b1, b2, b3⟩ := rest_ok ro
  have l1 := ex_shown tb
  have l2 := rest_shown ro
  have e1 : (Str.empty ++ "TextMap(" : Str).length = 8 := pre_len
  have e2 : (", " : Str).length = 2 := by decide +kernel
  have e3 : (")" : Str).length = 1 := by decide +kernel
  have big : 20000 ≤ sizeLine := by decide
  refine ⟨_, rfl, by rw [e1]; exact Nat.le_trans (by decide) big, _, rfl, m, C, dx, _, .ref d, rfl, hm, T.cl, T.nE, rfl, _, ex_rp (tab_txt tb) hd, a1, a2, a3, _, rfl, ?_, _, rfl, ?_, _, rfl, m, C, dx, _, r, rfl, hm, T.cl, T.nR, rfl, _, rest_rp ro, b1, b2, b3, _, rfl, ?_, _, rfl, ?_, q⟩
  · rw [strLen_append, e1]
    omega
  · rw [strLen_append, strLen_append, e1, e2]
    omega
  · rw [strLen_append, strLen_append, strLen_append, e1, e2]
    omega
  · rw [strLen_append, strLen_append, strLen_append, strLen_append, e1, e2, e3]
    omega
end
end C4.T

end Pq4tW
section PSX
set_option maxHeartbeats 4000000
namespace L2
open PySem PySem.Spec PyProof.Rows
/-! ### sorted(xs) of data; a text times a number -/
/-- what is never reached -/
def tNevE : TE := fun _ _ _ => False
def tNevT : TT := fun _ _ _ => False
theorem pe_nev {X : Cx} {e : Expr} : PE X e tNevE := ⟨fun _ _ _ _ _ _ h => (show False from h).elim⟩
theorem pt_nev {X : Cx} {e : Expr} : PT X e tNevT := ⟨fun _ _ _ _ _ _ h => (show False from h).elim⟩
/-- sorted(xs), xs a list that reads as data which compare: a new list -/
def rSortedD (K : PySem.W.Frag) : List V → Hp → VK → Prop := fun vs H Q => ∃ (a : Addr) (xs : List V) (ds : List PyData), vs = [V.ref a] ∧ SqL K H a xs ∧ DpAll K H xs ds ∧ PySem.W.AllAlike ds ∧ PySem.W.Sortable ds ∧ (∀ d ∈ ds, d.depth ≤ 60) ∧
  ∀ p, H p = none → Q (.ref p) (upd H p (.lst (((xs.zip ds).mergeSort (PySem.W.dataLe false Prod.snd)).map Prod.fst)))
theorem dpAll_len {K : PySem.W.Frag} {H : Hp} : ∀ {xs : List V} {ds : List PyData}, DpAll K H xs ds → xs.length = ds.length
  | _, _, .nil => rfl
  | _, _, .cons _ t => by rw [List.length_cons, List.length_cons, dpAll_len t]
theorem each_rel {K : PySem.W.Frag} {H : Hp} : ∀ {xs : List V} {us : List Value} {ds : List PyData}, Vals xs us → DpAll K H xs ds → PySem.W.EachIs (fun u (b : V × PyData) => RelV b.1 u) us (xs.zip ds)
  | _, _, _, .nil, .nil => .nil
  | _, _, _, .cons r t, .cons _ t' => .cons r (each_rel t t')
theorem each_vals : ∀ {us : List Value} {bs : List (V × PyData)}, PySem.W.EachIs (fun u (b : V × PyData) => RelV b.1 u) us bs → Vals (bs.map Prod.fst) us
  | _, _, .nil => .nil
  | _, _, .cons r t => .cons r (each_vals t)
section
variable {X : Cx}
theorem each_reads {pins : List (Addr × Obj)} {σ : St} {H : Hp} {s : Shared} (I : Inv X pins σ H s) : ∀ {xs : List V} {us : List Value} {ds : List PyData}, Vals xs us → DpAll X.K H xs ds → PySem.W.EachIs (fun u (b : V × PyData) => ∃ as, Reads s.heap u b.2 as) us (xs.zip ds)
  | _, _, _, .nil, .nil => .nil
  | _, _, _, .cons r t, .cons d t' => .cons (Dp.reads I _ _ _ d r) (each_reads I t t')
theorem cr_sortedD (hu : X.A.units + 64 < cLine) : CallR X (.builtin "sorted") (rSortedD X.K) := by
  intro pins s σ H vs us Q I r h
  obtain ⟨a, xs, ds, rfl, hs, hd, hal, hk, hdep, q⟩ := h
  obtain ⟨its, rv, hl, hz⟩ := I.list hs
  obtain ⟨u, rfl, ru⟩ := vals1 r
  obtain rfl : u = Value.ref a := ru
  have el := dpAll_len hd
  have es : (xs.zip ds).map Prod.snd = ds := List.map_snd_zip (by omega)
  have hal' : PySem.W.AllAlike ((xs.zip ds).map Prod.snd) := by rw [es]; exact hal
  have hk' : PySem.W.Sortable ((xs.zip ds).map Prod.snd) := by rw [es]; exact hk
  have hlen : (xs.zip ds).length ≤ sizeLine := by
    rw [List.length_zip]
    omega
  refine PySem.W.sorted_data (R := fun u (b : V × PyData) => RelV b.1 u) (enc := Prod.snd) (bs := xs.zip ds) hl.isList (each_rel rv hd) (each_reads I rv hd) hal' hk' hlen (fun b hb => ?_) fun out e1 e2 => ?_
  · have : b.2 ∈ ds := by
      have := List.mem_map_of_mem (f := Prod.snd) hb
      rw [es] at this
      exact this
    have := hdep _ this
    omega
  · obtain ⟨n, hn⟩ := sortedAll_at s.heap its out.toArray
    have kp : ∀ b o, s.heap.get? b = some o → (sortedAll s.heap its out.toArray).get? b = some o := fun b o e => sortedAll_old e
    have hd' : s.heap.objs.size ≤ s.heap.objs.size + 1 := Nat.le_succ _
    refine ⟨.ref (s.heap.objs.size + 1), upd H (s.heap.objs.size + 1) (.lst (((xs.zip ds).mergeSort (PySem.W.dataLe false Prod.snd)).map Prod.fst)), I.laid (t' := s.toks) kp hd' ⟨?_, out, n, each_vals e2, hn⟩, rfl, q _ (I.hok.fresh hd')⟩
    rw [List.length_map, List.length_mergeSort]
    exact hlen
/-- a text times a small number -/
theorem op_mulS : OpR X (binaryOp .Mult) (fun x y H Q => ∃ (z : Str) (n : Nat), x = .str z ∧ y = .int n ∧ 1 ≤ n ∧ n ≤ 1000 ∧ z.length ≤ 1000 ∧ Q (.str ⟨(List.replicate n z.cps).foldl (· ++ ·) #[]⟩) H) := by
  intro pins s σ H x y v u Q I rx ry h
  obtain ⟨z, n, rfl, rfl, n1, n2, zl, q⟩ := h
  obtain ⟨t, rfl⟩ := rx
  obtain ⟨t', rfl⟩ := ry
  have n63 : (2 : Int) ^ 63 = 9223372036854775808 := by decide
  have fin : ∀ tk, (EP X pins σ Q) (.str ⟨(List.replicate n z.cps).foldl (· ++ ·) #[]⟩ tk) { s with toks := s.toks + 1 } := fun tk => ⟨.str _, H, I.tok _, ⟨_, rfl⟩, q⟩
  have len : ∀ k : Nat, ((List.replicate k z.cps).foldl (· ++ ·) (#[] : Array Nat)).size = k * z.length := fun k => by
    have gen : ∀ (k : Nat) (a : Array Nat), ((List.replicate k z.cps).foldl (· ++ ·) a).size = a.size + k * z.length := fun k => by
      induction k with
      | zero => intro a; simp
      | succ k ih =>
        intro a
        rw [List.replicate_succ, List.foldl_cons, ih, Array.size_append, Nat.succ_mul]
        show a.size + z.cps.size + k * z.cps.size = a.size + (k * z.cps.size + z.cps.size)
        omega
    rw [gen]
    simp
  refine PySem.P.mul_str ?_ (fun _ e => ?_) (fun _ e => ?_) ?_
  · rw [decide_eq_false (by omega), decide_eq_false (by omega)]; rfl
  · have h1 : ((2 : Int) ^ 63 - 1) / n ≥ 1000 := by
      rw [ge_iff_le, Int.le_ediv_iff_mul_le (by omega)]
      omega
    omega
  · have : z.length * n ≤ 1000 * 1000 := Nat.mul_le_mul zl n2
    show decide (z.length * n > sizeLine) = false
    have : (1000000 : Nat) ≤ sizeLine := by decide
    exact decide_eq_false (by omega)
  · rw [if_neg (by omega)]
    split
    · rename_i e
      rcases Bool.or_eq_true_iff.mp e with e | e
      · have e' : n = 1 := by have h1 := beq_iff_eq.mp e; omega
        subst e'
        refine ⟨.str _, H, I, ⟨_, rfl⟩, ?_⟩
        have : (List.replicate 1 z.cps).foldl (· ++ ·) #[] = z.cps := by simp
        rw [this] at q
        exact q
      · have e' : z.length = 0 := by simpa using e
        have l0 := len n
        rw [e', Nat.mul_zero] at l0
        have z0 : (⟨(List.replicate n z.cps).foldl (· ++ ·) #[]⟩ : Str) = z := by
          have a1 := Array.eq_empty_of_size_eq_zero l0
          have a2 : z.cps = #[] := Array.eq_empty_of_size_eq_zero e'
          cases z
          simp only at a1 a2 ⊢
          rw [a1, a2]
        rw [z0] at q
        exact ⟨.str _, H, I, ⟨_, rfl⟩, q⟩
    · refine ⟨?_, fin _⟩
      have l1 := len n
      have : n * z.length ≤ 1000 * 1000 := Nat.mul_le_mul n2 zl
      have : (1000000 : Nat) ≤ sizeLine := by decide
      show ((List.replicate n z.cps).foldl (· ++ ·) #[]).size ≤ sizeLine
      rw [l1]
      omega
end
end L2

end PSX
section PW11x
set_option maxHeartbeats 4000000
/-! set(xs), xs a list of integers. -/
namespace InSet
open PySem PySem.Spec PyProof.Rows L2
abbrev newSet (w : World) : Obj := { cls := .type "set", dict := none, data := .set #[] 0 (.fresh 0 0 (!w.params.followText "set-order")) }
theorem new_setI {w : World} {h : Heap} {a : Addr} (ho : h.get? a = some (newSet w)) : SetR w h a (fun j => decide (j ∈ ([] : List Int).take 0)) 0 :=
  ⟨_, #[], 0, _, ho, ⟨rfl, rfl, rfl⟩, rfl, (fun e he => by simp at he), (by simp), (fun k => by simp), (by decide), (by rfl), rfl, List.Pairwise.nil, by
    show _ ∨ (!w.params.followText "set-order") = true
    cases w.params.followText "set-order"
    · exact .inr rfl
    · exact .inl rfl⟩
section
variable {P : Program} {w : World} {A : Around} {E : Value → Shared → Prop} {s : Shared}
set_option maxHeartbeats 6400000 in
theorem set_ofI {l : Addr} {items : Array Value} {ns : List Int} {Q : Value → Shared → Prop} (hh : A.handled = none) (hl : s.heap.IsList l items) (hi : IntsAre items.toList ns) (hb : ns.length + 1 < scanBound)
    (h : ∀ (h' : Heap) (tk c : Nat), SetR w h' s.heap.objs.size (fun j => decide (j ∈ ns)) c → c ≤ ns.length → (∀ b o, b < s.heap.objs.size → s.heap.get? b = some o → h'.get? b = some o) → Q (.ref s.heap.objs.size) { s with heap := h', toks := tk }) :
    wpAny (model P w) A (call (.type "set") [.ref l]) Q E s := by
  obtain ⟨c, tl, hmro⟩ := PySem.F.called_set.mro
  have m1 := PySem.F.called_set.made
  have m2 := PySem.F.called_set.sub
  refine wpAny_call (codeAny_of_tree ?_)
  show wpAny _ _ (callAny (.type "set") _) _ _ _
  refine wpAny_pure ⟨Code.quiet_builtin _ (by decide +kernel), codeAny_builtin PySem.F.entry_type_call ?_⟩
  rw [Around.under_plain (weight_type_call_type "set" [.ref l] []) rfl]
  have m3 := PySem.F.called_set.notType
  have m4 := PySem.F.called_set.canCreate
  have m5 := PySem.F.typeCall_set_1 (.ref l)
  repeat (any_goals (first | assumption | wp_step))
  refine codeAny_mono (code_set_led1 (.ref l) (E := E) (Q₁ := fun obj s₁ => obj = .ref s.heap.objs.size ∧ s₁ = { s with heap := s.heap.push (newSet w) }) ⟨rfl, rfl⟩) fun r s₁ hr => ?_
  cases r with
  | error e => exact hr
  | ok fl =>
    cases fl with
    | ret obj =>
      obtain ⟨rfl, rfl⟩ := hr
      have hS : (s.heap.push (newSet w)).get? s.heap.objs.size = some (newSet w) := Heap.get?_push_size _ rfl
      have hT : Shared.TypeIs { s with heap := s.heap.push (newSet w) } (.ref s.heap.objs.size) "set" := ⟨_, hS, rfl⟩
      have m6 := PySem.F.called_set.init.lookup
      have m7 := PySem.F.called_set.init.bind (.ref s.heap.objs.size)
      repeat (any_goals (first | assumption | wp_step))
      refine codeAny_mono (codeAny_call_builtin (R := wants (fun r s₂ => r = .none ∧ ∃ h' tk c, s₂ = { s with heap := h', toks := tk } ∧ SetR w h' s.heap.objs.size (fun j => decide (j ∈ ns)) c ∧ c ≤ ns.length ∧ (∀ b o, b < s.heap.objs.size → s.heap.get? b = some o → h'.get? b = some o)) E)
        PySem.F.called_set.init.plain PySem.F.entry_set_init (check_set_init_1 hT ?_)) fun r₂ s₂ hr₂ => ?_
      · obtain ⟨⟨ocls, odict, odata, oslots⟩, hol, hcl, nl, hdl⟩ := hl
        simp only at hcl hdl
        subst hcl hdl
        have hol' : (s.heap.push (newSet w)).get? l = some { cls := .type "list", dict := odict, data := .seq items nl, slots := oslots } := Heap.get?_push_of_some _ hol
        have hsls := PySem.F.sub_list_set
        have hslf := PySem.F.sub_list_frozenset
        have hne : (Value.type "list" == Value.type "dict") = false := by decide
        have hl1 : (s.heap.push (newSet w)).IsList l items := ⟨_, hol', rfl, nl, rfl⟩
        unfold Builtin.«set.__init__» noKeywords Builtin.Frozenset.updateFrom
        generalize hPI : pyIter = PI
        wp_walk
        subst hPI
        refine wpAny_pyIter_list hl1 ?_
        refine wpAny_bind (wpAny_runValue ?_)
        have hlS : l < s.heap.objs.size := Heap.lt_size hol
        have hh3 : A.in1.in1.in1.handled = none := by simp [hh]
        have hneI : l ≠ (s.heap.push (newSet w)).objs.size := by
          rw [Heap.size_push]
          exact Nat.ne_of_lt (Nat.lt_succ_of_lt hlS)
        have hSf : s.heap.objs.size ∉ [(s.heap.push (newSet w)).objs.size, l] := by
          rw [Heap.size_push]
          simp only [List.mem_cons, List.mem_singleton, List.not_mem_nil, or_false, not_or]
          exact ⟨Nat.ne_of_lt (Nat.lt_succ_self _), Nat.ne_of_gt hlS⟩
        have hisz : items.size = ns.length := by
          have q := IntsAre.length hi
          rw [Array.length_toList] at q
          exact q
        have hval : ∀ (i : Nat) (v : Value), items[i]? = some v → ∃ k t, ns[i]? = some k ∧ v = .int k t := fun i v hv => by
          have hlt : i < ns.length := by rw [← hisz]; exact (Array.getElem?_eq_some_iff.mp hv).1
          obtain ⟨t, e⟩ := PyProof.Rows.IntsAre.int_at hi i v (by rw [Array.getElem?_toList]; exact hv)
          refine ⟨ns[i], t, List.getElem?_eq_getElem hlt, ?_⟩
          rw [e, List.getD_eq_getElem?_getD, List.getElem?_eq_getElem hlt] <;> rfl
        refine set_update_ints ((Walks.list hh3 _ l hneI items).toS) s.heap.objs.size hSf ns hisz hb hval (items.size - 0) 0 _ (by omega) (Nat.zero_le _)
          ⟨⟨_, Heap.get?_push_size _ rfl, rfl, rfl⟩, (hl1.push _)⟩ ?start ?last
        case start =>
          have z : ((s.heap.push (newSet w)).push { cls := .type "list_iterator", data := .fields #[.ref l, .int 0 0] }).get? s.heap.objs.size = some (newSet w) := Heap.get?_push_of_some _ hS
          exact ⟨0, Nat.le_refl _, new_setI z⟩
        case last =>
          intro s' c0 hm hc0 hS'
          obtain ⟨h', g', d', tk', os'⟩ := s'
          have eg : g' = s.gens := hm.gens
          have ed : d' = s.drawn := hm.drawn
          have eo : os' = s.os := hm.os
          subst eg ed eo
          show wpAny _ _ _ _ _ _
          refine wpAny_pure ?_
          show wpAny _ _ (ret Value.none) _ _ _
          refine wpAny_pure ⟨rfl, h', tk', c0, rfl, hS', by rw [← hisz]; exact hc0, fun b o hb e => ?_⟩
          refine hm.heap b o ?_ (Heap.get?_push_of_some _ (Heap.get?_push_of_some _ e))
          rw [Heap.size_push]
          simp only [List.mem_cons, List.mem_singleton, List.not_mem_nil, or_false, not_or]
          exact ⟨Nat.ne_of_lt hb, Nat.ne_of_lt (Nat.lt_succ_of_lt hb)⟩
      · cases r₂ with
        | error e => exact hr₂
        | ok fl₂ =>
          cases fl₂ with
          | ret r =>
            obtain ⟨rfl, h', tk, c0, rfl, hS', hc0, hk'⟩ := hr₂
            repeat (any_goals (first | assumption | wp_step))
            exact h _ _ _ hS' hc0 hk'
          | _ => exact hr₂.elim
    | _ => exact hr.elim
end
end InSet
namespace L2
open PySem PySem.Spec PyProof.Rows
def rSetIn (K : PySem.W.Frag) (w : World) : List V → Hp → VK → Prop := fun vs H Q => ∃ (l : Addr) (ns : List Int), vs = [V.ref l] ∧ SqL K H l (ns.map V.int) ∧ ns.length ≤ 4000 ∧ ∀ a c, H a = none → c ≤ ns.length → Q (.ref a) (upd H a (SetO w a (fun j => decide (j ∈ ns)) c))
theorem cr_setIn {X : Cx} (hc : X.calm = true) : CallR X (.type "set") (rSetIn X.K X.w) := by
  intro pins s σ H vs us Q I r h
  obtain ⟨l, ns, rfl, hs, hb, q⟩ := h
  obtain ⟨its, rv, hl, _⟩ := I.list hs
  rw [Vals.ref1 r]
  refine InSet.set_ofI (I.ok.hd hc) hl.isList rv.ints (by unfold scanBound; omega) fun h' tk c hS hle k => ?_
  have kk : ∀ b o, s.heap.get? b = some o → h'.get? b = some o := fun b o e => k b o (Heap.lt_size e) e
  exact ⟨.ref _, upd H s.heap.objs.size (SetO X.w s.heap.objs.size (fun j => decide (j ∈ ns)) c), I.laid (t' := tk) kk (Nat.le_refl _) (setO_new hS), rfl, q _ c (I.hok.fresh (Nat.le_refl _)) hle⟩
end L2
namespace L2
open PySem PySem.Spec PyProof.Rows
theorem nodup_len {α : Type} [BEq α] [LawfulBEq α] : ∀ {l m : List α}, l.Nodup → (∀ x ∈ l, x ∈ m) → l.length ≤ m.length
  | [], _, _, _ => Nat.zero_le _
  | a :: l, m, nd, h => by
    obtain ⟨n1, n2⟩ := List.nodup_cons.mp nd
    have pm := List.perm_cons_erase (h a List.mem_cons_self)
    have z := nodup_len (m := m.erase a) n2 fun x hx => (List.mem_erase_of_ne (show x ≠ a from fun z => n1 (z ▸ hx))).mpr (h x (List.mem_cons_of_mem _ hx))
    have q := pm.length_eq
    rw [List.length_cons] at q ⊢
    omega
/-- set(xs), ints: no more members than any list that holds them has -/
def rSetIz (K : PySem.W.Frag) (w : World) : List V → Hp → VK → Prop := fun vs H Q => ∃ (l : Addr) (ns : List Int), vs = [V.ref l] ∧ SqL K H l (ns.map V.int) ∧ ns.length ≤ 4000 ∧ ∀ a c, H a = none → (∀ zs : List Int, (∀ k ∈ ns, k ∈ zs) → c ≤ zs.length) → Q (.ref a) (upd H a (SetO w a (fun j => decide (j ∈ ns)) c))
theorem cr_setIz {X : Cx} (hc : X.calm = true) : CallR X (.type "set") (rSetIz X.K X.w) := by
  intro pins s σ H vs us Q I r h
  obtain ⟨l, ns, rfl, hs, hb, q⟩ := h
  obtain ⟨its, rv, hl, _⟩ := I.list hs
  rw [Vals.ref1 r]
  refine InSet.set_ofI (I.ok.hd hc) hl.isList rv.ints (by unfold scanBound; omega) fun h' tk c hS hle k => ?_
  have kk : ∀ b o, s.heap.get? b = some o → h'.get? b = some o := fun b o e => k b o (Heap.lt_size e) e
  have cnt : ∀ zs : List Int, (∀ k ∈ ns, k ∈ zs) → c ≤ zs.length := fun zs hz => by
    obtain ⟨o, es, ep, t, ho, hx, hd, g, nd, hm, hb, hf, hn, _⟩ := hS
    have e : (es.toList.map keyOf).length = c := by rw [List.length_map, Array.length_toList, hn]
    rw [← e]
    exact nodup_len nd fun x hx => hz x (of_decide_eq_true ((hm x).mpr hx))
  exact ⟨.ref _, upd H s.heap.objs.size (SetO X.w s.heap.objs.size (fun j => decide (j ∈ ns)) c), I.laid (t' := tk) kk (Nat.le_refl _) (setO_new hS), rfl, q _ c (I.hok.fresh (Nat.le_refl _)) cnt⟩
end L2

end PW11x
section Pq4a
set_option maxHeartbeats 4000000
namespace C4
open PySem PySem.Spec L2 PyProof.Rows
/-! ### a limit, some of a list, a word -/
abbrev s_some : Stmt := top 54
abbrev s_limit : Stmt := top 55
abbrev s_word : Stmt := top 56
def limV : List Int := [0, 1, -1, 2, 5, -3, 9, 10, 10 ^ 20, -(10 ^ 20), 10 ^ 20 + 1]
def Lim (v : Int) : Prop := v ∈ limV
def spLimit : Sp := fun vs H Q _ => ∃ (p : Addr), vs = [.ref p] ∧ PotAt H p ∧ ∀ (v : Int) (H' : Hp), Lim v → Bt p H H' → PotAt H' p → Q (.int v) H'
abbrev nLim : List Str := ["_law_pot_here", "_law_small"]
theorem sc_limit : FnScope nLim ["_law_pot_here"] (defScope s_limit) := ⟨rfl, rfl, rfl, by decide +kernel, rfl, by decide +kernel, by decide +kernel⟩
/-- [one for one in given if draw(pot, 2) == 0], given a list of texts -/
def spSome : Sp := fun vs H Q _ => ∃ (p L : Addr) (xs : List Str), vs = [.ref p, .ref L] ∧ PotAt H p ∧ L ≠ p ∧ H L = some (.lst (xs.map V.str)) ∧ xs.length ≤ 100 ∧ ∀ (R : Addr) (ys : List Str) (H' : Hp), ys.Sublist xs → H' R = some (.lst (ys.map V.str)) → H R = none → Bt p H H' → PotAt H' p → Q (.ref R) H'
abbrev nSome : List Str := ["_law_pot_here", "_law_given", "_law_one"]
theorem sc_some : FnScope nSome ["_law_pot_here", "_law_given"] (defScope s_some) := ⟨rfl, rfl, rfl, by decide +kernel, rfl, by decide +kernel, by decide +kernel⟩
section
variable {P : Program} {w : World} {K : PySem.W.Frag} {mg : Str → Option Value} {base : Heap} {f fD fP : Addr} {fd dD dP : FuncData}
theorem ok_limit (F : FD K "_law_limit" s_limit f fd) (D : Kn P w K mg base 1 "_law_draw" fD dD ["_law_pot_here", "_law_many"] spDraw) (PK : Kn P w K mg base 2 "_law_pick" fP dP ["_law_pot_here", "_law_some_here"] (spPick K)) : FnOk P w K mg base CX0 3 f fd ["_law_pot_here"] spLimit := by
  refine F.ok sc_limit (fun vs H Q E h => ?_) (fun cdv A outer s H vs Q E hr h => ?_)
  · obtain ⟨p, rfl, _⟩ := h
    rfl
  obtain ⟨p, rfl, hP, q⟩ := h
  refine ⟨_, PSs.nox (pss_cons (ps_set (i := 1) sc_limit.nd rfl (Or.inl rfl) (pe_lst (pa_cons pe_int (pa_cons pe_int (pa_cons (pe_un un_neg pe_int) (pa_cons pe_int (pa_cons pe_int (pa_cons (pe_un un_neg pe_int) (pa_cons pe_int (pa_cons pe_int pa_nil))))))))))
    (pss_cons (ps_if (pt_cmpR op_eq (pe_call D.f (hr.mono (by decide)) rfl D.m D.k D.b .nil pass0 (pa_cons (pv 0) (pa_cons pe_int pa_nil))) pe_int (nomark _))
      (pss_one (ps_ret (pe_call PK.f hr rfl PK.m PK.k PK.b .nil pass0 (pa_cons (pv 0) (pa_cons (pe_lst (pa_cons (pe_op op_pow pe_int pe_int) (pa_cons (pe_un un_neg (pe_op op_pow pe_int pe_int)) (pa_cons (pe_op op_add (pe_op op_pow pe_int pe_int) pe_int) pa_nil)))) pa_nil))))) pss_nil)
    (pss_one (ps_ret (pe_call PK.f hr rfl PK.m PK.k PK.b .nil pass0 (pa_cons (pv 0) (pa_cons (pv 1) pa_nil))))))), ?_⟩
  have cp20 : CPow 10 20 := ⟨by decide, by decide, by decide⟩
  have fin : ∀ (H1 : Hp) (xs : List Int), Bt p H H1 → PotAt H1 p → 0 < xs.length → xs.length ≤ 1000 → (∀ v ∈ xs, Lim v) → ∀ l, l ≠ p → H1 l = some (.lst (xs.map V.int)) → spPick K [.ref p, .ref l] H1 Q E0 := fun H1 xs b1 hP1 x0 x1 hx l nl hl => by
    refine ⟨p, l, _, rfl, hP1, nl, hl, by rw [List.length_map]; exact x0, by rw [List.length_map]; exact x1, fun i v H2 hi b2 hP2 => ?_⟩
    rw [List.getElem?_map] at hi
    cases e : xs[i]? with
    | none =>
      rw [e] at hi
      cases hi
    | some u =>
      rw [e] at hi
      cases (show V.int u = v from Option.some.inj hi)
      exact q u H2 (hx u (List.mem_of_getElem? e)) (b1.trans b2) hP2
  refine ⟨_, rfl, _, rfl, by show 8 ≤ sizeLine; decide, fun l hl => ?_⟩
  have nl := pot_ne hP hl
  have s1 := same_upd (o := HO.lst (([0, 1, -1, 2, 5, -3, 9, 10] : List Int).map V.int)) hl
  refine ⟨_, rfl, p, 12, rfl, hP.bt s1, by decide, by decide, fun n H1 n0 n1 b1 hP1 => ⟨rfl, _, rfl, ?_⟩⟩
  have c1 : Bt p H H1 := (Same.bt s1).trans b1
  refine ite2 (fun h => ?_) (fun h => ?_)
  · refine ⟨_, rfl, 10, 20, rfl, rfl, cp20, 10, 20, rfl, rfl, cp20, _, rfl, 10, 20, rfl, rfl, cp20, _, _, rfl, rfl, by show 3 ≤ sizeLine; decide, fun l2 hl2 => ?_⟩
    have s2 := same_upd (o := HO.lst (([10 ^ 20, -(10 ^ 20), 10 ^ 20 + 1] : List Int).map V.int)) hl2
    refine fin _ [10 ^ 20, -(10 ^ 20), 10 ^ 20 + 1] (c1.trans (Same.bt s2)) (hP1.bt s2) (by decide) (by decide) (fun v hv => ?_) l2 (pot_ne hP1 hl2) upd_same
    simp only [List.mem_cons, List.not_mem_nil, or_false] at hv
    rcases hv with rfl | rfl | rfl <;> (show _ ∈ limV; decide)
  · refine ⟨_, rfl, _, rfl, ?_⟩
    refine fin H1 [0, 1, -1, 2, 5, -3, 9, 10] c1 hP1 (by decide) (by decide) (fun v hv => ?_) l nl (b1 _ _ nl upd_same)
    simp only [List.mem_cons, List.not_mem_nil, or_false] at hv
    rcases hv with rfl | rfl | rfl | rfl | rfl | rfl | rfl | rfl <;> (show _ ∈ limV; decide)
theorem ok_some (F : FD K "_law_some" s_some f fd) (D : Kn P w K mg base 1 "_law_draw" fD dD ["_law_pot_here", "_law_many"] spDraw) : FnOk P w K mg base CX0 2 f fd ["_law_pot_here", "_law_given"] spSome := by
  refine F.ok sc_some (fun vs H Q E h => ?_) (fun cdv A outer s H vs Q E hr h => ?_)
  · obtain ⟨p, L, xs, rfl, _⟩ := h
    rfl
  obtain ⟨p, L, xs, rfl, hP, nL, hL, xl, q⟩ := h
  refine ⟨_, PSs.nox (pss_one (ps_ret (pe_lc (own := [("_law_one", 2)]) (g := gName 2) (te := tVar 2) rfl sc_some.nd (pi_list (pv 1)) (blkOk_by (N := nSome) (sc := defScope s_some) (by decide +kernel)) (fun _ _ _ _ _ => pg_name (i := 2) sc_some.nd rfl (Or.inl rfl))
      (fun _ _ _ _ _ => pts_one (pt_cmpR op_eq (pe_call D.f hr rfl D.m D.k D.b .nil pass0 (pa_cons (pv 0) (pa_cons pe_int pa_nil))) pe_int (nomark _))) (fun _ _ _ _ _ => by exact (pv 2))))), ?_⟩
  refine ⟨_, rfl, L, rfl, ⟨_, SqL.of hL⟩, fun D0 hD0 => ?_⟩
  have nD := pot_ne hP hD0
  refine lc_list (xs := xs.map V.str) (fun i H' => Bt p H H' ∧ PotAt H' p ∧ H' L = some (.lst (xs.map V.str)) ∧ ∃ ys : List Str, ys.Sublist (xs.take i) ∧ H' D0 = some (.lst (ys.map V.str)))
    ⟨Same.bt (same_upd hD0), hP.bt (same_upd hD0), by rw [upd_ne (ne_of_none hL hD0)]; exact hL, [], List.nil_sublist _, upd_same⟩ (fun i H' _ ⟨_, _, e, _⟩ => SqL.of e) (fun i x H1 hx ⟨b1, hP1, hL1, ys, hy, hD1⟩ => ?_) fun H1 ⟨b1, hP1, hL1, ys, hy, hD1⟩ => ?_
  · rw [List.getElem?_map] at hx
    cases ei : xs[i]? with
    | none =>
      rw [ei] at hx
      cases hx
    | some z =>
      rw [ei] at hx
      cases (show V.str z = x from Option.some.inj hx)
      have tk : xs.take (i + 1) = xs.take i ++ [z] := by rw [List.take_succ, ei]; rfl
      refine ⟨rfl, _, rfl, p, 2, rfl, hP1, by decide, by decide, fun n H2 n0 n1 b2 hP2 => ⟨rfl, _, rfl, ?_⟩⟩
      have hD2 := b2 _ _ nD hD1
      have hL2 := b2 _ _ nL hL1
      refine ite2 (fun h => ?_) (fun h => ?_)
      · have yl : ys.length ≤ 100 := by
          have := hy.length_le
          rw [List.length_take] at this
          omega
        refine ⟨_, rfl, _, hD2, by rw [List.length_map]; exact Nat.lt_of_le_of_lt yl (by decide), fun c o nc e => ?_, ?_, ?_, ys ++ [z], by rw [tk]; exact List.Sublist.append hy (List.Sublist.refl _), by rw [upd_same, List.map_append]; rfl⟩
        · rw [upd_ne (ne_of_none e hD0)]
          exact b2 _ _ nc (b1 _ _ nc e)
        · obtain ⟨a, b, e, r⟩ := hP2
          exact ⟨a, b, by rw [upd_ne (Ne.symm nD)]; exact e, r⟩
        · rw [upd_ne (ne_of_none hL hD0)]
          exact hL2
      · exact ⟨b1.trans b2, hP2, hL2, ys, by rw [tk]; exact hy.trans (List.sublist_append_left _ _), hD2⟩
  · rw [List.length_map] at hy
    exact q D0 ys H1 (by rw [List.take_length] at hy; exact hy) hD1 hD0 b1 hP1
end
end C4

end Pq4a
section Pq4b
set_option maxHeartbeats 4000000
namespace C4
open PySem L2
/-! ### a pick out of a text, a word -/
def spPickS : Sp := fun vs H Q _ => ∃ (p : Addr) (z : Str), vs = [.ref p, .str z] ∧ PotAt H p ∧ 0 < z.length ∧ z.length ≤ 1000 ∧ ∀ (i : Nat) (c : Nat) (H' : Hp), z.cps.toList[i]? = some c → Bt p H H' → PotAt H' p → Q (.str ⟨#[c]⟩) H'
def spWord : Sp := fun vs H Q _ => ∃ (p : Addr), vs = [.ref p] ∧ PotAt H p ∧ ∀ (z : Str) (H' : Hp), wordB z 12 = true → Bt p H H' → PotAt H' p → Q (.str z) H'
def letters : Str := "abcdefghijklmnopqrstuvwxyz"
theorem letters_ok : letters.cps.toList.all letB = true := by decide +kernel
theorem sc_word : FnScope ["_law_pot_here", "_law_letters", "_law_turn"] ["_law_pot_here"] (defScope s_word) := ⟨rfl, rfl, rfl, by decide +kernel, rfl, by decide +kernel, by decide +kernel⟩
section
variable {P : Program} {w : World} {K : PySem.W.Frag} {mg : Str → Option Value} {base : Heap} {f fD fP fS : Addr} {fd dD dP dS : FuncData}
theorem ok_pickS (F : FD K "_law_pick" sPick f fd) (T : TxtP K mg) (D : Kn P w K mg base 1 "_law_draw" fD dD ["_law_pot_here", "_law_many"] spDraw) : FnOk P w K mg base CX0 2 f fd ["_law_pot_here", "_law_some_here"] spPickS := by
  refine F.ok scPick (fun vs H Q E h => ?_) (fun cdv A outer s H vs Q E hr h => ?_)
  · obtain ⟨p, z, rfl, _⟩ := h
    rfl
  · obtain ⟨p, z, rfl, hP, l0, l1, kk⟩ := h
    refine ⟨_, PSs.nox (pss_one (ps_ret (pe_ix ix_str (pv 1) (pe_call D.f hr rfl D.m D.k D.b .nil pass0 (pa_cons (pv 0) (pa_cons (pe_callB call_len_str (by rfl) T.len PySem.boot_len (pa_cons (pv 1) pa_nil)) pa_nil))) (fun _ _ => rfl)))), ?_⟩
    have hs : z.length ≤ sizeLine := Nat.le_trans l1 (by decide)
    refine ⟨_, rfl, _, rfl, _, rfl, z, rfl, hs, p, _, rfl, hP, by omega, by omega, fun d H' d0 d1 hb hp' => ?_⟩
    have hd : d.toNat < z.cps.toList.length := by
      have : z.length = z.cps.toList.length := by simp [Str.length]
      omega
    have e : z.cps.toList[d.toNat]? = some (z.cps.toList[d.toNat]'hd) := List.getElem?_eq_getElem hd
    refine ⟨z, d, z.cps.toList[d.toNat]'hd, rfl, rfl, hs, ?_, kk d.toNat _ H' e hb hp'⟩
    have q := atI_nat e
    rw [Int.toNat_of_nonneg d0] at q
    exact q
theorem join_letters (cs : List Nat) : (Txt.join ("" : Str) (cs.map fun c => (⟨#[c]⟩ : Str))).cps.toList = cs := by
  have j : ∀ l : List Nat, TL.joinL [] (l.map fun c => [c]) = l := fun l => by
    induction l with
    | nil => rfl
    | cons a r ih =>
      cases r with
      | nil => rfl
      | cons b r => exact congrArg (a :: ·) ih
  have e : TL.tl (Txt.join ("" : Str) (cs.map fun c => (⟨#[c]⟩ : Str))) = cs := by
    rw [TL.join_eq, TL.tl_join, List.map_map]
    exact j cs
  exact e
/-- words: one to twelve letters -/
theorem word_of {z : Str} (l : 1 ≤ z.length) (m : z.length ≤ 12) (h : ∀ c ∈ z.cps.toList, letB c = true) : wordB z 12 = true := wordB_of (m := 12) l m h
theorem let_of {c : Nat} (h : c ∈ letters.cps.toList) : letB c = true := List.all_eq_true.mp letters_ok c h
/-- [pick(pot, letters) for turn in range(1 + draw(pot, 12))] -/
theorem letters_made {σ : St} {H : Hp} {Q : VK} {E E' : XK} {p : Addr} (ep : σ[0]? = some (some (.ref p))) (hw : ∀ x : V, wipe ((wipe σ [2]).set 2 (some x)) [2] = wipe σ [2]) (e0 : ∀ x : V, ((wipe σ [2]).set 2 (some x))[0]? = some (some (.ref p))) (e1 : ∀ x : V, ((wipe σ [2]).set 2 (some x))[1]? = some (some (.str letters))) (hp0 : PotAt H p)
    (q : ∀ l (cs : List Nat) H', H' l = some (.lst (cs.map fun c => V.str ⟨#[c]⟩)) → 1 ≤ cs.length → cs.length ≤ 12 → (∀ c ∈ cs, c ∈ letters.cps.toList) → Bt p H H' → PotAt H' p → Q (.ref l) H') :
    tLc (iRng1 (tCons (tOp (rI0 fun i j => .int (i + j)) (tC (.int 1)) (tCall spDraw [] E' (tCons (tVar 0) (tCons (tC (.int 12)) tNil)))) tNil)) (gName 2) tYes (tCall spPickS [] E (tCons (tVar 0) (tCons (tVar 1) tNil))) [2] σ H Q := by
  refine ⟨_, ep, p, 12, rfl, hp0, by decide, by decide, fun d H0 d0 d1 b0 hp => ⟨1, d, rfl, rfl, ⟨1 + d, rfl, by omega, by omega, fun D hD => ?_⟩⟩⟩
  have nDp := pot_ne hp hD
  refine lc_range (lo := 0) (n := (1 + d).toNat) (fun i H' => ∃ cs : List Nat, cs.length = i ∧ H' D = some (.lst (cs.map fun c => V.str ⟨#[c]⟩)) ∧ (∀ c ∈ cs, c ∈ letters.cps.toList) ∧ Bt p H0 H' ∧ PotAt H' p)
    ⟨[], rfl, upd_same, fun v h => absurd h List.not_mem_nil, Same.bt (same_upd hD), hp.bt (same_upd hD)⟩ (fun i H1 hi ⟨cs, hc, hD1, hv, hb, hp1⟩ => ?_) fun H1 ⟨cs, hc, hD1, hv, hb, hp1⟩ => ?_
  · refine ⟨hw _, ?_⟩
    refine iteT (A := tCall spPickS [] E (tCons (tVar 0) (tCons (tVar 1) tNil)) ((wipe σ [2]).set 2 (some (.int (0 + (i : Int))))) H1 _) (B := ∃ cs : List Nat, cs.length = i + 1 ∧ H1 D = some (.lst (cs.map fun c => V.str ⟨#[c]⟩)) ∧ (∀ c ∈ cs, c ∈ letters.cps.toList) ∧ Bt p H0 H1 ∧ PotAt H1 p) ?_
    refine ⟨_, e0 _, _, e1 _, p, letters, rfl, hp1, by decide +kernel, by decide +kernel, fun j c H2 hj hb2 hp2 => ?_⟩
    refine ⟨_, hb2 _ _ nDp hD1, ?_, cs ++ [c], by simp [hc], by rw [upd_same, List.map_append]; rfl, fun u hu => ?_, fun b o n e => ?_, ?_⟩
    · rw [List.length_map, hc]
      exact Nat.lt_of_lt_of_le (show i < 100 by omega) (by decide)
    · rcases List.mem_append.mp hu with h | h
      · exact hv u h
      · rw [List.mem_singleton.mp h]
        exact List.mem_of_getElem? hj
    · by_cases h : b = D
      · rw [h, hD] at e
        cases e
      · rw [upd_ne h]
        exact hb2 b o n (hb b o n e)
    · obtain ⟨x, y, z, r⟩ := hp2
      exact ⟨x, y, by rw [upd_ne (Ne.symm nDp)]; exact z, r⟩
  · exact q D cs H1 hD1 (by omega) (by omega) hv (b0.trans hb) hp1
theorem ok_word (F : FD K "_law_word" s_word f fd) (T : TxtP K mg) (tr : mg "range" = none) (D : Kn P w K mg base 1 "_law_draw" fD dD ["_law_pot_here", "_law_many"] spDraw) (PL : Kn P w K mg base 2 "_law_pick" fP dP ["_law_pot_here", "_law_some_here"] (spPick K)) (PS_ : Kn P w K mg base 2 "_law_pick" fP dP ["_law_pot_here", "_law_some_here"] spPickS) :
    FnOk P w K mg base CX0 3 f fd ["_law_pot_here"] spWord := by
  refine F.ok sc_word (fun vs H Q E h => ?_) (fun cdv A outer s H vs Q E hr h => ?_)
  · obtain ⟨p, rfl, _⟩ := h
    rfl
  obtain ⟨p, rfl, hP, kk⟩ := h
  refine ⟨_, PSs.nox (pss_cons (ps_set (i := 1) sc_word.nd rfl (Or.inr rfl) pe_str)
    (pss_cons (ps_if (pt_cmpR op_eq (pe_call D.f (hr.mono (by decide)) rfl D.m D.k D.b .nil pass0 (pa_cons (pv 0) (pa_cons pe_int pa_nil))) pe_int (nomark _))
      (pss_one (ps_ret (pe_join pe_str (pe_lc (own := [("_law_turn", 2)]) (g := gName 2) (tt := tYes) rfl sc_word.nd (pi_range1 rfl tr (pa_cons (pe_op op_add pe_int (pe_call D.f (hr.mono (by decide)) rfl D.m D.k D.b .nil pass0 (pa_cons (pv 0) (pa_cons pe_int pa_nil)))) pa_nil)) (blkOk_by (N := ["_law_pot_here", "_law_letters", "_law_turn"]) (sc := defScope s_word) (by decide +kernel)) (fun _ _ _ _ _ => pg_name (i := 2) sc_word.nd rfl (Or.inl rfl)) (fun _ _ _ _ _ => pts_nil)
        (fun _ _ _ _ _ => by exact (pe_call PS_.f hr rfl PS_.m PS_.k PS_.b .nil pass0 (pa_cons (pv 0) (pa_cons (pv 1) pa_nil)))))))) pss_nil)
    (pss_one (ps_ret (pe_call PL.f hr rfl PL.m PL.k PL.b .nil pass0 (pa_cons (pv 0) (pa_cons (pe_lst (pa_cons pe_str (pa_cons pe_str (pa_cons pe_str (pa_cons pe_str pa_nil))))) pa_nil))))))), ?_⟩
  refine ⟨_, rfl, p, 12, rfl, hP, by decide, by decide, fun d H1 d0 d1 b1 hP1 => ⟨rfl, _, rfl, ?_⟩⟩
  refine ite2 (fun h => ?_) (fun h => ?_)
  · refine ⟨⟨_, rfl⟩, ?_⟩
    refine letters_made (σ := [some (.ref p), some (.str letters), none]) (p := p) rfl (fun _ => rfl) (fun _ => rfl) (fun _ => rfl) hP1 (fun l cs H3 hl c1 c2 hv b3 hP3 => ?_)
    have z := join_letters cs
    have len : (Txt.join ("" : Str) (cs.map fun c => (⟨#[c]⟩ : Str))).length = cs.length := by
      show (Txt.join ("" : Str) (cs.map fun c => (⟨#[c]⟩ : Str))).cps.size = cs.length
      rw [← Array.length_toList, z]
    refine ⟨"", l, cs.map fun c => (⟨#[c]⟩ : Str), rfl, rfl, .inl (SqL.of (by rw [hl, List.map_map]; rfl)), ?_, kk _ H3 (word_of (by omega) (by omega) fun c hc' => let_of (hv c (z ▸ hc'))) (b1.trans b3) hP3⟩
    have sm : ∀ l : List Nat, ((l.map fun c => (⟨#[c]⟩ : Str)).map (·.length)).sum = l.length := fun l => by
      induction l with
      | nil => rfl
      | cons a r ih =>
        simp only [List.map_cons, List.sum_cons, List.length_cons, ih]
        show 1 + r.length = r.length + 1
        omega
    rw [sm, List.length_map]
    have e0' : ("" : Str).length = 0 := by decide +kernel
    rw [e0']
    omega
  · refine ⟨_, rfl, by show 4 ≤ sizeLine; decide, fun l hl => ?_⟩
    have nl := pot_ne hP1 hl
    refine ⟨p, l, _, rfl, hP1.bt (same_upd hl), nl, upd_same, (by show 0 < 4; decide), (by show 4 ≤ 1000; decide), fun i v H' hi hb hp => ?_⟩
    have hm := List.mem_of_getElem? hi
    simp only [List.mem_cons, List.not_mem_nil, or_false] at hm
    have bb : Bt p H H' := (b1.trans (Same.bt (same_upd hl))).trans hb
    rcases hm with rfl | rfl | rfl | rfl
    all_goals exact kk _ H' (by decide +kernel) bb hp
end
end C4

end Pq4b
section Pq4c
set_option maxHeartbeats 4000000
namespace C4
open PySem PySem.Spec L2 PyProof.Rows
/-! ### pieces between edges -/
abbrev s_pcs : Stmt := top 57
abbrev nPcs : List Str := ["_law_pot_here", "_law_edges", "_law_rows", "_law_low", "_law_edge"]
theorem sc_pcs : FnScope nPcs ["_law_pot_here", "_law_edges"] (defScope s_pcs) := ⟨rfl, rfl, rfl, by decide +kernel, rfl, by decide +kernel, by decide +kernel⟩
/-- the limits of the pieces that the law draws: what follows one, what stands ahead of one, what one is taken to -/
def LimF (a : Option Int) : Prop := a = none ∨ ∃ v, Lim v ∧ (a = some v ∨ a = some (v + 1))
def LimL (a : Option Int) : Prop := a = none ∨ ∃ v, Lim v ∧ (a = some (v - 1) ∨ a = some v)
def LimW (a : Option Int) : Prop := a = none ∨ ∃ v, Lim v ∧ a = some v
def LimP (l : List Pc) : Prop := ∀ p ∈ l, LimF p.1 ∧ LimL p.2.1 ∧ LimW p.2.2
theorem limW_of {v : Int} (h : Lim v) : LimW (some v) := .inr ⟨v, h, rfl⟩
theorem limL_of {v : Int} (h : Lim v) : LimL (some v) := .inr ⟨v, h, .inr rfl⟩
theorem limF_of {v : Int} (h : Lim v) : LimF (some v) := .inr ⟨v, h, .inl rfl⟩
theorem limF_up {v : Int} (h : Lim v) : LimF (some (v + 1)) := .inr ⟨v, h, .inr rfl⟩
theorem limL_dn {v : Int} (h : Lim v) : LimL (some (v - 1)) := .inr ⟨v, h, .inl rfl⟩
def spPcs : Sp := fun vs H Q _ => ∃ (p S : Addr) (ms : List Int), vs = [.ref p, .ref S] ∧ PotAt H p ∧ S ≠ p ∧ H S = some (.lst (ms.map V.int)) ∧ ms.Pairwise (· < ·) ∧ (∀ v ∈ ms, Lim v) ∧ ms.length ≤ 3 ∧
  ∀ (R : Addr) (l : List Pc) (H' : Hp), LstAt H' R l → H R = none → chn none l → l.length ≤ 4 → LimP l → Bt p H H' → PotAt H' p → Q (.ref R) H'
section
variable {P : Program} {w : World} {K : PySem.W.Frag} {mg : Str → Option Value} {base : Heap} {f fP fL : Addr} {fd dP dL : FuncData}
/-- pick(pot, [None, limit(pot)]) -/
theorem ok_pickN {σ : L2.St} {H : Hp} {p : Addr} {Q : VK} (e : σ[0]? = some (some (.ref p))) (hP : PotAt H p) (q : ∀ (w : Option Int) (H' : Hp), LimW w → Bt p H H' → PotAt H' p → Q (oV w) H') :
    tCall (spPick K) [] E0 (tCons (tVar 0) (tCons (tLst (tCons (tC .non) (tCons (tCall spLimit [] E0 (tCons (tVar 0) tNil)) tNil))) tNil)) σ H Q := by
  refine ⟨_, e, _, e, p, rfl, hP, fun v H1 hv b1 hP1 => ⟨by show 2 ≤ sizeLine; decide, fun l hl => ?_⟩⟩
  refine ⟨p, l, _, rfl, hP1.bt (same_upd hl), pot_ne hP1 hl, upd_same, by show 0 < 2; decide, by show 2 ≤ 1000; decide, fun i u H2 hi b2 hP2 => ?_⟩
  have b3 := b1.trans ((Same.bt (same_upd hl)).trans b2)
  have mem := List.mem_of_getElem? hi
  simp only [List.mem_cons, List.not_mem_nil, or_false] at mem
  rcases mem with rfl | rfl
  · exact q none H2 (.inl rfl) b3 hP2
  · exact q (some v) H2 (limW_of hv) b3 hP2
theorem ok_pcs (F : FD K "_law_pieces" s_pcs f fd) (PK : Kn P w K mg base 2 "_law_pick" fP dP ["_law_pot_here", "_law_some_here"] (spPick K)) (LM : Kn P w K mg base 3 "_law_limit" fL dL ["_law_pot_here"] spLimit) : FnOk P w K mg base CX0 4 f fd ["_law_pot_here", "_law_edges"] spPcs := by
  refine F.ok sc_pcs (fun vs H Q E h => ?_) (fun cdv A outer s H vs Q E hr h => ?_)
  · obtain ⟨p, S, ms, rfl, _⟩ := h
    rfl
  obtain ⟨p, S, ms, rfl, hP, nSp, hS, hs, hlim, ml3, q⟩ := h
  refine ⟨_, PSs.nox (pss_cons (ps_par (i := 2) (j := 3) (by rfl) sc_pcs.nd rfl rfl (by decide) rfl rfl (pa_cons (pe_lst pa_nil) (pa_cons pe_non pa_nil)) (by rfl))
    (pss_cons (ps_for .never (by rfl) (pi_list (pv 1)) (pg_name (i := 4) sc_pcs.nd rfl (Or.inl rfl))
      (pss_cons (ps_expr (pe_bm PySem.F.plainAttrs_list PySem.F.slot_list_append PySem.F.type_list_append mt_append (pv 2) (pa_cons (pe_tup (pa_cons (pv 3) (pa_cons (pv 4) (pa_cons (pe_call PK.f (hr.mono (by decide)) rfl PK.m PK.k PK.b .nil pass0 (pa_cons (pv 0) (pa_cons (pe_lst (pa_cons pe_non (pa_cons (pe_call LM.f hr rfl LM.m LM.k LM.b .nil pass0 (pa_cons (pv 0) pa_nil)) pa_nil))) pa_nil))) pa_nil)))) pa_nil)))
      (pss_one (ps_set (i := 3) sc_pcs.nd rfl (Or.inl rfl) (pe_op op_add (pv 4) pe_int)))))
    (pss_one (ps_ret (pe_op op_cat (pv 2) (pe_lst (pa_cons (pe_tup (pa_cons (pv 3) (pa_cons pe_non (pa_cons (pe_call PK.f (hr.mono (by decide)) rfl PK.m PK.k PK.b .nil pass0 (pa_cons (pv 0) (pa_cons (pe_lst (pa_cons pe_non (pa_cons (pe_call LM.f hr rfl LM.m LM.k LM.b .nil pass0 (pa_cons (pv 0) pa_nil)) pa_nil))) pa_nil))) pa_nil)))) pa_nil))))))), ?_⟩
  refine ⟨Nat.zero_le _, fun g hg => ⟨_, _, rfl, ?_⟩⟩
  have ngp : g ≠ p := pot_ne hP hg
  have c1 : Bt p H (upd H g (.lst [])) := Same.bt (same_upd hg)
  have hP1 := hP.bt (same_upd (o := HO.lst []) hg)
  have hg1 : (upd H g (.lst [])) g = some (.lst []) := upd_same
  have hS1 : (upd H g (.lst [])) S = some (.lst (ms.map V.int)) := by rw [upd_ne (ne_of_none hS hg)]; exact hS
  have ngS : S ≠ g := ne_of_none hS hg
  generalize upd H g (.lst []) = H1 at c1 hP1 hg1 hS1 ⊢
  have hg0 : H g = none := hg
  refine ⟨_, rfl, S, rfl, ⟨_, SqL.of hS1⟩, ?_⟩
  refine for_list (xs := ms.map V.int) (fun i σ' H' => Bt p H H' ∧ PotAt H' p ∧ H' S = some (.lst (ms.map V.int)) ∧ ∃ (st : Option Int) (x : Option V) (ts : List Addr) (acc : List Pc), σ' = [some (.ref p), some (.ref S), some (.ref g), some (oV st), x] ∧ H' g = some (.lst (ts.map V.ref)) ∧ Paired (PcAt H') ts acc ∧ acc.length = i ∧ (∀ r, chn st r → chn none (acc ++ r)) ∧ LimP acc ∧ LimF st ∧ ∀ b, st = some b → ∀ j v, i ≤ j → ms[j]? = some v → b ≤ v)
    ⟨c1, hP1, hS1, none, none, [], [], rfl, hg1, .nil, rfl, fun r hr' => hr', fun q hq => absurd hq List.not_mem_nil, .inl rfl, fun b z => (nomatch z)⟩ (fun i σ' H' _ ⟨_, _, e, _⟩ => SqL.of e) (fun i x σ' H6 hx ⟨c6, hP6, hS6, st, y, ts, acc, eσ, hg6, pr, al, hch, la, ls, lo⟩ => ?_) (fun σ' H6 ⟨c6, hP6, hS6, st, y, ts, acc, eσ, hg6, pr, al, hch, la, ls, lo⟩ => ?_)
  · subst eσ
    rw [List.getElem?_map] at hx
    cases ei : ms[i]? with
    | none =>
      rw [ei] at hx
      cases hx
    | some v =>
      rw [ei] at hx
      cases (show V.int v = x from Option.some.inj hx)
      have lv := hlim v (List.mem_of_getElem? ei)
      have il : i < ms.length := (List.getElem?_eq_some_iff.mp ei).1
      refine ⟨_, rfl, .inl ⟨rfl, _, SqL.of hg6⟩, _, rfl, _, rfl, ?_⟩
      refine ok_pickN (σ := [some (.ref p), some (.ref S), some (.ref g), some (oV st), some (.int v)]) rfl hP6 fun w0 H7 lw b7 hP7 => ?_
      refine ⟨by show 3 ≤ sizeLine; decide, fun t ht => ?_⟩
      have s8 := same_upd (o := HO.tup [oV st, V.int v, oV w0]) ht
      have hg7 := b7 _ _ ngp hg6
      have hg8 := s8 _ _ hg7
      have ht8 : (upd H7 t (.tup [oV st, V.int v, oV w0])) t = some (.tup [oV st, V.int v, oV w0]) := upd_same
      have nref : ∀ (c : Addr) (q : Pc), PcAt H6 c q → c ≠ p := fun c q e z => by
        obtain ⟨a, b, e2, _⟩ := hP6
        unfold PcAt at e
        rw [z, e2] at e
        cases e
      have keepP : ∀ (c : Addr) (q : Pc), PcAt H6 c q → PcAt (upd H7 t (.tup [oV st, V.int v, oV w0])) c q := fun c q e => s8 _ _ (b7 _ _ (nref c q e) e)
      have pr8 := pr.mono keepP
      have hP8 := hP7.bt s8
      have hS8 := s8 _ _ (b7 _ _ nSp hS6)
      have c8 : Bt p H (upd H7 t (.tup [oV st, V.int v, oV w0])) := (c6.trans b7).trans (Same.bt s8)
      generalize upd H7 t (.tup [oV st, V.int v, oV w0]) = H8 at s8 hg8 ht8 pr8 hP8 hS8 c8 ⊢
      have tl : ts.length = acc.length := pr.length
      refine ⟨g, _, _, rfl, rfl, hg8, by rw [List.length_map, tl, al]; exact Nat.lt_of_lt_of_le (show i < 4 by omega) (by decide), ?_⟩
      have keep : ∀ c xs, H8 c = some (HO.tup xs) → (upd H8 g (.lst (ts.map V.ref ++ [.ref t]))) c = some (HO.tup xs) := fun c xs e => by
        have n : c ≠ g := fun z => by
          rw [z, hg8] at e
          cases e
        rw [upd_ne n]
        exact e
      refine ⟨_, rfl, _, _, rfl, rfl, ?_⟩
      refine ⟨fun c o nc e => ?_, ?_, by rw [upd_ne ngS]; exact hS8, some (v + 1), _, ts ++ [t], acc ++ [(st, some v, w0)], rfl, by rw [upd_same, List.map_append]; rfl, (pr8.mono fun c q e => keep _ _ e).snoc (keep _ _ ht8), by rw [List.length_append, al]; rfl, fun r hr' => ?_, ?_, ?_, ?_⟩
      · rw [upd_ne (ne_of_none e hg0)]
        exact c8 _ _ nc e
      · obtain ⟨a, b, e, r⟩ := hP8
        exact ⟨a, b, by rw [upd_ne (Ne.symm ngp)]; exact e, r⟩
      · rw [List.append_assoc]
        exact hch ((st, some v, w0) :: r) ⟨rfl, .inr ⟨v, rfl, fun b z => lo b z i v (Nat.le_refl _) ei, hr'⟩⟩
      · intro q hq
        rcases List.mem_append.mp hq with h | h
        · exact la q h
        · rw [List.mem_singleton.mp h]
          exact ⟨ls, limL_of lv, lw⟩
      · exact limF_up lv
      · intro b z j u hj hu
        cases z
        have := List.pairwise_iff_getElem.mp hs i j il (List.getElem?_eq_some_iff.mp hu).1 hj
        rw [(List.getElem?_eq_some_iff.mp ei).2, (List.getElem?_eq_some_iff.mp hu).2] at this
        omega
  · subst eσ
    rw [List.length_map] at al
    refine ⟨_, rfl, _, rfl, ?_⟩
    refine ok_pickN (σ := [some (.ref p), some (.ref S), some (.ref g), some (oV st), y]) rfl hP6 fun w0 H7 lw b7 hP7 => ?_
    refine ⟨by show 3 ≤ sizeLine; decide, fun t ht => ?_⟩
    have s8 := same_upd (o := HO.tup [oV st, V.non, oV w0]) ht
    have hg8 := s8 _ _ (b7 _ _ ngp hg6)
    have ht8 : (upd H7 t (.tup [oV st, V.non, oV w0])) t = some (.tup [oV st, V.non, oV w0]) := upd_same
    have nref : ∀ (c : Addr) (q : Pc), PcAt H6 c q → c ≠ p := fun c q e z => by
      obtain ⟨a, b, e2, _⟩ := hP6
      unfold PcAt at e
      rw [z, e2] at e
      cases e
    have pr8 := pr.mono (fun c q e => s8 _ _ (b7 _ _ (nref c q e) e) : ∀ c q, PcAt H6 c q → PcAt (upd H7 t (.tup [oV st, V.non, oV w0])) c q)
    have hP8 := hP7.bt s8
    have c8 : Bt p H (upd H7 t (.tup [oV st, V.non, oV w0])) := (c6.trans b7).trans (Same.bt s8)
    have n7 : ∀ a, H7 a = none → H a = none := fun a e => by
      cases e0 : H a with
      | none => rfl
      | some o =>
        by_cases z : a = p
        · obtain ⟨x, y, e3, _⟩ := hP7
          rw [z, e3] at e
          cases e
        · rw [b7 _ _ z (c6 _ _ z e0)] at e
          cases e
    generalize upd H7 t (.tup [oV st, V.non, oV w0]) = H8 at s8 hg8 ht8 pr8 hP8 c8 ⊢
    refine ⟨by show 1 ≤ sizeLine; decide, fun l1 hl1 => ?_⟩
    have s9 := same_upd (o := HO.lst [V.ref t]) hl1
    have tl : ts.length = acc.length := pr.length
    refine ⟨g, l1, _, _, rfl, rfl, s9 _ _ hg8, upd_same, by rw [List.length_map, tl, al]; exact Nat.le_trans (show _ ≤ 4 by show ms.length + 1 ≤ 4; omega) (by decide), fun r hr' => ?_⟩
    have s10 := s9.trans (same_upd (o := HO.lst (ts.map V.ref ++ [V.ref t])) hr')
    have nr : H r = none := by
      cases e0 : H r with
      | none => rfl
      | some o =>
        by_cases z : r = p
        · obtain ⟨x, y, e3, _⟩ := hP8.bt s9
          rw [z, e3] at hr'
          cases hr'
        · rw [s9 _ _ (c8 _ _ z e0)] at hr'
          cases hr'
    refine q r (acc ++ [(st, none, w0)]) _ ⟨ts ++ [t], by rw [upd_same, List.map_append]; rfl, (pr8.mono fun c q e => s10 _ _ e).snoc (s10 _ _ ht8)⟩ nr (hch _ ⟨rfl, .inl ⟨rfl, rfl⟩⟩) (by rw [List.length_append, al]; show ms.length + 1 ≤ 4; omega) ?_ (c8.trans (Same.bt s10)) (hP8.bt s10)
    intro q hq
    rcases List.mem_append.mp hq with h | h
    · exact la q h
    · rw [List.mem_singleton.mp h]
      exact ⟨ls, .inl rfl, lw⟩
end
end C4

end Pq4c
section Pq4d
set_option maxHeartbeats 4000000
namespace C4
open PySem PySem.Spec L2 PyProof.Rows
/-! ### mappings: tuples (shape, rows, rest) -/
abbrev s_mapping : Stmt := top 58
/-- rows of words at R -/
def WAt (H : Hp) (R : Addr) (ws : List (Str × Str)) : Prop := ∃ ts : List Addr, H R = some (.lst (ts.map V.ref)) ∧ Paired (fun t (p : Str × Str) => H t = some (.tup [.str p.1, .str p.2])) ts ws
theorem WAt.same {H H' : Hp} {R : Addr} {ws : List (Str × Str)} (s : Same H H') (h : WAt H R ws) : WAt H' R ws := by
  obtain ⟨ts, a, b⟩ := h
  exact ⟨ts, s _ _ a, b.mono fun t p e => s _ _ e⟩
def NumAt (H : Hp) (a : Addr) (l : List Pc) : Prop := ∃ R, H a = some (.tup [.str "number", .ref R, .non]) ∧ LstAt H R l
def TxtAt (H : Hp) (a : Addr) (ws : List (Str × Str)) (r : V) : Prop := ∃ R, H a = some (.tup [.str "text", .ref R, r]) ∧ WAt H R ws
theorem NumAt.same {H H' : Hp} {a : Addr} {l : List Pc} (s : Same H H') (h : NumAt H a l) : NumAt H' a l := by
  obtain ⟨R, e, b⟩ := h
  exact ⟨R, s _ _ e, b.same s⟩
theorem TxtAt.same {H H' : Hp} {a : Addr} {ws : List (Str × Str)} {r : V} (s : Same H H') (h : TxtAt H a ws r) : TxtAt H' a ws r := by
  obtain ⟨R, e, b⟩ := h
  exact ⟨R, s _ _ e, b.same s⟩
/-- what is no list of two ints stands behind what moves the pot -/
theorem lst_np {H : Hp} {p R : Addr} {ts : List Addr} (hP : PotAt H p) (h : H R = some (.lst (ts.map V.ref))) : R ≠ p := fun z => by
  obtain ⟨x, y, e, _⟩ := hP
  rw [z, e] at h
  have := HO.lst.inj (Option.some.inj h)
  cases ts with
  | nil => cases this
  | cons a r => cases this
theorem tup_np {H : Hp} {p R : Addr} {xs : List V} (hP : PotAt H p) (h : H R = some (.tup xs)) : R ≠ p := fun z => by
  obtain ⟨x, y, e, _⟩ := hP
  rw [z, e] at h
  cases h
theorem LstAt.bt {H H' : Hp} {p R : Addr} {l : List Pc} (hP : PotAt H p) (b : Bt p H H') (h : LstAt H R l) : LstAt H' R l := by
  obtain ⟨ts, e, r⟩ := h
  exact ⟨ts, b _ _ (lst_np hP e) e, r.mono fun t q e2 => b _ _ (tup_np hP e2) e2⟩
theorem WAt.bt {H H' : Hp} {p R : Addr} {ws : List (Str × Str)} (hP : PotAt H p) (b : Bt p H H') (h : WAt H R ws) : WAt H' R ws := by
  obtain ⟨ts, e, r⟩ := h
  exact ⟨ts, b _ _ (lst_np hP e) e, r.mono fun t q e2 => b _ _ (tup_np hP e2) e2⟩
theorem NumAt.bt {H H' : Hp} {p a : Addr} {l : List Pc} (hP : PotAt H p) (b : Bt p H H') (h : NumAt H a l) : NumAt H' a l := by
  obtain ⟨R, e, r⟩ := h
  exact ⟨R, b _ _ (tup_np hP e) e, r.bt hP b⟩
theorem TxtAt.bt {H H' : Hp} {p a : Addr} {ws : List (Str × Str)} {r : V} (hP : PotAt H p) (b : Bt p H H') (h : TxtAt H a ws r) : TxtAt H' a ws r := by
  obtain ⟨R, e, w⟩ := h
  exact ⟨R, b _ _ (tup_np hP e) e, w.bt hP b⟩
theorem bt_free {H H' : Hp} {p a : Addr} (hP : PotAt H' p) (b : Bt p H H') (h : H' a = none) : H a = none := by
  cases e : H a with
  | none => rfl
  | some o =>
    by_cases z : a = p
    · obtain ⟨x, y, e3, _⟩ := hP
      rw [z, e3] at h
      cases h
    · rw [b _ _ z e] at h
      cases h
def lowP (a x : Option Int) : List Pc := match a with
  | none => []
  | some i => [(none, some (i - 1), x)]
def highP (b y : Option Int) : List Pc := match b with
  | none => []
  | some j => [(some (j + 1), none, y)]
def arnd (a b x y : Option Int) : List Pc := lowP a x ++ [(a, b, none)] ++ highP b y
theorem arnd_chn {a b x y : Option Int} (h : ∀ i j, a = some i → b = some j → i ≤ j) : chn none (arnd a b x y) := by
  have tail : ∀ s, (∀ i j, s = some i → b = some j → i ≤ j) → chn s ((s, b, none) :: highP b y) := fun s hs => by
    cases b with
    | none => exact ⟨rfl, .inl ⟨rfl, rfl⟩⟩
    | some j => exact ⟨rfl, .inr ⟨j, rfl, fun i z => hs i j z rfl, rfl, .inl ⟨rfl, rfl⟩⟩⟩
  cases a with
  | none => exact tail none h
  | some i =>
    refine ⟨rfl, .inr ⟨i - 1, rfl, (fun b z => nomatch z), ?_⟩⟩
    show chn (some (i - 1 + 1)) (([] ++ [(some i, b, none)]) ++ highP b y)
    rw [show i - 1 + 1 = i by omega]
    exact tail (some i) h
theorem three_lim {a b x y : Int} (ha : Lim a) (hb : Lim b) (hx : Lim x) (hy : Lim y) : LimP (arnd (some a) (some b) (some x) (some y)) := by
  intro q hq
  simp only [arnd, lowP, highP, List.mem_append, List.mem_cons, List.not_mem_nil, or_false] at hq
  rcases hq with (rfl | rfl) | rfl
  · exact ⟨.inl rfl, limL_dn ha, limW_of hx⟩
  · exact ⟨limF_of ha, limL_of hb, .inl rfl⟩
  · exact ⟨limF_up hb, .inl rfl, limW_of hy⟩
theorem two_sorted {v w : Int} {ns : List Int} (pm : ns.Perm [v, w]) (ps : ns.Pairwise (· ≤ ·)) (hv : Lim v) (hw : Lim w) : ∃ a b, ns = [a, b] ∧ a ≤ b ∧ Lim a ∧ Lim b := by
  have l := pm.length_eq
  match ns, l with
  | [a, b], _ =>
    have h := (List.pairwise_cons.mp ps).1 b (by simp)
    have f : ∀ c ∈ [a, b], Lim c := fun c hc => by
      have := pm.mem_iff.mp hc
      simp only [List.mem_cons, List.not_mem_nil, or_false] at this
      rcases this with rfl | rfl
      · exact hv
      · exact hw
    exact ⟨a, b, rfl, h, f a (by simp), f b (by simp)⟩
def spMapN : Sp := fun vs H Q _ => ∃ (p : Addr), vs = [.ref p, .str "number"] ∧ PotAt H p ∧ ∀ (a : Addr) (l : List Pc) (H' : Hp), NumAt H' a l → chn none l → l.length ≤ 4 → LimP l → Bt p H H' → PotAt H' p → Q (.ref a) H'
abbrev nMap : List Str := ["_law_pot_here", "_law_shape", "_law_rows", "_law_way", "_law_ends", "_law_low", "_law_high", "_law_far_here", "_law_word_here"]
theorem sc_mapping : FnScope nMap ["_law_pot_here", "_law_shape"] (defScope s_mapping) := ⟨rfl, rfl, rfl, by decide +kernel, rfl, by decide +kernel, by decide +kernel⟩
structure TS3 (mg : Str → Option Value) : Prop where
  set : mg "set" = none
  sorted : mg "sorted" = none
  range : mg "range" = none
theorem boot_sorted : bootBuiltins "sorted" = some (.builtin "sorted") := by decide +kernel
theorem normF {i : TI} {g : TG} {u : TS} {D : Ends} {σ : L2.St} {H H' : Hp} (e : H = H') (h : tFor i g u D σ H') : tFor i g u D σ H := e ▸ h
theorem normS {t u : TS} {D : Ends} {σ σ' : L2.St} {H : Hp} (e : σ = σ') (h : tSeq t u D σ' H) : tSeq t u D σ H := e ▸ h
section
variable {P : Program} {w : World} {K : PySem.W.Frag} {mg : Str → Option Value} {base : Heap} {f fD fP fL fC : Addr} {fd dD dP dL dC : FuncData}
theorem ok_mapN (F : FD K "_law_mapping" s_mapping f fd) (T : TS3 mg) (D : Kn P w K mg base 1 "_law_draw" fD dD ["_law_pot_here", "_law_many"] spDraw) (PK : Kn P w K mg base 2 "_law_pick" fP dP ["_law_pot_here", "_law_some_here"] (spPick K)) (LM : Kn P w K mg base 3 "_law_limit" fL dL ["_law_pot_here"] spLimit)
    (PC : Kn P w K mg base 4 "_law_pieces" fC dC ["_law_pot_here", "_law_edges"] spPcs) : FnOk P w K mg base CX0 5 f fd ["_law_pot_here", "_law_shape"] spMapN := by
  refine F.ok sc_mapping (fun vs H Q E h => ?_) (fun cdv A outer s H vs Q E hr h => ?_)
  · obtain ⟨p, rfl, _⟩ := h
    rfl
  obtain ⟨p, rfl, hP, q⟩ := h
  refine ⟨_, PSs.nox (pss_cons (ps_if (pt_cmpR op_eq (pv 1) pe_str (nomark _)) pss_never pss_nil)
    (pss_cons (ps_par (i := 3) (j := 4) (by rfl) sc_mapping.nd rfl rfl (by decide) rfl rfl (pa_cons (pe_call D.f (hr.mono (by decide)) rfl D.m D.k D.b .nil pass0 (pa_cons (pv 0) (pa_cons pe_int pa_nil))) (pa_cons (pe_callB cr_sortedI (by rfl) T.sorted boot_sorted (pa_cons (pe_lst (pa_cons (pe_call LM.f (hr.mono (by decide)) rfl LM.m LM.k LM.b .nil pass0 (pa_cons (pv 0) pa_nil)) (pa_cons (pe_call LM.f (hr.mono (by decide)) rfl LM.m LM.k LM.b .nil pass0 (pa_cons (pv 0) pa_nil)) pa_nil))) pa_nil)) pa_nil)) (by rfl))
    (pss_cons (ps_asg (pv 4) (pg_unl (by rfl) (pgs_cons (pg_name (i := 5) sc_mapping.nd rfl (Or.inl rfl)) (pgs_cons (pg_name (i := 6) sc_mapping.nd rfl (Or.inl rfl)) pgs_nil))))
    (pss_cons (ps_set (i := 2) sc_mapping.nd rfl (Or.inl rfl) (pe_lst (pa_cons (pe_tup (pa_cons pe_non (pa_cons pe_non (pa_cons (pe_call PK.f (hr.mono (by decide)) rfl PK.m PK.k PK.b .nil pass0 (pa_cons (pv 0) (pa_cons (pe_lst (pa_cons pe_non (pa_cons pe_non (pa_cons (pv 5) pa_nil)))) pa_nil))) pa_nil)))) pa_nil)))
    (pss_cons (ps_if (pt_cmpR op_eq (pv 3) pe_int (nomark _))
        (pss_one (ps_set (i := 2) sc_mapping.nd rfl (Or.inl rfl) (pe_lst (pa_cons (pe_tup (pa_cons pe_non (pa_cons (pe_op op_sub (pv 5) pe_int) (pa_cons (pv 5) pa_nil)))) (pa_cons (pe_tup (pa_cons (pv 5) (pa_cons (pv 6) (pa_cons pe_non pa_nil)))) (pa_cons (pe_tup (pa_cons (pe_op op_add (pv 6) pe_int) (pa_cons pe_non (pa_cons (pv 6) pa_nil)))) pa_nil))))))
        (pss_one (ps_if (pt_cmpR op_eq (pv 3) pe_int (nomark _))
          (pss_cons (ps_set (i := 7) sc_mapping.nd rfl (Or.inl rfl) (pe_call LM.f (hr.mono (by decide)) rfl LM.m LM.k LM.b .nil pass0 (pa_cons (pv 0) pa_nil)))
            (pss_one (ps_set (i := 2) sc_mapping.nd rfl (Or.inl rfl) (pe_lst (pa_cons (pe_tup (pa_cons pe_non (pa_cons (pe_op op_sub (pv 5) pe_int) (pa_cons (pv 7) pa_nil)))) (pa_cons (pe_tup (pa_cons (pv 5) (pa_cons (pv 6) (pa_cons pe_non pa_nil)))) (pa_cons (pe_tup (pa_cons (pe_op op_add (pv 6) pe_int) (pa_cons pe_non (pa_cons (pv 7) pa_nil)))) pa_nil)))))))
          (pss_one (ps_if (pt_cmpR op_gt (pv 3) pe_int (nomark _))
            (pss_one (ps_set (i := 2) sc_mapping.nd rfl (Or.inl rfl) (pe_call PC.f hr rfl PC.m PC.k PC.b .nil pass0 (pa_cons (pv 0) (pa_cons (pe_callB (cr_sortedSet rfl) (by rfl) T.sorted boot_sorted (pa_cons (pe_callTy (cr_setIn rfl) (by rfl) T.set (by decide +kernel) (pa_cons (pe_op op_cat (pv 4) (pe_lst (pa_cons (pe_call LM.f (hr.mono (by decide)) rfl LM.m LM.k LM.b .nil pass0 (pa_cons (pv 0) pa_nil)) pa_nil))) pa_nil)) pa_nil)) pa_nil)))))
            pss_nil)))))
    (pss_one (ps_ret (pe_tup (pa_cons pe_str (pa_cons (pv 2) (pa_cons pe_non pa_nil))))))))))), ?_⟩
  refine ⟨_, rfl, rfl, _, rfl, ?_⟩
  rw [show decide (V.str "number" = V.str "text") = false from by decide +kernel]
  refine (show (if false = true then _ else _) from ?_)
  rw [if_neg (by decide)]
  refine ⟨_, rfl, p, 6, rfl, hP, by decide, by decide, fun n H1 n0 n1 b1 hP1 => ?_⟩
  refine ⟨_, rfl, p, rfl, hP1, fun v1 H2 l1 b2 hP2 => ⟨_, rfl, p, rfl, hP2, fun v2 H3 l2 b3 hP3 => ⟨by show 2 ≤ sizeLine; decide, fun L hL => ?_⟩⟩⟩
  have s4 := same_upd (o := HO.lst ([v1, v2].map V.int)) hL
  refine ⟨L, [v1, v2], rfl, SqL.of upd_same, fun ns S pm ps hS => ?_⟩
  have s5 := s4.trans (same_upd (o := HO.lst (ns.map V.int)) hS)
  have hS5 : (upd (upd H3 L (.lst [V.int v1, V.int v2])) S (.lst (ns.map V.int))) S = some (.lst (ns.map V.int)) := upd_same
  have c5 : Bt p H (upd (upd H3 L (.lst [V.int v1, V.int v2])) S (.lst (ns.map V.int))) := ((b1.trans b2).trans b3).trans (Same.bt s5)
  have hP5 : PotAt (upd (upd H3 L (.lst [V.int v1, V.int v2])) S (.lst (ns.map V.int))) p := hP3.bt s5
  generalize upd (upd H3 L (.lst [V.int v1, V.int v2])) S (.lst (ns.map V.int)) = H5 at s5 hS5 c5 hP5 ⊢
  obtain ⟨a, b, rfl, hab, la, lb⟩ := two_sorted pm ps l1 l2
  have nSp : S ≠ p := fun z => by
    have hS4 : (upd H3 L (.lst [V.int v1, V.int v2])) S = none := hS
    obtain ⟨x, y, e3, _⟩ := hP3.bt s4
    rw [z] at hS4
    rw [show (upd H3 L (.lst [V.int v1, V.int v2])) p = some (.lst [.int x, .int y]) from e3] at hS4
    cases hS4
  refine ⟨_, _, rfl, ?_⟩
  refine ⟨_, rfl, S, _, rfl, SqL.of hS5, rfl, _, _, rfl, _, _, rfl, rfl, ?_⟩
  refine normS (σ' := [some (.ref p), some (.str "number"), none, some (.int n), some (.ref S), some (.int a), some (.int b), none, none]) rfl ?_
  have fin : ∀ (R : Addr) (l : List Pc) (Hx : Hp) (t : Addr), LstAt Hx R l → chn none l → l.length ≤ 4 → LimP l → Bt p H Hx → PotAt Hx p → Hx t = none → Q (.ref t) (upd Hx t (.tup [.str "number", .ref R, .non])) := fun R l Hx t hl hc hn hm hb hp ht =>
    q t l _ ⟨R, upd_same, hl.same (same_upd ht)⟩ hc hn hm (hb.trans (Same.bt (same_upd ht))) (hp.bt (same_upd ht))
  refine ⟨_, rfl, _, rfl, by show 3 ≤ sizeLine; decide, fun Z hZ => ?_⟩
  have s6 := same_upd (o := HO.lst [V.non, V.non, V.int a]) hZ
  refine ⟨p, Z, _, rfl, hP5.bt s6, pot_ne hP5 hZ, upd_same, by show 0 < 3; decide, by show 3 ≤ 1000; decide, fun i v H6 hi b6 hP6 => ?_⟩
  have c6 : Bt p H H6 := (c5.trans (Same.bt s6)).trans b6
  have hS6 : H6 S = some (.lst ([a, b].map V.int)) := b6 _ _ nSp (s6 _ _ hS5)
  obtain ⟨wv, rfl, lw⟩ : ∃ wv : Option Int, v = oV wv ∧ LimW wv := by
    have mem := List.mem_of_getElem? hi
    simp only [List.mem_cons, List.not_mem_nil, or_false] at mem
    rcases mem with rfl | rfl | rfl
    · exact ⟨none, rfl, .inl rfl⟩
    · exact ⟨none, rfl, .inl rfl⟩
    · exact ⟨some a, rfl, limW_of la⟩
  refine ⟨by show 3 ≤ sizeLine; decide, fun t ht => ⟨by show 1 ≤ sizeLine; decide, fun R hR => ?_⟩⟩
  have s7 := (same_upd (o := HO.tup [V.non, V.non, oV wv]) ht).trans (same_upd (o := HO.lst [V.ref t]) hR)
  have hl7 : LstAt (upd (upd H6 t (.tup [V.non, V.non, oV wv])) R (.lst [V.ref t])) R [(none, none, wv)] := ⟨[t], upd_same, .cons ((same_upd (o := HO.lst [V.ref t]) hR) _ _ upd_same) .nil⟩
  have hP7 := hP6.bt s7
  have c7 := c6.trans (Same.bt s7)
  have hS7 := s7 _ _ hS6
  generalize upd (upd H6 t (.tup [V.non, V.non, oV wv])) R (.lst [V.ref t]) = H7 at s7 hl7 hP7 c7 hS7 ⊢
  refine normS (σ' := [some (.ref p), some (.str "number"), some (.ref R), some (.int n), some (.ref S), some (.int a), some (.int b), none, none]) rfl ?_
  refine ⟨_, rfl, rfl, _, rfl, ?_⟩
  have arn : ∀ x y : Int, Lim x → Lim y → ∀ (Hx : Hp) (x7 : Option V) (t1 t2 t3 R2 : Addr), Hx t1 = none → (upd Hx t1 (.tup [.non, .int (a - 1), .int x])) t2 = none → (upd (upd Hx t1 (.tup [.non, .int (a - 1), .int x])) t2 (.tup [.int a, .int b, .non])) t3 = none →
      (upd (upd (upd Hx t1 (.tup [.non, .int (a - 1), .int x])) t2 (.tup [.int a, .int b, .non])) t3 (.tup [.int (b + 1), .non, .int y])) R2 = none → Same Hx (upd (upd (upd (upd Hx t1 (.tup [.non, .int (a - 1), .int x])) t2 (.tup [.int a, .int b, .non])) t3 (.tup [.int (b + 1), .non, .int y])) R2 (.lst [.ref t1, .ref t2, .ref t3])) ∧
      LstAt (upd (upd (upd (upd Hx t1 (.tup [.non, .int (a - 1), .int x])) t2 (.tup [.int a, .int b, .non])) t3 (.tup [.int (b + 1), .non, .int y])) R2 (.lst [.ref t1, .ref t2, .ref t3])) R2 (arnd (some a) (some b) (some x) (some y)) := fun x y _ _ Hx _ t1 t2 t3 R2 h1 h2 h3 h4 => by
    have e1 := same_upd (o := HO.tup [V.non, V.int (a - 1), V.int x]) h1
    have e2 := same_upd (o := HO.tup [V.int a, V.int b, V.non]) h2
    have e3 := same_upd (o := HO.tup [V.int (b + 1), V.non, V.int y]) h3
    have e4 := same_upd (o := HO.lst [V.ref t1, V.ref t2, V.ref t3]) h4
    exact ⟨((e1.trans e2).trans e3).trans e4, [t1, t2, t3], upd_same, .cons (e4 _ _ (e3 _ _ (e2 _ _ upd_same))) (.cons (e4 _ _ (e3 _ _ upd_same)) (.cons (e4 _ _ upd_same) .nil))⟩
  have ac : ∀ x y : Int, chn none (arnd (some a) (some b) (some x) (some y)) := fun x y => arnd_chn fun i j e1 e2 => by
    cases e1
    cases e2
    exact hab
  refine ite2 (fun h => ?_) (fun h => ?_)
  · refine ⟨_, rfl, a, 1, rfl, rfl, _, rfl, by show 3 ≤ sizeLine; decide, fun t1 h1 => ⟨_, rfl, _, rfl, by show 3 ≤ sizeLine; decide, fun t2 h2 => ⟨_, rfl, b, 1, rfl, rfl, _, rfl, by show 3 ≤ sizeLine; decide, fun t3 h3 => ⟨by show 3 ≤ sizeLine; decide, fun R2 h4 => ?_⟩⟩⟩⟩
    obtain ⟨z1, z2⟩ := arn a b la lb _ none t1 t2 t3 R2 h1 h2 h3 h4
    refine ⟨_, rfl, by show 3 ≤ sizeLine; decide, fun t ht => ?_⟩
    exact fin R2 _ _ t z2 (ac a b) (by show 3 ≤ 4; decide) (three_lim la lb la lb) (c7.trans (Same.bt z1)) (hP7.bt z1) ht
  · refine ⟨_, rfl, rfl, _, rfl, ?_⟩
    refine ite2 (fun h => ?_) (fun h => ?_)
    · refine ⟨_, rfl, p, rfl, hP7, fun x H8 lx b8 hP8 => ?_⟩
      refine ⟨_, rfl, a, 1, rfl, rfl, _, rfl, by show 3 ≤ sizeLine; decide, fun t1 h1 => ⟨_, rfl, _, rfl, by show 3 ≤ sizeLine; decide, fun t2 h2 => ⟨_, rfl, b, 1, rfl, rfl, _, rfl, by show 3 ≤ sizeLine; decide, fun t3 h3 => ⟨by show 3 ≤ sizeLine; decide, fun R2 h4 => ?_⟩⟩⟩⟩
      obtain ⟨z1, z2⟩ := arn x x lx lx _ none t1 t2 t3 R2 h1 h2 h3 h4
      refine ⟨_, rfl, by show 3 ≤ sizeLine; decide, fun t ht => ?_⟩
      exact fin R2 _ _ t z2 (ac x x) (by show 3 ≤ 4; decide) (three_lim la lb lx lx) ((c7.trans b8).trans (Same.bt z1)) (hP8.bt z1) ht
    · refine ⟨_, rfl, _, _, rfl, rfl, _, rfl, ?_⟩
      refine ite2 (fun h => ?_) (fun h => ?_)
      · refine ⟨_, rfl, _, rfl, _, rfl, p, rfl, hP7, fun x H8 lx b8 hP8 => ⟨by show 1 ≤ sizeLine; decide, fun L2 hL2 => ?_⟩⟩
        have hS8 := b8 _ _ nSp hS7
        have s9 := same_upd (o := HO.lst [V.int x]) hL2
        refine ⟨S, L2, _, _, rfl, rfl, s9 _ _ hS8, upd_same, by show 2 + 1 ≤ sizeLine; decide, fun L3 hL3 => ?_⟩
        have s10 := s9.trans (same_upd (o := HO.lst ([a, b, x].map V.int)) hL3)
        refine ⟨L3, [a, b, x], rfl, SqL.of upd_same, by show 3 ≤ 4000; decide, fun A c hA hc => ?_⟩
        refine ⟨A, _, c, rfl, upd_same, by have : c ≤ 3 := hc; omega, fun ms S2 hs hm hml hS2 => ?_⟩
        have s11 := s10.trans ((same_upd hA).trans (same_upd (o := HO.lst (ms.map V.int)) hS2))
        have hP11 := hP8.bt s11
        refine ⟨p, S2, ms, rfl, hP11, ?_, upd_same, hs, fun v hv => ?_, by have : c ≤ 3 := hc; omega, fun R3 l H12 hl hR3 hch ln lm b12 hP12 => ?_⟩
        · refine fun z => ?_
          obtain ⟨y1, y2, e3, _⟩ := hP8.bt (s10.trans (same_upd hA))
          rw [z] at hS2
          exact absurd (e3.symm.trans hS2) (fun e => nomatch e)
        · have := of_decide_eq_true ((hm v).mp hv)
          simp only [List.mem_cons, List.not_mem_nil, or_false] at this
          rcases this with rfl | rfl | rfl
          · exact la
          · exact lb
          · exact lx
        · refine ⟨_, rfl, by show 3 ≤ sizeLine; decide, fun t ht => ?_⟩
          exact fin R3 l _ t hl hch ln lm (((c7.trans b8).trans (Same.bt s11)).trans b12) hP12 ht
      · refine ⟨_, rfl, by show 3 ≤ sizeLine; decide, fun t ht => ?_⟩
        exact fin R _ _ t hl7 ⟨rfl, .inl ⟨rfl, rfl⟩⟩ (by show 1 ≤ 4; decide) (fun q hq => by rw [List.mem_singleton.mp hq]; exact ⟨.inl rfl, .inl rfl, lw⟩) c7 hP7 ht
end
end C4

end Pq4d
section Pq4e
set_option maxHeartbeats 4000000
namespace C4
open PySem PySem.Spec L2 PyProof.Rows
open T (atV orV Tab TMap RestOk NormOf spInitT put_new take_put get_at)
/-! ### mappings of texts; what a mapping says; the map made of it -/
abbrev s_at : Stmt := top 59
abbrev s_madeMap : Stmt := top 60
def kvW (ws : List (Str × Str)) : List (Key × V) := ws.map fun p => ((Sum.inr p.1 : Key), V.str p.2)
def bw : List Str := ["a", "ab", "zz"]
/-- rows of a mapping of texts as drawn -/
structure TxOk (ws : List (Str × Str)) (r : V) : Prop where
  sub : (ws.map Prod.fst).Sublist bw
  goal : ∀ q ∈ ws, wordB q.2 12 = true
  rest : r = .non ∨ r = .str "a" ∨ r = .str "b"
/-- rows of words, each once -/
structure RwOk (n : Nat) (ws : List (Str × Str)) : Prop where
  nd : (ws.map Prod.fst).Nodup
  each : ∀ q ∈ ws, wordB q.1 12 = true ∧ wordB q.2 12 = true
  len : ws.length ≤ n
theorem bw_nd : bw.Nodup := by decide +kernel
theorem bw_ok : ∀ z ∈ bw, wordB z 12 = true := by
  intro z h
  simp only [bw, List.mem_cons, List.not_mem_nil, or_false] at h
  rcases h with rfl | rfl | rfl <;> decide +kernel
theorem TxOk.wok {ws : List (Str × Str)} {r : V} (h : TxOk ws r) : RwOk 3 ws := by
  refine ⟨bw_nd.sublist h.sub, fun q hq => ⟨bw_ok _ (h.sub.subset (List.mem_map.mpr ⟨q, hq, rfl⟩)), h.goal q hq⟩, ?_⟩
  have := h.sub.length_le
  rw [List.length_map] at this
  exact this
theorem TxOk.ro {ws : List (Str × Str)} {r : V} (h : TxOk ws r) : RestOk r := by
  rcases h.rest with e | e | e
  · exact .inl e
  · exact .inr ⟨"a", e, by decide +kernel⟩
  · exact .inr ⟨"b", e, by decide +kernel⟩
theorem kvW_keys (ws : List (Str × Str)) : (kvW ws).map (·.1) = (ws.map Prod.fst).map Sum.inr := by
  unfold kvW
  rw [List.map_map, List.map_map] <;> rfl
theorem RwOk.tab {n m : Nat} {ws : List (Str × Str)} (h : RwOk n ws) (hn : n ≤ m) : Tab m (kvW ws) := by
  refine ⟨fun q hq => ?_, ?_, ?_⟩
  · obtain ⟨p, hp, rfl⟩ := List.mem_map.mp hq
    exact ⟨p.1, p.2, rfl, (h.each p hp).1, (h.each p hp).2⟩
  · rw [kvW_keys]
    exact T.nodup_inr h.nd
  · unfold kvW
    rw [List.length_map]
    exact Nat.le_trans h.len hn
theorem merge_nd {kvs : List (Key × V)} (nd : (kvs.map (·.1)).Nodup) : mergeK [] kvs = kvs := by
  have gen : ∀ (more acc : List (Key × V)), ((acc ++ more).map (·.1)).Nodup → mergeK acc more = acc ++ more := fun more => by
    induction more with
    | nil =>
      intro acc _
      rw [List.append_nil] <;> rfl
    | cons q r ih =>
      intro acc h
      show mergeK (putK acc q.1 q.2) r = _
      have hn : q.1 ∉ acc.map (·.1) := fun hm => by
        rw [List.map_append] at h
        exact (List.nodup_append.mp h).2.2 q.1 hm q.1 (by simp) rfl
      rw [put_new hn, ih _ (by rw [List.append_assoc]; exact h), List.append_assoc] <;> rfl
  exact gen kvs [] nd
/-- dict(rows) -/
theorem dict_rows {K : PySem.W.Frag} {H : Hp} {R : Addr} {ws : List (Str × Str)} {n : Nat} (h : WAt H R ws) (o : RwOk n ws) :
    ∃ ps : List Addr, SqL K H R (ps.map V.ref) ∧ Paired (fun p (kv : Key × V) => SqT K H p [kV kv.1, kv.2]) ps (kvW ws) ∧ mergeK [] (kvW ws) = kvW ws := by
  obtain ⟨ts, e, pr⟩ := h
  refine ⟨ts, SqL.of e, ?_, merge_nd (o.tab (Nat.le_refl _)).nd⟩
  unfold kvW
  clear o e
  induction pr with
  | nil => exact .nil
  | cons a b ih => exact .cons (SqT.of a) ih
def spMapT : Sp := fun vs H Q _ => ∃ (p : Addr), vs = [.ref p, .str "text"] ∧ PotAt H p ∧ ∀ (a : Addr) (ws : List (Str × Str)) (r : V) (H' : Hp), TxtAt H' a ws r → TxOk ws r → Bt p H H' → PotAt H' p → Q (.ref a) H'
def spLatN : Sp := fun vs H Q _ => ∃ (a : Addr) (l : List Pc) (x : Int), vs = [.ref a, .int x] ∧ NumAt H a l ∧ chn none l ∧ Q (.int (evalP l x)) H
def spLatT : Sp := fun vs H Q _ => ∃ (a : Addr) (ws : List (Str × Str)) (r : V) (z : Str) (n : Nat), vs = [.ref a, .str z] ∧ TxtAt H a ws r ∧ RwOk n ws ∧ RestOk r ∧ ∀ H', Same H H' → Q (atV (kvW ws) r z) H'
abbrev nAt : List Str := ["_law_mapping_here", "_law_value", "_law_shape", "_law_rows", "_law_rest", "_law_found", "_law_low", "_law_high", "_law_what"]
theorem sc_at : FnScope nAt ["_law_mapping_here", "_law_value"] (defScope s_at) := ⟨rfl, rfl, rfl, by decide +kernel, rfl, by decide +kernel, by decide +kernel⟩
def geB (a : Option Int) (x : Int) : Bool := match a with
  | none => true
  | some b => decide (b ≤ x)
section
variable {P : Program} {w : World} {K : PySem.W.Frag} {mg : Str → Option Value} {base : Heap} {f fD fP fW fS : Addr} {fd dD dP dW dS : FuncData}
theorem ok_mapT (F : FD K "_law_mapping" s_mapping f fd) (PK : Kn P w K mg base 2 "_law_pick" fP dP ["_law_pot_here", "_law_some_here"] (spPick K)) (WD : Kn P w K mg base 3 "_law_word" fW dW ["_law_pot_here"] spWord) (SM : Kn P w K mg base 2 "_law_some" fS dS ["_law_pot_here", "_law_given"] spSome) :
    FnOk P w K mg base CX0 4 f fd ["_law_pot_here", "_law_shape"] spMapT := by
  refine F.ok sc_mapping (fun vs H Q E h => ?_) (fun cdv A outer s H vs Q E hr h => ?_)
  · obtain ⟨p, rfl, _⟩ := h
    rfl
  obtain ⟨p, rfl, hP, q⟩ := h
  refine ⟨_, PSs.nox (pss_cons (ps_if (pt_cmpR op_eq (pv 1) pe_str (nomark _))
      (pss_cons (ps_setLc (i := 2) (own := [("_law_word_here", 8)]) (g := gName 8) (tt := tYes) (te := tTup (tCons (tVar 8) (tCons (tCall spWord [] E0 (tCons (tVar 0) tNil)) tNil))) rfl sc_mapping.nd rfl rfl (sw_true rfl rfl rfl (by decide +kernel))
          (pi_list (pe_call SM.f (hr.mono (by decide)) rfl SM.m SM.k SM.b .nil pass0 (pa_cons (pv 0) (pa_cons (pe_lst (pa_cons pe_str (pa_cons pe_str (pa_cons pe_str pa_nil)))) pa_nil)))) (blkOk_by (N := nMap) (sc := defScope s_mapping) (by decide +kernel)) (fun _ _ _ _ _ => pg_name (i := 8) sc_mapping.nd rfl (Or.inl rfl)) (fun _ _ _ _ _ => pts_nil)
          (fun _ _ _ _ _ => by exact (pe_tup (pa_cons (pv 8) (pa_cons (pe_call WD.f hr rfl WD.m WD.k WD.b .nil pass0 (pa_cons (pv 0) pa_nil)) pa_nil)))))
        (pss_one (ps_ret (pe_tup (pa_cons pe_str (pa_cons (pv 2) (pa_cons (pe_call PK.f (hr.mono (by decide)) rfl PK.m PK.k PK.b .nil pass0 (pa_cons (pv 0) (pa_cons (pe_lst (pa_cons pe_non (pa_cons pe_non (pa_cons pe_str (pa_cons pe_str pa_nil))))) pa_nil))) pa_nil))))))) pss_nil) pss_never), ?_⟩
  refine ⟨_, rfl, rfl, _, rfl, ?_⟩
  rw [show decide (V.str "text" = V.str "text") = true from by decide +kernel]
  refine (show (if true = true then _ else _) from ?_)
  rw [if_pos rfl]
  refine ⟨_, rfl, by show 3 ≤ sizeLine; decide, fun L hL => ?_⟩
  have s1 := same_upd (o := HO.lst (bw.map V.str)) hL
  refine ⟨p, L, bw, rfl, hP.bt s1, pot_ne hP hL, upd_same, by decide, fun R ks H2 hk hR nR b2 hP2 => ?_⟩
  have c2 : Bt p H H2 := (Same.bt s1).trans b2
  have nRp : R ≠ p := pot_ne (hP.bt s1) nR
  have kl := hk.length_le
  refine ⟨R, rfl, ⟨_, SqL.of hR⟩, fun D0 hD0 => ?_⟩
  have nD := pot_ne hP2 hD0
  refine lc_list (xs := ks.map V.str) (fun i H' => Bt p H H' ∧ PotAt H' p ∧ H' R = some (.lst (ks.map V.str)) ∧ ∃ ws : List (Str × Str), ws.map Prod.fst = ks.take i ∧ (∀ q ∈ ws, wordB q.2 12 = true) ∧ WAt H' D0 ws)
    ⟨c2.trans (Same.bt (same_upd hD0)), hP2.bt (same_upd hD0), by rw [upd_ne (ne_of_none hR hD0)]; exact hR, [], by simp, fun q h => absurd h List.not_mem_nil, [], upd_same, .nil⟩ (fun i H' _ ⟨_, _, e, _⟩ => SqL.of e) (fun i x H3 hx ⟨b3, hP3, hR3, ws, hw, hg, ts, hD3, pr⟩ => ?_) fun H3 ⟨b3, hP3, hR3, ws, hw, hg, wat⟩ => ?_
  · rw [List.getElem?_map] at hx
    cases ei : ks[i]? with
    | none =>
      rw [ei] at hx
      cases hx
    | some z =>
      rw [ei] at hx
      cases (show V.str z = x from Option.some.inj hx)
      have tk : ks.take (i + 1) = ks.take i ++ [z] := by rw [List.take_succ, ei]; rfl
      refine ⟨rfl, ?_⟩
      simp only [tYes, ↓reduceIte]
      refine ⟨_, rfl, _, rfl, p, rfl, hP3, fun u H4 hu b4 hP4 => ⟨by show 2 ≤ sizeLine; decide, fun t ht => ?_⟩⟩
      have s5 := same_upd (o := HO.tup [V.str z, V.str u]) ht
      have hD5 := s5 _ _ (b4 _ _ nD hD3)
      have tl : ts.length = ws.length := pr.length
      have wl : ws.length = min i ks.length := by
        have := congrArg List.length hw
        rw [List.length_map, List.length_take] at this
        exact this
      have keep : ∀ c xs, H3 c = some (HO.tup xs) → (upd (upd H4 t (.tup [V.str z, V.str u])) D0 (.lst (ts.map V.ref ++ [.ref t]))) c = some (HO.tup xs) := fun c xs e => by
        have n : c ≠ D0 := fun y => by
          rw [y, hD3] at e
          cases e
        rw [upd_ne n]
        exact s5 _ _ (b4 _ _ (tup_np hP3 e) e)
      have ntD : t ≠ D0 := fun y => by
        rw [y, b4 _ _ nD hD3] at ht
        cases ht
      refine ⟨_, hD5, by rw [List.length_map, tl, wl]; exact Nat.lt_of_le_of_lt (show min i ks.length ≤ 3 by have : ks.length ≤ 3 := kl; omega) (by decide), fun c o nc e => ?_, ?_, ?_, ws ++ [(z, u)], by rw [List.map_append, hw, tk]; rfl, fun q hq => ?_, ts ++ [t], by rw [upd_same, List.map_append]; rfl, ?_⟩
      · have n : c ≠ D0 := fun y => by
          rw [y] at e
          have := bt_free hP2 c2 hD0
          rw [this] at e
          cases e
        rw [upd_ne n]
        exact s5 _ _ (b4 _ _ nc (b3 _ _ nc e))
      · obtain ⟨a, b, e, r⟩ := hP4.bt s5
        exact ⟨a, b, by rw [upd_ne (Ne.symm nD)]; exact e, r⟩
      · have n : R ≠ D0 := ne_of_none hR hD0
        rw [upd_ne n]
        exact s5 _ _ (b4 _ _ nRp hR3)
      · rcases List.mem_append.mp hq with h | h
        · exact hg q h
        · rw [List.mem_singleton.mp h]
          exact hu
      · exact (pr.mono fun c q e => keep _ _ e).snoc (by
          show (upd (upd H4 t (.tup [V.str z, V.str u])) D0 (.lst (ts.map V.ref ++ [.ref t]))) t = _
          rw [upd_ne ntD]
          exact upd_same)
  · rw [List.length_map, List.take_length] at hw
    refine ⟨_, rfl, _, rfl, by show 4 ≤ sizeLine; decide, fun Z hZ => ?_⟩
    have s6 := same_upd (o := HO.lst [V.non, V.non, V.str "a", V.str "b"]) hZ
    refine ⟨p, Z, _, rfl, hP3.bt s6, pot_ne hP3 hZ, upd_same, by show 0 < 4; decide, by show 4 ≤ 1000; decide, fun i v H6 hi b6 hP6 => ⟨by show 3 ≤ sizeLine; decide, fun t ht => ?_⟩⟩
    have s7 := same_upd (o := HO.tup [V.str "text", V.ref D0, v]) ht
    refine q t ws v _ ⟨D0, upd_same, ((wat.same s6).bt (hP3.bt s6) b6).same s7⟩ ⟨by rw [hw]; exact hk, hg, ?_⟩ (((b3.trans (Same.bt s6)).trans b6).trans (Same.bt s7)) (hP6.bt s7)
    have mem := List.mem_of_getElem? hi
    simp only [List.mem_cons, List.not_mem_nil, or_false] at mem
    rcases mem with rfl | rfl | rfl | rfl
    · exact .inl rfl
    · exact .inl rfl
    · exact .inr (.inl rfl)
    · exact .inr (.inr rfl)
end
end C4

end Pq4e
section Pq4f
set_option maxHeartbeats 4000000
namespace C4
open PySem PySem.Spec L2 PyProof.Rows
open T (atV orV Tab TMap RestOk NormOf spInitT put_new take_put get_at)
/-! ### what a mapping says of a value -/
theorem valV_mem : ∀ {kvs : List (Key × V)} {k : Key} {v : V}, valV kvs k = some v → (k, v) ∈ kvs
  | [], _, _, h => nomatch h
  | (k', v') :: r, k, v, h => by
    by_cases e : k' = k
    · subst e
      rw [valV_pos rfl] at h
      cases h
      exact List.mem_cons_self
    · rw [valV_neg e] at h
      exact List.mem_cons_of_mem _ (valV_mem h)
/-- v if w is None else w -/
theorem or_take {K : PySem.W.Frag} {σ : L2.St} {H : Hp} {Q : VK} {i j : Nat} {w : Option Int} {x : Int} (e1 : σ[i]? = some (some (oV w))) (e2 : σ[j]? = some (some (.int x))) (q : Q (.int (takeW w x)) H) : tIf (tB (tIsN (tVar i))) (tVar j) (tVar i) σ H Q := by
  refine ⟨_, e1, _, rfl, ?_⟩
  cases w with
  | none =>
    refine (show (if decide (oV none = V.non) = true then _ else _) from ?_)
    rw [show decide (oV none = V.non) = true from decide_eq_true rfl, if_pos rfl]
    exact ⟨_, e2, q⟩
  | some v =>
    refine (show (if decide (oV (some v) = V.non) = true then _ else _) from ?_)
    rw [show decide (oV (some v) = V.non) = false from decide_eq_false (fun z => nomatch z), if_neg (by decide)]
    exact ⟨_, e1, q⟩
/-- low is None or x >= low; high is None or x <= high -/
theorem in_low {σ : L2.St} {H : Hp} {i j : Nat} {a : Option Int} {x : Int} {R : Bool → Hp → Prop} (e1 : σ[i]? = some (some (oV a))) (e2 : σ[j]? = some (some (.int x))) (r : R (geB a x) H) : tOr (tB (tIsN (tVar i))) (tTest (tOp (rI0 fun i j => V.bl (decide (j ≤ i))) (tVar j) (tVar i))) σ H R := by
  refine ⟨_, e1, _, rfl, ?_⟩
  cases a with
  | none =>
    refine (show (if decide (oV none = V.non) = true then _ else _) from ?_)
    rw [show decide (oV none = V.non) = true from decide_eq_true rfl, if_pos rfl]
    exact r
  | some d =>
    refine (show (if decide (oV (some d) = V.non) = true then _ else _) from ?_)
    rw [show decide (oV (some d) = V.non) = false from decide_eq_false (fun z => nomatch z), if_neg (by decide)]
    exact ⟨_, e2, _, e1, x, d, rfl, rfl, _, rfl, r⟩
theorem in_high {σ : L2.St} {H : Hp} {i j : Nat} {b : Option Int} {x : Int} {R : Bool → Hp → Prop} (e1 : σ[i]? = some (some (oV b))) (e2 : σ[j]? = some (some (.int x))) (r : R (leO x b) H) : tOr (tB (tIsN (tVar i))) (tTest (tOp (rI0 fun i j => V.bl (decide (i ≤ j))) (tVar j) (tVar i))) σ H R := by
  refine ⟨_, e1, _, rfl, ?_⟩
  cases b with
  | none =>
    refine (show (if decide (oV none = V.non) = true then _ else _) from ?_)
    rw [show decide (oV none = V.non) = true from decide_eq_true rfl, if_pos rfl]
    exact r
  | some d =>
    refine (show (if decide (oV (some d) = V.non) = true then _ else _) from ?_)
    rw [show decide (oV (some d) = V.non) = false from decide_eq_false (fun z => nomatch z), if_neg (by decide)]
    exact ⟨_, e2, _, e1, x, d, rfl, rfl, _, rfl, r⟩
section
variable {P : Program} {w : World} {K : PySem.W.Frag} {mg : Str → Option Value} {base : Heap} {f : Addr} {fd : FuncData}
theorem ok_latT (F : FD K "_law_at" s_at f fd) (td : mg "dict" = none) : FnOk P w K mg base CX0 1 f fd ["_law_mapping_here", "_law_value"] spLatT := by
  refine F.ok sc_at (fun vs H Q E h => ?_) (fun cdv A outer s H vs Q E hr h => ?_)
  · obtain ⟨a, ws, r, z, n, rfl, _⟩ := h
    rfl
  obtain ⟨a, ws, r, z, n, rfl, ⟨R, ea, wat⟩, wo, ro, q⟩ := h
  have hu := hr.units
  have hu1 : A.units + 3 + 1 < cLine := by have h : A.units + 3 + 64 < cLine := hu; omega
  refine ⟨_, PSs.nox (pss_cons (ps_asg (pv 0) (pg_tup (by rfl) (pgs_cons (pg_name (i := 2) sc_at.nd rfl (Or.inl rfl)) (pgs_cons (pg_name (i := 3) sc_at.nd rfl (Or.inl rfl)) (pgs_cons (pg_name (i := 4) sc_at.nd rfl (Or.inl rfl)) pgs_nil)))))
    (pss_cons (ps_if (pt_cmpR op_eq (pv 2) pe_str (nomark _))
      (pss_cons (ps_set (i := 5) sc_at.nd rfl (Or.inl rfl) (pe_dget2 hu1 (pe_callTy (call_dictP rfl) (by rfl) td (by decide +kernel) (pa_cons (pv 3) pa_nil)) (pv 1) (pv 4) (by constructor <;> rfl)))
        (pss_one (ps_ret (pe_ifExp (pt_cmp (pc_isN (pv 5))) (pv 1) (pv 5))))) pss_nil) pss_never)), ?_⟩
  refine ⟨_, rfl, a, _, rfl, SqT.of ea, rfl, _, _, rfl, _, _, rfl, _, _, rfl, rfl, ?_⟩
  refine normS (σ' := [some (.ref a), some (.str z), some (.str "text"), some (.ref R), some r, none, none, none, none]) rfl ?_
  refine ⟨_, rfl, rfl, _, rfl, ?_⟩
  rw [show decide (V.str "text" = V.str "text") = true from by decide +kernel]
  refine (show (if true = true then _ else _) from ?_)
  rw [if_pos rfl]
  obtain ⟨ps, w1, w2, w3⟩ := dict_rows (K := K) wat wo
  refine ⟨_, rfl, R, ps, kvW ws, rfl, w1, w2, fun d hd => ?_⟩
  rw [w3]
  refine ⟨d, rfl, .inl ⟨kvW ws, .inl upd_same⟩, ?_⟩
  refine ⟨_, rfl, _, rfl, _, DGet.k (k := Sum.inr z) upd_same, ?_⟩
  have q1 := q _ (same_upd (o := HO.dK (kvW ws)) hd)
  unfold atV at q1
  cases e : valV (kvW ws) (Sum.inr z) with
  | some v =>
    rw [e] at q1
    have nv : v ≠ .non := by
      have hm := valV_mem e
      obtain ⟨p, _, hp⟩ := List.mem_map.mp hm
      cases hp
      exact fun e => nomatch e
    refine ⟨_, rfl, _, rfl, ?_⟩
    refine (show (if decide (v = V.non) = true then _ else _) from ?_)
    rw [decide_eq_false nv, if_neg (by decide)]
    exact ⟨_, rfl, q1⟩
  | none =>
    rw [e] at q1
    refine ⟨_, rfl, _, rfl, ?_⟩
    refine (show (if decide (r = V.non) = true then _ else _) from ?_)
    unfold orV at q1
    by_cases h : r = .non
    · rw [decide_eq_true h, if_pos rfl]
      rw [if_pos h] at q1
      exact ⟨_, rfl, q1⟩
    · rw [decide_eq_false h, if_neg (by decide)]
      rw [if_neg h] at q1
      exact ⟨_, rfl, q1⟩
theorem ok_latN (F : FD K "_law_at" s_at f fd) : FnOk P w K mg base CX0 1 f fd ["_law_mapping_here", "_law_value"] spLatN := by
  refine F.ok sc_at (fun vs H Q E h => ?_) (fun cdv A outer s H vs Q E hr h => ?_)
  · obtain ⟨a, l, x, rfl, _⟩ := h
    rfl
  obtain ⟨a, l, x, rfl, ⟨R, ea, ts, hR, pr⟩, hc, q⟩ := h
  refine ⟨_, PSs.nox (pss_cons (ps_asg (pv 0) (pg_tup (by rfl) (pgs_cons (pg_name (i := 2) sc_at.nd rfl (Or.inl rfl)) (pgs_cons (pg_name (i := 3) sc_at.nd rfl (Or.inl rfl)) (pgs_cons (pg_name (i := 4) sc_at.nd rfl (Or.inl rfl)) pgs_nil)))))
    (pss_cons (ps_if (pt_cmpR op_eq (pv 2) pe_str (nomark _)) pss_never pss_nil)
    (pss_cons (ps_for .never (by rfl) (pi_list (pv 3)) (pg_tup (by rfl) (pgs_cons (pg_name (i := 6) sc_at.nd rfl (Or.inl rfl)) (pgs_cons (pg_name (i := 7) sc_at.nd rfl (Or.inl rfl)) (pgs_cons (pg_name (i := 8) sc_at.nd rfl (Or.inl rfl)) pgs_nil))))
      (pss_one (ps_if (PW.pt (pw_and (PW.pt (pw_or (pt_cmp (pc_isN (pv 6))) (pw_or1 (pt_cmpR op_ge (pv 1) (pv 6) (nomark _))))) (pw_and1 (PW.pt (pw_or (pt_cmp (pc_isN (pv 7))) (pw_or1 (pt_cmpR op_le (pv 1) (pv 7) (nomark _)))))))) (pss_one (ps_ret (pe_ifExp (pt_cmp (pc_isN (pv 8))) (pv 1) (pv 8)))) pss_nil)))
    pss_never))), ?_⟩
  have tl : ts.length = l.length := pr.length
  refine ⟨_, rfl, a, _, rfl, SqT.of ea, rfl, _, _, rfl, _, _, rfl, _, _, rfl, rfl, ?_⟩
  refine normS (σ' := [some (.ref a), some (.int x), some (.str "number"), some (.ref R), some .non, none, none, none, none]) rfl ?_
  refine ⟨_, rfl, rfl, _, rfl, ?_⟩
  rw [show decide (V.str "number" = V.str "text") = false from by decide +kernel]
  refine (show (if false = true then _ else _) from ?_)
  rw [if_neg (by decide)]
  refine ⟨_, rfl, R, rfl, ⟨_, SqL.of hR⟩, ?_⟩
  refine for_list (xs := ts.map V.ref) (fun i σ' H' => H' = H ∧ i ≤ idxP l x ∧ ∃ b c d : Option V, σ' = [some (.ref a), some (.int x), some (.str "number"), some (.ref R), some .non, none, b, c, d]) ⟨rfl, Nat.zero_le _, none, none, none, rfl⟩ (fun i σ' H' _ ⟨e, _⟩ => by rw [e]; exact SqL.of hR) (fun i y σ' H' hy ⟨e, hle, b, c, d, eσ⟩ => ?_) (fun σ' H' ⟨e, hle, _⟩ => ?_)
  · subst e eσ
    have il : i < l.length := by
      have := (List.getElem?_eq_some_iff.mp hy).1
      rw [List.length_map] at this
      omega
    have hp : l[i]? = some (l[i]'il) := List.getElem?_eq_getElem il
    generalize l[i]'il = p at hp
    obtain ⟨t, e1, e2⟩ := paired_at pr hp
    rw [List.getElem?_map, e1] at hy
    cases (show V.ref t = y from Option.some.inj hy)
    refine ⟨t, _, rfl, SqT.of e2, rfl, _, _, rfl, _, _, rfl, _, _, rfl, rfl, ?_⟩
    have ge : geB p.1 x = true := by
      cases i with
      | zero => rw [chn_fst hc hp] <;> rfl
      | succ k =>
        obtain ⟨r, e, hr', re, pe⟩ := chn_prev hc hp
        rw [pe]
        have key := idx_le (x := x) hc hr'
        rw [re, leO_some] at key
        have : ¬ x ≤ e := fun z => by have := key.mp z; omega
        exact decide_eq_true (by omega)
    refine in_low (a := p.1) (x := x) rfl rfl ?_
    rw [ge]
    refine (show (if true = true then _ else _) from ?_)
    rw [if_pos rfl]
    refine in_high (b := p.2.1) (x := x) rfl rfl ?_
    have key := idx_le (x := x) hc hp
    refine ite2 (fun h => ?_) (fun h => ?_)
    · have ie : idxP l x = i := by
        have := key.mp h
        omega
      have ev := (eval_at hc hp ie).1
      rw [ev] at q
      exact or_take (K := K) (w := p.2.2) (x := x) rfl rfl q
    · exact ⟨rfl, by have : ¬ idxP l x ≤ i := fun z => h (key.mpr z); omega, _, _, _, rfl⟩
  · rw [List.length_map, tl] at hle
    have := idx_lt x hc
    omega
end
end C4

end Pq4f
section Pq4jj
set_option maxHeartbeats 4000000
namespace C4
open PySem PySem.Spec L2 PyProof.Rows
open T (atV orV Tab TMap RestOk NormOf spInitT put_new take_put get_at MkT)
/-! ### the map of a mapping -/
theorem made_same {H H' : Hp} {m dx : Addr} {o : HO} {H0 : Hp} (hx : H m = none) (hd : H dx = none) (ne : dx ≠ m) (e : H0 = upd (upd H dx (.own m)) m o) (b : Bt m H0 H') : Same H H' := fun c u z => by
  have n1 : c ≠ m := ne_of_none z hx
  have n2 : c ≠ dx := ne_of_none z hd
  refine b _ _ n1 ?_
  rw [e, upd_ne n1, upd_ne n2]
  exact z
structure MkN (P : Program) (w : World) (K : PySem.W.Frag) (mg : Str → Option Value) (base : Heap) (C fI : Addr) (dI : FuncData) : Prop where
  mkC : Mk K C fI
  g : FnOk P w K mg base CX0 4 fI dI ["self", "pieces"] (spNInit C)
  b : Binds K dI ["self", "pieces"] []
  m : mg "NumberMap" = some (.ref C)
/-- what comes of a call that makes a map of these pieces -/
def NewN (C : Addr) (l : List Pc) (H : Hp) (Q : VK) : Prop := ∀ m n H', NMap C H' m n → Nrm (evalP l) none n → n.length ≤ l.length → Same H H' → Q (.ref m) H'
def NewT (C : Addr) (kvs : List (Key × V)) (r : V) (H : Hp) (Q : VK) : Prop := ∀ m ex H', TMap C H' m ex r → NormOf kvs r ex → Same H H' → Q (.ref m) H'
/-- C(pieces) at a list or a tuple of pieces -/
theorem made_p {C L : Addr} {l : List Pc} {H : Hp} {Q : VK} (hl : PcsAt H L l) (hc : chn none l) (hn : l.length ≤ 1000) (q : NewN C l H Q) : ∀ m dx, H m = none → H dx = none → dx ≠ m → spNInit C [.ref m, .ref L] (upd (upd H dx (.own m)) m (.ins C dx [])) (fun v H' => v = .non ∧ Q (.ref m) H') E0 := fun m dx hm hdx ne => by
  obtain ⟨ts, a, b⟩ := hl
  have keep : ∀ c o, H c = some o → (upd (upd H dx (.own m)) m (.ins C dx [])) c = some o := fun c o e => by
    rw [upd_ne (ne_of_none e hm), upd_ne (ne_of_none e hdx)]
    exact e
  refine ⟨m, dx, L, l, rfl, upd_same, ⟨ts, a.imp (keep _ _) (keep _ _), b.mono fun t p e => keep _ _ e⟩, hc, hn, fun H' u n hn' hle e1 tu hB => ⟨rfl, q m n H' ⟨dx, u, e1, tu⟩ hn' hle (made_same hm hdx ne rfl hB)⟩⟩
/-- C(dict, rest) -/
theorem made_t {C g : Addr} {kvs : List (Key × V)} {r : V} {H : Hp} {Q : VK} (hg : H g = some (.dK kvs)) (t : Tab 60 kvs) (ro : RestOk r) (q : NewT C kvs r H Q) : ∀ m dx, H m = none → H dx = none → dx ≠ m → spInitT C [.ref m, .ref g, r] (upd (upd H dx (.own m)) m (.ins C dx [])) (fun v H' => v = .non ∧ Q (.ref m) H') E0 := fun m dx hm hdx ne => by
  have keep : ∀ c o, H c = some o → (upd (upd H dx (.own m)) m (.ins C dx [])) c = some o := fun c o e => by
    rw [upd_ne (ne_of_none e hm), upd_ne (ne_of_none e hdx)]
    exact e
  exact ⟨m, dx, .ref g, r, kvs, rfl, upd_same, t, ro, .inr ⟨g, rfl, keep _ _ hg⟩, fun H' ex d hn _ e1 e2 hB => ⟨rfl, q m ex H' ⟨dx, d, e1, e2⟩ hn (made_same hm hdx ne rfl hB)⟩⟩
abbrev nMade : List Str := ["_law_mapping_here"]
theorem sc_madeMap : FnScope nMade ["_law_mapping_here"] (defScope s_madeMap) := ⟨rfl, rfl, rfl, by decide +kernel, rfl, by decide +kernel, by decide +kernel⟩
def spMadeN (C : Addr) : Sp := fun vs H Q _ => ∃ (a : Addr) (l : List Pc), vs = [.ref a] ∧ NumAt H a l ∧ chn none l ∧ l.length ≤ 1000 ∧ NewN C l H Q
def spMadeT (C : Addr) : Sp := fun vs H Q _ => ∃ (a : Addr) (ws : List (Str × Str)) (r : V), vs = [.ref a] ∧ TxtAt H a ws r ∧ RwOk 60 ws ∧ RestOk r ∧ NewT C (kvW ws) r H Q
section
variable {P : Program} {w : World} {K : PySem.W.Frag} {mg : Str → Option Value} {base : Heap} {f C fI : Addr} {fd dI : FuncData}
theorem ok_madeN (F : FD K "_law_made_map" s_madeMap f fd) (M : MkN P w K mg base C fI dI) : FnOk P w K mg base CX0 6 f fd ["_law_mapping_here"] (spMadeN C) := by
  refine F.ok sc_madeMap (fun vs H Q E h => ?_) (fun cdv A outer s H vs Q E hr h => ?_)
  · obtain ⟨a, l, rfl, _⟩ := h
    rfl
  obtain ⟨a, l, rfl, ⟨R, ea, hl⟩, hc, ll, q⟩ := h
  refine ⟨_, PSs.nox (pss_one (ps_ret (pe_ifExp (pt_cmpR op_eq (pe_ix ix_tup (pv 0) pe_int (fun _ _ => rfl)) pe_str (nomark _)) pe_nev (pe_make M.mkC M.g hr rfl M.m M.b .nil pass0 (pa_cons (pe_ix ix_tup (pv 0) pe_int (fun _ _ => rfl)) pa_nil))))), ?_⟩
  refine ⟨_, rfl, a, _, 0, _, rfl, rfl, SqT.of ea, rfl, rfl, _, rfl, ?_⟩
  rw [show decide (V.str "number" = V.str "text") = false from by decide +kernel]
  refine (show (if false = true then _ else _) from ?_)
  rw [if_neg (by decide)]
  refine ⟨_, rfl, a, _, 1, _, rfl, rfl, SqT.of ea, rfl, ?_⟩
  exact made_p hl.pcs hc ll q
theorem ok_madeT (F : FD K "_law_made_map" s_madeMap f fd) (M : MkT P w K mg base C fI dI) (td : mg "dict" = none) : FnOk P w K mg base CX0 5 f fd ["_law_mapping_here"] (spMadeT C) := by
  refine F.ok sc_madeMap (fun vs H Q E h => ?_) (fun cdv A outer s H vs Q E hr h => ?_)
  · obtain ⟨a, ws, r, rfl, _⟩ := h
    rfl
  obtain ⟨a, ws, r, rfl, ⟨R, ea, wat⟩, wo, ro, q⟩ := h
  refine ⟨_, PSs.nox (pss_one (ps_ret (pe_ifExp (pt_cmpR op_eq (pe_ix ix_tup (pv 0) pe_int (fun _ _ => rfl)) pe_str (nomark _))
    (pe_make M.mkC M.g hr rfl M.m M.b .nil pass0 (pa_cons (pe_callTy (call_dictP rfl) (by rfl) td (by decide +kernel) (pa_cons (pe_ix ix_tup (pv 0) pe_int (fun _ _ => rfl)) pa_nil)) (pa_cons (pe_ix ix_tup (pv 0) pe_int (fun _ _ => rfl)) pa_nil))) pe_nev))), ?_⟩
  refine ⟨_, rfl, a, _, 0, _, rfl, rfl, SqT.of ea, rfl, rfl, _, rfl, ?_⟩
  rw [show decide (V.str "text" = V.str "text") = true from by decide +kernel]
  refine (show (if true = true then _ else _) from ?_)
  rw [if_pos rfl]
  obtain ⟨ps, w1, w2, w3⟩ := dict_rows (K := K) wat wo
  refine ⟨_, rfl, a, _, 1, _, rfl, rfl, SqT.of ea, rfl, R, ps, kvW ws, rfl, w1, w2, fun d hd => ?_⟩
  rw [w3]
  have s1 := same_upd (o := HO.dK (kvW ws)) hd
  refine ⟨_, rfl, a, _, 2, _, rfl, rfl, SqT.of (s1 _ _ ea), rfl, ?_⟩
  exact made_t upd_same (wo.tab (Nat.le_refl _)) ro fun m ex H' t n s => q m ex H' t n (s1.trans s)
end
end C4

end Pq4jj
section Pq4k
set_option maxHeartbeats 4000000
/-! Pieces in sequence up to an end: what one map after another is made of. -/
namespace C4
/-- pieces in sequence from s up to e, which say what f says -/
def seg (f : Int → Int) : Option Int → Option Int → List Pc → Prop
  | _, _, [] => False
  | s, e, p :: r => p.1 = s ∧ (∀ x, geO x s → leO x p.2.1 = true → takeW p.2.2 x = f x) ∧ ((p.2.1 = e ∧ (∀ b, e = some b → geO b s) ∧ r = []) ∨ ∃ h, p.2.1 = some h ∧ geO h s ∧ seg f (some (h + 1)) e r)
theorem none_ge (x : Int) : geO x none := fun b z => nomatch z
theorem some_ge {x b : Int} (h : b ≤ x) : geO x (some b) := fun c z => by
  cases z
  exact h
theorem seg_ne {f : Int → Int} {s e : Option Int} {l : List Pc} (h : seg f s e l) : l ≠ [] := by
  cases l with
  | nil => exact h.elim
  | cons p r => exact List.cons_ne_nil _ _
theorem seg_app {f : Int → Int} {e : Option Int} {b : Int} {m : List Pc} : ∀ {l : List Pc} {s : Option Int}, seg f s (some b) l → seg f (some (b + 1)) e m → seg f s e (l ++ m)
  | p :: r, s, ⟨h1, h2, h3⟩, hm => by
    refine ⟨h1, h2, .inr ?_⟩
    rcases h3 with ⟨a, c, rfl⟩ | ⟨h, a, c, d⟩
    · exact ⟨b, a, c b rfl, hm⟩
    · exact ⟨h, a, c, seg_app d hm⟩
theorem seg_le {f : Int → Int} {b : Int} : ∀ {l : List Pc} {c : Int}, seg f (some c) (some b) l → c ≤ b
  | p :: r, c, ⟨_, _, h3⟩ => by
    rcases h3 with ⟨_, k, _⟩ | ⟨h, _, k, d⟩
    · exact k b rfl c rfl
    · have := seg_le d
      have := k c rfl
      omega
theorem seg_hi {f : Int → Int} {b : Int} {s : Option Int} {p : Pc} {r : List Pc} {h : Int} (d : seg f s (some b) (p :: r)) (e : p.2.1 = some h) : h ≤ b := by
  obtain ⟨_, _, h3⟩ := d
  rcases h3 with ⟨a, _, _⟩ | ⟨k, a, _, d⟩
  · rw [e] at a
    cases a
    exact Int.le_refl _
  · rw [e] at a
    cases a
    have := seg_le d
    omega
theorem seg_congr {f g : Int → Int} {e : Option Int} : ∀ {l : List Pc} {s : Option Int}, (∀ x, geO x s → leO x e = true → f x = g x) → seg f s e l → seg g s e l
  | p :: r, s, hfg, ⟨h1, h2, h3⟩ => by
    have up : ∀ x, leO x p.2.1 = true → leO x e = true := fun x hx => by
      rcases h3 with ⟨a, _, _⟩ | ⟨h, a, _, d⟩
      · rw [← a]
        exact hx
      · cases e with
        | none => rfl
        | some b =>
          rw [a, leO_some] at hx
          have := seg_le d
          exact leO_some.mpr (by omega)
    refine ⟨h1, fun x g1 g2 => (h2 x g1 g2).trans (hfg x g1 (up x g2)), ?_⟩
    rcases h3 with h | ⟨h, a, b, d⟩
    · exact .inl h
    · refine .inr ⟨h, a, b, seg_congr (fun x g1 g2 => hfg x (fun c z => ?_) g2) d⟩
      have := b c z
      have := g1 (h + 1) rfl
      omega
/-- with no end: pieces of a map, and what they say -/
theorem seg_chn {f : Int → Int} : ∀ {l : List Pc} {s : Option Int}, seg f s none l → chn s l ∧ ∀ x, geO x s → evalP l x = f x
  | p :: r, s, ⟨h1, h2, h3⟩ => by
    rcases h3 with ⟨a, _, rfl⟩ | ⟨h, a, b, d⟩
    · refine ⟨⟨h1, .inl ⟨a, rfl⟩⟩, fun x hx => ?_⟩
      have c : leO x p.2.1 = true := by rw [a]; rfl
      rw [evalP, if_pos c]
      exact h2 x hx c
    · obtain ⟨k1, k2⟩ := seg_chn d
      refine ⟨⟨h1, .inr ⟨h, a, b, k1⟩⟩, fun x hx => ?_⟩
      by_cases c : leO x p.2.1 = true
      · rw [evalP, if_pos c]
        exact h2 x hx c
      · rw [evalP, if_neg c]
        refine k2 x (some_ge ?_)
        rw [a, leO_some] at c
        omega
theorem seg_one {f : Int → Int} {s e w : Option Int} (h : ∀ b, e = some b → geO b s) (k : ∀ x, geO x s → leO x e = true → takeW w x = f x) : seg f s e [(s, e, w)] := ⟨rfl, k, .inl ⟨rfl, h, rfl⟩⟩
/-- one more piece behind the others -/
theorem seg_snoc {f : Int → Int} {s e w : Option Int} {b : Int} {l : List Pc} (h : seg f s (some b) l) (k1 : ∀ c, e = some c → b + 1 ≤ c) (k : ∀ x, b + 1 ≤ x → leO x e = true → takeW w x = f x) : seg f s e (l ++ [(some (b + 1), e, w)]) :=
  seg_app h (seg_one (fun c z => some_ge (k1 c z)) fun x g1 g2 => k x (g1 _ rfl) g2)
end C4

end Pq4k
section Pq4l
set_option maxHeartbeats 4000000
namespace L2
open PySem
/-- a def that keeps two promises -/
theorem FnOk.or {P : Program} {w : World} {K : PySem.W.Frag} {mg : Str → Option Value} {base : Heap} {CX : CXT} {k : Nat} {f : Addr} {fd : FuncData} {ps : List Str} {sp sp' : Sp} (F : FnOk P w K mg base CX k f fd ps sp) (G : FnOk P w K mg base CX k f fd ps sp') :
    FnOk P w K mg base CX k f fd ps (fun vs H Q E => sp vs H Q E ∨ sp' vs H Q E) :=
  ⟨fun vs H Q E h => h.elim (F.len vs H Q E) (G.len vs H Q E), fun A outer s H args us vs Q E hr e b r h => h.elim (F.run A outer s H args us vs Q E hr e b r) (G.run A outer s H args us vs Q E hr e b r)⟩
end L2
namespace C4
open PySem PySem.Spec L2 PyProof.Rows
/-! ### the pieces of a map within a stretch -/
def spPlace0 : Sp := fun vs H Q _ => ∃ L : Addr, vs = [.ref L, .non] ∧ Q (.int 0) H
def spPlaceO : Sp := fun vs H Q E => spPlace vs H Q E ∨ spPlace0 vs H Q E
def idxO (n : List Pc) : Option Int → Nat
  | none => 0
  | some x => idxP n x
def idxE (n : List Pc) : Option Int → Nat
  | none => n.length - 1
  | some x => idxP n x
abbrev s_withinP : Stmt := top 47
abbrev nWithinP : List Str := ["pieces", "first", "last", "found", "start", "_", "high", "what"]
theorem sc_withinP : FnScope nWithinP ["pieces", "first", "last"] (defScope s_withinP) := ⟨rfl, rfl, rfl, by decide +kernel, rfl, by decide +kernel, by decide +kernel⟩
def spWithinP : Sp := fun vs H Q _ => ∃ (L : Addr) (n : List Pc) (a b : Option Int), vs = [.ref L, oV a, oV b] ∧ TupAt H L n ∧ chn none n ∧ n.length ≤ 1000 ∧ (∀ c, b = some c → geO c a) ∧
  ∀ (D : Addr) (l : List Pc) (H' : Hp), LstAt H' D l → seg (evalP n) a b l → l.length + idxO n a = idxE n b + 1 → H D = none → Same H H' → Q (.ref D) H'
section
variable {P : Program} {w : World} {K : PySem.W.Frag} {mg : Str → Option Value} {base : Heap} {f fP : Addr} {fd dP : FuncData}
theorem ok_place0 (F : FD K "_place_of" s_place f fd) : FnOk P w K mg base CX0 1 f fd ["pieces", "value"] spPlace0 := by
  refine F.ok sc_place (fun vs H Q E h => ?_) (fun cdv A outer s H vs Q E hr h => ?_)
  · obtain ⟨L, rfl, _⟩ := h
    rfl
  obtain ⟨L, rfl, q⟩ := h
  refine ⟨_, PSs.nox (pss_cons (ps_if (pt_cmp (pc_isN (pv 1))) (pss_one (ps_ret pe_int)) pss_nil) pss_never), ?_⟩
  refine ⟨_, rfl, _, rfl, ?_⟩
  refine (show (if decide (V.non = V.non) = true then _ else _) from ?_)
  rw [decide_eq_true rfl, if_pos rfl]
  exact q
theorem place_idx {L : Addr} {n : List Pc} {a : Option Int} {H : Hp} {Q : VK} (h : TupAt H L n) (hc : chn none n) (hn : n.length ≤ 1000) (q : Q (.int (idxO n a)) H) : spPlaceO [.ref L, oV a] H Q E0 := by
  cases a with
  | none => exact .inr ⟨L, rfl, q⟩
  | some x =>
    obtain ⟨ts, e, pr⟩ := h
    exact .inl ⟨L, n, x, rfl, ⟨ts, .inr e, pr⟩, hc, hn, q⟩
/-- the piece where a stretch begins -/
theorem idxO_at {n : List Pc} (hc : chn none n) (a : Option Int) : ∃ p, n[idxO n a]? = some p ∧ (∀ x, geO x a → geO x p.1) ∧ ∀ h, p.2.1 = some h → geO h a := by
  cases a with
  | none =>
    cases n with
    | nil => exact hc.elim
    | cons p r => exact ⟨p, rfl, fun x _ => by rw [hc.1]; exact none_ge x, fun h _ => none_ge h⟩
  | some y =>
    obtain ⟨p, e1, e2, _⟩ := eval_idx y hc
    refine ⟨p, e1, fun x hx => ?_, fun h e => ?_⟩
    · have g := idx_ge hc (none_ge y) e1 rfl
      intro b eb
      have := g b eb
      have := hx y rfl
      omega
    · rw [e, leO_some] at e2
      exact some_ge e2
theorem app_piece {K : PySem.W.Frag} {σ : L2.St} {H : Hp} {g : Addr} {l : List Pc} {s e w : Option Int} {i j k : Nat} {u : TS} {D : Ends} (hg : LstAt H g l) (len : l.length < 2000) (e0 : σ[3]? = some (some (.ref g))) (e1 : σ[i]? = some (some (oV s))) (e2 : σ[j]? = some (some (oV e))) (e3 : σ[k]? = some (some (oV w)))
    (q : ∀ H', LstAt H' g (l ++ [(s, e, w)]) → Bt g H H' → u D σ H') : tSeq (tDrop (tBM K "list" rAppend (tVar 3) (tCons (tTup (tCons (tVar i) (tCons (tVar j) (tCons (tVar k) tNil)))) tNil))) u D σ H := by
  obtain ⟨ts, hl, pr⟩ := hg
  have tl : ts.length = l.length := pr.length
  refine ⟨_, e0, .inl ⟨rfl, _, SqL.of hl⟩, _, e1, _, e2, _, e3, by show 3 ≤ sizeLine; decide, fun t ht => ?_⟩
  have s2 := same_upd (o := HO.tup [oV s, oV e, oV w]) ht
  have hl2 := s2 _ _ hl
  have ht2 : (upd H t (.tup [oV s, oV e, oV w])) t = some (.tup [oV s, oV e, oV w]) := upd_same
  refine ⟨g, _, _, rfl, rfl, hl2, by rw [List.length_map, tl]; exact Nat.lt_of_lt_of_le len (by decide), ?_⟩
  have keep : ∀ c xs, (upd H t (.tup [oV s, oV e, oV w])) c = some (HO.tup xs) → (upd (upd H t (.tup [oV s, oV e, oV w])) g (.lst (ts.map V.ref ++ [.ref t]))) c = some (HO.tup xs) := fun c xs z => by
    have n : c ≠ g := fun y => by
      rw [y, hl2] at z
      cases z
    rw [upd_ne n]
    exact z
  refine q _ ⟨ts ++ [t], by rw [upd_same, List.map_append]; rfl, (pr.mono fun c q z => keep _ _ (s2 _ _ z)).snoc (keep _ _ ht2)⟩ fun c o nc z => ?_
  rw [upd_ne nc]
  exact s2 _ _ z
def tbW (K : PySem.W.Frag) : TS := tSeq (tIfS (tOr (tB (tIsN (tVar 6))) (tAnd (tB (tNotN (tVar 2))) (tTest (tOp (rI0 fun i j => V.bl (decide (i ≤ j))) (tVar 2) (tVar 6)))))
    (tSeq (tDrop (tBM K "list" rAppend (tVar 3) (tCons (tTup (tCons (tVar 4) (tCons (tVar 2) (tCons (tVar 7) tNil)))) tNil))) tBreak) tNext)
  (tSeq (tDrop (tBM K "list" rAppend (tVar 3) (tCons (tTup (tCons (tVar 4) (tCons (tVar 6) (tCons (tVar 7) tNil)))) tNil))) (tAsg (tOp (rI0 fun i j => V.int (i + j)) (tVar 6) (tC (V.int 1))) (gName 4)))
theorem within_loop {K : PySem.W.Frag} {H2 : Hp} {L T g : Addr} {n : List Pc} {a b : Option Int} {ts : List Addr} {D : Ends} (hT : H2 T = some (.tup ((ts.drop (idxO n a)).map V.ref))) (pr : Paired (PcAt H2) ts n) (hg : H2 g = some (.lst [])) (hc : chn none n) (hn : n.length ≤ 1000) (hab : ∀ c, b = some c → geO c a)
    (fin : ∀ (l : List Pc) (σ' : L2.St) (H' : Hp), σ'[3]? = some (some (.ref g)) → LstAt H' g l → seg (evalP n) a b l → l.length + idxO n a = idxE n b + 1 → Bt g H2 H' → D.nx σ' H') :
    ∃ W : Nat → Nat → L2.St → Hp → Prop, (∃ m, W 0 m [some (.ref L), some (oV a), some (oV b), some (.ref g), some (oV a), none, none, none] H2) ∧ ∀ i m σ H, W i m σ H →
      ((Itt K T).stop i H ∧ D.nx σ H) ∨ ((Itt K T).go i H ∧ ∃ N : L2.St → Hp → Prop, (∀ σ' H', N σ' H' → ∃ m', m' < m ∧ W (i + 1) m' σ' H') ∧ ∀ x H', (Itt K T).yld i H x H' → gTup K 3 (gCons (gName 5) (gCons (gName 6) (gCons (gName 7) gNil))) x σ H' fun σ2 H2 => tbW K { D with nx := N, ct := N, bk := D.nx } σ2 H2) := by
  have tl : ts.length = n.length := pr.length
  have nT : T ≠ g := fun z => by
    rw [z, hg] at hT
    cases hT
  obtain ⟨p0, i0, j0, k0⟩ := idxO_at hc a
  refine for_tup (K := K) (a := T) (xs := (ts.drop (idxO n a)).map V.ref) (fun i σ' H' => Bt g H2 H' ∧ ∃ (l : List Pc) (s : Option Int) (x5 x6 x7 : Option V), σ' = [some (.ref L), some (oV a), some (oV b), some (.ref g), some (oV s), x5, x6, x7] ∧ LstAt H' g l ∧ l.length = i ∧
      (∃ p, n[idxO n a + i]? = some p ∧ (∀ x, geO x s → geO x p.1) ∧ ∀ h, p.2.1 = some h → geO h s) ∧ ((l = [] ∧ s = a) ∨ ∃ h, seg (evalP n) a (some h) l ∧ s = some (h + 1)) ∧ ∀ c, b = some c → geO c s)
    ⟨fun _ _ _ e => e, [], a, none, none, none, rfl, ⟨[], hg, .nil⟩, rfl, ⟨p0, i0, j0, k0⟩, .inl ⟨rfl, rfl⟩, hab⟩ (fun i σ' H' _ ⟨z, _⟩ => SqT.of (z _ _ nT hT)) (fun i x σ' H' hx ⟨bt, l, s, x5, x6, x7, eσ, hl, ll, ⟨p, ip, jp, kp⟩, sg, bs⟩ => ?_) (fun σ' H' ⟨_, l, s, _, _, _, _, _, _, ⟨p, ip, _⟩, _⟩ => ?_)
  · subst eσ
    obtain ⟨t, e1, e2⟩ := paired_at pr ip
    rw [List.getElem?_map, List.getElem?_drop, e1] at hx
    cases (show V.ref t = x from Option.some.inj hx)
    have il := (List.getElem?_eq_some_iff.mp ip).1
    have ntg : t ≠ g := fun z => by
      unfold PcAt at e2
      rw [z, hg] at e2
      cases e2
    have ht : PcAt H' t p := bt _ _ ntg e2
    -- what the piece says is what the map says
    have says : ∀ x, geO x s → leO x p.2.1 = true → takeW p.2.2 x = evalP n x := fun x g1 g2 => ((eval_at hc ip (idx_of hc ip (jp x g1) g2)).1).symm
    refine ⟨t, _, rfl, SqT.of ht, rfl, _, _, rfl, _, _, rfl, _, _, rfl, rfl, ?_⟩
    refine normS (σ' := [some (.ref L), some (oV a), some (oV b), some (.ref g), some (oV s), some (oV p.1), some (oV p.2.1), some (oV p.2.2)]) rfl ?_
    obtain ⟨p1, p2, p3⟩ := p
    dsimp only at ip jp kp ht says ⊢
    have last : ∀ D' : Ends, D'.bk = D.nx → (∀ x, leO x b = true → leO x p2 = true) → idxE n b = idxO n a + i → tSeq (tDrop (tBM K "list" rAppend (tVar 3) (tCons (tTup (tCons (tVar 4) (tCons (tVar 2) (tCons (tVar 7) tNil)))) tNil))) tBreak
        D' [some (.ref L), some (oV a), some (oV b), some (.ref g), some (oV s), some (oV p1), some (oV p2), some (oV p3)] H' := fun D' hD up he => by
      refine app_piece hl (by omega) rfl rfl rfl rfl fun H3 h3 b3 => ?_
      show D'.bk _ H3
      rw [hD]
      refine fin _ _ H3 rfl h3 ?_ (by rw [List.length_append, ll, he]; show i + 1 + _ = _; omega) (bt.trans b3)
      rcases sg with ⟨rfl, rfl⟩ | ⟨h, sg, rfl⟩
      · exact seg_one bs fun x g1 g2 => says x g1 (up x g2)
      · exact seg_snoc sg (fun c z => bs c z _ rfl) fun x g1 g2 => says x (some_ge g1) (up x g2)
    cases p2 with
    | none =>
      refine ⟨_, rfl, _, rfl, ?_⟩
      refine (show (if decide (V.non = V.non) = true then _ else _) from ?_)
      rw [decide_eq_true rfl, if_pos rfl]
      refine (show (if true = true then _ else _) from ?_)
      rw [if_pos rfl]
      refine last _ rfl (fun _ _ => rfl) ?_
      cases b with
      | none =>
        have := (chn_last hc ip).mp rfl
        show n.length - 1 = _
        omega
      | some c => exact idx_of hc ip (jp c (bs c rfl)) rfl
    | some h =>
      obtain ⟨n1, p', n2, n3⟩ := chn_next hc ip rfl
      have more : ∀ D' : Ends, D'.nx = (fun σ' H' => Bt g H2 H' ∧ ∃ (l : List Pc) (s : Option Int) (x5 x6 x7 : Option V), σ' = [some (.ref L), some (oV a), some (oV b), some (.ref g), some (oV s), x5, x6, x7] ∧ LstAt H' g l ∧ l.length = i + 1 ∧
          (∃ p, n[idxO n a + (i + 1)]? = some p ∧ (∀ x, geO x s → geO x p.1) ∧ ∀ h, p.2.1 = some h → geO h s) ∧ ((l = [] ∧ s = a) ∨ ∃ h, seg (evalP n) a (some h) l ∧ s = some (h + 1)) ∧ ∀ c, b = some c → geO c s) → (∀ c, b = some c → h + 1 ≤ c) →
          tSeq (tDrop (tBM K "list" rAppend (tVar 3) (tCons (tTup (tCons (tVar 4) (tCons (tVar 6) (tCons (tVar 7) tNil)))) tNil))) (tAsg (tOp (rI0 fun i j => V.int (i + j)) (tVar 6) (tC (V.int 1))) (gName 4))
            D' [some (.ref L), some (oV a), some (oV b), some (.ref g), some (oV s), some (oV p1), some (oV (some h)), some (oV p3)] H' := fun D' hD hb => by
        refine app_piece hl (by omega) rfl rfl rfl rfl fun H3 h3 b3 => ?_
        refine ⟨_, rfl, h, 1, rfl, rfl, ?_⟩
        show D'.nx _ H3
        rw [hD]
        refine ⟨bt.trans b3, _, some (h + 1), _, _, _, rfl, h3, by rw [List.length_append, ll]; rfl, ⟨p', n2, fun x g1 => by rw [n3]; exact g1, fun h' e => ?_⟩, .inr ⟨h, ?_, rfl⟩, fun c z => some_ge (hb c z)⟩
        · have := (chn_next hc n2 e).1
          rw [n3] at this
          exact this
        · rcases sg with ⟨rfl, rfl⟩ | ⟨h0, sg, rfl⟩
          · exact seg_one (fun c z => by cases z; exact kp h rfl) says
          · exact seg_snoc sg (fun c z => by cases z; exact kp h rfl _ rfl) fun x g1 g2 => says x (some_ge g1) g2
      refine ⟨_, rfl, _, rfl, ?_⟩
      refine (show (if decide (V.int h = V.non) = true then _ else _) from ?_)
      rw [decide_eq_false (fun z => nomatch z), if_neg (by decide)]
      refine ⟨_, rfl, _, rfl, ?_⟩
      cases b with
      | none =>
        refine (show (if (!decide (V.non = V.non)) = true then _ else _) from ?_)
        rw [decide_eq_true rfl, if_neg (by decide)]
        refine (show (if false = true then _ else _) from ?_)
        rw [if_neg (by decide)]
        exact more _ rfl fun c z => nomatch z
      | some c =>
        refine (show (if (!decide (V.int c = V.non)) = true then _ else _) from ?_)
        rw [decide_eq_false (fun z => nomatch z), if_pos (by decide)]
        refine ⟨_, rfl, _, rfl, c, h, rfl, rfl, _, rfl, ?_⟩
        refine ite2 (fun z => ?_) (fun z => ?_)
        · have ch := of_decide_eq_true z
          refine last _ rfl (fun x hx => ?_) (idx_of hc ip (jp c (bs c rfl)) (leO_some.mpr ch))
          rw [leO_some] at hx ⊢
          omega
        · have ch : ¬ c ≤ h := fun y => z (decide_eq_true y)
          exact more _ rfl fun d y => by
            cases y
            omega
  · rw [List.length_map, List.length_drop] at ip
    have := (List.getElem?_eq_some_iff.mp ip).1
    have := (List.getElem?_eq_some_iff.mp i0).1
    omega
theorem ok_withinP (F : FD K "pieces_within" s_withinP f fd) (PL : Kn P w K mg base 1 "_place_of" fP dP ["pieces", "value"] spPlaceO) : FnOk P w K mg base CX0 2 f fd ["pieces", "first", "last"] spWithinP := by
  refine F.ok sc_withinP (fun vs H Q E h => ?_) (fun cdv A outer s H vs Q E hr h => ?_)
  · obtain ⟨L, n, a, b, rfl, _⟩ := h
    rfl
  obtain ⟨L, n, a, b, rfl, ⟨ts, hL, pr⟩, hc, hn, hab, q⟩ := h
  refine ⟨_, PSs.nox (pss_cons (ps_set (i := 3) sc_withinP.nd rfl (Or.inl rfl) (pe_lst pa_nil))
    (pss_cons (ps_set (i := 4) sc_withinP.nd rfl (Or.inl rfl) (pv 1))
    (pss_cons (ps_for .never (by rfl) (pi_tup (pe_slice sl_tupA (pv 0) (po_some (pe_call PL.f hr rfl PL.m PL.k PL.b .nil pass0 (pa_cons (pv 0) (pa_cons (pv 1) pa_nil)))) po_none)) (pg_tup (by rfl) (pgs_cons (pg_name (i := 5) sc_withinP.nd rfl (Or.inl rfl)) (pgs_cons (pg_name (i := 6) sc_withinP.nd rfl (Or.inl rfl)) (pgs_cons (pg_name (i := 7) sc_withinP.nd rfl (Or.inl rfl)) pgs_nil))))
      (pss_cons (ps_if (PW.pt (pw_or (pt_cmp (pc_isN (pv 6))) (pw_or1 (PW.pt (pw_and (pt_cmp (pc_notN (pv 2))) (pw_and1 (pt_cmpR op_le (pv 2) (pv 6) (nomark _)))))))) 
          (pss_cons (ps_expr (pe_bm PySem.F.plainAttrs_list PySem.F.slot_list_append PySem.F.type_list_append mt_append (pv 3) (pa_cons (pe_tup (pa_cons (pv 4) (pa_cons (pv 2) (pa_cons (pv 7) pa_nil)))) pa_nil))) (pss_one ps_break)) pss_nil)
      (pss_cons (ps_expr (pe_bm PySem.F.plainAttrs_list PySem.F.slot_list_append PySem.F.type_list_append mt_append (pv 3) (pa_cons (pe_tup (pa_cons (pv 4) (pa_cons (pv 6) (pa_cons (pv 7) pa_nil)))) pa_nil)))
      (pss_one (ps_set (i := 4) sc_withinP.nd rfl (Or.inl rfl) (pe_op op_add (pv 6) pe_int))))))
    (pss_one (ps_ret (pv 3)))))), ?_⟩
  refine ⟨Nat.zero_le _, fun g hg => ?_⟩
  have s1 := same_upd (o := HO.lst []) hg
  have hg1 : (upd H g (.lst [])) g = some (.lst []) := upd_same
  generalize upd H g (.lst []) = H1 at s1 hg1 ⊢
  refine ⟨_, rfl, ?_⟩
  dsimp only [gName]
  refine normS (σ' := [some (.ref L), some (oV a), some (oV b), some (.ref g), some (oV a), none, none, none]) rfl ?_
  have tl : ts.length = n.length := pr.length
  obtain ⟨p0, i0, _⟩ := idxO_at hc a
  have il := (List.getElem?_eq_some_iff.mp i0).1
  have hL1 := s1 _ _ hL
  have pr1 : Paired (PcAt H1) ts n := pr.mono fun c q e => s1 _ _ e
  have done : ∀ (H2 : Hp), Same H1 H2 → ∀ (l : List Pc) (σ' : L2.St) (H' : Hp), σ'[3]? = some (some (.ref g)) → LstAt H' g l → seg (evalP n) a b l → l.length + idxO n a = idxE n b + 1 → Bt g H2 H' → tRet (tVar 3) { nx := fun x H' => Q V.non H', rt := Q } σ' H' := fun H2 s2 l σ' H' e hl sg ll bt =>
    ⟨_, e, q g l H' hl sg ll hg fun c o z => bt _ _ (ne_of_none z hg) (s2 _ _ (s1 _ _ z))⟩
  refine ⟨_, rfl, _, rfl, _, rfl, place_idx ⟨ts, hL1, pr1⟩ hc hn ⟨_, rfl, ?_⟩⟩
  refine ⟨L, _, rfl, SqT.of hL1, fun hw => ⟨L, rfl, ⟨_, SqT.of hL1⟩, ?_⟩, fun _ T hT => ⟨T, rfl, ⟨_, SqT.of upd_same⟩, ?_⟩⟩
  · have k0 : idxO n a = 0 := by
      have h1 := hw.1
      rw [HT.sIx_nat, List.length_map] at h1
      omega
    exact within_loop (by rw [k0, List.drop_zero]; exact hL1) pr1 hg1 hc hn hab (done H1 fun _ _ e => e)
  · have s2 := same_upd (o := HO.tup (cutV (ts.map V.ref) (some ((idxO n a : Nat) : Int)) none)) hT
    have eT : cutV (ts.map V.ref) (some ((idxO n a : Nat) : Int)) none = (ts.drop (idxO n a)).map V.ref := by
      unfold cutV
      rw [HT.sIx_none, HT.sIx_nat, List.length_map, Nat.min_eq_left (by omega), List.map_drop, List.take_of_length_le (by rw [List.length_drop, List.length_map]; omega)]
    exact within_loop (by rw [← eT]; exact upd_same) (pr1.mono fun c q e => s2 _ _ e) (s2 _ _ hg1) hc hn hab (done _ s2)
end
end C4

end Pq4l
section Pq4m
set_option maxHeartbeats 4000000
namespace C4
open PySem PySem.Spec L2 PyProof.Rows
/-! ### one map of numbers after another -/
abbrev s_nfol : Stmt := inCls (top 37) 11
abbrev nFol : List Str := ["self", "other", "found", "first", "last", "what"]
theorem sc_nfol : FnScope nFol ["self", "other"] (defScope s_nfol) := ⟨rfl, rfl, rfl, by decide +kernel, rfl, by decide +kernel, by decide +kernel⟩
theorem idx_mono {n : List Pc} (hc : chn none n) {x y : Int} (h : x ≤ y) : idxP n x ≤ idxP n y := by
  obtain ⟨p, e1, e2, _⟩ := eval_idx y hc
  exact (idx_le hc e1).mp (leO_trans h e2)
theorem idxE_le {n : List Pc} (hc : chn none n) (e : Option Int) : idxE n e ≤ n.length - 1 := by
  cases e with
  | none => exact Nat.le_refl _
  | some x =>
    have := idx_lt x hc
    show idxP n x ≤ _
    omega
theorem paired_app {α β : Type} {F : α → β → Prop} : ∀ {a c : List α} {b d : List β}, Paired F a b → Paired F c d → Paired F (a ++ c) (b ++ d)
  | _, _, _, _, .nil, q => q
  | _, _, _, _, .cons r t, q => .cons r (paired_app t q)
/-- what one map after another says -/
def after (k n : List Pc) (x : Int) : Int := evalP k (evalP n x)
def spFolN (C : Addr) : Sp := fun vs H Q _ => ∃ (m o : Addr) (n k : List Pc), vs = [.ref m, .ref o] ∧ NMap C H m n ∧ NMap C H o k ∧ chn none n ∧ chn none k ∧ n.length ≤ 400 ∧ k.length ≤ 400 ∧
  ∀ (r : Addr) (l : List Pc) (H' : Hp), NMap C H' r l → Nrm (after k n) none l → l.length < n.length + k.length → Same H H' → Q (.ref r) H'
/-- the pieces so far, of so many rows -/
def folP (n k : List Pc) (i : Nat) (l : List Pc) : Prop := (i = 0 ∧ l = []) ∨ ∃ p j, i = j + 1 ∧ n[j]? = some p ∧ seg (after k n) none p.2.1 l ∧ l.length ≤ i + idxE k p.2.1
theorem folP_step {n k : List Pc} (hn : chn none n) (hk : chn none k) {i : Nat} {l m : List Pc} {p : Pc} (h : folP n k i l) (ip : n[i]? = some p) (hm : seg (after k n) p.1 p.2.1 m) (lm : m.length + idxO k p.1 ≤ idxE k p.2.1 + 1) : folP n k (i + 1) (l ++ m) := by
  refine .inr ⟨p, i, rfl, ip, ?_, ?_⟩
  · rcases h with ⟨rfl, rfl⟩ | ⟨q, j, rfl, jq, sq, _⟩
    · have e := chn_fst hn ip
      rw [e] at hm
      exact hm
    · cases e : q.2.1 with
      | none =>
        have := (chn_last hn jq).mp e
        have := (List.getElem?_eq_some_iff.mp ip).1
        omega
      | some h =>
        obtain ⟨_, q', e1, e2⟩ := chn_next hn jq e
        rw [ip] at e1
        cases e1
        rw [e2] at hm
        rw [e] at sq
        exact seg_app sq hm
  · rw [List.length_append]
    rcases h with ⟨rfl, rfl⟩ | ⟨q, j, rfl, jq, sq, lq⟩
    · show 0 + m.length ≤ _
      omega
    · cases e : q.2.1 with
      | none =>
        have := (chn_last hn jq).mp e
        have := (List.getElem?_eq_some_iff.mp ip).1
        omega
      | some h =>
        obtain ⟨_, q', e1, e2⟩ := chn_next hn jq e
        rw [ip] at e1
        cases e1
        rw [e] at lq
        rw [e2] at lm
        have mono : idxE k (some h) ≤ idxO k (some (h + 1)) := idx_mono hk (by omega)
        omega
/-- what a row of the first map says within it -/
theorem row_says {n : List Pc} (hn : chn none n) {i : Nat} {p : Pc} (ip : n[i]? = some p) {x : Int} (g1 : geO x p.1) (g2 : leO x p.2.1 = true) : evalP n x = takeW p.2.2 x := (eval_at hn ip (idx_of hn ip g1 g2)).1
theorem row_end {n : List Pc} (hn : chn none n) {i : Nat} {p : Pc} (ip : n[i]? = some p) : ∀ c, p.2.1 = some c → geO c p.1 := fun c e => (chn_next hn ip e).1
theorem idx_ends {k : List Pc} (hk : chn none k) {a b : Option Int} (h : ∀ c, b = some c → geO c a) : idxO k a ≤ idxE k b := by
  cases a with
  | none => exact Nat.zero_le _
  | some x =>
    cases b with
    | none =>
      have := idx_lt x hk
      show idxP k x ≤ k.length - 1
      omega
    | some y => exact idx_mono hk (h y rfl x rfl)
section
variable {P : Program} {w : World} {K : PySem.W.Frag} {mg : Str → Option Value} {base : Heap} {f fW fR fI C : Addr} {fd dW dR dI : FuncData}
theorem ok_followN (F : FM K "_followed" "NumberMap._followed" s_nfol f fd) (N : NMc K C) (WP : Kn P w K mg base 2 "pieces_within" fW dW ["pieces", "first", "last"] spWithinP) (GR : FnOk P w K mg base CX0 2 fR dR ["self", "value"] (spResult C)) (bR : Binds K dR ["self", "value"] []) (mR : Meth K C "_result" fR) (MN : MkN P w K mg base C fI dI) :
    FnOk P w K mg base CX0 6 f fd ["self", "other"] (spFolN C) := by
  refine F.ok sc_nfol (fun vs H Q E h => ?_) (fun cdv A outer s H vs Q E hr h => ?_)
  · obtain ⟨m, o, n, k, rfl, _⟩ := h
    rfl
  obtain ⟨m, o, n, k, rfl, ⟨dm, um, hm, ts, hum, pr⟩, ⟨dk, uk, ho, huk⟩, hn, hk, ln, lk, q⟩ := h
  refine ⟨_, PSs.nox (pss_cons (ps_set (i := 2) sc_nfol.nd rfl (Or.inl rfl) (pe_lst pa_nil))
    (pss_cons (ps_for .never (by rfl) (pi_tup (pe_fld (pv 0) rfl)) (pg_tup (by rfl) (pgs_cons (pg_name (i := 3) sc_nfol.nd rfl (Or.inl rfl)) (pgs_cons (pg_name (i := 4) sc_nfol.nd rfl (Or.inl rfl)) (pgs_cons (pg_name (i := 5) sc_nfol.nd rfl (Or.inl rfl)) pgs_nil))))
      (pss_one (ps_if (pt_cmp (pc_isN (pv 5)))
        (pss_one (ps_expr (pe_bm PySem.F.plainAttrs_list PySem.F.slot_list_extend PySem.F.type_list_extend mt_extend (pv 2) (pa_cons (pe_call WP.f (hr.mono (by decide)) rfl WP.m WP.k WP.b .nil pass0 (pa_cons (pe_fld (pv 1) rfl) (pa_cons (pv 3) (pa_cons (pv 4) pa_nil)))) pa_nil))))
        (pss_one (ps_expr (pe_bm PySem.F.plainAttrs_list PySem.F.slot_list_append PySem.F.type_list_append mt_append (pv 2) (pa_cons (pe_tup (pa_cons (pv 3) (pa_cons (pv 4) (pa_cons (pe_meth (pv 1) N.cl mR GR (hr.mono (by decide)) bR .nil pass0 (pa_cons (pv 5) pa_nil)) pa_nil)))) pa_nil)))))))
    (pss_one (ps_ret (pe_make MN.mkC MN.g hr rfl MN.m MN.b .nil pass0 (pa_cons (pv 2) pa_nil)))))), ?_⟩
  have tl : ts.length = n.length := pr.length
  refine ⟨Nat.zero_le _, fun g hg => ?_⟩
  have s1 := same_upd (o := HO.lst []) hg
  have hg1 : (upd H g (.lst [])) g = some (.lst []) := upd_same
  generalize upd H g (.lst []) = H1 at s1 hg1 ⊢
  have hm1 := s1 _ _ hm
  have ho1 := s1 _ _ ho
  have hum1 := s1 _ _ hum
  have pr1 : Paired (PcAt H1) ts n := pr.mono fun c q e => s1 _ _ e
  have nk1 : NMap C H1 o k := NMap.same s1 ⟨dk, uk, ho, huk⟩
  refine normS (σ' := [some (.ref m), some (.ref o), some (.ref g), none, none, none]) rfl ?_
  refine ⟨_, rfl, m, C, dm, _, .ref um, rfl, hm1, N.cl, N.nP, rfl, um, rfl, ⟨_, SqT.of hum1⟩, ?_⟩
  have off : ∀ c o, H1 c = some o → (∀ xs, o ≠ .lst xs) → c ≠ g := fun c o e h z => by
    rw [z, hg1] at e
    cases e
    exact h [] rfl
  refine for_tup (K := K) (a := um) (xs := ts.map V.ref) (fun i σ' H' => Bt g H1 H' ∧ ∃ (l : List Pc) (x3 x4 x5 : Option V), σ' = [some (.ref m), some (.ref o), some (.ref g), x3, x4, x5] ∧ LstAt H' g l ∧ folP n k i l)
    ⟨fun _ _ _ e => e, [], none, none, none, rfl, ⟨[], hg1, .nil⟩, .inl ⟨rfl, rfl⟩⟩ (fun i σ' H' _ ⟨z, _⟩ => SqT.of (z _ _ (off _ _ hum1 fun _ e => nomatch e) hum1)) (fun i x σ' H' hx ⟨bt, l, x3, x4, x5, eσ, hl, fp⟩ => ?_) (fun σ' H' ⟨bt, l, x3, x4, x5, eσ, hl, fp⟩ => ?_)
  · subst eσ
    have il : i < n.length := by
      have := (List.getElem?_eq_some_iff.mp hx).1
      rw [List.length_map] at this
      omega
    have ip : n[i]? = some (n[i]'il) := List.getElem?_eq_getElem il
    generalize n[i]'il = p at ip
    obtain ⟨t, e1, e2⟩ := paired_at pr1 ip
    rw [List.getElem?_map, e1] at hx
    cases (show V.ref t = x from Option.some.inj hx)
    have ht : PcAt H' t p := bt _ _ (off _ _ e2 fun _ e => nomatch e) e2
    have lenl : l.length ≤ 800 := by
      rcases fp with ⟨_, rfl⟩ | ⟨p', j, rfl, _, _, le⟩
      · exact Nat.zero_le _
      · have := idxE_le hk p'.2.1
        omega
    have says : ∀ x, geO x p.1 → leO x p.2.1 = true → evalP n x = takeW p.2.2 x := fun x g1 g2 => row_says hn ip g1 g2
    have ends := row_end hn ip
    have step := fun m => folP_step (m := m) hn hk fp ip
    have ho' := bt _ _ (off _ _ ho1 fun _ e => nomatch e) ho1
    have huk' : TupAt H' uk k := by
      obtain ⟨us, h1, h2⟩ := huk
      exact ⟨us, bt _ _ (off _ _ (s1 _ _ h1) fun _ e => nomatch e) (s1 _ _ h1), h2.mono fun c q e => bt _ _ (off c (.tup _) (s1 _ _ e) fun _ e => nomatch e) (s1 _ _ e)⟩
    refine ⟨t, _, rfl, SqT.of ht, rfl, _, _, rfl, _, _, rfl, _, _, rfl, rfl, ?_⟩
    obtain ⟨p1, p2, p3⟩ := p
    dsimp only at says ends step
    obtain ⟨ls, hls, prl⟩ := hl
    have tll : ls.length = l.length := prl.length
    refine ⟨_, rfl, _, rfl, ?_⟩
    cases p3 with
    | none =>
      refine (show (if decide (V.non = V.non) = true then _ else _) from ?_)
      rw [decide_eq_true rfl, if_pos rfl]
      refine ⟨_, rfl, .inl ⟨rfl, _, SqL.of hls⟩, _, rfl, o, C, dk, _, .ref uk, rfl, ho', N.cl, N.nP, rfl, _, rfl, _, rfl, uk, k, p1, p2, rfl, huk', hk, by omega, ends, fun D mm H3 lmm sg lm d0 s3 => ?_⟩
      obtain ⟨ms, hms, prm⟩ := lmm
      have hls3 := s3 _ _ hls
      have tlm : ms.length = mm.length := prm.length
      have lenm : mm.length ≤ 400 := by
        have := idxE_le hk p2
        have := List.length_pos_iff.mpr (chn_ne hk)
        omega
      refine ⟨g, D, _, _, rfl, rfl, hls3, hms, ?_, ?_⟩
      · rw [List.length_map, List.length_map]
        exact Nat.le_trans (show ls.length + ms.length ≤ 2000 by omega) (by decide)
      have keep : ∀ c xs, H3 c = some (HO.tup xs) → (upd H3 g (.lst (ls.map V.ref ++ ms.map V.ref))) c = some (HO.tup xs) := fun c xs z => by
        have n : c ≠ g := fun y => by
          rw [y, hls3] at z
          cases z
        rw [upd_ne n]
        exact z
      refine ⟨fun c o nc z => ?_, l ++ mm, _, _, _, rfl, ⟨ls ++ ms, by rw [upd_same, List.map_append], paired_app (prl.mono fun c q e => keep _ _ (s3 _ _ e)) (prm.mono fun c q e => keep _ _ e)⟩, step mm (seg_congr (fun x g1 g2 => ?_) sg) (by omega)⟩
      · rw [upd_ne nc]
        exact s3 _ _ (bt _ _ nc z)
      · show evalP k x = evalP k (evalP n x)
        rw [says x g1 g2] <;> rfl
    | some v =>
      refine (show (if decide (V.int v = V.non) = true then _ else _) from ?_)
      rw [decide_eq_false (fun z => nomatch z), if_neg (by decide)]
      refine ⟨_, rfl, .inl ⟨rfl, _, SqL.of hls⟩, _, rfl, _, rfl, _, rfl, o, dk, _, rfl, ho', rfl, _, rfl, o, k, v, rfl, ⟨dk, uk, ho', huk'⟩, hk, by omega, by show 3 ≤ sizeLine; decide, fun t2 ht2 => ?_⟩
      have s3 := same_upd (o := HO.tup [oV p1, oV p2, V.int (evalP k v)]) ht2
      have hls3 := s3 _ _ hls
      have ht3 : (upd H' t2 (.tup [oV p1, oV p2, V.int (evalP k v)])) t2 = some (.tup [oV p1, oV p2, V.int (evalP k v)]) := upd_same
      refine ⟨g, _, _, rfl, rfl, hls3, by rw [List.length_map, tll]; exact Nat.lt_of_le_of_lt lenl (by decide), ?_⟩
      have keep : ∀ c xs, (upd H' t2 (.tup [oV p1, oV p2, V.int (evalP k v)])) c = some (HO.tup xs) → (upd (upd H' t2 (.tup [oV p1, oV p2, V.int (evalP k v)])) g (.lst (ls.map V.ref ++ [.ref t2]))) c = some (HO.tup xs) := fun c xs z => by
        have n : c ≠ g := fun y => by
          rw [y, hls3] at z
          cases z
        rw [upd_ne n]
        exact z
      refine ⟨fun c o nc z => ?_, l ++ [(p1, p2, some (evalP k v))], _, _, _, rfl, ⟨ls ++ [t2], by rw [upd_same, List.map_append]; rfl, (prl.mono fun c q e => keep _ _ (s3 _ _ e)).snoc (keep _ _ ht3)⟩, step _ (seg_one ends fun x g1 g2 => ?_) (by have := idx_ends hk ends; show 1 + _ ≤ _; omega)⟩
      · rw [upd_ne nc]
        exact s3 _ _ (bt _ _ nc z)
      · show evalP k v = evalP k (evalP n x)
        rw [says x g1 g2] <;> rfl
  · subst eσ
    rw [List.length_map, tl] at fp
    have n0 := List.length_pos_iff.mpr (chn_ne hn)
    have k0 := List.length_pos_iff.mpr (chn_ne hk)
    rcases fp with ⟨z, _⟩ | ⟨p, j, e, jp, sg, le⟩
    · omega
    have pe := (chn_last hn jp).mpr e.symm
    rw [pe] at sg le
    obtain ⟨cl, el⟩ := seg_chn sg
    have ll : l.length < n.length + k.length := by
      have h : idxE k none = k.length - 1 := rfl
      rw [h] at le
      omega
    refine ⟨_, rfl, made_p hl.pcs cl (by omega) fun r nl H3 h1 h2 h3 s3 => q r nl H3 h1 ?_ (by omega) fun c o z => s3 _ _ (bt _ _ (ne_of_none z hg) (s1 _ _ z))⟩
    have ee : evalP l = after k n := funext fun x => el x (none_ge x)
    rw [← ee]
    exact h2
end
end C4

end Pq4m
section Pq4n
set_option maxHeartbeats 4000000
namespace C4
open PySem PySem.Spec L2 PyProof.Rows
/-! ### is_map, check_map, then -/
abbrev s_ismap : Stmt := top 39
abbrev s_chkmap : Stmt := top 40
abbrev s_then : Stmt := inCls (top 36) 3
structure PrF (P : Program) (w : World) (K : PySem.W.Frag) (mg : Str → Option Value) (base : Heap) (C p fP : Addr) (dP : FuncData) (nm : Str) (sp : Sp) : Prop where
  p : PropOf K C nm p fP
  g : FnOk P w K mg base CX0 1 fP dP ["self"] sp
  b : Binds K dP ["self"] []
/-- the kind of an instance of the class at C -/
def spKd (C : Addr) (kd : Str) : Sp := fun vs H Q _ => ∃ (m dx : Addr) (fs : List (Str × V)), vs = [.ref m] ∧ H m = some (.ins C dx fs) ∧ fs.lookup ("KIND" : Str) = none ∧ Q (.str kd) H
def spIsMap (C : Addr) (kd : Str) : Sp := fun vs H Q _ => ∃ (m dx : Addr) (fs : List (Str × V)), vs = [.ref m, .str kd] ∧ H m = some (.ins C dx fs) ∧ fs.lookup ("KIND" : Str) = none ∧ Q (.bl true) H
def spChkMap (C : Addr) (kd : Str) : Sp := fun vs H Q _ => ∃ (m dx : Addr) (fs : List (Str × V)), vs = [.ref m, .str kd] ∧ H m = some (.ins C dx fs) ∧ fs.lookup ("KIND" : Str) = none ∧ Q .non H
theorem sc_ismap : FnScope ["value", "kind"] ["value", "kind"] (defScope s_ismap) := ⟨rfl, rfl, rfl, by decide +kernel, rfl, by decide +kernel, by decide +kernel⟩
theorem sc_chkmap : FnScope ["value", "kind"] ["value", "kind"] (defScope s_chkmap) := ⟨rfl, rfl, rfl, by decide +kernel, rfl, by decide +kernel, by decide +kernel⟩
theorem sc_then : FnScope ["self", "other"] ["self", "other"] (defScope s_then) := ⟨rfl, rfl, rfl, by decide +kernel, rfl, by decide +kernel, by decide +kernel⟩
/-- then, where the two are maps of the class at C: what the own _followed promises -/
def spThen (C : Addr) (sp : Sp) : Sp := fun vs H Q E => ∃ (m o d1 d2 : Addr) (f1 f2 : List (Str × V)), vs = [.ref m, .ref o] ∧ H m = some (.ins C d1 f1) ∧ H o = some (.ins C d2 f2) ∧ f2.lookup ("KIND" : Str) = none ∧ f1.lookup ("KIND" : Str) = none ∧ f1.lookup ("_followed" : Str) = none ∧ sp [.ref m, .ref o] H Q E0
section
variable {P : Program} {w : World} {K : PySem.W.Frag} {mg : Str → Option Value} {base : Heap} {f fK pK fI fC fF C CM : Addr} {fd dK dI dC dF : FuncData} {kd : Str} {sp : Sp}
theorem ok_ismap (F : FD K "is_map" s_ismap f fd) (ti : mg "isinstance" = none) (tM : mg "Map" = some (.ref CM)) (O : TcO K C CM kd) (PK : PrF P w K mg base C pK fK dK "kind" (spKd C kd)) : FnOk P w K mg base CX0 3 f fd ["value", "kind"] (spIsMap C kd) := by
  refine F.ok sc_ismap (fun vs H Q E h => ?_) (fun cdv A outer s H vs Q E hr h => ?_)
  · obtain ⟨m, dx, fs, rfl, _⟩ := h
    rfl
  obtain ⟨m, dx, fs, rfl, hm, hl, q⟩ := h
  refine ⟨_, PSs.nox (pss_one (ps_ret (pe_and (pe_callB call_isi (by rfl) ti boot_isi (pa_cons (pv 0) (pa_cons (pe_glob (v := .ref CM) rfl tM rfl) pa_nil))) (pe_one (pe_cmpR op_eq (pe_prop (pv 0) O.cl PK.p PK.g hr PK.b .nil pass0 (by rfl)) (pv 1) (nomark _)))))), ?_⟩
  refine ⟨_, rfl, .ref m, .ref CM, .ref C, _, _, rfl, .own _, O.ty hm, O.kit, true, rfl, ?_⟩
  refine (show (if true = true then _ else _) from ?_)
  rw [if_pos rfl]
  refine ⟨_, rfl, m, dx, _, rfl, hm, m, dx, _, rfl, hm, hl, _, rfl, rfl, ?_⟩
  rw [decide_eq_true rfl]
  exact q
theorem ok_chkmap (F : FD K "check_map" s_chkmap f fd) (IM : Kn P w K mg base 3 "is_map" fI dI ["value", "kind"] (spIsMap C kd)) : FnOk P w K mg base CX0 4 f fd ["value", "kind"] (spChkMap C kd) := by
  refine F.ok sc_chkmap (fun vs H Q E h => ?_) (fun cdv A outer s H vs Q E hr h => ?_)
  · obtain ⟨m, dx, fs, rfl, _⟩ := h
    rfl
  obtain ⟨m, dx, fs, rfl, hm, hl, q⟩ := h
  refine ⟨_, PSs.nox (pss_one (ps_if (pt_not (pt_val (pe_call IM.f hr rfl IM.m IM.k IM.b .nil pass0 (pa_cons (pv 0) (pa_cons (pv 1) pa_nil))))) pss_never pss_nil)), ?_⟩
  refine ⟨_, rfl, _, rfl, m, dx, fs, rfl, hm, hl, true, rfl, ?_⟩
  refine (show (if (!true) = true then _ else _) from ?_)
  rw [if_neg (by decide)]
  exact q
theorem ok_then (F : FM K "then" "Map.then" s_then f fd) (O : TcO K C CM kd) (CH : Kn P w K mg base 4 "check_map" fC dC ["value", "kind"] (spChkMap C kd)) (GF : FnOk P w K mg base CX0 6 fF dF ["self", "other"] sp) (bF : Binds K dF ["self", "other"] []) (mF : Meth K C "_followed" fF) : FnOk P w K mg base CX0 7 f fd ["self", "other"] (spThen C sp) := by
  refine F.ok sc_then (fun vs H Q E h => ?_) (fun cdv A outer s H vs Q E hr h => ?_)
  · obtain ⟨m, o, d1, d2, f1, f2, rfl, _⟩ := h
    rfl
  obtain ⟨m, o, d1, d2, f1, f2, rfl, hm, ho, k2, k1, kf, q⟩ := h
  obtain ⟨u1, c1⟩ := O.knd
  refine ⟨_, PSs.nox (pss_cons (ps_expr (pe_call CH.f (hr.mono (by decide)) rfl CH.m CH.k CH.b .nil pass0 (pa_cons (pv 1) (pa_cons (pe_con (pv 0) rfl) pa_nil))))
    (pss_one (ps_ret (pe_meth (pv 0) O.cl mF GF hr bF .nil pass0 (pa_cons (pv 1) pa_nil))))), ?_⟩
  exact ⟨_, rfl, _, rfl, m, C, d1, _, _, u1, rfl, hm, O.cl, c1, k1, o, d2, f2, rfl, ho, k2, _, rfl, m, d1, _, rfl, hm, kf, _, rfl, q⟩
end
end C4

end Pq4n
section Pq4o
set_option maxHeartbeats 4000000
namespace C4
open PySem PySem.Spec L2 PyProof.Rows
open T (atV orV Tab TMap RestOk NormOf spInitT put_new take_put get_at MkT)
/-! ### what a row of mappings says -/
abbrev s_allat : Stmt := top 61
abbrev nAll : List Str := ["_law_row", "_law_value", "_law_made", "_law_mapping_here"]
theorem sc_allat : FnScope nAll ["_law_row", "_law_value"] (defScope s_allat) := ⟨rfl, rfl, rfl, by decide +kernel, rfl, by decide +kernel, by decide +kernel⟩
def allN (ls : List (List Pc)) (x : Int) : Int := ls.foldl (fun y l => evalP l y) x
abbrev TM : Type := List (Str × Str) × V
/-- a word, as a mapping of texts says -/
def atS (x : TM) (z : Str) : Str := match atV (kvW x.1) x.2 z with
  | .str u => u
  | _ => z
def allT (xs : List TM) (z : Str) : Str := xs.foldl (fun y x => atS x y) z
def spAllN : Sp := fun vs H Q _ => ∃ (R : Addr) (as : List Addr) (ls : List (List Pc)) (x : Int), vs = [.ref R, .int x] ∧ H R = some (.lst (as.map V.ref)) ∧ Paired (NumAt H) as ls ∧ (∀ l ∈ ls, chn none l) ∧ Q (.int (allN ls x)) H
def spAllT : Sp := fun vs H Q _ => ∃ (R : Addr) (as : List Addr) (xs : List TM) (z : Str) (n : Nat), vs = [.ref R, .str z] ∧ H R = some (.lst (as.map V.ref)) ∧ Paired (fun a (x : TM) => TxtAt H a x.1 x.2) as xs ∧ (∀ x ∈ xs, RwOk n x.1 ∧ RestOk x.2) ∧ ∀ H', Same H H' → Q (.str (allT xs z)) H'
theorem at_str {n : Nat} {x : TM} (o : RwOk n x.1) (ro : RestOk x.2) (z : Str) : atV (kvW x.1) x.2 z = .str (atS x z) := by
  have key : ∃ u, atV (kvW x.1) x.2 z = .str u := by
    cases e : valV (kvW x.1) (Sum.inr z) with
    | some v =>
      have hm := valV_mem e
      obtain ⟨p, _, hp⟩ := List.mem_map.mp hm
      cases hp
      exact ⟨_, T.atV_of e⟩
    | none =>
      have := T.atV_of (r := x.2) e
      rcases ro with h | ⟨y, h, _⟩
      · rw [h] at this ⊢
        exact ⟨z, this⟩
      · rw [h] at this ⊢
        exact ⟨y, this⟩
  obtain ⟨u, e⟩ := key
  unfold atS
  rw [e]
section
variable {P : Program} {w : World} {K : PySem.W.Frag} {mg : Str → Option Value} {base : Heap} {f fA : Addr} {fd dA : FuncData}
theorem ok_allN (F : FD K "_law_all_at" s_allat f fd) (AT : Kn P w K mg base 1 "_law_at" fA dA ["_law_mapping_here", "_law_value"] spLatN) : FnOk P w K mg base CX0 2 f fd ["_law_row", "_law_value"] spAllN := by
  refine F.ok sc_allat (fun vs H Q E h => ?_) (fun cdv A outer s H vs Q E hr h => ?_)
  · obtain ⟨R, as, ls, x, rfl, _⟩ := h
    rfl
  obtain ⟨R, as, ls, x, rfl, hR, pa, hc, q⟩ := h
  refine ⟨_, PSs.nox (pss_cons (ps_set (i := 2) sc_allat.nd rfl (Or.inl rfl) (pv 1))
    (pss_cons (ps_for .never (by rfl) (pi_list (pv 0)) (pg_name (i := 3) sc_allat.nd rfl (Or.inl rfl)) (pss_one (ps_set (i := 2) sc_allat.nd rfl (Or.inl rfl) (pe_call AT.f hr rfl AT.m AT.k AT.b .nil pass0 (pa_cons (pv 3) (pa_cons (pv 2) pa_nil))))))
    (pss_one (ps_ret (pv 2))))), ?_⟩
  have al : as.length = ls.length := pa.length
  refine ⟨_, rfl, ?_⟩
  dsimp only [gName]
  refine normS (σ' := [some (.ref R), some (.int x), some (.int x), none]) rfl ?_
  refine ⟨_, rfl, R, rfl, ⟨_, SqL.of hR⟩, ?_⟩
  refine for_list (xs := as.map V.ref) (fun i σ' H' => H' = H ∧ ∃ c : Option V, σ' = [some (.ref R), some (.int x), some (.int (allN (ls.take i) x)), c]) ⟨rfl, none, rfl⟩ (fun i σ' H' _ ⟨e, _⟩ => by rw [e]; exact SqL.of hR) (fun i y σ' H' hy ⟨e, c, eσ⟩ => ?_) (fun σ' H' ⟨e, c, eσ⟩ => ?_)
  · subst e eσ
    have il : i < ls.length := by
      have := (List.getElem?_eq_some_iff.mp hy).1
      rw [List.length_map] at this
      omega
    have hl : ls[i]? = some (ls[i]'il) := List.getElem?_eq_getElem il
    generalize ls[i]'il = l at hl
    obtain ⟨a, e1, e2⟩ := paired_at pa hl
    rw [List.getElem?_map, e1] at hy
    cases (show V.ref a = y from Option.some.inj hy)
    have tk : ls.take (i + 1) = ls.take i ++ [l] := by rw [List.take_succ, hl]; rfl
    refine ⟨_, rfl, _, rfl, a, l, _, rfl, e2, hc l (List.mem_of_getElem? hl), rfl, some (.ref a), ?_⟩
    have ee : allN (ls.take (i + 1)) x = evalP l (allN (ls.take i) x) := by
      unfold allN
      rw [tk, List.foldl_append] <;> rfl
    rw [ee] <;> rfl
  · subst e eσ
    rw [List.length_map, al, List.take_length]
    exact ⟨_, rfl, q⟩
theorem ok_allT (F : FD K "_law_all_at" s_allat f fd) (AT : Kn P w K mg base 1 "_law_at" fA dA ["_law_mapping_here", "_law_value"] spLatT) : FnOk P w K mg base CX0 2 f fd ["_law_row", "_law_value"] spAllT := by
  refine F.ok sc_allat (fun vs H Q E h => ?_) (fun cdv A outer s H vs Q E hr h => ?_)
  · obtain ⟨R, as, xs, z, n, rfl, _⟩ := h
    rfl
  obtain ⟨R, as, xs, z, n, rfl, hR, pa, hc, q⟩ := h
  refine ⟨_, PSs.nox (pss_cons (ps_set (i := 2) sc_allat.nd rfl (Or.inl rfl) (pv 1))
    (pss_cons (ps_for .never (by rfl) (pi_list (pv 0)) (pg_name (i := 3) sc_allat.nd rfl (Or.inl rfl)) (pss_one (ps_set (i := 2) sc_allat.nd rfl (Or.inl rfl) (pe_call AT.f hr rfl AT.m AT.k AT.b .nil pass0 (pa_cons (pv 3) (pa_cons (pv 2) pa_nil))))))
    (pss_one (ps_ret (pv 2))))), ?_⟩
  have al : as.length = xs.length := pa.length
  refine ⟨_, rfl, ?_⟩
  dsimp only [gName]
  refine normS (σ' := [some (.ref R), some (.str z), some (.str z), none]) rfl ?_
  refine ⟨_, rfl, R, rfl, ⟨_, SqL.of hR⟩, ?_⟩
  refine for_list (xs := as.map V.ref) (fun i σ' H' => Same H H' ∧ ∃ c : Option V, σ' = [some (.ref R), some (.str z), some (.str (allT (xs.take i) z)), c]) ⟨fun _ _ e => e, none, rfl⟩ (fun i σ' H' _ ⟨e, _⟩ => SqL.of (e _ _ hR)) (fun i y σ' H' hy ⟨e, c, eσ⟩ => ?_) (fun σ' H' ⟨e, c, eσ⟩ => ?_)
  · subst eσ
    have il : i < xs.length := by
      have := (List.getElem?_eq_some_iff.mp hy).1
      rw [List.length_map] at this
      omega
    have hl : xs[i]? = some (xs[i]'il) := List.getElem?_eq_getElem il
    generalize xs[i]'il = l at hl
    obtain ⟨a, e1, e2⟩ := paired_at pa hl
    rw [List.getElem?_map, e1] at hy
    cases (show V.ref a = y from Option.some.inj hy)
    have tk : xs.take (i + 1) = xs.take i ++ [l] := by rw [List.take_succ, hl]; rfl
    obtain ⟨o, ro⟩ := hc l (List.mem_of_getElem? hl)
    refine ⟨_, rfl, _, rfl, a, l.1, l.2, _, n, rfl, TxtAt.same e e2, o, ro, fun H3 s3 => ⟨e.trans s3, some (.ref a), ?_⟩⟩
    have ee : allT (xs.take (i + 1)) z = atS l (allT (xs.take i) z) := by
      unfold allT
      rw [tk, List.foldl_append] <;> rfl
    rw [ee, at_str o ro] <;> rfl
  · subst eσ
    rw [List.length_map, al, List.take_length]
    exact ⟨_, rfl, q _ e⟩
end
end C4

end Pq4o
section Pq4p
set_option maxHeartbeats 4000000
namespace C4
open PySem PySem.Spec L2 PyProof.Rows
/-! ### NumberMap.same(), NumberMap.constant_map(value) -/
theorem sc_nsame : FnScope ["cls"] ["cls"] (defScope s_nsame) := ⟨rfl, rfl, rfl, by decide +kernel, rfl, by decide +kernel, by decide +kernel⟩
theorem sc_nconst : FnScope ["cls", "value"] ["cls", "value"] (defScope s_nconst) := ⟨rfl, rfl, rfl, by decide +kernel, rfl, by decide +kernel, by decide +kernel⟩
def spSame (C : Addr) : Sp := fun vs H Q _ => vs = [.ref C] ∧ NewN C [(none, none, none)] H Q
def spConst (C : Addr) : Sp := fun vs H Q _ => ∃ v : Int, vs = [.ref C, .int v] ∧ NewN C [(none, none, some v)] H Q
section
variable {P : Program} {w : World} {K : PySem.W.Frag} {mg : Str → Option Value} {base : Heap} {f fI fS fN fA C : Addr} {fd dI dS dN dA : FuncData}
theorem ok_nsame (F : FM K "same" "NumberMap.same" s_nsame f fd) (M : MkN P w K mg base C fI dI) : FnOk P w K mg base CX0 6 f fd ["cls"] (spSame C) := by
  refine F.ok sc_nsame (fun vs H Q E h => ?_) (fun cdv A outer s H vs Q E hr h => ?_)
  · obtain ⟨rfl, _⟩ := h
    rfl
  obtain ⟨rfl, q⟩ := h
  refine ⟨_, PSs.nox (pss_one (ps_ret (pe_makeL (i := 0) M.mkC M.g hr rfl (.inl rfl) M.b .nil pass0 (pa_cons (pe_lst (pa_cons (pe_tup (pa_cons pe_non (pa_cons pe_non (pa_cons pe_non pa_nil)))) pa_nil)) pa_nil)))), ?_⟩
  refine ⟨rfl, by show 3 ≤ sizeLine; decide, fun t ht => ⟨by show 1 ≤ sizeLine; decide, fun g hg => ?_⟩⟩
  have s1 : Same H (upd (upd H t (.tup [.non, .non, .non])) g (.lst [.ref t])) := (same_upd ht).trans (same_upd hg)
  have l1 : LstAt (upd (upd H t (.tup [.non, .non, .non])) g (.lst [.ref t])) g [(none, none, none)] := ⟨[t], upd_same, .cons ((same_upd hg) _ _ upd_same) .nil⟩
  exact made_p l1.pcs ⟨rfl, .inl ⟨rfl, rfl⟩⟩ (by decide) fun m n H' a b c d => q m n H' a b c (s1.trans d)
theorem ok_nconst (F : FM K "constant_map" "NumberMap.constant_map" s_nconst f fd) (M : MkN P w K mg base C fI dI) (N : Kn P w K mg base 1 "is_number" fN dN ["value"] (spIsNumber K)) : FnOk P w K mg base CX0 6 f fd ["cls", "value"] (spConst C) := by
  refine F.ok sc_nconst (fun vs H Q E h => ?_) (fun cdv A outer s H vs Q E hr h => ?_)
  · obtain ⟨v, rfl, _⟩ := h
    rfl
  obtain ⟨v, rfl, q⟩ := h
  refine ⟨_, PSs.nox (pss_cons (ps_if (pt_not (pt_val (pe_call N.f (hr.mono (by decide)) rfl N.m N.k N.b .nil pass0 (pa_cons (pv 1) pa_nil)))) pss_never pss_nil)
    (pss_one (ps_ret (pe_makeL (i := 0) M.mkC M.g hr rfl (.inl rfl) M.b .nil pass0 (pa_cons (pe_lst (pa_cons (pe_tup (pa_cons pe_non (pa_cons pe_non (pa_cons (pv 1) pa_nil)))) pa_nil)) pa_nil))))), ?_⟩
  refine ⟨_, rfl, .int v, .type "int", true, false, rfl, .base (.int v), kit_ty (show kitB "int" "int" = some true by decide +kernel), kit_ty (show kitB "int" "bool" = some false by decide +kernel), fun H1 s0 => ⟨true, rfl, ?_⟩⟩
  refine (show (if (!true) = true then _ else _) from ?_)
  rw [if_neg (by decide)]
  refine ⟨rfl, _, rfl, by show 3 ≤ sizeLine; decide, fun t ht => ⟨by show 1 ≤ sizeLine; decide, fun g hg => ?_⟩⟩
  have s1 : Same H1 (upd (upd H1 t (.tup [.non, .non, .int v])) g (.lst [.ref t])) := (same_upd ht).trans (same_upd hg)
  have l1 : LstAt (upd (upd H1 t (.tup [.non, .non, .int v])) g (.lst [.ref t])) g [(none, none, some v)] := ⟨[t], upd_same, .cons ((same_upd hg) _ _ upd_same) .nil⟩
  exact made_p l1.pcs ⟨rfl, .inl ⟨rfl, rfl⟩⟩ (by show 1 ≤ 1000; decide) fun m n H' a b c d => q m n H' a b c ((Same.trans s0 s1).trans d)
end
end C4

end Pq4p
section Pq4q
set_option maxHeartbeats 4000000
namespace C4.T
open C4
open PySem PySem.Spec L2 PyProof.Rows
/-! ### one map of texts after another -/
abbrev s_tfol : Stmt := inCls (top 38) 10
abbrev nTfol : List Str := ["self", "other", "found", "old", "new"]
theorem sc_tfol : FnScope nTfol ["self", "other"] (defScope s_tfol) := ⟨rfl, rfl, rfl, by decide +kernel, rfl, by decide +kernel, by decide +kernel⟩
/-- a map of texts whose exceptions may be walked -/
def TMapF (C : Addr) (H : Hp) (m : Addr) (kvs : List (Key × V)) (r : V) : Prop := ∃ dx d, H m = some (.ins C dx [("_rest", r), ("_exceptions", .ref d)]) ∧ Rd H d (.dK kvs)
def spResultF (C : Addr) : Sp := fun vs H Q _ => ∃ (m : Addr) (kvs : List (Key × V)) (r : V) (z : Str), vs = [.ref m, .str z] ∧ TMapF C H m kvs r ∧ Q (atV kvs r z) H
/-- words put after one another -/
def putAll (g : V → V) (acc l : List (Key × V)) : List (Key × V) := l.foldl (fun a q => putK a q.1 (g q.2)) acc
theorem val_all (g : V → V) : ∀ (l acc : List (Key × V)) (k : Key), (l.map (·.1)).Nodup → valV (putAll g acc l) k = match valV l k with
    | some v => some (g v)
    | none => valV acc k
  | [], acc, k, _ => rfl
  | q :: r, acc, k, nd => by
    obtain ⟨n1, n2⟩ := List.nodup_cons.mp (show (q.1 :: r.map (·.1)).Nodup from nd)
    show valV (putAll g (putK acc q.1 (g q.2)) r) k = _
    rw [val_all g r _ k n2]
    by_cases c : q.1 = k
    · have e : valV r k = none := by
        cases z : valV r k with
        | none => rfl
        | some v => exact absurd (c ▸ valV_key.mp (by rw [z]; rfl)) n1
      rw [e, valV_pos c]
      show valV (putK acc q.1 (g q.2)) k = some (g q.2)
      rw [valV_put, if_pos c.symm]
    · rw [valV_neg c]
      cases z : valV r k with
      | some v => rfl
      | none =>
        show valV (putK acc q.1 (g q.2)) k = valV acc k
        rw [valV_put, if_neg fun y => c y.symm]
/-- what the second map makes of a word -/
def gOf (ex : List (Key × V)) (r : V) : V → V
  | .str z => atV ex r z
  | v => v
def restOf (r1 : V) (ex2 : List (Key × V)) (r2 : V) : V := match r1 with
  | .str y => atV ex2 r2 y
  | _ => r2
def baseOf (r1 : V) (ex2 : List (Key × V)) : List (Key × V) := match r1 with
  | .str _ => []
  | _ => ex2
theorem at_word {n : Nat} {ex : List (Key × V)} {r : V} (t : Tab n ex) (ro : RestOk r) {z : Str} (hz : wordB z 12 = true) : ∃ u, atV ex r z = .str u ∧ wordB u 12 = true := by
  cases e : valV ex (Sum.inr z) with
  | some v =>
    obtain ⟨i, hi⟩ : ∃ q ∈ ex, q = (Sum.inr z, v) := ⟨_, valV_mem e, rfl⟩
    obtain ⟨a, b, eq, wa, wb⟩ := t.each _ hi.1
    rw [hi.2] at eq
    cases eq
    exact ⟨b, atV_of e, wb⟩
  | none =>
    have a := atV_of (r := r) e
    rcases ro with rfl | ⟨y, rfl, hy⟩
    · exact ⟨z, a, hz⟩
    · exact ⟨y, a, hy⟩
/-- what is found says what the two maps say after one another -/
theorem fol_at {n1 n2 : Nat} {ex1 ex2 : List (Key × V)} {r1 r2 : V} (t1 : Tab n1 ex1) (t2 : Tab n2 ex2) (o1 : RestOk r1) (o2 : RestOk r2) (z : Str) (hz : ∃ u, atV ex1 r1 z = .str u) :
    ∃ u, atV ex1 r1 z = .str u ∧ atV (putAll (gOf ex2 r2) (baseOf r1 ex2) ex1) (restOf r1 ex2 r2) z = atV ex2 r2 u := by
  obtain ⟨u, e⟩ := hz
  refine ⟨u, e, ?_⟩
  have key := val_all (gOf ex2 r2) ex1 (baseOf r1 ex2) (Sum.inr z) t1.nd
  unfold atV at e
  cases h : valV ex1 (Sum.inr z) with
  | some v =>
    rw [h] at e key
    have e' : v = .str u := e
    subst e'
    exact atV_of key
  | none =>
    rw [h] at e key
    have e' : orV r1 z = .str u := e
    rw [atV_of key]
    rcases o1 with rfl | ⟨y, rfl, hy⟩
    · have : z = u := V.str.inj e'
      subst this
      exact (atV_of rfl).symm
    · have : y = u := V.str.inj e'
      subst this
      show orV (atV ex2 r2 y) z = atV ex2 r2 y
      obtain ⟨w, e2, _⟩ := at_word t2 o2 hy
      rw [e2]
      exact if_neg fun x => nomatch x
theorem tab_all {g : V → V} : ∀ {l acc : List (Key × V)} {n : Nat}, Tab n acc → (∀ q ∈ l, ∃ a w : Str, q.1 = Sum.inr a ∧ g q.2 = .str w ∧ wordB a 12 = true ∧ wordB w 12 = true) → Tab (n + l.length) (putAll g acc l)
  | [], _, _, t, _ => t
  | q :: r, acc, n, t, h => by
    obtain ⟨a, w, e1, e2, wa, ww⟩ := h q List.mem_cons_self
    have t2 : Tab (n + 1) (putK acc q.1 (g q.2)) := by
      rw [e1, e2]
      exact t.put wa ww
    have := tab_all t2 fun x hx => h x (List.mem_cons_of_mem _ hx)
    rw [List.length_cons, Nat.add_comm r.length 1, ← Nat.add_assoc]
    exact this
theorem rest_of {n2 : Nat} {ex2 : List (Key × V)} {r1 r2 : V} (t2 : Tab n2 ex2) (o1 : RestOk r1) (o2 : RestOk r2) : RestOk (restOf r1 ex2 r2) := by
  rcases o1 with rfl | ⟨y, rfl, hy⟩
  · exact o2
  · obtain ⟨w, e, hw⟩ := at_word t2 o2 hy
    exact .inr ⟨w, e, hw⟩
theorem base_of {n2 : Nat} {ex2 : List (Key × V)} {r1 : V} (t2 : Tab n2 ex2) : Tab n2 (baseOf r1 ex2) := by
  unfold baseOf
  split
  · exact ⟨fun q h => absurd h List.not_mem_nil, List.nodup_nil, Nat.zero_le _⟩
  · exact t2
theorem seq_made0 {te : TE} {u : TS} {D : Ends} {σ : L2.St} {σ2 : Addr → L2.St} {H : Hp} {i : Nat} {kvs : List (Key × V)} (h1 : ∀ Q : VK, (∀ g H1, H g = none → Same H H1 → H1 g = some (.dK kvs) → Q (.ref g) H1) → te σ H Q) (hs : ∀ g, σ.set i (some (.ref g)) = σ2 g) (h2 : ∀ g H1, H g = none → Same H H1 → H1 g = some (.dK kvs) → u D (σ2 g) H1) :
    tSeq (tAsg te (gName i)) u D σ H := h1 _ fun g H1 n s hg => by
  have z := h2 g H1 n s hg
  rw [← hs g] at z
  exact z
def spFolT (C : Addr) : Sp := fun vs H Q _ => ∃ (m o : Addr) (ex1 ex2 : List (Key × V)) (r1 r2 : V) (n1 n2 : Nat), vs = [.ref m, .ref o] ∧ TMap C H m ex1 r1 ∧ TMap C H o ex2 r2 ∧ Tab n1 ex1 ∧ Tab n2 ex2 ∧ RestOk r1 ∧ RestOk r2 ∧ n1 + n2 ≤ 60 ∧
  NewT C (putAll (gOf ex2 r2) (baseOf r1 ex2) ex1) (restOf r1 ex2 r2) H Q
section
variable {P : Program} {w : World} {K : PySem.W.Frag} {mg : Str → Option Value} {base : Heap} {f fU fR fX fI C : Addr} {fd dU dR dX dI : FuncData}
theorem ok_resultF (F : FM K "_result" "TextMap._result" s_result f fd) (T : TMc K C) (GU : FnOk P w K mg base CX0 1 fU dU ["self", "value"] (spUsual C)) (bU : Binds K dU ["self", "value"] []) (mU : Meth K C "_usual" fU) : FnOk P w K mg base CX0 2 f fd ["self", "value"] (spResultF C) := by
  refine F.ok sc_result (fun vs H Q E h => ?_) (fun cdv A outer s H vs Q E hr h => ?_)
  · obtain ⟨m, kvs, r, z, rfl, _⟩ := h
    rfl
  obtain ⟨m, kvs, r, z, rfl, ⟨dx, d, hm, hd⟩, q⟩ := h
  have hu := hr.units
  have hu1 : A.units + 3 + 1 < cLine := by have h : A.units + 3 + 64 < cLine := hu; omega
  refine ⟨_, PSs.nox (pss_one (ps_ret (pe_dget2 hu1 (pe_fld (pv 0) rfl) (pv 1) (pe_meth (pv 0) T.cl mU GU hr bU .nil pass0 (pa_cons (pv 1) pa_nil)) (by constructor <;> rfl)))), ?_⟩
  refine ⟨_, rfl, m, C, dx, _, .ref d, rfl, hm, T.cl, T.nE, rfl, ?_⟩
  refine ⟨d, rfl, .inl ⟨kvs, hd⟩, ?_⟩
  refine ⟨_, rfl, _, rfl, m, dx, _, rfl, hm, rfl, _, rfl, m, dx, _, r, z, rfl, hm, rfl, ?_⟩
  refine ⟨_, .inl ⟨kvs, Sum.inr z, hd, rfl, rfl⟩, ?_⟩
  unfold atV at q
  cases e : valV kvs (Sum.inr z) with
  | some v =>
    rw [e] at q
    exact q
  | none =>
    rw [e] at q
    exact q
theorem ok_followT (F : FM K "_followed" "TextMap._followed" s_tfol f fd) (T : TMc K C) (GX : FnOk P w K mg base CX0 1 fX dX ["self"] (spExceptions C)) (bX : Binds K dX ["self"] []) (mX : Meth K C "exceptions" fX) (GR : FnOk P w K mg base CX0 2 fR dR ["self", "value"] (spResultF C)) (bR : Binds K dR ["self", "value"] []) (mR : Meth K C "_result" fR) (MT : MkT P w K mg base C fI dI) :
    FnOk P w K mg base CX0 5 f fd ["self", "other"] (spFolT C) := by
  refine F.ok sc_tfol (fun vs H Q E h => ?_) (fun cdv A outer s H vs Q E hr h => ?_)
  · obtain ⟨m, o, _, _, _, _, _, _, rfl, _⟩ := h
    rfl
  obtain ⟨m, o, ex1, ex2, r1, r2, n1, n2, rfl, ⟨d1x, d1, hm, hd1⟩, ⟨d2x, d2, ho, hd2⟩, t1, t2, o1, o2, len, q⟩ := h
  have hu := hr.units
  have hu1 : A.units + 3 + 1 < cLine := by have h : A.units + 3 + 64 < cLine := hu; omega
  refine ⟨_, PSs.nox (pss_cons (ps_set (i := 2) sc_tfol.nd rfl (Or.inl rfl) (pe_ifExp (pt_cmp (pc_notN (pe_fld (pv 0) rfl))) pe_dnewK (pe_meth0 (pv 1) T.cl mX GX (hr.mono (by decide)) bX .nil pass0)))
    (pss_cons (ps_lock (ps_for .never (by rfl) (pi_items (pe_fld (pv 0) rfl)) (pg_tup (by rfl) (pgs_cons (pg_name (i := 3) sc_tfol.nd rfl (Or.inl rfl)) (pgs_cons (pg_name (i := 4) sc_tfol.nd rfl (Or.inl rfl)) pgs_nil)))
      (pss_one (ps_dput hu1 (pv 2) (pv 3) (pe_meth (pv 1) T.cl mR GR (hr.mono (by decide)) bR .nil pass0 (pa_cons (pv 4) pa_nil)) rfl))))
    (pss_one (ps_ret (pe_make MT.mkC MT.g hr rfl MT.m MT.b .nil pass0 (pa_cons (pv 2) (pa_cons (pe_ifExp (pt_cmp (pc_isN (pe_fld (pv 0) rfl))) (pe_fld (pv 1) rfl) (pe_meth (pv 1) T.cl mR GR (hr.mono (by decide)) bR .nil pass0 (pa_cons (pe_fld (pv 0) rfl) pa_nil))) pa_nil))))))), ?_⟩
  refine seq_made0 (kvs := baseOf r1 ex2) (σ2 := fun g => [some (.ref m), some (.ref o), some (.ref g), none, none]) (fun Q' k => ?_) (fun _ => rfl) (fun g H1 hg0 s1 hg => ?_)
  · rcases o1 with rfl | ⟨y, rfl, hy⟩
    · refine ⟨_, rfl, m, C, d1x, _, .non, rfl, hm, T.cl, T.nR, rfl, _, rfl, ?_⟩
      refine (show (if (!decide (V.non = V.non)) = true then _ else _) from ?_)
      rw [decide_eq_true rfl, if_neg (by decide)]
      exact ⟨_, rfl, o, d2x, _, rfl, ho, rfl, o, ex2, r2, rfl, ⟨d2x, d2, ho, hd2⟩, t2.nd, by have := t2.len; omega, fun D H1 e s1 hD => k D H1 e s1 hD⟩
    · refine ⟨_, rfl, m, C, d1x, _, .str y, rfl, hm, T.cl, T.nR, rfl, _, rfl, ?_⟩
      refine (show (if (!decide (V.str y = V.non)) = true then _ else _) from ?_)
      rw [decide_eq_false (fun z => nomatch z), if_pos (by decide)]
      exact fun D hD => k D _ hD (same_upd hD) upd_same
  have hm1 := s1 _ _ hm
  have ho1 := s1 _ _ ho
  have hd11 := s1 _ _ hd1
  have hd21 := s1 _ _ hd2
  have ngd : g ≠ d1 := fun e => by
    rw [e, hd1] at hg0
    cases hg0
  have ngd2 : g ≠ d2 := fun e => by
    rw [e, hd2] at hg0
    cases hg0
  have nmd : m ≠ d1 := fun e => by
    rw [e, hd1] at hm
    cases hm
  have nod : o ≠ d1 := fun e => by
    rw [e, hd1] at ho
    cases ho
  have each : ∀ q ∈ ex1, ∃ a w : Str, q.1 = Sum.inr a ∧ gOf ex2 r2 q.2 = .str w ∧ wordB a 12 = true ∧ wordB w 12 = true := fun p hp => by
    obtain ⟨a, b, rfl, wa, wb⟩ := t1.each p hp
    obtain ⟨w, e, hw⟩ := at_word t2 o2 wb
    exact ⟨a, w, rfl, e, wa, hw⟩
  have tb := base_of (r1 := r1) t2
  have hmF : ∀ od, (upd H1 d1 (.frz od (.dK ex1))) m = some (.ins C d1x [("_rest", r1), ("_exceptions", .ref d1)]) := fun od => by rw [upd_ne nmd]; exact hm1
  have hoF : ∀ od, (upd H1 d1 (.frz od (.dK ex1))) o = some (.ins C d2x [("_rest", r2), ("_exceptions", .ref d2)]) := fun od => by rw [upd_ne nod]; exact ho1
  have hgF : ∀ od, (upd H1 d1 (.frz od (.dK ex1))) g = some (.dK (baseOf r1 ex2)) := fun od => by rw [upd_ne ngd]; exact hg
  have hdF : ∀ od, Rd (upd H1 d1 (.frz od (.dK ex1))) d2 (.dK ex2) := fun od => by
    by_cases c : d2 = d1
    · rw [c] at hd21
      rw [hd21] at hd11
      cases hd11
      exact .inr ⟨od, by rw [c]; exact upd_same⟩
    · exact .inl (by rw [upd_ne c]; exact hd21)
  refine ⟨d1, _, hd11, trivial, fun od => ⟨_, rfl, m, C, d1x, _, .ref d1, rfl, hmF od, T.cl, T.nE, rfl, d1, od, ex1, rfl, upd_same, ?_⟩⟩
  refine for_it walk_items (fun i σ' H' => (∃ x3 x4 : Option V, σ' = [some (.ref m), some (.ref o), some (.ref g), x3, x4]) ∧ Bt g (upd H1 d1 (.frz od (.dK ex1))) H' ∧ H' g = some (.dK (putAll (gOf ex2 r2) (baseOf r1 ex2) (ex1.take i)))) ⟨⟨none, none, rfl⟩, fun _ _ _ e => e, hgF od⟩ (fun i σ' H' _ ⟨_, z, _⟩ => z _ _ (Ne.symm ngd) upd_same) (fun i x σ' H' H'' hi ⟨⟨x3, x4, e0⟩, z, hgi⟩ y => ?_) (fun σ' H' ⟨⟨x3, x4, e0⟩, z, hgi⟩ => ?_)
  · subst e0
    obtain ⟨Tq, kx, v, rfl, nT, rfl, e1, e2⟩ := y
    have ei : ex1[i]? = some (ex1[i]'hi) := List.getElem?_eq_getElem hi
    obtain ⟨a, b, eab, wa, wb⟩ := t1.each _ (List.getElem_mem hi)
    replace e1 : ex1[i]?.map (fun kv => kV kv.1) = some kx := e1
    replace e2 : ex1[i]?.map Prod.snd = some v := e2
    have tk : ex1.take (i + 1) = ex1.take i ++ [(Sum.inr a, V.str b)] := by rw [List.take_succ, ei, eab]; rfl
    rw [ei, eab] at e1 e2
    cases e1
    cases e2
    have sT := same_upd (o := HO.tup [V.str a, V.str b]) nT
    have nTg : g ≠ Tq := ne_of_none hgi nT
    refine ⟨Tq, _, rfl, SqT.of upd_same, rfl, _, _, rfl, _, _, rfl, rfl, ?_⟩
    have ng1 : o ≠ g := fun e => by
      have := hoF od
      rw [e, hgF od] at this
      cases this
    have ho2 := sT _ _ (z _ _ ng1 (hoF od))
    have hd2 : Rd (upd H' Tq (.tup [V.str a, V.str b])) d2 (.dK ex2) := by
      rcases hdF od with e | ⟨oo, e⟩
      · exact .inl (sT _ _ (z _ _ (Ne.symm ngd2) e))
      · exact .inr ⟨oo, sT _ _ (z _ _ (Ne.symm ngd2) e)⟩
    have tbi := tab_all (l := ex1.take i) tb fun p hp => each p (List.mem_of_mem_take hp)
    have li : (putAll (gOf ex2 r2) (baseOf r1 ex2) (ex1.take i)).length ≤ 200 := by
      have h1 := tbi.len
      have h2 := t1.len
      rw [List.length_take] at h1
      omega
    refine ⟨_, rfl, o, d2x, _, rfl, ho2, rfl, _, rfl, o, ex2, r2, b, rfl, ⟨d2x, d2, ho2, hd2⟩, _, rfl, _, rfl, g, _, rfl, DPut.k (k := Sum.inr a) (sT _ _ hgi) (Nat.lt_of_le_of_lt li (by decide)), ⟨_, _, rfl⟩, fun c u nc e => ?_, ?_⟩
    · rw [upd_ne nc]
      exact sT _ _ (z _ _ nc e)
    · rw [upd_same, tk]
      unfold putAll
      rw [List.foldl_append] <;> rfl
  subst e0
  rw [List.take_length] at hgi
  refine ⟨z _ _ (Ne.symm ngd) upd_same, ?_⟩
  have s3 : Same H (upd H' d1 (.dK ex1)) := fun c u e => by
    by_cases h : c = d1
    · rw [h, upd_same, ← hd1, ← h]
      exact e
    · rw [upd_ne h]
      exact z _ _ (ne_of_none e hg0) (by rw [upd_ne h]; exact s1 _ _ e)
  have hg3 : (upd H' d1 (.dK ex1)) g = some (.dK (putAll (gOf ex2 r2) (baseOf r1 ex2) ex1)) := by rw [upd_ne ngd]; exact hgi
  generalize upd H' d1 (.dK ex1) = H3 at s3 hg3
  have hm3 := s3 _ _ hm
  have ho3 := s3 _ _ ho
  have hd3 := s3 _ _ hd2
  have t6 : Tab 60 (putAll (gOf ex2 r2) (baseOf r1 ex2) ex1) := (tab_all tb each).mono (by have := t1.len; omega)
  have fin := made_t (C := C) hg3 t6 (rest_of t2 o1 o2) fun r' exx H4 h1 h2 s4 => q r' exx H4 h1 h2 (s3.trans s4)
  rcases o1 with rfl | ⟨y, rfl, hy⟩
  · refine ⟨_, rfl, _, rfl, m, C, d1x, _, .non, rfl, hm3, T.cl, T.nR, rfl, _, rfl, ?_⟩
    refine (show (if decide (V.non = V.non) = true then _ else _) from ?_)
    rw [decide_eq_true rfl, if_pos rfl]
    exact ⟨_, rfl, o, C, d2x, _, r2, rfl, ho3, T.cl, T.nR, rfl, fin⟩
  · refine ⟨_, rfl, _, rfl, m, C, d1x, _, .str y, rfl, hm3, T.cl, T.nR, rfl, _, rfl, ?_⟩
    refine (show (if decide (V.str y = V.non) = true then _ else _) from ?_)
    rw [decide_eq_false (fun z => nomatch z), if_neg (by decide)]
    exact ⟨_, rfl, o, d2x, _, rfl, ho3, rfl, _, rfl, m, C, d1x, _, .str y, rfl, hm3, T.cl, T.nR, rfl, o, ex2, r2, y, rfl, ⟨d2x, d2, ho3, .inl hd3⟩, fin⟩
end
end C4.T

end Pq4q
section Pq4r
set_option maxHeartbeats 8000000
namespace C4
open PySem PySem.Spec L2 PyProof.Rows
/-! ### the points of a row of mappings of numbers -/
abbrev s_points : Stmt := top 63
abbrev nPts : List Str := ["_law_row", "_law_words", "_law_ends", "_law_shape", "_law_pairs", "_law_rest", "_law_low", "_law_high", "_law_what", "_law_end", "_law_spots", "_law_word_here", "_law_goal"]
theorem sc_points : FnScope nPts ["_law_row"] (defScope s_points) := ⟨rfl, rfl, rfl, by decide +kernel, rfl, by decide +kernel, by decide +kernel⟩
def oL : Option Int → List Int
  | none => []
  | some i => [i]
def intsP (p : Pc) : List Int := oL p.1 ++ oL p.2.1 ++ oL p.2.2
def near (v : Int) : List Int := [v - 2, v - 1, v, v + 1, v + 2]
/-- the ints among values -/
def intsV : List V → List Int
  | [] => []
  | .int i :: r => i :: intsV r
  | _ :: r => intsV r
theorem intsV_snoc : ∀ (l : List V) (a : Option Int), intsV (l ++ [oV a]) = intsV l ++ oL a
  | [], a => by cases a <;> rfl
  | y :: l, a => by
    have ih := intsV_snoc l a
    cases y <;> simp only [List.cons_append, intsV, ih] <;> rfl
theorem intsV_pc (p : Pc) : intsV [oV p.1, oV p.2.1, oV p.2.2] = intsP p := by
  obtain ⟨a, b, c⟩ := p
  cases a <;> cases b <;> cases c <;> rfl
theorem intsP_len (p : Pc) : (intsP p).length ≤ 3 := by
  have h : ∀ a : Option Int, (oL a).length ≤ 1 := fun a => by
    cases a with
    | none => exact Nat.zero_le _
    | some i => exact Nat.le_refl _
  have h1 := h p.1
  have h2 := h p.2.1
  have h3 := h p.2.2
  unfold intsP
  rw [List.length_append, List.length_append]
  omega
theorem near_len : ∀ l : List Int, (l.flatMap near).length = 5 * l.length
  | [] => rfl
  | v :: l => by
    rw [List.flatMap_cons, List.length_append, near_len l, List.length_cons]
    show 5 + _ = _
    omega
def endsL (l : List Pc) : List Int := l.flatMap intsP
def ends4 (ls : List (List Pc)) : List Int := 0 :: ls.flatMap endsL
def spots4 (ls : List (List Pc)) : List Int := (ends4 ls).flatMap near
theorem endsL_len : ∀ l : List Pc, (endsL l).length ≤ 3 * l.length
  | [] => Nat.le_refl _
  | p :: l => by
    have := intsP_len p
    have ih := endsL_len l
    unfold endsL at ih ⊢
    rw [List.flatMap_cons, List.length_append, List.length_cons]
    omega
theorem ends4_len : ∀ {ls : List (List Pc)}, (∀ l ∈ ls, l.length ≤ 30) → (ls.flatMap endsL).length ≤ 90 * ls.length
  | [], _ => Nat.le_refl _
  | l :: r, h => by
    have ih := ends4_len (ls := r) fun x hx => h x (List.mem_cons_of_mem _ hx)
    have h1 := endsL_len l
    have h2 := h l List.mem_cons_self
    rw [List.flatMap_cons, List.length_append, List.length_cons]
    omega
def spPts4N : Sp := fun vs H Q _ => ∃ (M : Addr) (as : List Addr) (ls : List (List Pc)), vs = [.ref M] ∧ H M = some (.lst (as.map V.ref)) ∧ Paired (NumAt H) as ls ∧ 1 ≤ ls.length ∧ ls.length ≤ 10 ∧ (∀ l ∈ ls, l.length ≤ 30) ∧ (∃ zs : List Int, zs.length < 64 ∧ ∀ k ∈ spots4 ls, k ∈ zs) ∧
  ∀ (S : Addr) (ys : List Int) (H' : Hp), ys.Pairwise (· < ·) → (∀ k, k ∈ ys ↔ k ∈ spots4 ls) → ys.length < 64 → H' S = some (.lst (ys.map V.int)) → Same H H' → Q (.ref S) H'
section
variable {P : Program} {w : World} {K : PySem.W.Frag} {mg : Str → Option Value} {base : Heap} {f : Addr} {fd : FuncData}
theorem ok_pts4N (F : FD K "_law_points" s_points f fd) (T : TS3 mg) : FnOk P w K mg base CX0 1 f fd ["_law_row"] spPts4N := by
  refine F.ok sc_points (fun vs H Q E h => ?_) (fun cdv A outer s H vs Q E hr h => ?_)
  · obtain ⟨M, as, ls, rfl, _⟩ := h
    rfl
  obtain ⟨M, as, ls, rfl, hM, pa, l1, l2, l30, ⟨zs, hz, hsub⟩, q⟩ := h
  refine ⟨_, PSs.nox (pss_cons (ps_par (i := 1) (j := 2) (by rfl) sc_points.nd rfl rfl (by decide) rfl rfl (pa_cons (pe_lst (pa_cons pe_str (pa_cons pe_str (pa_cons pe_str (pa_cons pe_str pa_nil))))) (pa_cons (pe_lst (pa_cons pe_int pa_nil)) pa_nil)) (by rfl))
    (pss_cons (ps_for .never (by rfl) (pi_list (pv 0)) (pg_tup (by rfl) (pgs_cons (pg_name (i := 3) sc_points.nd rfl (Or.inl rfl)) (pgs_cons (pg_name (i := 4) sc_points.nd rfl (Or.inl rfl)) (pgs_cons (pg_name (i := 5) sc_points.nd rfl (Or.inl rfl)) pgs_nil))))
      (pss_one (ps_if (pt_cmpR op_eq (pv 3) pe_str (nomark _)) pss_never
        (pss_one (ps_for .never (by rfl) (pi_list (pv 4)) (pg_tup (by rfl) (pgs_cons (pg_name (i := 6) sc_points.nd rfl (Or.inl rfl)) (pgs_cons (pg_name (i := 7) sc_points.nd rfl (Or.inl rfl)) (pgs_cons (pg_name (i := 8) sc_points.nd rfl (Or.inl rfl)) pgs_nil))))
          (pss_one (ps_expr (pe_bm PySem.F.plainAttrs_list PySem.F.slot_list_extend PySem.F.type_list_extend mt_extend (pv 2) (pa_cons (pe_lc (own := [("_law_end", 9)]) (g := gName 9) (tt := tB (tNotN (tVar 9))) (te := tVar 9) rfl sc_points.nd (pi_tup (pe_tup (pa_cons (pv 6) (pa_cons (pv 7) (pa_cons (pv 8) pa_nil))))) (blkOk_by (N := nPts) (sc := defScope s_points) (by decide +kernel)) (fun _ _ _ _ _ => pg_name (i := 9) sc_points.nd rfl (Or.inl rfl)) (fun _ _ _ _ _ => by exact pts_one (pt_cmp (pc_notN (pv 9)))) (fun _ _ _ _ _ => by exact (pv 9))) pa_nil)))))))))
    (pss_cons (ps_if (pt_cmpR op_eq (pe_ix ix_tup (pe_ix ix_list (pv 0) pe_int (fun _ _ => rfl)) pe_int (fun _ _ => rfl)) pe_str (nomark _)) pss_never pss_nil)
    (pss_cons (ps_set (i := 10) sc_points.nd rfl (Or.inl rfl) (pe_lst pa_nil))
    (pss_cons (ps_for .never (by rfl) (pi_list (pe_callB (cr_sortedSet rfl) (by rfl) T.sorted boot_sorted (pa_cons (pe_callTy (cr_setIz rfl) (by rfl) T.set (by decide +kernel) (pa_cons (pv 2) pa_nil)) pa_nil))) (pg_name (i := 9) sc_points.nd rfl (Or.inl rfl))
      (pss_one (ps_expr (pe_bm PySem.F.plainAttrs_list PySem.F.slot_list_extend PySem.F.type_list_extend mt_extend (pv 10) (pa_cons (pe_lst (pa_cons (pe_op op_sub (pv 9) pe_int) (pa_cons (pe_op op_sub (pv 9) pe_int) (pa_cons (pv 9) (pa_cons (pe_op op_add (pv 9) pe_int) (pa_cons (pe_op op_add (pv 9) pe_int) pa_nil)))))) pa_nil)))))
    (pss_one (ps_ret (pe_callB (cr_sortedSet rfl) (by rfl) T.sorted boot_sorted (pa_cons (pe_callTy (cr_setIz rfl) (by rfl) T.set (by decide +kernel) (pa_cons (pv 10) pa_nil)) pa_nil))))))))), ?_⟩
  have al : as.length = ls.length := pa.length
  refine ⟨by show 4 ≤ sizeLine; decide, fun Lw hLw => ⟨by show 1 ≤ sizeLine; decide, fun g hg0 => ⟨_, _, rfl, ?_⟩⟩⟩
  have sw := same_upd (o := HO.lst [V.str "a", V.str "b", V.str "ab", V.str "zz"]) hLw
  have hg := Same.free sw hg0
  have s1 := sw.trans (same_upd (o := HO.lst [V.int 0]) hg0)
  have hg1 : (upd (upd H Lw (.lst [V.str "a", V.str "b", V.str "ab", V.str "zz"])) g (.lst [V.int 0])) g = some (.lst [V.int 0]) := upd_same
  generalize upd (upd H Lw (.lst [V.str "a", V.str "b", V.str "ab", V.str "zz"])) g (.lst [V.int 0]) = H1 at s1 hg1 ⊢
  refine normS (σ' := [some (.ref M), some (.ref Lw), some (.ref g), none, none, none, none, none, none, none, none, none, none]) rfl ?_
  have bnd : ∀ i, ((ls.take i).flatMap endsL).length ≤ 900 := fun i => by
    have h := ends4_len (ls := ls.take i) fun x hx => l30 x (List.mem_of_mem_take hx)
    rw [List.length_take] at h
    omega
  refine ⟨_, rfl, M, rfl, ⟨_, SqL.of (s1 _ _ hM)⟩, ?_⟩
  refine for_list (xs := as.map V.ref) (fun i σ' H' => Same H H' ∧ H' g = some (.lst ((0 :: (ls.take i).flatMap endsL).map V.int)) ∧ ∃ a b c d e u : Option V, σ' = [some (.ref M), some (.ref Lw), some (.ref g), a, b, c, d, e, u, none, none, none, none])
    ⟨s1, by rw [hg1]; rfl, none, none, none, none, none, none, rfl⟩ (fun i σ' H' _ ⟨z, _⟩ => SqL.of (z _ _ hM)) (fun i x σ' H2 hx ⟨s2, hg2, a, b, c, d, e, u, eσ⟩ => ?_) (fun σ' H2 ⟨s2, hg2, a, b, c, d, e, u, eσ⟩ => ?_)
  · subst eσ
    have il : i < ls.length := by
      have := (List.getElem?_eq_some_iff.mp hx).1
      rw [List.length_map] at this
      omega
    have hl : ls[i]? = some (ls[i]'il) := List.getElem?_eq_getElem il
    generalize ls[i]'il = l at hl
    obtain ⟨m, e1, R, em, ts, hR, pr⟩ := paired_at pa hl
    rw [List.getElem?_map, e1] at hx
    cases (show V.ref m = x from Option.some.inj hx)
    have tk : ls.take (i + 1) = ls.take i ++ [l] := by rw [List.take_succ, hl]; rfl
    have ll := l30 l (List.mem_of_getElem? hl)
    have tl : ts.length = l.length := pr.length
    refine ⟨m, _, rfl, SqT.of (s2 _ _ em), rfl, _, _, rfl, _, _, rfl, _, _, rfl, rfl, ?_⟩
    refine ⟨_, rfl, rfl, _, rfl, ?_⟩
    rw [show decide (V.str "number" = V.str "text") = false from by decide +kernel]
    refine (show (if false = true then _ else _) from ?_)
    rw [if_neg (by decide)]
    refine ⟨_, rfl, R, rfl, ⟨_, SqL.of (s2 _ _ hR)⟩, ?_⟩
    refine for_list (xs := ts.map V.ref) (fun j σ' H' => Same H H' ∧ H' g = some (.lst (((0 :: (ls.take i).flatMap endsL) ++ endsL (l.take j)).map V.int)) ∧ ∃ d e u : Option V, σ' = [some (.ref M), some (.ref Lw), some (.ref g), some (.str "number"), some (.ref R), some .non, d, e, u, none, none, none, none])
      ⟨s2, by rw [hg2]; simp [endsL], d, e, u, rfl⟩ (fun j σ' H' _ ⟨z, _⟩ => SqL.of (z _ _ hR)) (fun j x σ' H3 hx ⟨s3, hg3, d, e, u, eσ⟩ => ?_) (fun σ' H3 ⟨s3, hg3, d, e, u, eσ⟩ => ?_)
    · subst eσ
      have jl : j < l.length := by
        have := (List.getElem?_eq_some_iff.mp hx).1
        rw [List.length_map] at this
        omega
      have hp : l[j]? = some (l[j]'jl) := List.getElem?_eq_getElem jl
      generalize l[j]'jl = p at hp
      obtain ⟨t, e1, e2⟩ := paired_at pr hp
      rw [List.getElem?_map, e1] at hx
      cases (show V.ref t = x from Option.some.inj hx)
      have ht3 : PcAt H3 t p := s3 _ _ e2
      have tk2 : l.take (j + 1) = l.take j ++ [p] := by rw [List.take_succ, hp]; rfl
      refine ⟨t, _, rfl, SqT.of ht3, rfl, _, _, rfl, _, _, rfl, _, _, rfl, rfl, ?_⟩
      refine ⟨_, rfl, .inl ⟨rfl, _, SqL.of hg3⟩, _, rfl, _, rfl, _, rfl, by show 3 ≤ sizeLine; decide, fun q0 hq0 => ⟨q0, rfl, ⟨_, SqT.of upd_same⟩, fun D hD0 => ?_⟩⟩
      have sq := same_upd (o := HO.tup [oV p.1, oV p.2.1, oV p.2.2]) hq0
      have hq1 : (upd H3 q0 (.tup [oV p.1, oV p.2.1, oV p.2.2])) q0 = some (.tup [oV p.1, oV p.2.1, oV p.2.2]) := upd_same
      have hg3' := sq _ _ hg3
      have s3' := s3.trans sq
      generalize upd H3 q0 (.tup [oV p.1, oV p.2.1, oV p.2.2]) = H3' at sq hq1 hg3' s3' hD0 ⊢
      refine lc_tup (xs := [oV p.1, oV p.2.1, oV p.2.2]) (fun u H' => Same H3' H' ∧ H' D = some (.lst ((intsV ([oV p.1, oV p.2.1, oV p.2.2].take u)).map V.int))) ⟨same_upd hD0, upd_same⟩ (fun u H' _ ⟨z, _⟩ => SqT.of (z _ _ hq1)) (fun u y H4 hy ⟨s4, hD4⟩ => ?_) fun H4 ⟨s4, hD4⟩ => ?_
      · have ul : u < 3 := (List.getElem?_eq_some_iff.mp hy).1
        have ey : ∃ c : Option Int, y = oV c := by
          have mem := List.mem_of_getElem? hy
          simp only [List.mem_cons, List.not_mem_nil, or_false] at mem
          rcases mem with e | e | e
          · exact ⟨_, e⟩
          · exact ⟨_, e⟩
          · exact ⟨_, e⟩
        obtain ⟨c, rfl⟩ := ey
        have tkj : [oV p.1, oV p.2.1, oV p.2.2].take (u + 1) = [oV p.1, oV p.2.1, oV p.2.2].take u ++ [oV c] := by rw [List.take_succ, hy]; rfl
        refine ⟨rfl, _, rfl, _, rfl, ?_⟩
        cases c with
        | none =>
          refine (show (if (!decide (V.non = V.non)) = true then _ else _) from ?_)
          rw [decide_eq_true rfl, if_neg (by decide)]
          refine ⟨s4, ?_⟩
          rw [hD4, tkj, intsV_snoc]
          simp [oL]
        | some v =>
          refine (show (if (!decide (V.int v = V.non)) = true then _ else _) from ?_)
          rw [decide_eq_false (fun z => nomatch z), if_pos (by decide)]
          have len : (intsV ([oV p.1, oV p.2.1, oV p.2.2].take u)).length ≤ 3 := by
            have h : ∀ l : List V, (intsV l).length ≤ l.length := fun l => by
              induction l with
              | nil => exact Nat.le_refl _
              | cons a l ih => cases a <;> simp only [intsV, List.length_cons] <;> omega
            have := h ([oV p.1, oV p.2.1, oV p.2.2].take u)
            rw [List.length_take] at this
            exact Nat.le_trans this (Nat.le_trans (Nat.min_le_right _ _) (Nat.le_refl _))
          refine ⟨_, rfl, _, hD4, by rw [List.length_map]; exact Nat.lt_of_le_of_lt len (by decide), same_over s4 hD0, ?_⟩
          rw [upd_same, tkj, intsV_snoc, List.map_append] <;> rfl
      rw [List.take_length, intsV_pc] at hD4
      have hg4 := s4 _ _ hg3'
      have s4' := s3'.trans s4
      have b1 := bnd i
      have b2 := endsL_len (l.take j)
      have b3 := intsP_len p
      rw [List.length_take] at b2
      refine ⟨g, D, _, _, rfl, rfl, hg4, hD4, ?_, same_over s4' hg, ?_, _, _, _, rfl⟩
      · rw [List.length_map, List.length_map, List.length_append, List.length_cons]
        exact Nat.le_trans (show _ ≤ 2000 by omega) (by decide)
      · rw [upd_same, tk2, ← List.map_append]
        unfold endsL
        rw [List.flatMap_append, ← List.append_assoc] <;> simp
    · rw [List.length_map, tl, List.take_length] at hg3
      refine ⟨s3, ?_, _, _, _, d, e, u, eσ⟩
      rw [hg3, tk, List.flatMap_append] <;> simp
  · subst eσ
    rw [List.length_map, al, List.take_length] at hg2
    obtain ⟨m0, l0, h0, hl0⟩ : ∃ m0 l0, as[0]? = some m0 ∧ NumAt H m0 l0 := by
      obtain ⟨l0, hl0⟩ : ∃ l0, ls[0]? = some l0 := ⟨_, List.getElem?_eq_getElem (by omega)⟩
      obtain ⟨m0, h1, h2⟩ := paired_at pa hl0
      exact ⟨m0, l0, h1, h2⟩
    obtain ⟨R0, em0, _⟩ := hl0
    have hx0 : (as.map V.ref)[0]? = some (V.ref m0) := by rw [List.getElem?_map, h0]; rfl
    refine ⟨_, rfl, M, _, 0, .ref m0, rfl, rfl, SqL.of (s2 _ _ hM), ?_, m0, _, 0, _, rfl, rfl, SqT.of (s2 _ _ em0), rfl, rfl, _, rfl, ?_⟩
    · exact atI_nat (j := 0) hx0
    rw [show decide (V.str "number" = V.str "text") = false from by decide +kernel]
    refine (show (if false = true then _ else _) from ?_)
    rw [if_neg (by decide)]
    have bl := ends4_len l30
    have el : (ends4 ls).length ≤ 901 := by
      show (ls.flatMap endsL).length + 1 ≤ 901
      omega
    have hg2' : H2 g = some (.lst ((ends4 ls).map V.int)) := hg2
    have e_in : ∀ k ∈ ends4 ls, k ∈ zs := fun k hk => hsub k (List.mem_flatMap.mpr ⟨k, hk, by simp [near]⟩)
    refine ⟨Nat.zero_le _, fun w0 hw0 => ?_⟩
    have hw := Same.free s2 hw0
    have s3 := s2.trans (same_upd (o := HO.lst []) hw0)
    have hg3 := (same_upd (o := HO.lst []) hw0) _ _ hg2'
    have hw3 : (upd H2 w0 (.lst [])) w0 = some (.lst []) := upd_same
    generalize upd H2 w0 (.lst []) = H3 at s3 hg3 hw3 ⊢
    refine normS (σ' := [some (.ref M), some (.ref Lw), some (.ref g), a, b, c, d, e, u, none, some (.ref w0), none, none]) rfl ?_
    refine ⟨_, rfl, g, ends4 ls, rfl, SqL.of hg3, by omega, fun a1 c1 ha1 hc1 => ?_⟩
    have c64 : c1 < 64 := Nat.lt_of_le_of_lt (hc1 zs e_in) hz
    refine ⟨a1, _, c1, rfl, upd_same, c64, fun ms S hs hm hml hS => ⟨S, rfl, ⟨_, SqL.of upd_same⟩, ?_⟩⟩
    have sA := same_upd (o := SetO w a1 (fun j => decide (j ∈ ends4 ls)) c1) ha1
    have sS := sA.trans (same_upd (o := HO.lst (ms.map V.int)) hS)
    have s4 := s3.trans sS
    have hw4 := sS _ _ hw3
    have hS4 : (upd (upd H3 a1 (SetO w a1 (fun j => decide (j ∈ ends4 ls)) c1)) S (.lst (ms.map V.int))) S = some (.lst (ms.map V.int)) := upd_same
    have ml : ms.length < 64 := by omega
    have nSw : S ≠ w0 := fun z => by
      rw [z] at hS
      exact absurd ((sA _ _ hw3).symm.trans hS) fun h => nomatch h
    refine for_list (xs := ms.map V.int) (fun k σ' H' => Same H H' ∧ H' S = some (.lst (ms.map V.int)) ∧ H' w0 = some (.lst (((ms.take k).flatMap near).map V.int)) ∧ ∃ x9 : Option V, σ' = [some (.ref M), some (.ref Lw), some (.ref g), a, b, c, d, e, u, x9, some (.ref w0), none, none])
      ⟨s4, hS4, by exact hw4, none, rfl⟩ (fun k σ' H' _ ⟨_, z, _⟩ => SqL.of z) (fun k y σ' H5 hy ⟨s5, hS5, hw5, x9, eσ⟩ => ?_) (fun σ' H5 ⟨s5, hS5, hw5, x9, eσ⟩ => ?_)
    · subst eσ
      rw [List.getElem?_map] at hy
      cases ev : ms[k]? with
      | none =>
        rw [ev] at hy
        cases hy
      | some v =>
        rw [ev] at hy
        cases (show V.int v = y from Option.some.inj hy)
        have tkj : ms.take (k + 1) = ms.take k ++ [v] := by rw [List.take_succ, ev]; rfl
        have kl : k < ms.length := (List.getElem?_eq_some_iff.mp ev).1
        refine ⟨_, rfl, .inl ⟨rfl, _, SqL.of hw5⟩, _, rfl, _, _, rfl, rfl, _, rfl, _, _, rfl, rfl, _, rfl, _, rfl, _, _, rfl, rfl, _, rfl, _, _, rfl, rfl, by show 5 ≤ sizeLine; decide, fun n hn => ?_⟩
        have s6 := same_upd (o := HO.lst ((near v).map V.int)) hn
        have en : HO.lst [V.int (v - 2), V.int (v - 1), V.int v, V.int (v + 1), V.int (v + 2)] = HO.lst ((near v).map V.int) := rfl
        rw [en]
        have nl := near_len (ms.take k)
        rw [List.length_take] at nl
        have nSn : S ≠ n := ne_of_none hS5 hn
        refine ⟨w0, n, _, _, rfl, rfl, s6 _ _ hw5, upd_same, ?_, same_over (s5.trans s6) hw, ?_, ?_, _, rfl⟩
        · rw [List.length_map, List.length_map, nl]
          exact Nat.le_trans (show _ ≤ 1000 by show _ + 5 ≤ 1000; omega) (by decide)
        · rw [upd_ne nSw, upd_ne nSn]
          exact hS5
        · rw [upd_same, tkj, List.flatMap_append, ← List.map_append] <;> simp
    · subst eσ
      rw [List.length_map, List.take_length] at hw5
      have nl := near_len ms
      have mem : ∀ k, k ∈ ms.flatMap near ↔ k ∈ spots4 ls := fun k => by
        unfold spots4
        rw [List.mem_flatMap, List.mem_flatMap]
        exact ⟨fun ⟨v, h1, h2⟩ => ⟨v, ((hm v).trans decide_eq_true_iff).mp h1, h2⟩, fun ⟨v, h1, h2⟩ => ⟨v, ((hm v).trans decide_eq_true_iff).mpr h1, h2⟩⟩
      refine ⟨_, rfl, w0, ms.flatMap near, rfl, SqL.of hw5, by omega, fun a2 c2 ha2 hc2 => ?_⟩
      have d64 : c2 < 64 := Nat.lt_of_le_of_lt (hc2 zs fun k hk => hsub k ((mem k).mp hk)) hz
      refine ⟨a2, _, c2, rfl, upd_same, d64, fun ns S2 hs2 hm2 hml2 hS2 => ?_⟩
      exact q S2 ns _ hs2 (fun k => ((hm2 k).trans decide_eq_true_iff).trans (mem k)) (by omega) upd_same (s5.trans ((same_upd ha2).trans (same_upd hS2)))
end
end C4

end Pq4r
section Pq4s
set_option maxHeartbeats 4000000
namespace C4
open PySem PySem.Spec L2 PyProof.Rows
/-! ### where normal pieces begin and end -/
def LimX (a : Option Int) : Prop := a = none ∨ ∃ v, Lim v ∧ (a = some v ∨ a = some (v + 1))
def LimN (l : List Pc) : Prop := ∀ p ∈ l, LimF p.1 ∧ LimL p.2.1 ∧ LimX p.2.2
theorem LimP.n {l : List Pc} (h : LimP l) : LimN l := fun p hp => ⟨(h p hp).1, (h p hp).2.1, by
  rcases (h p hp).2.2 with e | ⟨v, hv, e⟩
  · exact .inl e
  · exact .inr ⟨v, hv, .inl e⟩⟩
theorem limF_next {e : Int} (h : LimL (some e)) : LimF (some (e + 1)) := by
  rcases h with h | ⟨v, hv, h | h⟩
  · cases h
  · cases h
    exact .inr ⟨v, hv, .inl (by congr 1; omega)⟩
  · cases h
    exact .inr ⟨e, hv, .inr rfl⟩
/-- what a normal piece is taken to: nothing, a limit, or its own first number, which two numbers are taken to -/
def WhatX (f : Int → Int) (s w : Option Int) : Prop := w = none ∨ (∃ c, w = some c ∧ Lim c) ∨ ∃ b, s = some b ∧ w = some b ∧ f b = b ∧ f (b + 1) = b
theorem whatX_lim {f : Int → Int} {s w : Option Int} (hs : LimF s) (h : WhatX f s w) : LimX w := by
  rcases h with e | ⟨c, e, hc⟩ | ⟨b, e1, e2, _⟩
  · exact .inl e
  · exact .inr ⟨c, hc, .inl e⟩
  · rw [e1] at hs
    rw [e2]
    rcases hs with h | ⟨v, hv, h | h⟩
    · cases h
    · exact .inr ⟨v, hv, .inl h⟩
    · exact .inr ⟨v, hv, .inr h⟩
section
variable {l : List Pc}
/-- the piece at x says what the function is there -/
theorem at_piece (hc : chn none l) (x : Int) : ∃ q ∈ l, leO x q.2.1 = true ∧ evalP l x = takeW q.2.2 x ∧ (leO (x + 1) q.2.1 = true → evalP l (x + 1) = takeW q.2.2 (x + 1)) := by
  obtain ⟨q, hq, ho, he⟩ := eval_idx x hc
  exact ⟨q, List.mem_of_getElem? hq, ho, he, fun h => (eval_at hc hq (idx_stay hc hq rfl (by omega) h)).1⟩
theorem what_at (hc : chn none l) (hl : LimP l) {s w : Option Int} (h1 : WOk (evalP l) s w) (h3 : ∃ e, ∀ x, geO x s → x ≤ e → evalP l x = takeW w x) : WhatX (evalP l) s w := by
  cases s with
  | some b =>
    have e := h1 b rfl
    unfold wOf at e
    by_cases h : evalP l b = b
    · rw [if_pos h] at e
      by_cases k : evalP l (b + 1) = b
      · rw [if_pos k] at e
        exact .inr (.inr ⟨b, rfl, e, h, k⟩)
      · rw [if_neg k] at e
        exact .inl e
    · rw [if_neg h] at e
      obtain ⟨q, hq, _, he, _⟩ := at_piece hc b
      cases z : q.2.2 with
      | none =>
        rw [z] at he
        exact absurd he h
      | some c =>
        rw [z] at he
        have hw := (hl q hq).2.2
        rw [z] at hw
        rcases hw with y | ⟨v, hv, y⟩
        · cases y
        · cases y
          exact .inr (.inl ⟨c, by rw [e, he] <;> rfl, hv⟩)
  | none =>
    obtain ⟨e, he⟩ := h3
    cases l with
    | nil => exact hc.elim
    | cons p r =>
      have key : ∃ d, ∀ x, x ≤ d → evalP (p :: r) x = takeW p.2.2 x := by
        cases z : p.2.1 with
        | none => exact ⟨0, fun x _ => by rw [evalP, z, if_pos (show leO x none = true from rfl)]⟩
        | some d => exact ⟨d, fun x hx => by rw [evalP, z, if_pos (leO_some.mpr hx)]⟩
      obtain ⟨d, hd⟩ := key
      have ew : w = p.2.2 := by
        let x := (if d ≤ e then d else e) - 1
        have x1 : x + 1 ≤ d ∧ x + 1 ≤ e := by
          show (if d ≤ e then d else e) - 1 + 1 ≤ d ∧ (if d ≤ e then d else e) - 1 + 1 ≤ e
          split <;> omega
        exact take_two (x := x) ((he x (fun b z => nomatch z) (by omega)).symm.trans (hd x (by omega))) ((he (x + 1) (fun b z => nomatch z) x1.2).symm.trans (hd (x + 1) x1.1))
      rcases (hl p List.mem_cons_self).2.2 with y | ⟨v, hv, y⟩
      · exact .inl (ew.trans y)
      · exact .inr (.inl ⟨v, ew.trans y, hv⟩)
theorem last_at (hc : chn none l) (hl : LimP l) {s w : Option Int} {e : Int} (hw : WhatX (evalP l) s w) (hd : Desc (evalP l) s w (some e)) : LimL (some e) := by
  obtain ⟨g, d1, d2⟩ := hd
  obtain ⟨q, hq, ho, he, he1⟩ := at_piece hc e
  have fe := d1 e g (Int.le_refl _)
  by_cases h : leO (e + 1) q.2.1 = true
  · have f1 := he1 h
    rw [f1] at d2
    rw [he] at fe
    cases z : q.2.2 with
    | none =>
      rw [z] at fe d2
      rcases hw with y | ⟨c, y, hv⟩ | ⟨b, y1, y2, y3, y4⟩
      · rw [y] at d2
        exact absurd rfl d2
      · rw [y] at fe
        have : e = c := fe
        rw [this]
        exact limL_of hv
      · rw [y2] at fe
        have eb : e = b := fe
        subst eb
        rw [f1, z] at y4
        have : e + 1 = e := y4
        omega
    | some c =>
      rw [z] at fe d2
      have hwl := (hl q hq).2.2
      rw [z] at hwl
      have hv : Lim c := by
        rcases hwl with y | ⟨v, hv, y⟩
        · cases y
        · cases y
          exact hv
      cases w with
      | none =>
        have : c = e := fe
        rw [← this]
        exact limL_of hv
      | some a =>
        have : c = a := fe
        rw [this] at d2
        exact absurd rfl d2
  · cases z : q.2.1 with
    | none =>
      rw [z] at h
      exact absurd rfl h
    | some e' =>
      rw [z] at h ho
      have h1 := leO_some.mp ho
      have h2 : ¬ e + 1 ≤ e' := fun y => h (leO_some.mpr y)
      have : e = e' := by omega
      have hh := (hl q hq).2.1
      rw [z] at hh
      rw [this]
      exact hh
theorem nrm_lim (hc : chn none l) (hl : LimP l) : ∀ {n : List Pc} {s : Option Int}, LimF s → Nrm (evalP l) s n → LimN n
  | p :: r, s, hs, ⟨h1, h2, h3, h4⟩ => by
    have hw : WhatX (evalP l) s p.2.2 := what_at hc hl h2 (by
      cases z : p.2.1 with
      | none =>
        rw [z] at h3
        exact ⟨0, fun x g _ => h3 x g⟩
      | some e =>
        rw [z] at h3
        exact ⟨e, fun x g hx => h3.2.1 x g hx⟩)
    have hx := whatX_lim hs hw
    cases z : p.2.1 with
    | none =>
      rw [z] at h4
      rw [show r = [] from h4]
      intro q hq
      rw [List.mem_singleton.mp hq]
      exact ⟨by rw [h1]; exact hs, by rw [z]; exact .inl rfl, hx⟩
    | some e =>
      rw [z] at h3 h4
      have le := last_at hc hl hw h3
      intro q hq
      rcases List.mem_cons.mp hq with rfl | hq
      · exact ⟨by rw [h1]; exact hs, by rw [z]; exact le, hx⟩
      · exact nrm_lim hc hl (limF_next le) (show Nrm (evalP l) (some (e + 1)) r from h4) q hq
end
/-! ### few points -/
def zs3 : List Int := (limV.flatMap fun v => [v - 3, v - 2, v - 1, v, v + 1, v + 2, v + 3]).foldr (fun k acc => if k ∈ acc then acc else k :: acc) []
theorem zs3_few : zs3.length < 64 := by decide +kernel
theorem zs3_all : ∀ v ∈ limV, ∀ k ∈ [v - 3, v - 2, v - 1, v, v + 1, v + 2, v + 3], k ∈ zs3 := by decide +kernel
def Near1 (i : Int) : Prop := ∃ v, Lim v ∧ (i = v - 1 ∨ i = v ∨ i = v + 1)
theorem ints_near {l : List Pc} (h : LimN l) {p : Pc} (hp : p ∈ l) {i : Int} (hi : i ∈ intsP p) : Near1 i := by
  obtain ⟨h1, h2, h3⟩ := h p hp
  unfold intsP at hi
  rw [List.mem_append, List.mem_append] at hi
  rcases hi with (hi | hi) | hi
  · rcases h1 with e | ⟨v, hv, e | e⟩ <;> rw [e] at hi
    · cases hi
    · exact ⟨v, hv, .inr (.inl (List.mem_singleton.mp hi))⟩
    · exact ⟨v, hv, .inr (.inr (List.mem_singleton.mp hi))⟩
  · rcases h2 with e | ⟨v, hv, e | e⟩ <;> rw [e] at hi
    · cases hi
    · exact ⟨v, hv, .inl (List.mem_singleton.mp hi)⟩
    · exact ⟨v, hv, .inr (.inl (List.mem_singleton.mp hi))⟩
  · rcases h3 with e | ⟨v, hv, e | e⟩ <;> rw [e] at hi
    · cases hi
    · exact ⟨v, hv, .inr (.inl (List.mem_singleton.mp hi))⟩
    · exact ⟨v, hv, .inr (.inr (List.mem_singleton.mp hi))⟩
theorem near_in {i k : Int} (h : Near1 i) (hk : k ∈ near i) : k ∈ zs3 := by
  obtain ⟨v, hv, h⟩ := h
  have key := zs3_all v hv
  refine key k ?_
  simp only [near, List.mem_cons, List.not_mem_nil, or_false] at hk ⊢
  rcases h with rfl | rfl | rfl <;> rcases hk with rfl | rfl | rfl | rfl | rfl <;> omega
/-! ### a row of maps is a map with limits like theirs -/
/-- what is a map of pieces with limits -/
def Cmp (f : Int → Int) : Prop := ∃ m, chn none m ∧ LimP m ∧ ∀ x, evalP m x = f x
theorem limP_one {s e w : Option Int} (h1 : LimF s) (h2 : LimL e) (h3 : LimW w) : LimP [(s, e, w)] := fun q hq => by
  rw [List.mem_singleton.mp hq]
  exact ⟨h1, h2, h3⟩
theorem limP_cons {s e w : Option Int} {l : List Pc} (h1 : LimF s) (h2 : LimL e) (h3 : LimW w) (h : LimP l) : LimP ((s, e, w) :: l) := fun q hq => by
  rcases List.mem_cons.mp hq with rfl | hq
  · exact ⟨h1, h2, h3⟩
  · exact h q hq
theorem limP_app {l m : List Pc} (h : LimP l) (k : LimP m) : LimP (l ++ m) := fun q hq => (List.mem_append.mp hq).elim (h q) (k q)
/-- the pieces of a map within a stretch -/
theorem cut_ex : ∀ {mg : List Pc} {t s e : Option Int}, chn t mg → LimP mg → LimF s → LimL e → (∀ x, geO x s → geO x t) → (∀ c, e = some c → geO c s) → ∃ l, seg (evalP mg) s e l ∧ LimP l
  | p :: r, t, s, e, hc, hl, ls, le, hst, hse => by
    obtain ⟨p1, p2, p3⟩ := p
    have lp := hl _ List.mem_cons_self
    have lr : LimP r := fun q hq => hl q (List.mem_cons_of_mem _ hq)
    obtain ⟨c1, c2⟩ := hc
    rcases c2 with ⟨c2, rfl⟩ | ⟨h, c2, c3, c4⟩
    · have c2' : p2 = none := c2
      subst c2'
      refine ⟨[(s, e, p3)], seg_one hse fun x _ _ => ?_, limP_one ls le lp.2.2⟩
      rw [evalP, if_pos (show leO x none = true from rfl)]
    · have c2' : p2 = some h := c2
      subst c2'
      have up : ∀ x, ¬ x ≤ h → evalP ((p1, some h, p3) :: r) x = evalP r x := fun x hx => by
        rw [evalP, if_neg fun z => hx (leO_some.mp z)]
      have dn : ∀ x, x ≤ h → takeW p3 x = evalP ((p1, some h, p3) :: r) x := fun x hx => by
        rw [evalP, if_pos (leO_some.mpr hx)]
      by_cases below : ∃ b, s = some b ∧ h < b
      · obtain ⟨b, rfl, hb⟩ := below
        obtain ⟨l, sl, ll⟩ := cut_ex (s := some b) (e := e) c4 lr ls le (fun x hx => some_ge (by have := hx b rfl; omega)) hse
        refine ⟨l, seg_congr (fun x g _ => (up x ?_).symm) sl, ll⟩
        have := g b rfl
        omega
      · have hs : geO h s := fun b z => by
          by_cases y : h < b
          · exact absurd ⟨b, z, y⟩ below
          · omega
        by_cases ends : ∃ c, e = some c ∧ c ≤ h
        · obtain ⟨c, rfl, hc⟩ := ends
          exact ⟨[(s, some c, p3)], seg_one hse fun x _ g => dn x (by have := leO_some.mp g; omega), limP_one ls le lp.2.2⟩
        · have he : ∀ c, e = some c → h + 1 ≤ c := fun c z => by
            by_cases y : c ≤ h
            · exact absurd ⟨c, z, y⟩ ends
            · omega
          obtain ⟨l, sl, ll⟩ := cut_ex (s := some (h + 1)) (e := e) c4 lr (limF_next lp.2.1) le (fun x hx => hx) (fun c z => some_ge (he c z))
          refine ⟨(s, some h, p3) :: l, seg_app (l := [(s, some h, p3)]) (seg_one (fun c z => by cases z; exact hs) fun x _ g => dn x (leO_some.mp g)) (seg_congr (fun x g _ => (up x ?_).symm) sl), limP_cons ls lp.2.1 lp.2.2 ll⟩
          have := g (h + 1) rfl
          omega
theorem lim_at {mg : List Pc} (hc : chn none mg) (hl : LimP mg) {v : Int} (hv : Lim v) : LimW (some (evalP mg v)) := by
  obtain ⟨q, hq, _, he, _⟩ := at_piece hc v
  rw [he]
  cases z : q.2.2 with
  | none => exact limW_of hv
  | some c =>
    have := (hl q hq).2.2
    rw [z] at this
    exact this
theorem after_ex {mg : List Pc} (hg : chn none mg) (lg : LimP mg) : ∀ {mf : List Pc} {s : Option Int}, chn s mf → LimP mf → ∃ l, seg (fun x => evalP mg (evalP mf x)) s none l ∧ LimP l
  | p :: r, s, hc, hl => by
    obtain ⟨p1, p2, p3⟩ := p
    have lp := hl _ List.mem_cons_self
    have lr : LimP r := fun q hq => hl q (List.mem_cons_of_mem _ hq)
    obtain ⟨c1, c2⟩ := hc
    have c1' : p1 = s := c1
    subst c1'
    -- the first piece
    have first : ∀ e, p2 = e → (∀ c, e = some c → geO c p1) → ∃ l, seg (fun x => evalP mg (takeW p3 x)) p1 e l ∧ LimP l := fun e ee hse => by
      have lw := lp.2.2
      have le := lp.2.1
      rw [show ((p1, p2, p3) : Pc).2.1 = e from ee] at le
      cases p3 with
      | none => exact cut_ex hg lg lp.1 le (fun x _ => none_ge x) hse
      | some v =>
        have lv : Lim v := by
          rcases lw with z | ⟨u, hu, z⟩
          · cases z
          · cases z
            exact hu
        exact ⟨[(p1, e, some (evalP mg v))], seg_one hse fun x _ _ => rfl, limP_one lp.1 le (lim_at hg lg lv)⟩
    rcases c2 with ⟨c2, rfl⟩ | ⟨h, c2, c3, c4⟩
    · obtain ⟨l, sl, ll⟩ := first none c2 fun c z => nomatch z
      refine ⟨l, seg_congr (fun x _ _ => ?_) sl, ll⟩
      have c2' : p2 = none := c2
      subst c2'
      show _ = evalP mg (evalP _ x)
      rw [evalP, if_pos (show leO x none = true from rfl)]
    · obtain ⟨l, sl, ll⟩ := first (some h) c2 fun c z => by cases z; exact c3
      obtain ⟨m, sm, lm⟩ := after_ex hg lg c4 lr
      have c2' : p2 = some h := c2
      subst c2'
      refine ⟨l ++ m, seg_app (seg_congr (fun x _ g => ?_) sl) (seg_congr (fun x g _ => ?_) sm), limP_app ll lm⟩
      · show _ = evalP mg (evalP _ x)
        rw [evalP, if_pos g]
      · show _ = evalP mg (evalP (_ :: r) x)
        have := g (h + 1) rfl
        rw [evalP, if_neg fun z => by have := leO_some.mp z; omega]
theorem Cmp.pcs {l : List Pc} (hc : chn none l) (hl : LimP l) : Cmp (evalP l) := ⟨l, hc, hl, fun _ => rfl⟩
theorem Cmp.id : Cmp fun x => x := ⟨[(none, none, none)], ⟨rfl, .inl ⟨rfl, rfl⟩⟩, limP_one (.inl rfl) (.inl rfl) (.inl rfl), fun x => by rw [evalP, if_pos (show leO x none = true from rfl)]; rfl⟩
theorem Cmp.comp {f g : Int → Int} (hf : Cmp f) (hg : Cmp g) : Cmp fun x => g (f x) := by
  obtain ⟨m, c1, l1, e1⟩ := hf
  obtain ⟨k, c2, l2, e2⟩ := hg
  obtain ⟨l, sl, ll⟩ := after_ex c2 l2 c1 l1
  obtain ⟨c3, e3⟩ := seg_chn sl
  refine ⟨l, c3, ll, fun x => ?_⟩
  show _ = g (f x)
  rw [e3 x (none_ge x), ← e1, ← e2]
theorem Cmp.congr {f g : Int → Int} (h : ∀ x, f x = g x) (hf : Cmp f) : Cmp g := by
  obtain ⟨m, a, b, c⟩ := hf
  exact ⟨m, a, b, fun x => (c x).trans (h x)⟩
theorem Cmp.lim {f : Int → Int} (h : Cmp f) {n : List Pc} (hn : Nrm f none n) : LimN n := by
  obtain ⟨m, a, b, c⟩ := h
  have e : evalP m = f := funext c
  rw [← e] at hn
  exact nrm_lim a b (.inl rfl) hn
theorem allN_app (ls ms : List (List Pc)) (x : Int) : allN (ls ++ ms) x = allN ms (allN ls x) := by
  unfold allN
  rw [List.foldl_append]
theorem Cmp.all : ∀ {ls : List (List Pc)}, (∀ l ∈ ls, chn none l ∧ LimP l) → Cmp (allN ls)
  | [], _ => Cmp.id
  | l :: r, h => by
    obtain ⟨a, b⟩ := h l List.mem_cons_self
    have ih := Cmp.all (ls := r) fun k hk => h k (List.mem_cons_of_mem _ hk)
    exact Cmp.congr (fun x => rfl) ((Cmp.pcs a b).comp ih)
theorem spots_few {ls : List (List Pc)} (h : ∀ l ∈ ls, LimN l) : ∀ k ∈ spots4 ls, k ∈ zs3 := fun k hk => by
  obtain ⟨i, hi, hk⟩ := List.mem_flatMap.mp hk
  rcases List.mem_cons.mp hi with rfl | hi
  · have z : ∀ k ∈ near 0, k ∈ zs3 := by decide +kernel
    exact z k hk
  · obtain ⟨l, hl, hi⟩ := List.mem_flatMap.mp hi
    obtain ⟨p, hp, hi⟩ := List.mem_flatMap.mp hi
    exact near_in (ints_near (h l hl) hp hi) hk
end C4

end Pq4s
section Pq4t
set_option maxHeartbeats 8000000
namespace C4
open PySem PySem.Spec L2 PyProof.Rows
open T (atV orV Tab TMap RestOk NormOf spInitT put_new take_put get_at)
/-! ### words that no mapping names; the points of mappings of texts -/
abbrev s_far : Stmt := top 62
abbrev nFar : List Str := ["_law_words", "_law_tried", "_law_k", "_law_word_here"]
theorem sc_far : FnScope nFar ["_law_words"] (defScope s_far) := ⟨rfl, rfl, rfl, by decide +kernel, rfl, by decide +kernel, by decide +kernel⟩
/-- c * k -/
def repW (c : Str) (k : Nat) : Str := ⟨(List.replicate k c.cps).foldl (· ++ ·) #[]⟩
def reps (c : Str) : List Str := (List.range 12).map fun i => repW c (i + 1)
def tried : List Str := reps "q" ++ reps "x"
theorem tried_ok : ∀ z ∈ tried, wordB z 12 = true := by decide +kernel
theorem tried_nd : tried.Nodup := by decide +kernel
def farW (ws : List Str) : List Str := tried.filter fun z => !decide (z ∈ ws)
theorem farW_in {ws : List Str} {z : Str} (h : z ∈ farW ws) : z ∈ tried ∧ z ∉ ws := by
  obtain ⟨a, b⟩ := List.mem_filter.mp h
  refine ⟨a, fun y => ?_⟩
  rw [decide_eq_true y] at b
  cases b
def rMulS : R2 := fun x y H Q => ∃ (z : Str) (n : Nat), x = .str z ∧ y = .int n ∧ 1 ≤ n ∧ n ≤ 1000 ∧ z.length ≤ 1000 ∧ Q (.str ⟨(List.replicate n z.cps).foldl (· ++ ·) #[]⟩) H
theorem inV_strs {z : Str} {l : List Str} : inV (.str z) (l.map V.str) = decide (z ∈ l) := by
  unfold inV
  rw [List.any_map]
  induction l with
  | nil => rfl
  | cons a r ih =>
    rw [List.any_cons, ih]
    have e : eqV (V.str a) (V.str z) = decide (a = z) := by
      by_cases h : a = z
      · rw [h, decide_eq_true rfl]
        simp [eqV]
      · rw [decide_eq_false h]
        simp [eqV, h]
    show (eqV (V.str a) (V.str z) || decide (z ∈ r)) = _
    rw [e]
    by_cases h : a = z
    · subst h
      simp
    · simp [h, Ne.symm h]
theorem if_op {r : R2} {t1 t2 : TE} {u v w : TS} {D : Ends} {σ : L2.St} {H : Hp} (h : t1 σ H fun x H1 => t2 σ H1 fun y H2 => r x y H2 fun z H' => ∃ k, z = .bl k ∧ (if k = true then u { D with nx := w D } σ H' else v { D with nx := w D } σ H')) : tSeq (tIfS (tTest (tOp r t1 t2)) u v) w D σ H := h
theorem as_op {r : R2} {t1 t2 : TE} {i : Nat} {w : TS} {D : Ends} {σ : L2.St} {H : Hp} (h : t1 σ H fun x H1 => t2 σ H1 fun y H2 => r x y H2 fun z H' => w D (σ.set i (some z)) H') : tSeq (tAsg (tOp r t1 t2) (gName i)) w D σ H := h
theorem arg_op {r : R2} {t1 t2 : TE} {σ : L2.St} {H : Hp} {Q : List V → Hp → Prop} (h : t1 σ H fun x H1 => t2 σ H1 fun y H2 => r x y H2 fun z H' => Q [z] H') : tCons (tOp r t1 t2) tNil σ H Q := h
theorem lc_rep {K : PySem.W.Frag} {σ : L2.St} {H : Hp} {Q : VK} (c : Str) (hc : c.length ≤ 1000) (hw : ∀ x, wipe ((wipe σ [2]).set 2 (some x)) [2] = wipe σ [2]) (hv : ∀ x, ((wipe σ [2]).set 2 (some x))[2]? = some (some x))
    (q : ∀ D H1, Same H H1 → H D = none → H1 D = some (.lst ((reps c).map V.str)) → Q (.ref D) H1) : tLc (iRng2 (tCons (tC (.int 1)) (tCons (tC (.int 13)) tNil))) (gName 2) tYes (tOp rMulS (tC (.str c)) (tVar 2)) [2] σ H Q := by
  refine ⟨1, 13, rfl, by decide, fun D2 hD2 => ?_⟩
  refine lc_range (lo := 1) (n := 12) (fun i H' => Same H H' ∧ H' D2 = some (.lst (((reps c).take i).map V.str))) ⟨same_upd hD2, upd_same⟩ (fun i H3 hi ⟨s3, hD3⟩ => ?_) fun H3 ⟨s3, hD3⟩ => ?_
  · refine ⟨hw _, ?_⟩
    simp only [tYes, ↓reduceIte]
    have ei : (1 : Int) + (i : Int) = ((i + 1 : Nat) : Int) := by omega
    have eq : (reps c)[i]? = some (repW c (i + 1)) := by
      unfold reps
      rw [List.getElem?_map, List.getElem?_range hi]
      rfl
    have tk : (reps c).take (i + 1) = (reps c).take i ++ [repW c (i + 1)] := by rw [List.take_succ, eq]; rfl
    refine ⟨_, hv _, c, i + 1, rfl, by rw [ei], by omega, by omega, hc, ?_⟩
    refine ⟨_, hD3, by rw [List.length_map, List.length_take]; exact Nat.lt_of_le_of_lt (Nat.min_le_left _ _) (Nat.lt_of_lt_of_le hi (by decide)), same_over s3 hD2, ?_⟩
    rw [upd_same, tk, List.map_append] <;> rfl
  · have eall : (reps c).take 12 = reps c := List.take_of_length_le (by unfold reps; rw [List.length_map, List.length_range]; exact Nat.le_refl _)
    rw [eall] at hD3
    exact q D2 H3 s3 hD2 hD3
def spFar : Sp := fun vs H Q _ => ∃ (D : Addr) (ws : List Str), vs = [.ref D] ∧ H D = some (.lst (ws.map V.str)) ∧ ∀ E H', H' E = some (.lst ((farW ws).map V.str)) → Same H H' → Q (.ref E) H'
section
variable {P : Program} {w : World} {K : PySem.W.Frag} {mg : Str → Option Value} {base : Heap} {f : Addr} {fd : FuncData}
theorem ok_far (F : FD K "_law_far" s_far f fd) (T : TS3 mg) : FnOk P w K mg base CX0 1 f fd ["_law_words"] spFar := by
  refine F.ok sc_far (fun vs H Q E h => ?_) (fun cdv A outer s H vs Q E hr h => ?_)
  · obtain ⟨D, ws, rfl, _⟩ := h
    rfl
  obtain ⟨D, ws, rfl, hD, q⟩ := h
  refine ⟨_, PSs.nox (pss_cons (ps_set (i := 1) sc_far.nd rfl (Or.inl rfl) (pe_op op_cat
        (pe_lc (own := [("_law_k", 2)]) (g := gName 2) (tt := tYes) (te := tOp rMulS (tC (.str "q")) (tVar 2)) rfl sc_far.nd (pi_range2 rfl T.range (pa_cons pe_int (pa_cons pe_int pa_nil))) (blkOk_by (N := nFar) (sc := defScope s_far) (by decide +kernel)) (fun _ _ _ _ _ => pg_name (i := 2) sc_far.nd rfl (Or.inl rfl)) (fun _ _ _ _ _ => pts_nil)
          (fun _ _ _ _ _ => by exact (pe_op op_mulS pe_str (pv 2))))
        (pe_lc (own := [("_law_k", 2)]) (g := gName 2) (tt := tYes) (te := tOp rMulS (tC (.str "x")) (tVar 2)) rfl sc_far.nd (pi_range2 rfl T.range (pa_cons pe_int (pa_cons pe_int pa_nil))) (blkOk_by (N := nFar) (sc := defScope s_far) (by decide +kernel)) (fun _ _ _ _ _ => pg_name (i := 2) sc_far.nd rfl (Or.inl rfl)) (fun _ _ _ _ _ => pts_nil)
          (fun _ _ _ _ _ => by exact (pe_op op_mulS pe_str (pv 2))))))
    (pss_one (ps_ret (pe_lc (own := [("_law_word_here", 3)]) (g := gName 3) (tt := tTest (tOp (rIn K true) (tVar 3) (tVar 0))) (te := tVar 3) rfl sc_far.nd (pi_list (pv 1))
        (blkOk_by (N := nFar) (sc := defScope s_far) (by decide +kernel)) (fun _ _ _ _ _ => pg_name (i := 3) sc_far.nd rfl (Or.inl rfl)) (fun _ _ _ _ _ => by exact pts_one (pt_cmpR op_notIn_seq (pv 3) (pv 0) (by rfl)))
        (fun _ _ _ _ _ => by exact (pv 3)))))), ?_⟩
  refine as_op ?_
  refine lc_rep (K := K) "q" (by decide) (by intro _; rfl) (by intro _; rfl) fun A1 H1 s1 _ hA => ?_
  refine lc_rep (K := K) "x" (by decide) (by intro _; rfl) (by intro _; rfl) fun A2 H2 s2 _ hB => ?_
  refine ⟨A1, A2, _, _, rfl, rfl, s2 _ _ hA, hB, by decide, fun N hN => ?_⟩
  have s3 := (s1.trans s2).trans (same_upd (o := HO.lst ((reps "q").map V.str ++ (reps "x").map V.str)) hN)
  have hN3 : (upd H2 N (.lst ((reps "q").map V.str ++ (reps "x").map V.str))) N = some (.lst (tried.map V.str)) := by
    rw [upd_same, ← List.map_append] <;> rfl
  generalize upd H2 N (.lst ((reps "q").map V.str ++ (reps "x").map V.str)) = H3 at s3 hN3 ⊢
  refine ⟨_, rfl, N, rfl, ⟨_, SqL.of hN3⟩, fun D4 hD4 => ?_⟩
  have hD3 := s3 _ _ hD
  refine lc_list (xs := tried.map V.str) (fun i H' => Same H3 H' ∧ H' D4 = some (.lst (((tried.take i).filter fun z => !decide (z ∈ ws)).map V.str))) ⟨same_upd hD4, upd_same⟩ (fun i H' _ ⟨z, _⟩ => SqL.of (z _ _ hN3)) (fun i x H5 hx ⟨s5, hD5⟩ => ?_) fun H5 ⟨s5, hD5⟩ => ?_
  · rw [List.getElem?_map] at hx
    cases ez : tried[i]? with
    | none =>
      rw [ez] at hx
      cases hx
    | some z =>
      rw [ez] at hx
      cases (show V.str z = x from Option.some.inj hx)
      have tk : tried.take (i + 1) = tried.take i ++ [z] := by rw [List.take_succ, ez]; rfl
      refine ⟨rfl, _, rfl, _, rfl, D, _, rfl, .inl (SqL.of (s5 _ _ hD3)), rfl, by rw [List.all_map]; exact List.all_eq_true.mpr fun _ _ => rfl, _, rfl, ?_⟩
      rw [inV_strs]
      refine (show (if (!decide (z ∈ ws)) = true then _ else _) from ?_)
      refine ite2 (fun y => ?_) (fun y => ?_)
      · refine ⟨_, rfl, _, hD5, ?_, same_over s5 hD4, ?_⟩
        · rw [List.length_map]
          refine Nat.lt_of_le_of_lt (List.length_filter_le _ _) ?_
          rw [List.length_take]
          exact Nat.lt_of_le_of_lt (Nat.min_le_right _ _) (by decide)
        · have f1 : [z].filter (fun z => !decide (z ∈ ws)) = [z] := by rw [List.filter_cons, if_pos y]; rfl
          rw [upd_same, tk, List.filter_append, f1, List.map_append] <;> rfl
      · refine ⟨s5, ?_⟩
        have f0 : [z].filter (fun z => !decide (z ∈ ws)) = [] := by rw [List.filter_cons, if_neg y]; rfl
        rw [hD5, tk, List.filter_append, f0, List.append_nil]
  · rw [List.length_map, List.take_length] at hD5
    exact q D4 H5 hD5 (s3.trans s5)
end
/-! ### the points of a row of mappings of texts -/
def w4 : List Str := ["a", "b", "ab", "zz"]
theorem w4_ok : ∀ z ∈ w4, wordB z 12 = true := by decide +kernel
def restW : V → List Str
  | .str z => [z]
  | _ => []
def wordsL (x : TM) : List Str := x.1.map Prod.fst ++ x.1.map Prod.snd ++ restW x.2
def words4 (xs : List TM) : List Str := w4 ++ xs.flatMap wordsL
def wpts4 (xs : List TM) : List Str := words4 xs ++ (farW (words4 xs)).take 2
def TmOk (x : TM) : Prop := RwOk 3 x.1 ∧ RestOk x.2
theorem restW_len (r : V) : (restW r).length ≤ 1 := by
  cases r <;> first | exact Nat.le_refl _ | exact Nat.zero_le _
theorem wordsL_len {x : TM} (h : TmOk x) : (wordsL x).length ≤ 7 := by
  have h1 := h.1.len
  have h2 := restW_len x.2
  unfold wordsL
  rw [List.length_append, List.length_append, List.length_map, List.length_map]
  omega
theorem flat_len {α β : Type} {f : α → List β} {n : Nat} : ∀ {l : List α}, (∀ x ∈ l, (f x).length ≤ n) → (l.flatMap f).length ≤ n * l.length
  | [], _ => Nat.le_refl _
  | x :: r, h => by
    have ih := flat_len (l := r) fun y hy => h y (List.mem_cons_of_mem _ hy)
    have h1 := h x List.mem_cons_self
    rw [List.flatMap_cons, List.length_append, List.length_cons, Nat.mul_succ]
    omega
/-- [x for a, b in rows], x one of the two -/
theorem lc_pair {K : PySem.W.Frag} {σ : L2.St} {H : Hp} {Q : VK} {j k : Nat} {R : Addr} {ws : List (Str × Str)} (g : Str × Str → Str) (hj : σ[j]? = some (some (.ref R))) (hR : WAt H R ws) (hl : ws.length ≤ 100)
    (hw : ∀ x y, wipe (((wipe σ [11, 12]).set 11 (some x)).set 12 (some y)) [11, 12] = wipe σ [11, 12]) (hk : ∀ p : Str × Str, (((wipe σ [11, 12]).set 11 (some (.str p.1))).set 12 (some (.str p.2)))[k]? = some (some (.str (g p))))
    (q : ∀ D H1, Same H H1 → H D = none → H1 D = some (.lst ((ws.map g).map V.str)) → Q (.ref D) H1) : tLc (iList K (tVar j)) (gTup K 2 (gCons (gName 11) (gCons (gName 12) gNil))) tYes (tVar k) [11, 12] σ H Q := by
  obtain ⟨ts, hR, pr⟩ := hR
  have tl : ts.length = ws.length := pr.length
  refine ⟨_, hj, R, rfl, ⟨_, SqL.of hR⟩, fun D hD => ?_⟩
  refine lc_list (xs := ts.map V.ref) (fun i H' => Same H H' ∧ H' D = some (.lst (((ws.map g).take i).map V.str))) ⟨same_upd hD, upd_same⟩ (fun i H' _ ⟨z, _⟩ => SqL.of (z _ _ hR)) (fun i x H1 hx ⟨s1, hD1⟩ => ?_) fun H1 ⟨s1, hD1⟩ => ?_
  · have il : i < ws.length := by
      have := (List.getElem?_eq_some_iff.mp hx).1
      rw [List.length_map] at this
      omega
    have hp : ws[i]? = some (ws[i]'il) := List.getElem?_eq_getElem il
    generalize ws[i]'il = p at hp
    obtain ⟨t, e1, e2⟩ := paired_at pr hp
    rw [List.getElem?_map, e1] at hx
    cases (show V.ref t = x from Option.some.inj hx)
    refine ⟨t, _, rfl, SqT.of (s1 _ _ e2), rfl, _, _, rfl, _, _, rfl, rfl, hw _ _, ?_⟩
    simp only [tYes, ↓reduceIte]
    have tk : (ws.map g).take (i + 1) = (ws.map g).take i ++ [g p] := by rw [List.take_succ, List.getElem?_map, hp]; rfl
    refine ⟨_, hk p, _, hD1, by rw [List.length_map, List.length_take, List.length_map]; exact Nat.lt_of_le_of_lt (show min i ws.length ≤ 100 by omega) (by decide), same_over s1 hD, ?_⟩
    rw [upd_same, tk, List.map_append] <;> rfl
  · rw [List.length_map, tl, List.take_of_length_le (by rw [List.length_map]; exact Nat.le_refl _)] at hD1
    exact q D H1 s1 hD hD1
def spPts4T : Sp := fun vs H Q _ => ∃ (M : Addr) (as : List Addr) (xs : List TM), vs = [.ref M] ∧ H M = some (.lst (as.map V.ref)) ∧ Paired (fun a (x : TM) => TxtAt H a x.1 x.2) as xs ∧ 1 ≤ xs.length ∧ xs.length ≤ 7 ∧ (∀ x ∈ xs, TmOk x) ∧
  ∀ (S : Addr) (ys : List Str) (H' : Hp), sortedS ys = true → ys.Nodup → (∀ k, k ∈ ys ↔ k ∈ wpts4 xs) → ys.length < 64 → H' S = some (.lst (ys.map V.str)) → Same H H' → Q (.ref S) H'
theorem ext_more {K : PySem.W.Frag} {H H' : Hp} {g : Addr} {xs ys : List V} (hg : H g = none) (s : Same H H') {o : HO} : Same H (upd H' g o) := fun c u e => by
  rw [upd_ne (ne_of_none e hg)]
  exact s _ _ e
section
variable {P : Program} {w : World} {K : PySem.W.Frag} {mg : Str → Option Value} {base : Heap} {f fF : Addr} {fd dF : FuncData}
theorem ok_pts4T (F : FD K "_law_points" s_points f fd) (T : TS3 mg) (tn : mg "int" = none) (FR : Kn P w K mg base 1 "_law_far" fF dF ["_law_words"] spFar) : FnOk P w K mg base CX0 2 f fd ["_law_row"] spPts4T := by
  refine F.ok sc_points (fun vs H Q E h => ?_) (fun cdv A outer s H vs Q E hr h => ?_)
  · obtain ⟨M, as, xs, rfl, _⟩ := h
    rfl
  obtain ⟨M, as, xs, rfl, hM, pa, l1, l2, ok, q⟩ := h
  refine ⟨_, PSs.nox (pss_cons (ps_par (i := 1) (j := 2) (by rfl) sc_points.nd rfl rfl (by decide) rfl rfl (pa_cons (pe_lst (pa_cons pe_str (pa_cons pe_str (pa_cons pe_str (pa_cons pe_str pa_nil))))) (pa_cons (pe_lst (pa_cons pe_int pa_nil)) pa_nil)) (by rfl))
    (pss_cons (ps_for .never (by rfl) (pi_list (pv 0)) (pg_tup (by rfl) (pgs_cons (pg_name (i := 3) sc_points.nd rfl (Or.inl rfl)) (pgs_cons (pg_name (i := 4) sc_points.nd rfl (Or.inl rfl)) (pgs_cons (pg_name (i := 5) sc_points.nd rfl (Or.inl rfl)) pgs_nil))))
      (pss_one (ps_if (pt_cmpR op_eq (pv 3) pe_str (nomark _))
        (pss_cons (ps_expr (pe_bm PySem.F.plainAttrs_list PySem.F.slot_list_extend PySem.F.type_list_extend mt_extend (pv 1) (pa_cons (pe_op op_cat
            (pe_lc (own := [("_law_word_here", 11), ("_law_goal", 12)]) (g := gTup K 2 (gCons (gName 11) (gCons (gName 12) gNil))) (tt := tYes) (te := tVar 11) rfl sc_points.nd (pi_list (pv 4)) (blkOk_by (N := nPts) (sc := defScope s_points) (by decide +kernel)) (fun _ _ _ _ _ => by exact pg_tup (by rfl) (pgs_cons (pg_name (i := 11) sc_points.nd rfl (Or.inl rfl)) (pgs_cons (pg_name (i := 12) sc_points.nd rfl (Or.inl rfl)) pgs_nil))) (fun _ _ _ _ _ => pts_nil) (fun _ _ _ _ _ => by exact (pv 11)))
            (pe_lc (own := [("_law_word_here", 11), ("_law_goal", 12)]) (g := gTup K 2 (gCons (gName 11) (gCons (gName 12) gNil))) (tt := tYes) (te := tVar 12) rfl sc_points.nd (pi_list (pv 4)) (blkOk_by (N := nPts) (sc := defScope s_points) (by decide +kernel)) (fun _ _ _ _ _ => by exact pg_tup (by rfl) (pgs_cons (pg_name (i := 11) sc_points.nd rfl (Or.inl rfl)) (pgs_cons (pg_name (i := 12) sc_points.nd rfl (Or.inl rfl)) pgs_nil))) (fun _ _ _ _ _ => pts_nil) (fun _ _ _ _ _ => by exact (pv 12)))) pa_nil)))
        (pss_one (ps_expr (pe_bm PySem.F.plainAttrs_list PySem.F.slot_list_extend PySem.F.type_list_extend mt_extend (pv 1) (pa_cons (pe_op op_rep (pe_lst (pa_cons (pv 5) pa_nil)) (pe_callTy call_int1 (by rfl) tn (by decide +kernel) (pa_cons (pe_cmp (pc_notN (pv 5)) rfl) pa_nil))) pa_nil)))))
        pss_never)))
    (pss_cons (ps_if (pt_cmpR op_eq (pe_ix ix_tup (pe_ix ix_list (pv 0) pe_int (fun _ _ => rfl)) pe_int (fun _ _ => rfl)) pe_str (nomark _))
      (pss_one (ps_ret (pe_callB (cr_sortedTx rfl) (by rfl) T.sorted boot_sorted (pa_cons (pe_callTy (cr_setTx rfl) (by rfl) T.set (by decide +kernel) (pa_cons (pe_op op_cat (pv 1) (pe_slice sl_list (pe_call FR.f hr rfl FR.m FR.k FR.b .nil pass0 (pa_cons (pv 1) pa_nil)) po_none (po_some pe_int))) pa_nil)) pa_nil)))) pss_nil)
    pss_never))), ?_⟩
  have al : as.length = xs.length := pa.length
  refine ⟨by show 4 ≤ sizeLine; decide, fun g hg0 => ⟨by show 1 ≤ sizeLine; decide, fun z hz => ⟨_, _, rfl, ?_⟩⟩⟩
  have s1 := (same_upd (o := HO.lst [V.str "a", V.str "b", V.str "ab", V.str "zz"]) hg0).trans (same_upd (o := HO.lst [V.int 0]) hz)
  have hg1 : (upd (upd H g (.lst [V.str "a", V.str "b", V.str "ab", V.str "zz"])) z (.lst [V.int 0])) g = some (.lst (w4.map V.str)) := (same_upd (o := HO.lst [V.int 0]) hz) _ _ upd_same
  generalize upd (upd H g (.lst [V.str "a", V.str "b", V.str "ab", V.str "zz"])) z (.lst [V.int 0]) = H1 at s1 hg1 ⊢
  refine normS (σ' := [some (.ref M), some (.ref g), some (.ref z), none, none, none, none, none, none, none, none, none, none]) rfl ?_
  have bnd : ∀ i, ((xs.take i).flatMap wordsL).length ≤ 49 := fun i => by
    have h := flat_len (l := xs.take i) (f := wordsL) fun x hx => wordsL_len (ok x (List.mem_of_mem_take hx))
    rw [List.length_take] at h
    omega
  refine ⟨_, rfl, M, rfl, ⟨_, SqL.of (s1 _ _ hM)⟩, ?_⟩
  refine for_list (xs := as.map V.ref) (fun i σ' H' => Same H H' ∧ H' g = some (.lst ((w4 ++ (xs.take i).flatMap wordsL).map V.str)) ∧ ∃ a b c : Option V, σ' = [some (.ref M), some (.ref g), some (.ref z), a, b, c, none, none, none, none, none, none, none])
    ⟨s1, by rw [hg1]; rfl, none, none, none, rfl⟩ (fun i σ' H' _ ⟨e, _⟩ => SqL.of (e _ _ hM)) (fun i x σ' H2 hx ⟨s2, hg2, a, b, c, eσ⟩ => ?_) (fun σ' H2 ⟨s2, hg2, a, b, c, eσ⟩ => ?_)
  · subst eσ
    have il : i < xs.length := by
      have := (List.getElem?_eq_some_iff.mp hx).1
      rw [List.length_map] at this
      omega
    have hl : xs[i]? = some (xs[i]'il) := List.getElem?_eq_getElem il
    generalize xs[i]'il = l at hl
    obtain ⟨m, e1, R, em, wat⟩ := paired_at pa hl
    rw [List.getElem?_map, e1] at hx
    cases (show V.ref m = x from Option.some.inj hx)
    have tk : xs.take (i + 1) = xs.take i ++ [l] := by rw [List.take_succ, hl]; rfl
    have okl := ok l (List.mem_of_getElem? hl)
    have wl := okl.1.len
    have b1 := bnd i
    refine ⟨m, _, rfl, SqT.of (s2 _ _ em), rfl, _, _, rfl, _, _, rfl, _, _, rfl, rfl, ?_⟩
    refine ⟨_, rfl, rfl, _, rfl, ?_⟩
    rw [show decide (V.str "text" = V.str "text") = true from by decide +kernel]
    refine (show (if true = true then _ else _) from ?_)
    rw [if_pos rfl]
    refine ⟨_, rfl, .inl ⟨rfl, _, SqL.of hg2⟩, ?_⟩
    refine arg_op ?_
    refine lc_pair (K := K) (j := 4) (k := 11) (σ := [some (.ref M), some (.ref g), some (.ref z), some (.str "text"), some (.ref R), some l.2, none, none, none, none, none, none, none]) Prod.fst rfl (wat.same s2) (by omega) (by intros; rfl) (by intros; rfl) fun A H3 s3 _ hA => ?_
    refine lc_pair (K := K) (j := 4) (k := 12) (σ := [some (.ref M), some (.ref g), some (.ref z), some (.str "text"), some (.ref R), some l.2, none, none, none, none, none, none, none]) Prod.snd rfl (wat.same (s2.trans s3)) (by omega) (by intros; rfl) (by intros; rfl) fun B H4 s4 _ hB => ?_
    refine ⟨A, B, _, _, rfl, rfl, s4 _ _ hA, hB, ?_, fun N hN => ?_⟩
    · rw [List.length_map, List.length_map, List.length_map, List.length_map]
      exact Nat.le_trans (show _ ≤ 100 by omega) (by decide)
    have s5 := (s3.trans s4).trans (same_upd (o := HO.lst ((l.1.map Prod.fst).map V.str ++ (l.1.map Prod.snd).map V.str)) hN)
    have hN5 : (upd H4 N (.lst ((l.1.map Prod.fst).map V.str ++ (l.1.map Prod.snd).map V.str))) N = some (.lst ((l.1.map Prod.fst).map V.str ++ (l.1.map Prod.snd).map V.str)) := upd_same
    generalize upd H4 N (.lst ((l.1.map Prod.fst).map V.str ++ (l.1.map Prod.snd).map V.str)) = H5 at s5 hN5 ⊢
    refine ⟨g, N, _, _, rfl, rfl, s5 _ _ hg2, hN5, ?_, ?_⟩
    · rw [List.length_map, List.length_append, List.length_append, List.length_map, List.length_map, List.length_map, List.length_map]
      exact Nat.le_trans (show 4 + _ + _ ≤ 100 by omega) (by decide)
    have g0 : H g = none := hg0
    have s6 : Same H (upd H5 g (.lst ((w4 ++ (xs.take i).flatMap wordsL).map V.str ++ ((l.1.map Prod.fst).map V.str ++ (l.1.map Prod.snd).map V.str)))) := same_over (s2.trans s5) g0
    have hg6 : (upd H5 g (.lst ((w4 ++ (xs.take i).flatMap wordsL).map V.str ++ ((l.1.map Prod.fst).map V.str ++ (l.1.map Prod.snd).map V.str)))) g = some (.lst ((w4 ++ (xs.take i).flatMap wordsL ++ (l.1.map Prod.fst ++ l.1.map Prod.snd)).map V.str)) := by
      rw [upd_same, List.map_append (l₁ := w4 ++ (xs.take i).flatMap wordsL), List.map_append (l₁ := l.1.map Prod.fst)]
    generalize upd H5 g (.lst ((w4 ++ (xs.take i).flatMap wordsL).map V.str ++ ((l.1.map Prod.fst).map V.str ++ (l.1.map Prod.snd).map V.str))) = H6 at s6 hg6 ⊢
    have erest : (List.replicate (if (!decide (l.2 = V.non)) = true then (1 : Int) else 0).toNat [l.2]).flatten = (restW l.2).map V.str := by
      rcases okl.2 with e | ⟨y, e, _⟩ <;> rw [e] <;> rfl
    have kb : (if (!decide (l.2 = V.non)) = true then (1 : Int) else 0) = 0 ∨ (if (!decide (l.2 = V.non)) = true then (1 : Int) else 0) = 1 := by
      split
      · exact .inr rfl
      · exact .inl rfl
    refine ⟨_, rfl, .inl ⟨rfl, _, SqL.of hg6⟩, _, rfl, by show 1 ≤ sizeLine; decide, fun r1 hr1 => ?_⟩
    have s7 := same_upd (o := HO.lst [l.2]) hr1
    refine ⟨_, rfl, .inr ⟨_, rfl, r1, _, _, rfl, rfl, upd_same, by omega, by omega, ?_, fun r2 hr2 => ?_⟩⟩
    · rcases kb with e | e <;> rw [e] <;> (show 1 * _ ≤ sizeLine) <;> decide
    rw [erest]
    have s8 := s7.trans (same_upd (o := HO.lst ((restW l.2).map V.str)) hr2)
    refine ⟨g, r2, _, _, rfl, rfl, s8 _ _ hg6, upd_same, ?_, ?_⟩
    · have := restW_len l.2
      rw [List.length_map, List.length_map, List.length_append, List.length_append, List.length_append, List.length_map, List.length_map]
      exact Nat.le_trans (show 4 + _ + _ + _ ≤ 100 by omega) (by decide)
    refine ⟨same_over (s6.trans s8) g0, ?_, _, _, _, rfl⟩
    rw [upd_same, ← List.map_append, tk, List.flatMap_append]
    have e1 : [l].flatMap wordsL = l.1.map Prod.fst ++ l.1.map Prod.snd ++ restW l.2 := by
      rw [List.flatMap_cons, List.flatMap_nil, List.append_nil] <;> rfl
    rw [e1, List.append_assoc, List.append_assoc, List.append_assoc]
  · subst eσ
    rw [List.length_map, al, List.take_length] at hg2
    obtain ⟨m0, l0, h0, hl0⟩ : ∃ (m0 : Addr) (l0 : TM), as[0]? = some m0 ∧ TxtAt H m0 l0.1 l0.2 := by
      obtain ⟨l0, hl0⟩ : ∃ l0, xs[0]? = some l0 := ⟨_, List.getElem?_eq_getElem (by omega)⟩
      obtain ⟨m0, h1, h2⟩ := paired_at pa hl0
      exact ⟨m0, l0, h1, h2⟩
    obtain ⟨R0, em0, _⟩ := hl0
    have hx0 : (as.map V.ref)[0]? = some (V.ref m0) := by rw [List.getElem?_map, h0]; rfl
    refine ⟨_, rfl, M, _, 0, .ref m0, rfl, rfl, SqL.of (s2 _ _ hM), ?_, m0, _, 0, _, rfl, rfl, SqT.of (s2 _ _ em0), rfl, rfl, _, rfl, ?_⟩
    · exact atI_nat (j := 0) hx0
    rw [show decide (V.str "text" = V.str "text") = true from by decide +kernel]
    refine (show (if true = true then _ else _) from ?_)
    rw [if_pos rfl]
    have b1 := bnd xs.length
    rw [List.take_length] at b1
    have wl : (words4 xs).length ≤ 53 := by
      unfold words4
      rw [List.length_append]
      show 4 + _ ≤ 53
      omega
    refine ⟨_, rfl, _, rfl, g, words4 xs, rfl, hg2, fun E1 H3 hE1 s3 => ?_⟩
    refine ⟨2, rfl, E1, _, rfl, SqL.of hE1, fun E2 hE2 => ?_⟩
    have eT : cutV ((farW (words4 xs)).map V.str) none (some 2) = ((farW (words4 xs)).take 2).map V.str := by
      unfold cutV
      rw [HT.sIx_none, show (2 : Int) = ((2 : Nat) : Int) from rfl, HT.sIx_nat, List.drop_zero, Nat.sub_zero, List.map_take, List.length_map]
      by_cases h : 2 ≤ (farW (words4 xs)).length
      · rw [Nat.min_eq_left h]
      · rw [Nat.min_eq_right (by omega), List.take_of_length_le (by rw [List.length_map]; exact Nat.le_refl _), List.take_of_length_le (by rw [List.length_map]; omega)]
    rw [eT]
    have s4 := s3.trans (same_upd (o := HO.lst (((farW (words4 xs)).take 2).map V.str)) hE2)
    have hE4 : (upd H3 E2 (.lst (((farW (words4 xs)).take 2).map V.str))) E2 = some (.lst (((farW (words4 xs)).take 2).map V.str)) := upd_same
    generalize upd H3 E2 (.lst (((farW (words4 xs)).take 2).map V.str)) = H4 at s4 hE4 ⊢
    have t2 : ((farW (words4 xs)).take 2).length ≤ 2 := by rw [List.length_take]; omega
    refine ⟨g, E2, _, _, rfl, rfl, s4 _ _ hg2, hE4, ?_, fun N hN => ?_⟩
    · rw [List.length_map, List.length_map]
      exact Nat.le_trans (show (words4 xs).length + _ ≤ 100 by omega) (by decide)
    have wl2 : (wpts4 xs).length < 64 := by
      unfold wpts4
      rw [List.length_append]
      omega
    have s5 := s4.trans (same_upd (o := HO.lst ((words4 xs).map V.str ++ ((farW (words4 xs)).take 2).map V.str)) hN)
    refine ⟨N, wpts4 xs, rfl, SqL.of (by rw [upd_same]; exact congrArg (fun l => some (HO.lst l)) List.map_append.symm), wl2, fun G hG => ?_⟩
    refine ⟨G, wpts4 xs, rfl, upd_same, wl2, fun ys S hs hnd hm hl hS => ?_⟩
    exact q S ys _ hs hnd hm (by omega) upd_same (s2.trans (s5.trans ((same_upd hG).trans (same_upd hS))))
end
end C4

end Pq4t
section Pq4u
set_option maxHeartbeats 4000000
namespace C4
open PySem PySem.Spec L2 PyProof.Rows
/-! ### the told pieces go by the rules -/
abbrev s_ptold : Stmt := top 64
abbrev nTold : List Str := ["_law_pieces_here", "_law_row", "_law_points_here", "_law_here", "_law_spot", "_law_goes_on", "_law_goal", "_law_due", "_law_k", "_law_piece", "_law_low", "_law_high", "_law_what"]
theorem sc_ptold : FnScope nTold ["_law_pieces_here", "_law_row"] (defScope s_ptold) := ⟨rfl, rfl, rfl, by decide +kernel, rfl, by decide +kernel, by decide +kernel⟩
/-- a row of mappings of numbers at R -/
def RowN (H : Hp) (R : Addr) (ls : List (List Pc)) : Prop := ∃ as : List Addr, H R = some (.lst (as.map V.ref)) ∧ Paired (NumAt H) as ls
theorem RowN.same {H H' : Hp} {R : Addr} {ls : List (List Pc)} (h : RowN H R ls) (s : Same H H') : RowN H' R ls := by
  obtain ⟨as, a, b⟩ := h
  exact ⟨as, s _ _ a, b.mono fun c q e => e.same s⟩
def RowC (ls : List (List Pc)) : Prop := ∀ l ∈ ls, chn none l
def spAllN2 : Sp := fun vs H Q _ => ∃ (R : Addr) (ls : List (List Pc)) (x : Int), vs = [.ref R, .int x] ∧ RowN H R ls ∧ RowC ls ∧ Q (.int (allN ls x)) H
theorem all2 {vs : List V} {H : Hp} {Q : VK} {E : XK} (h : spAllN2 vs H Q E) : spAllN vs H Q E := by
  obtain ⟨R, ls, x, rfl, ⟨as, a, b⟩, c, q⟩ := h
  exact ⟨R, as, ls, x, rfl, a, b, c, q⟩
def spPtold : Sp := fun vs H Q _ => ∃ (G a : Addr) (n : List Pc) (l : List (List Pc)), vs = [.ref G, .ref a] ∧ LstAt H G n ∧ RowN H a l ∧ (∀ k ∈ l, chn none k ∧ LimP k ∧ k.length ≤ 4) ∧ 1 ≤ l.length ∧ l.length ≤ 7 ∧ Nrm (allN l) none n ∧ n.length ≤ 30 ∧ ∀ H', Same H H' → Q (.bl true) H'
theorem boot_repr : bootBuiltins "repr" = some (.builtin "repr") := by decide +kernel
theorem nrm_at {f : Int → Int} : ∀ {n : List Pc} {s : Option Int} {k : Nat} {p : Pc}, Nrm f s n → n[k]? = some p → WOk f p.1 p.2.2 ∧ Desc f p.1 p.2.2 p.2.1
  | q :: r, s, 0, p, ⟨h1, h2, h3, _⟩, e => by
    cases (Option.some.inj e)
    rw [h1]
    exact ⟨h2, h3⟩
  | q :: r, s, k + 1, p, ⟨h1, h2, h3, h4⟩, e => by
    cases z : q.2.1 with
    | none =>
      rw [z] at h4
      rw [show r = [] from h4] at e
      cases e
    | some d =>
      rw [z] at h4
      exact nrm_at (show Nrm f (some (d + 1)) r from h4) e
theorem geB_iff {x : Int} {s : Option Int} : geB s x = true ↔ geO x s := by
  cases s with
  | none => exact ⟨fun _ => none_ge x, fun _ => rfl⟩
  | some b => exact ⟨fun h c e => by cases e; exact of_decide_eq_true h, fun h => decide_eq_true (h b rfl)⟩
theorem at_last {α : Type} {xs : List α} {v : α} (h : xs[xs.length - 1]? = some v) : atI xs (-1) = some v := by
  have hl : 0 < xs.length := by have := (List.getElem?_eq_some_iff.mp h).1; omega
  have e : ixN xs.length (-1) = some (xs.length - 1) := by
    unfold ixN
    rw [if_neg (by omega)]
    have : (-1 + (xs.length : Int)) = ((xs.length - 1 : Nat) : Int) := by omega
    simp only [this]
    rw [if_pos (by omega)]
    simp
  unfold atI
  rw [e]
  exact h
theorem lim_small : ∀ v ∈ limV, v.natAbs ≤ 10 ^ 30 := by decide +kernel
theorem limN_sm {l : List Pc} (h : LimN l) : SmP l := fun p hp => by
  obtain ⟨h1, h2, h3⟩ := h p hp
  have big : ∀ v : Int, Lim v → ∀ d : Int, -1 ≤ d → d ≤ 1 → (v + d).natAbs < 10 ^ 40 := fun v hv d d0 d1 => by
    have := lim_small v hv
    omega
  refine ⟨fun i e => ?_, fun i e => ?_, fun i e => ?_⟩
  · rcases h1 with y | ⟨v, hv, y | y⟩ <;> rw [y] at e <;> cases e
    · have := big _ hv 0 (by decide) (by decide); simpa using this
    · exact big v hv 1 (by decide) (by decide)
  · rcases h2 with y | ⟨v, hv, y | y⟩ <;> rw [y] at e <;> cases e
    · exact big v hv (-1) (by decide) (by decide)
    · have := big _ hv 0 (by decide) (by decide); simpa using this
  · rcases h3 with y | ⟨v, hv, y | y⟩ <;> rw [y] at e <;> cases e
    · have := big _ hv 0 (by decide) (by decide); simpa using this
    · exact big v hv 1 (by decide) (by decide)
/-- repr of a piece -/
theorem rp_piece {H : Hp} {t : Addr} {p : Pc} (h : PcAt H t p) (sm : SmO p.1 ∧ SmO p.2.1 ∧ SmO p.2.2) : Rp H (.ref t) (pD p) ∧ (pD p).showable = true ∧ (pD p).shown.length ≤ sizeLine ∧ (pD p).depth ≤ 60 := by
  refine ⟨rp_pc h, showable_pD sm, Nat.le_trans (shown_pD sm) (by decide), ?_⟩
  obtain ⟨x, y, z⟩ := p
  cases x <;> cases y <;> cases z <;> (show 1 ≤ 60; decide)
/-- high + 1 if what is None else what -/
theorem or_take1 {σ : L2.St} {H : Hp} {Q : VK} {i j : Nat} {w : Option Int} {x : Int} (e1 : σ[i]? = some (some (oV w))) (e2 : σ[j]? = some (some (.int x))) (q : Q (.int (takeW w (x + 1))) H) : tIf (tB (tIsN (tVar i))) (tOp (rI0 fun i j => V.int (i + j)) (tVar j) (tC (V.int 1))) (tVar i) σ H Q := by
  refine ⟨_, e1, _, rfl, ?_⟩
  cases w with
  | none =>
    refine (show (if decide (oV none = V.non) = true then _ else _) from ?_)
    rw [show decide (oV none = V.non) = true from decide_eq_true rfl, if_pos rfl]
    exact ⟨_, e2, x, 1, rfl, rfl, q⟩
  | some v =>
    refine (show (if decide (oV (some v) = V.non) = true then _ else _) from ?_)
    rw [show decide (oV (some v) = V.non) = false from decide_eq_false (fun z => nomatch z), if_neg (by decide)]
    exact ⟨_, e1, q⟩
def spotOf (a : Option Int) (y0 : Int) : Int := match a with
  | none => y0 - 9
  | some b => b
theorem spot_of {K : PySem.W.Frag} {σ : L2.St} {H : Hp} {Q : VK} {a : Option Int} {S : Addr} {ys : List Int} {y0 : Int} (e1 : σ[10]? = some (some (oV a))) (e2 : σ[2]? = some (some (.ref S))) (hS : H S = some (.lst (ys.map V.int))) (hy : ys[0]? = some y0) (q : Q (.int (spotOf a y0)) H) :
    tIf (tB (tIsN (tVar 10))) (tOp (rI0 fun i j => V.int (i - j)) (tOp (rIxL K) (tVar 2) (tC (V.int 0))) (tC (V.int 9))) (tVar 10) σ H Q := by
  refine ⟨_, e1, _, rfl, ?_⟩
  cases a with
  | none =>
    refine (show (if decide (oV none = V.non) = true then _ else _) from ?_)
    rw [show decide (oV none = V.non) = true from decide_eq_true rfl, if_pos rfl]
    have hy' : (ys.map V.int)[0]? = some (.int y0) := by rw [List.getElem?_map, hy]; rfl
    exact ⟨_, e2, S, _, 0, .int y0, rfl, rfl, SqL.of hS, atI_nat (j := 0) hy', y0, 9, rfl, rfl, q⟩
  | some v =>
    refine (show (if decide (oV (some v) = V.non) = true then _ else _) from ?_)
    rw [show decide (oV (some v) = V.non) = false from decide_eq_false (fun z => nomatch z), if_neg (by decide)]
    exact ⟨_, e1, q⟩
theorem wOf_what {f : Int → Int} {x : Int} {w : Option Int} (h1 : f x = takeW w x) (h2 : f (x + 1) = takeW w (x + 1)) : wOf f x = w := by
  unfold wOf
  cases w with
  | none =>
    have a : f x = x := h1
    have b : f (x + 1) = x + 1 := h2
    rw [if_pos a, if_neg (by omega)]
  | some v =>
    have a : f x = v := h1
    have b : f (x + 1) = v := h2
    by_cases h : f x = x
    · rw [if_pos h, if_pos (by omega)]
      congr 1
      omega
    · rw [if_neg h, a]
theorem dueB {f : Int → Int} {x : Int} : wOf f x = if f x = x then (if f (x + 1) = f x then some (f x) else none) else some (f x) := by
  unfold wOf
  by_cases h : f x = x
  · rw [if_pos h, if_pos h, h]
  · rw [if_neg h, if_neg h]
theorem told_tail {K : PySem.W.Frag} {Dx : Ends} {G a S D t : Addr} {x4 x5 x6 x7 : Option V} {kk : Int} {p : Pc} {l : List (List Pc)} {ys : List Int} {v0 : Int} {H7 : Hp} (hS : H7 S = some (.lst (ys.map V.int))) (hv0 : ys[0]? = some v0) (hm : RowN H7 a l) (hc : RowC l) (ht : PcAt H7 t p) (sm : SmO p.1 ∧ SmO p.2.1 ∧ SmO p.2.2)
    (hw : wOf (allN l) (spotOf p.1 v0) = p.2.2) (q : ∀ x4 x6 x7 H8, Same H7 H8 → Dx.nx [some (.ref G), some (.ref a), some (.ref S), some (.ref D), x4, x5, x6, x7, some (.int kk), some (.ref t), some (oV p.1), some (oV p.2.1), some (oV p.2.2)] H8) :
    tSeq (tAsg (tIf (tB (tIsN (tVar 10))) (tOp (rI0 fun i j => V.int (i - j)) (tOp (rIxL K) (tVar 2) (tC (V.int 0))) (tC (V.int 9))) (tVar 10)) (gName 4))
      (tSeq (tAsg (tCall spAllN2 [] E0 (tCons (tVar 1) (tCons (tVar 4) tNil))) (gName 6))
      (tSeq (tAsg (tIf (tOr (tTest (tOp rNe (tVar 6) (tVar 4))) (tTest (tOp rEq (tCall spAllN2 [] E0 (tCons (tVar 1) (tCons (tOp (rI0 fun i j => V.int (i + j)) (tVar 4) (tC (V.int 1))) tNil))) (tVar 6)))) (tVar 6) (tC .non)) (gName 7))
      (tIfS (tTest (tOp rNe (tCB rRepr (tCons (tVar 9) tNil)) (tCB rRepr (tCons (tTup (tCons (tVar 10) (tCons (tVar 11) (tCons (tVar 7) tNil)))) tNil)))) tNever tNext)))
      Dx [some (.ref G), some (.ref a), some (.ref S), some (.ref D), x4, x5, x6, x7, some (.int kk), some (.ref t), some (oV p.1), some (oV p.2.1), some (oV p.2.2)] H7 := by
  refine spot_of (K := K) (ys := ys) rfl rfl hS hv0 ?_
  generalize spotOf p.1 v0 = x at hw
  refine normS (σ' := [some (.ref G), some (.ref a), some (.ref S), some (.ref D), some (.int x), x5, x6, x7, some (.int kk), some (.ref t), some (oV p.1), some (oV p.2.1), some (oV p.2.2)]) rfl ?_
  refine ⟨_, rfl, _, rfl, a, l, x, rfl, hm, hc, ?_⟩
  refine normS (σ' := [some (.ref G), some (.ref a), some (.ref S), some (.ref D), some (.int x), x5, some (.int (allN l x)), x7, some (.int kk), some (.ref t), some (oV p.1), some (oV p.2.1), some (oV p.2.2)]) rfl ?_
  rw [dueB] at hw
  have last : ∀ dv : V, dv = oV p.2.2 → tIfS (tTest (tOp rNe (tCB rRepr (tCons (tVar 9) tNil)) (tCB rRepr (tCons (tTup (tCons (tVar 10) (tCons (tVar 11) (tCons (tVar 7) tNil)))) tNil)))) tNever tNext Dx [some (.ref G), some (.ref a), some (.ref S), some (.ref D), some (.int x), x5, some (.int (allN l x)), some dv, some (.int kk), some (.ref t), some (oV p.1), some (oV p.2.1), some (oV p.2.2)] H7 := by
    rintro dv rfl
    obtain ⟨r1, r2, r3, r4⟩ := rp_piece ht sm
    refine ⟨_, rfl, _, _, rfl, r1, r2, r3, r4, _, rfl, _, rfl, _, rfl, by show 3 ≤ sizeLine; decide, fun u hu => ?_⟩
    have s8 := same_upd (o := HO.tup [oV p.1, oV p.2.1, oV p.2.2]) hu
    have hu8 : PcAt (upd H7 u (.tup [oV p.1, oV p.2.1, oV p.2.2])) u p := upd_same
    obtain ⟨k1, k2, k3, k4⟩ := rp_piece hu8 sm
    refine ⟨_, _, rfl, k1, k2, k3, k4, rfl, false, ?_, ?_⟩
    · show V.bl (!decide (V.str (pD p).shown = V.str (pD p).shown)) = V.bl false
      rw [decide_eq_true rfl] <;> rfl
    refine (show (if false = true then _ else _) from ?_)
    rw [if_neg (by decide)]
    exact q _ _ _ _ s8
  refine ⟨_, rfl, _, rfl, rfl, _, rfl, ?_⟩
  by_cases h : allN l x = x
  · rw [show (!decide (V.int (allN l x) = V.int x)) = false by rw [h, decide_eq_true rfl]; rfl]
    refine (show (if false = true then _ else _) from ?_)
    rw [if_neg (by decide)]
    refine ⟨_, rfl, _, rfl, x, 1, rfl, rfl, a, l, x + 1, rfl, hm, hc, _, rfl, rfl, _, rfl, ?_⟩
    rw [if_pos h] at hw
    by_cases h2 : allN l (x + 1) = allN l x
    · rw [if_pos h2] at hw
      rw [show decide (V.int (allN l (x + 1)) = V.int (allN l x)) = true by rw [h2, decide_eq_true rfl]]
      refine (show (if true = true then _ else _) from ?_)
      rw [if_pos rfl]
      exact ⟨_, rfl, last _ (by rw [← hw]; rfl)⟩
    · rw [if_neg h2] at hw
      rw [show decide (V.int (allN l (x + 1)) = V.int (allN l x)) = false from decide_eq_false fun e => h2 (V.int.inj e)]
      refine (show (if false = true then _ else _) from ?_)
      rw [if_neg (by decide)]
      exact last _ (by rw [← hw]; rfl)
  · rw [show (!decide (V.int (allN l x) = V.int x)) = true by rw [decide_eq_false fun e => h (V.int.inj e)]; rfl]
    refine (show (if true = true then _ else _) from ?_)
    rw [if_pos rfl]
    rw [if_neg h] at hw
    exact ⟨_, rfl, last _ (by rw [← hw]; rfl)⟩
section
variable {P : Program} {w : World} {K : PySem.W.Frag} {mg : Str → Option Value} {base : Heap} {f fA fT : Addr} {fd dA dT : FuncData}
theorem ok_ptold (F : FD K "_law_pieces_told" s_ptold f fd) (tr : mg "repr" = none) (te : mg "enumerate" = none) (hK : noMods K = true) (PT_ : Kn P w K mg base 1 "_law_points" fA dA ["_law_row"] spPts4N) (LA : Kn P w K mg base 2 "_law_all_at" fT dT ["_law_row", "_law_value"] spAllN2) :
    FnG P w K mg base CX0 3 f fd ["_law_pieces_here", "_law_row"] spPtold := by
  refine F.okG sc_ptold (fun vs H Q E h => ?_) (fun cdv A outer s H vs Q E hg hr h => ?_)
  · obtain ⟨G, a, n, l, rfl, _⟩ := h
    rfl
  obtain ⟨G, a, n, l, rfl, hn, hm, hcl, l1, l7, nn, n10, q⟩ := h
  have hc : RowC l := fun k hk => (hcl k hk).1
  have hG := deeper_guards (env := PyProof.Rows.envOfC "_law_pieces_told" (defScope s_ptold) s.heap.objs.size f cdv) hg
  have hu := hr.units
  refine ⟨_, PSs.nox (pss_cons (ps_set (i := 2) sc_ptold.nd rfl (Or.inl rfl) (pe_call PT_.f (hr.mono (by decide)) rfl PT_.m PT_.k PT_.b .nil pass0 (pa_cons (pe_op op_cat (pv 1) (pe_lst (pa_cons (pe_tup (pa_cons pe_str (pa_cons (pv 0) (pa_cons pe_non pa_nil)))) pa_nil))) pa_nil)))
    (pss_cons (ps_if (PW.pt (pw_or (pt_cmp (pc_notN (pe_ix ix_tup (pe_ix ix_list (pv 0) pe_int (fun _ _ => rfl)) pe_int (fun _ _ => rfl)))) (pw_or1 (pt_cmp (pc_notN (pe_ix ix_tup (pe_ix ix_list (pv 0) (pe_un un_neg pe_int) (fun _ _ => rfl)) pe_int (fun _ _ => rfl))))))) pss_never pss_nil)
    (pss_cons (ps_for .never (by rfl) (pi_enum (by rfl) te (pa_cons (pv 0) pa_nil)) (pg_tup (by rfl) (pgs_cons (pg_name (i := 8) sc_ptold.nd rfl (Or.inl rfl)) (pgs_cons (pg_name (i := 9) sc_ptold.nd rfl (Or.inl rfl)) pgs_nil)))
      (pss_cons (ps_asg (pv 9) (pg_tup (by rfl) (pgs_cons (pg_name (i := 10) sc_ptold.nd rfl (Or.inr rfl)) (pgs_cons (pg_name (i := 11) sc_ptold.nd rfl (Or.inr rfl)) (pgs_cons (pg_name (i := 12) sc_ptold.nd rfl (Or.inl rfl)) pgs_nil)))))
      (pss_cons (ps_setLc (i := 3) (own := [("_law_spot", 4)]) (g := gName 4) (tt := tOr (tB (tIsN (tVar 10))) (tTest (tOp (rI0 fun i j => V.bl (decide (j ≤ i))) (tVar 4) (tVar 10)))) (te := tVar 4) rfl sc_ptold.nd rfl rfl (sw_true rfl rfl rfl (by decide +kernel)) (pi_list (pv 2)) (blkOk_by (N := nTold) (sc := defScope s_ptold) (by decide +kernel)) (fun _ _ _ _ _ => pg_name (i := 4) sc_ptold.nd rfl (Or.inl rfl))
          (fun _ _ _ _ _ => by exact pts_one (PW.pt (pw_or (pt_cmp (pc_isN (pv 10))) (pw_or1 (pt_cmpR op_ge (pv 4) (pv 10) (nomark _)))))) (fun _ _ _ _ _ => by exact (pv 4)))
      (pss_cons (ps_for .never (by rfl) (pi_list (pe_lc (own := [("_law_spot", 4)]) (g := gName 4) (tt := tOr (tB (tIsN (tVar 11))) (tTest (tOp (rI0 fun i j => V.bl (decide (i ≤ j))) (tVar 4) (tVar 11)))) (te := tVar 4) rfl sc_ptold.nd (pi_list (pv 3)) (blkOk_by (N := nTold) (sc := defScope s_ptold) (by decide +kernel)) (fun _ _ _ _ _ => pg_name (i := 4) sc_ptold.nd rfl (Or.inl rfl))
          (fun _ _ _ _ _ => by exact pts_one (PW.pt (pw_or (pt_cmp (pc_isN (pv 11))) (pw_or1 (pt_cmpR op_le (pv 4) (pv 11) (nomark _)))))) (fun _ _ _ _ _ => by exact (pv 4)))) (pg_name (i := 4) sc_ptold.nd rfl (Or.inl rfl))
        (pss_one (ps_if (pt_cmpR op_ne (pe_call LA.f hr rfl LA.m LA.k LA.b .nil pass0 (pa_cons (pv 1) (pa_cons (pv 4) pa_nil))) (pe_ifExp (pt_cmp (pc_isN (pv 12))) (pv 4) (pv 12)) (nomark _)) pss_never pss_nil)))
      (pss_cons (ps_if (pt_cmp (pc_notN (pv 11)))
        (pss_cons (ps_set (i := 5) sc_ptold.nd rfl (Or.inl rfl) (pe_cmpR op_eq (pe_call LA.f hr rfl LA.m LA.k LA.b .nil pass0 (pa_cons (pv 1) (pa_cons (pe_op op_add (pv 11) pe_int) pa_nil))) (pe_ifExp (pt_cmp (pc_isN (pv 12))) (pe_op op_add (pv 11) pe_int) (pv 12)) (nomark _)))
        (pss_one (ps_if (PW.pt (pw_or (pt_val (pv 5)) (pw_or1 (pt_cmpR op_ne (pe_ix ix_tup (pe_ix ix_list (pv 0) (pe_op op_add (pv 8) pe_int) (fun _ _ => rfl)) pe_int (fun _ _ => rfl)) (pe_op op_add (pv 11) pe_int) (nomark _))))) pss_never pss_nil))) pss_nil)
      (pss_cons (ps_set (i := 4) sc_ptold.nd rfl (Or.inl rfl) (pe_ifExp (pt_cmp (pc_isN (pv 10))) (pe_op op_sub (pe_ix ix_list (pv 2) pe_int (fun _ _ => rfl)) pe_int) (pv 10)))
      (pss_cons (ps_set (i := 6) sc_ptold.nd rfl (Or.inl rfl) (pe_call LA.f hr rfl LA.m LA.k LA.b .nil pass0 (pa_cons (pv 1) (pa_cons (pv 4) pa_nil))))
      (pss_cons (ps_set (i := 7) sc_ptold.nd rfl (Or.inl rfl) (pe_ifExp (PW.pt (pw_or (pt_cmpR op_ne (pv 6) (pv 4) (nomark _)) (pw_or1 (pt_cmpR op_eq (pe_call LA.f hr rfl LA.m LA.k LA.b .nil pass0 (pa_cons (pv 1) (pa_cons (pe_op op_add (pv 4) pe_int) pa_nil))) (pv 6) (nomark _))))) (pv 6) pe_non))
      (pss_one (ps_if (pt_cmpR op_ne (pe_callB (call_reprD (by exact hG) (by exact hu) (by exact hK)) (by rfl) tr boot_repr (pa_cons (pv 9) pa_nil)) (pe_callB (call_reprD (by exact hG) (by exact hu) (by exact hK)) (by rfl) tr boot_repr (pa_cons (pe_tup (pa_cons (pv 10) (pa_cons (pv 11) (pa_cons (pv 7) pa_nil)))) pa_nil)) (nomark _)) pss_never pss_nil))))))))))
    (pss_one (ps_ret pe_bl))))), ?_⟩
  have hcn := (nrm_chn nn).1
  have ev : ∀ x, evalP n x = allN l x := fun x => (nrm_chn nn).2 x (none_ge x)
  have ln := (Cmp.all fun k hk => ⟨(hcl k hk).1, (hcl k hk).2.1⟩).lim nn
  have sm := limN_sm ln
  have n0 : 0 < n.length := List.length_pos_iff.mpr (chn_ne hcn)
  obtain ⟨as, hR, pa⟩ := hm
  have al : as.length = l.length := pa.length
  refine ⟨_, rfl, _, rfl, by show 3 ≤ sizeLine; decide, fun t ht => ⟨by show 1 ≤ sizeLine; decide, fun M0 hM0 => ?_⟩⟩
  have s0 := (same_upd (o := HO.tup [V.str "number", V.ref G, V.non]) ht).trans (same_upd (o := HO.lst [V.ref t]) hM0)
  have et : (upd (upd H t (.tup [V.str "number", V.ref G, V.non])) M0 (.lst [V.ref t])) t = some (.tup [V.str "number", V.ref G, V.non]) := (same_upd (o := HO.lst [V.ref t]) hM0) _ _ upd_same
  have eM0 : (upd (upd H t (.tup [V.str "number", V.ref G, V.non])) M0 (.lst [V.ref t])) M0 = some (.lst [V.ref t]) := upd_same
  generalize upd (upd H t (.tup [V.str "number", V.ref G, V.non])) M0 (.lst [V.ref t]) = H00 at s0 et eM0 ⊢
  refine ⟨a, M0, _, _, rfl, rfl, s0 _ _ hR, eM0, ?_, fun M hM => ?_⟩
  · rw [List.length_map, al]
    exact Nat.le_trans (show l.length + 1 ≤ 8 by omega) (by decide)
  have s1 := s0.trans (same_upd (o := HO.lst (as.map V.ref ++ [V.ref t])) hM)
  have et1 := (same_upd (o := HO.lst (as.map V.ref ++ [V.ref t])) hM) _ _ et
  have eM1 : (upd H00 M (.lst (as.map V.ref ++ [V.ref t]))) M = some (.lst ((as ++ [t]).map V.ref)) := by rw [upd_same, List.map_append] <;> rfl
  have hm : RowN H a l := ⟨as, hR, pa⟩
  refine ⟨M, as ++ [t], l ++ [n], rfl, eM1, (pa.mono fun c q e => e.same s1).snoc ⟨G, et1, hn.same s1⟩, ?_, ?_, fun x hx => ?_, ⟨zs3, zs3_few, spots_few fun x hx => ?_⟩, fun S ys H1 yp ym yl hS s2 => ?_⟩
  · rw [List.length_append]
    exact Nat.le_add_left _ _
  · rw [List.length_append]
    show l.length + 1 ≤ 10
    omega
  · rcases List.mem_append.mp hx with hx | hx
    · have := (hcl x hx).2.2
      omega
    · rw [List.mem_singleton.mp hx]
      exact n10
  · rcases List.mem_append.mp hx with hx | hx
    · exact (hcl x hx).2.1.n
    · rw [List.mem_singleton.mp hx]
      exact ln
  have z1 := s1.trans s2
  clear ht hM et s1 s2 s0 et1 eM1 eM0 hM0
  obtain ⟨ts, hts, pr⟩ := hn
  have tl : ts.length = n.length := pr.length
  have getT : ∀ (k : Nat) (p : Pc), n[k]? = some p → ∃ t, (ts.map V.ref)[k]? = some (V.ref t) ∧ PcAt H t p := fun k p hp => by
    obtain ⟨t, e1, e2⟩ := paired_at pr hp
    exact ⟨t, by rw [List.getElem?_map, e1]; rfl, e2⟩
  refine normS (σ' := [some (.ref G), some (.ref a), some (.ref S), none, none, none, none, none, none, none, none, none, none]) rfl ?_
  obtain ⟨p0, hp0⟩ : ∃ p, n[0]? = some p := ⟨_, List.getElem?_eq_getElem n0⟩
  obtain ⟨pl, hpl⟩ : ∃ p, n[n.length - 1]? = some p := ⟨_, List.getElem?_eq_getElem (by omega)⟩
  obtain ⟨t0, g0, e0⟩ := getT _ _ hp0
  obtain ⟨tl', gl, el⟩ := getT _ _ hpl
  have f0 : p0.1 = none := chn_fst hcn hp0
  have fl : pl.2.1 = none := (chn_last hcn hpl).mpr (by omega)
  have hat : atI (ts.map V.ref) (-1) = some (V.ref tl') := at_last (by rw [List.length_map, tl]; exact gl)
  refine ⟨_, rfl, G, _, 0, .ref t0, rfl, rfl, SqL.of (z1 _ _ hts), atI_nat (j := 0) g0, t0, _, 0, _, rfl, rfl, SqT.of (z1 _ _ e0), rfl, _, rfl, ?_⟩
  rw [f0, show (!decide (oV none = V.non)) = false by rw [show decide (oV none = V.non) = true from decide_eq_true rfl]; rfl]
  refine (show (if false = true then _ else _) from ?_)
  rw [if_neg (by decide)]
  refine ⟨_, rfl, _, rfl, G, _, _, .ref tl', rfl, rfl, SqL.of (z1 _ _ hts), hat, tl', _, 1, _, rfl, rfl, SqT.of (z1 _ _ el), rfl, _, rfl, ?_⟩
  rw [fl, show (!decide (oV none = V.non)) = false by rw [show decide (oV none = V.non) = true from decide_eq_true rfl]; rfl]
  refine (show (if false = true then _ else _) from ?_)
  rw [if_neg (by decide)]
  refine ⟨_, rfl, G, _, rfl, SqL.of (z1 _ _ hts), ?_⟩
  have y0 : 0 < ys.length := by
    have : (0 : Int) ∈ ys := (ym 0).mpr (List.mem_flatMap.mpr ⟨0, List.mem_cons_self, by decide⟩)
    exact List.length_pos_of_mem this
  obtain ⟨v0, hv0⟩ : ∃ v, ys[0]? = some v := ⟨_, List.getElem?_eq_getElem y0⟩
  refine for_it walk_enum (fun k σ' H' => Same H1 H' ∧ ∃ x3 x4 x5 x6 x7 x8 x9 x10 x11 x12 : Option V, σ' = [some (.ref G), some (.ref a), some (.ref S), x3, x4, x5, x6, x7, x8, x9, x10, x11, x12])
    ⟨Same.refl _, none, none, none, none, none, none, none, none, none, none, rfl⟩ (fun k σ' H' _ ⟨z, _⟩ => SqL.of (z _ _ (z1 _ _ hts))) (fun k x σ' H2 H3 hk ⟨s2, x3, x4, x5, x6, x7, x8, x9, x10, x11, x12, eσ⟩ y => ?_) (fun σ' H2 ⟨s2, x3, x4, x5, x6, x7, x8, x9, x10, x11, x12, eσ⟩ => ?_)
  · subst eσ
    obtain ⟨T, u, u', rfl, hT, rfl, e1, e2⟩ := y
    cases e1
    rw [List.length_map] at hk
    obtain ⟨p, hp⟩ : ∃ p, n[k]? = some p := ⟨_, List.getElem?_eq_getElem (by omega)⟩
    obtain ⟨t, g1, g2⟩ := getT k p hp
    have e2' : (ts.map V.ref)[k]? = some u' := e2
    rw [g1] at e2'
    cases e2'
    have s3 := s2.trans (same_upd (o := HO.tup [V.int (k : Nat), V.ref t]) hT)
    have ht1 : PcAt H1 t p := z1 _ _ g2
    refine ⟨T, _, rfl, SqT.of upd_same, rfl, _, _, rfl, _, _, rfl, rfl, ?_⟩
    generalize upd H2 T (.tup [V.int (k : Nat), V.ref t]) = H3 at s3 ⊢
    refine ⟨_, rfl, t, _, rfl, SqT.of (s3 _ _ ht1), rfl, _, _, rfl, _, _, rfl, _, _, rfl, rfl, ?_⟩
    refine normS (σ' := [some (.ref G), some (.ref a), some (.ref S), x3, x4, x5, x6, x7, some (.int (k : Nat)), some (.ref t), some (oV p.1), some (oV p.2.1), some (oV p.2.2)]) rfl ?_
    refine ⟨_, rfl, S, rfl, ⟨_, SqL.of (s3 _ _ hS)⟩, fun D hD => ?_⟩
    refine lc_list (xs := ys.map V.int) (fun i H' => Same H3 H' ∧ H' D = some (.lst (((ys.take i).filter fun v => geB p.1 v).map V.int))) ⟨same_upd hD, upd_same⟩ (fun i H' _ ⟨z, _⟩ => SqL.of (z _ _ (s3 _ _ hS))) (fun i x H4 hx ⟨s4, hD4⟩ => ?_) fun H4 ⟨s4, hD4⟩ => ?_
    · rw [List.getElem?_map] at hx
      cases ev' : ys[i]? with
      | none =>
        rw [ev'] at hx
        cases hx
      | some v =>
        rw [ev'] at hx
        cases (show V.int v = x from Option.some.inj hx)
        have tk : ys.take (i + 1) = ys.take i ++ [v] := by rw [List.take_succ, ev']; rfl
        refine ⟨rfl, ?_⟩
        refine in_low (a := p.1) (x := v) rfl rfl ?_
        refine (show (if geB p.1 v = true then _ else _) from ?_)
        refine ite2 (fun h => ?_) (fun h => ?_)
        · refine ⟨_, rfl, _, hD4, ?_, same_over s4 hD, ?_⟩
          · rw [List.length_map]
            refine Nat.lt_of_le_of_lt (List.length_filter_le _ _) ?_
            rw [List.length_take]
            exact Nat.lt_of_lt_of_le (show min i ys.length < 64 by omega) (by decide)
          · rw [upd_same, tk, List.filter_append, List.map_append]
            simp [h]
        · refine ⟨s4, ?_⟩
          rw [hD4, tk, List.filter_append]
          simp [h]
    rw [List.length_map, List.take_length] at hD4
    have s5 := s3.trans s4
    refine normS (σ' := [some (.ref G), some (.ref a), some (.ref S), some (.ref D), x4, x5, x6, x7, some (.int (k : Nat)), some (.ref t), some (oV p.1), some (oV p.2.1), some (oV p.2.2)]) rfl ?_
    refine ⟨_, rfl, D, rfl, ⟨_, SqL.of hD4⟩, fun D2 hD2 => ?_⟩
    have nD : D ≠ D2 := ne_of_none hD4 hD2
    refine lc_list (xs := (ys.filter fun v => geB p.1 v).map V.int) (fun i H' => Same H4 H' ∧ H' D2 = some (.lst ((((ys.filter fun v => geB p.1 v).take i).filter fun v => leO v p.2.1).map V.int))) ⟨same_upd hD2, upd_same⟩ (fun i H' _ ⟨z, _⟩ => SqL.of (z _ _ hD4)) (fun i x H5 hx ⟨s6, hD5⟩ => ?_) fun H5 ⟨s6, hD5⟩ => ?_
    · rw [List.getElem?_map] at hx
      cases ev' : (ys.filter fun v => geB p.1 v)[i]? with
      | none =>
        rw [ev'] at hx
        cases hx
      | some v =>
        rw [ev'] at hx
        cases (show V.int v = x from Option.some.inj hx)
        have tk : (ys.filter fun v => geB p.1 v).take (i + 1) = (ys.filter fun v => geB p.1 v).take i ++ [v] := by rw [List.take_succ, ev']; rfl
        refine ⟨rfl, ?_⟩
        refine in_high (b := p.2.1) (x := v) rfl rfl ?_
        refine (show (if leO v p.2.1 = true then _ else _) from ?_)
        refine ite2 (fun h => ?_) (fun h => ?_)
        · refine ⟨_, rfl, _, hD5, ?_, same_over s6 hD2, ?_⟩
          · rw [List.length_map]
            refine Nat.lt_of_le_of_lt (List.length_filter_le _ _) ?_
            rw [List.length_take]
            have := List.length_filter_le (fun v => geB p.1 v) ys
            exact Nat.lt_of_lt_of_le (show min i (ys.filter fun v => geB p.1 v).length < 64 by omega) (by decide)
          · rw [upd_same, tk, List.filter_append, List.map_append]
            simp [h]
        · refine ⟨s6, ?_⟩
          rw [hD5, tk, List.filter_append]
          simp [h]
    rw [List.length_map, List.take_length] at hD5
    have s7 := s5.trans s6
    refine ⟨D2, rfl, ⟨_, SqL.of hD5⟩, ?_⟩
    have idx : ∀ v, geO v p.1 → leO v p.2.1 = true → allN l v = takeW p.2.2 v := fun v h1 h2 => by
      rw [← ev v]
      exact (eval_at hcn hp (idx_of hcn hp h1 h2)).1
    refine for_list (xs := ((ys.filter fun v => geB p.1 v).filter fun v => leO v p.2.1).map V.int) (fun i σ' H' => Same H5 H' ∧ ∃ x4 : Option V, σ' = [some (.ref G), some (.ref a), some (.ref S), some (.ref D), x4, x5, x6, x7, some (.int (k : Nat)), some (.ref t), some (oV p.1), some (oV p.2.1), some (oV p.2.2)])
      ⟨Same.refl _, x4, rfl⟩ (fun i σ' H' _ ⟨z, _⟩ => SqL.of (z _ _ hD5)) (fun i x σ' H6 hx ⟨s8, x4, eσ⟩ => ?_) (fun σ' H6 ⟨s8, x4, eσ⟩ => ?_)
    · subst eσ
      have hmem := List.mem_of_getElem? hx
      obtain ⟨v, hv, rfl⟩ := List.mem_map.mp hmem
      have h1 := List.mem_filter.mp hv
      have h2 := List.mem_filter.mp h1.1
      have key := idx v (geB_iff.mp h2.2) h1.2
      refine ⟨_, rfl, _, rfl, a, l, v, rfl, (hm.same z1).same (s7.trans s8), hc, ?_⟩
      refine or_take (K := K) (w := p.2.2) (x := v) rfl rfl ?_
      refine ⟨rfl, false, ?_, ?_⟩
      · show V.bl (!decide (V.int (allN l v) = V.int (takeW p.2.2 v))) = V.bl false
        rw [key, decide_eq_true rfl] <;> rfl
      refine (show (if false = true then _ else _) from ?_)
      rw [if_neg (by decide)]
      exact ⟨s8, _, rfl⟩
    · subst eσ
      have s9 := s7.trans s8
      have nr := nrm_at nn hp
      have sF : ∀ e, p.2.1 = some e → ∃ q, n[k + 1]? = some q ∧ q.1 = some (e + 1) := fun e he => (chn_next hcn hp he).2
      have hdue : wOf (allN l) (spotOf p.1 v0) = p.2.2 := by
        cases hp1 : p.1 with
        | some b =>
          exact (nr.1 b hp1).symm
        | none =>
          have both : ∀ x, (∀ e, p.2.1 = some e → x ≤ e) → allN l x = takeW p.2.2 x := fun x hx => by
            refine idx x (by rw [hp1]; exact none_ge x) ?_
            cases z : p.2.1 with
            | none => rfl
            | some e => exact leO_some.mpr (hx e z)
          have low : ∀ e, p.2.1 = some e → v0 ≤ e - 2 := fun e he => by
            have m1 : e - 2 ∈ ys := by
              refine (ym _).mpr (List.mem_flatMap.mpr ⟨e, List.mem_cons_of_mem _ (List.mem_flatMap.mpr ⟨n, List.mem_append_right _ (List.mem_singleton.mpr rfl), List.mem_flatMap.mpr ⟨p, List.mem_of_getElem? hp, ?_⟩⟩), by simp [near]⟩)
              unfold intsP
              rw [he]
              simp [oL]
            obtain ⟨j, hj⟩ := List.getElem?_of_mem m1
            by_cases j0 : j = 0
            · subst j0
              rw [hv0] at hj
              cases hj
              omega
            · have := List.pairwise_iff_getElem.mp yp 0 j y0 (List.getElem?_eq_some_iff.mp hj).1 (by omega)
              rw [(List.getElem?_eq_some_iff.mp hv0).2, (List.getElem?_eq_some_iff.mp hj).2] at this
              omega
          show wOf (allN l) (v0 - 9) = p.2.2
          exact wOf_what (both _ fun e he => by have := low e he; omega) (both _ fun e he => by have := low e he; omega)
      have fin : ∀ (Dx : Ends) (x5 : Option V) (H7 : Hp), Same H1 H7 → (∀ x4 x6 x7 H8, Same H7 H8 → Dx.nx [some (.ref G), some (.ref a), some (.ref S), some (.ref D), x4, x5, x6, x7, some (.int (k : Nat)), some (.ref t), some (oV p.1), some (oV p.2.1), some (oV p.2.2)] H8) → _ := fun Dx x5 H7 s10 => told_tail (K := K) (Dx := Dx) (G := G) (D := D) (x4 := x4) (x5 := x5) (x6 := x6) (x7 := x7) (kk := (k : Nat)) (s10 _ _ hS) hv0 (hm.same (z1.trans s10)) hc (s10 _ _ ht1) (sm p (List.mem_of_getElem? hp)) hdue
      refine ⟨_, rfl, _, rfl, ?_⟩
      cases hp2 : p.2.1 with
      | none =>
        rw [← hp2, show (!decide (oV p.2.1 = V.non)) = false by rw [hp2]; rfl]
        refine (show (if false = true then _ else _) from ?_)
        rw [if_neg (by decide)]
        dsimp only [tNext]
        exact fin _ x5 H6 s9 fun x4 x6 x7 H8 s10 => ⟨s9.trans s10, _, _, _, _, _, _, _, _, _, _, rfl⟩
      | some e =>
        rw [← hp2, show (!decide (oV p.2.1 = V.non)) = true by rw [hp2]; rfl]
        refine (show (if true = true then _ else _) from ?_)
        rw [if_pos rfl]
        obtain ⟨q2, hq2, q21⟩ := sF e hp2
        obtain ⟨t2, g3, g4⟩ := getT _ _ hq2
        have oe : oV p.2.1 = V.int e := by rw [hp2]; rfl
        have nd : allN l (e + 1) ≠ takeW p.2.2 (e + 1) := by
          have := nr.2
          rw [hp2] at this
          exact this.2.2
        refine ⟨_, rfl, _, rfl, e, 1, oe, rfl, a, l, e + 1, rfl, hm.same (z1.trans s9), hc, ?_⟩
        refine or_take1 (w := p.2.2) (x := e) rfl (by rw [← oe]; rfl) ?_
        refine ⟨rfl, ?_⟩
        rw [show decide (V.int (allN l (e + 1)) = V.int (takeW p.2.2 (e + 1))) = false from decide_eq_false fun y => nd (V.int.inj y)]
        refine ⟨_, rfl, false, rfl, ?_⟩
        refine (show (if false = true then _ else _) from ?_)
        rw [if_neg (by decide)]
        refine ⟨_, rfl, _, rfl, (k : Int), 1, rfl, rfl, G, _, _, .ref t2, rfl, rfl, SqL.of (s9 _ _ (z1 _ _ hts)), atI_nat (j := k + 1) g3, t2, _, 0, _, rfl, rfl, SqT.of (s9 _ _ (z1 _ _ g4)), rfl, _, rfl, e, 1, oe, rfl, ?_⟩
        rw [q21]
        refine ⟨rfl, false, ?_, ?_⟩
        · show V.bl (!decide (V.int (e + 1) = V.int (e + 1))) = V.bl false
          rw [decide_eq_true rfl] <;> rfl
        refine (show (if false = true then _ else _) from ?_)
        rw [if_neg (by decide)]
        dsimp only [tNext]
        exact fin _ (some (.bl false)) H6 s9 fun x4 x6 x7 H8 s10 => ⟨s9.trans s10, _, _, _, _, _, _, _, _, _, _, rfl⟩
  · subst eσ
    exact q H2 (z1.trans s2)
end
end C4

end Pq4u
section Pq4v
set_option maxHeartbeats 4000000
namespace C4
open PySem PySem.Spec L2 PyProof.Rows
open T (atV orV Tab TMap RestOk NormOf NL leS sorted_pw pw_uniq mem_perm valV_key atV_of norm_NL norm_at)
/-! ### what is kept of a function of texts -/
def orS (r : V) (z : Str) : Str := match r with
  | .str y => y
  | _ => z
theorem orV_eq {r : V} (h : RestOk r) (z : Str) : orV r z = .str (orS r z) := by
  rcases h with rfl | ⟨y, rfl, _⟩ <;> rfl
structure NrmT (f : Str → Str) (r : V) (ex : List (Key × V)) : Prop where
  nl : NL ex
  at_ : ∀ z, atV ex r z = .str (f z)
  ne : ∀ z, (Sum.inr z : Key) ∈ ex.map (·.1) → f z ≠ orS r z
theorem nrmT_of {n : Nat} {kvs ex : List (Key × V)} {r : V} {f : Str → Str} (t : Tab n kvs) (hn : n ≤ 60) (ro : RestOk r) (h : NormOf kvs r ex) (hf : ∀ z, atV kvs r z = .str (f z)) : NrmT f r ex ∧ ex.length ≤ n := by
  have nl := norm_NL t hn h
  have na := norm_at h
  refine ⟨⟨nl, fun z => (na z).trans (hf z), fun z hz e => ?_⟩, ?_⟩
  · obtain ⟨ks, ys, hks, hp, hs, rfl⟩ := h
    obtain ⟨q, hq, eq⟩ := List.mem_map.mp hz
    obtain ⟨k, hk, rfl⟩ := List.mem_map.mp hq
    have ek : k = z := Sum.inr.inj eq
    subst ek
    obtain ⟨h1, h2⟩ := List.mem_filter.mp hk
    have ik : (Sum.inr k : Key) ∈ kvs.map (·.1) := by
      rw [hks]
      exact List.mem_map.mpr ⟨k, hp.mem_iff.mp h1, rfl⟩
    obtain ⟨v, hv⟩ := Option.isSome_iff_exists.mp (valV_key.mpr ik)
    have a1 := atV_of (r := V.non) hv
    have a2 := atV_of (r := r) hv
    have : atV kvs .non k = orV r k := by
      rw [a1, orV_eq ro, ← e, ← hf k, a2]
      rfl
    rw [decide_eq_true this] at h2
    cases h2
  · obtain ⟨ks, ys, hks, hp, hs, rfl⟩ := h
    have l1 := List.length_filter_le (fun k => !decide (atV kvs .non k = orV r k)) ys
    have l2 := hp.length_eq
    have l3 := congrArg List.length hks
    rw [List.length_map, List.length_map] at l3
    have := t.len
    rw [List.length_map]
    omega
theorem NrmT.key {f : Str → Str} {r : V} {ex : List (Key × V)} (ro : RestOk r) (h : NrmT f r ex) (z : Str) : (Sum.inr z : Key) ∈ ex.map (·.1) ↔ f z ≠ orS r z := by
  refine ⟨h.ne z, fun n => ?_⟩
  cases e : valV ex (Sum.inr z) with
  | some v => exact valV_key.mp (by rw [e]; rfl)
  | none =>
    have a := atV_of (r := r) e
    rw [h.at_ z, show (none : Option V).getD (orV r z) = orV r z from rfl, orV_eq ro] at a
    exact absurd (V.str.inj a) n
theorem NrmT.keys {f : Str → Str} {r : V} {ex : List (Key × V)} (ro : RestOk r) (h : NrmT f r ex) : ∃ ks : List Str, ex = ks.map (fun k => ((Sum.inr k : Key), V.str (f k))) ∧ sortedS ks = true ∧ ks.Nodup ∧ ∀ z, z ∈ ks ↔ f z ≠ orS r z := by
  have hk := h.key ro
  have ha := h.at_
  obtain ⟨ks, g, rfl, s, nd, hw, _⟩ := h.nl
  have mem : ∀ z, z ∈ ks ↔ (Sum.inr z : Key) ∈ (ks.map (fun k => ((Sum.inr k : Key), V.str (g k)))).map (·.1) := fun z => by
    rw [T.keys_map]
    constructor
    · intro y
      exact List.mem_map.mpr ⟨z, y, rfl⟩
    · intro y
      obtain ⟨k, y, e⟩ := List.mem_map.mp y
      rw [← Sum.inr.inj e]
      exact y
  refine ⟨ks, List.map_congr_left fun k hk' => ?_, s, nd, fun z => (mem z).trans (hk z)⟩
  have v := T.valV_words (fun k => V.str (g k)) k ks
  rw [if_pos hk'] at v
  have a := atV_of (r := r) v
  rw [ha k] at a
  have : f k = g k := V.str.inj a
  rw [this]
theorem NrmT.uniq {f : Str → Str} {r : V} {ex ey : List (Key × V)} (ro : RestOk r) (h : NrmT f r ex) (g : NrmT f r ey) : ex = ey := by
  obtain ⟨ks, e1, s1, n1, m1⟩ := h.keys ro
  obtain ⟨ms, e2, s2, n2, m2⟩ := g.keys ro
  have : ks = ms := pw_uniq (sorted_pw s1) (sorted_pw s2) (mem_perm n1 n2 fun z => (m1 z).trans (m2 z).symm)
  rw [e1, e2, this]
theorem sorted_filter {ys : List Str} (h : sortedS ys = true) (p : Str → Bool) : sortedS (ys.filter p) = true := by
  have pw := (sorted_pw h).sublist (List.filter_sublist (p := p) (l := ys))
  refine sortedS_of_pairwise _ (pw.imp fun {a b} h => ?_)
  rw [ltCps_eq]
  exact decide_eq_false (List.not_lt.mpr h)
/-- the keys that are kept are those among the points that the rest doesn't say -/
theorem NrmT.due {f : Str → Str} {r : V} {ex : List (Key × V)} {ys : List Str} (ro : RestOk r) (h : NrmT f r ex) (s : sortedS ys = true) (nd : ys.Nodup) (all : ∀ z, f z ≠ orS r z → z ∈ ys) :
    ex.map (fun kv => kV kv.1) = (ys.filter fun z => !decide (f z = orS r z)).map V.str := by
  obtain ⟨ks, e1, s1, n1, m1⟩ := h.keys ro
  have : ks = ys.filter fun z => !decide (f z = orS r z) := by
    refine pw_uniq (sorted_pw s1) (sorted_pw (sorted_filter s _)) (mem_perm n1 (nd.sublist List.filter_sublist) fun z => ?_)
    rw [m1 z, List.mem_filter]
    constructor
    · intro n
      exact ⟨all z n, by rw [decide_eq_false n]; rfl⟩
    · rintro ⟨_, n⟩ e
      rw [decide_eq_true e] at n
      cases n
  rw [← this, e1, List.map_map] <;> rfl
/-! ### a row of mappings of texts -/
def rStep (r : V) (x : TM) : V := match r with
  | .str y => .str (atS x y)
  | _ => x.2
def rAll (r : V) (xs : List TM) : V := xs.foldl rStep r
theorem rAll_str (y : Str) : ∀ xs : List TM, rAll (.str y) xs = .str (allT xs y)
  | [] => rfl
  | x :: r => rAll_str (atS x y) r
def keyT (x : TM) : List Str := x.1.map Prod.fst
theorem at_own {x : TM} (o : TmOk x) {z : Str} (h : z ∈ keyT x) : atS x z ∈ x.1.map Prod.snd := by
  have a := at_str o.1 o.2 z
  have ik : (Sum.inr z : Key) ∈ (kvW x.1).map (·.1) := by
    rw [kvW_keys]
    exact List.mem_map.mpr ⟨z, h, rfl⟩
  obtain ⟨v, hv⟩ := Option.isSome_iff_exists.mp (valV_key.mpr ik)
  rw [atV_of hv] at a
  obtain ⟨p, hp, e⟩ := List.mem_map.mp (valV_mem hv)
  have e2 : V.str p.2 = v := congrArg Prod.snd e
  have e3 : v = .str (atS x z) := a
  rw [← e2] at e3
  rw [← V.str.inj e3]
  exact List.mem_map.mpr ⟨p, hp, rfl⟩
theorem at_out {x : TM} (o : TmOk x) {z : Str} (h : z ∉ keyT x) : atS x z = orS x.2 z := by
  have a := at_str o.1 o.2 z
  have hv : valV (kvW x.1) (Sum.inr z) = none := by
    cases e : valV (kvW x.1) (Sum.inr z) with
    | none => rfl
    | some v =>
      have ik := valV_key.mp (show (valV (kvW x.1) (Sum.inr z)).isSome = true by rw [e]; rfl)
      rw [kvW_keys] at ik
      obtain ⟨k, hk, ek⟩ := List.mem_map.mp ik
      rw [Sum.inr.inj ek] at hk
      exact absurd hk h
  rw [atV_of hv, show (none : Option V).getD (orV x.2 z) = orV x.2 z from rfl, orV_eq o.2] at a
  exact (V.str.inj a).symm
theorem at_word {x : TM} (o : TmOk x) {z : Str} (h : wordB z 12 = true) : wordB (atS x z) 12 = true := by
  obtain ⟨u, e, hu⟩ := T.at_word (o.1.tab (show 3 ≤ 3 from Nat.le_refl _)) o.2 h
  rw [at_str o.1 o.2 z] at e
  rw [V.str.inj e]
  exact hu
theorem all_word : ∀ {xs : List TM} {z : Str}, (∀ x ∈ xs, TmOk x) → wordB z 12 = true → wordB (allT xs z) 12 = true
  | [], z, _, h => h
  | x :: r, z, o, h => all_word (xs := r) (z := atS x z) (fun y hy => o y (List.mem_cons_of_mem _ hy)) (at_word (o x List.mem_cons_self) h)
theorem rStep_ok {r : V} {x : TM} (hr : RestOk r) (o : TmOk x) : RestOk (rStep r x) := by
  rcases hr with rfl | ⟨y, rfl, hy⟩
  · exact o.2
  · exact .inr ⟨_, rfl, at_word o hy⟩
theorem rAll_ok : ∀ {xs : List TM} {r : V}, RestOk r → (∀ x ∈ xs, TmOk x) → RestOk (rAll r xs)
  | [], r, h, _ => h
  | x :: t, r, h, o => rAll_ok (xs := t) (rStep_ok h (o x List.mem_cons_self)) fun y hy => o y (List.mem_cons_of_mem _ hy)
/-- where no mapping has the word as a key, the row says its rest -/
theorem all_out {z : Str} : ∀ {xs : List TM} {r : V}, RestOk r → (∀ x ∈ xs, TmOk x ∧ z ∉ keyT x) → allT xs (orS r z) = orS (rAll r xs) z
  | [], r, _, _ => rfl
  | x :: t, r, h, o => by
    have ox := o x List.mem_cons_self
    have key : atS x (orS r z) = orS (rStep r x) z := by
      rcases h with rfl | ⟨y, rfl, hy⟩
      · exact at_out ox.1 ox.2
      · rfl
    show allT t (atS x (orS r z)) = orS (rAll (rStep r x) t) z
    rw [key]
    exact all_out (xs := t) (rStep_ok h ox.1) fun y hy => o y (List.mem_cons_of_mem _ hy)
theorem rest_in {W : List Str} : ∀ {xs : List TM} {r : V}, (∀ x ∈ xs, TmOk x ∧ ∀ k ∈ wordsL x, k ∈ W) → (r = .non ∨ ∃ y, r = .str y ∧ y ∈ W) → (rAll r xs = .non ∨ ∃ y, rAll r xs = .str y ∧ y ∈ W)
  | [], r, _, h => h
  | x :: t, r, o, h => by
    obtain ⟨ox, oW⟩ := o x List.mem_cons_self
    refine rest_in (xs := t) (fun y hy => o y (List.mem_cons_of_mem _ hy)) ?_
    have own : ∀ y, x.2 = .str y → y ∈ W := fun y e => oW y (by unfold wordsL; rw [e]; exact List.mem_append_right _ (List.mem_singleton.mpr rfl))
    rcases h with rfl | ⟨y, rfl, hy⟩
    · rcases ox.2 with e | ⟨y, e, _⟩
      · exact .inl e
      · exact .inr ⟨y, e, own y e⟩
    · refine .inr ⟨_, rfl, ?_⟩
      by_cases c : y ∈ keyT x
      · exact oW _ (by unfold wordsL; exact List.mem_append_left _ (List.mem_append_right _ (at_own ox c)))
      · rw [at_out ox c]
        rcases ox.2 with e | ⟨u, e, _⟩
        · rw [e]
          exact hy
        · rw [e]
          exact own u e
/-! ### words that nothing names are left -/
theorem cut_len : ∀ {l m : List Str}, l.Nodup → (l.filter fun z => decide (z ∈ m)).length ≤ m.length := fun {l m} nd => by
  have le1 : ∀ {l m : List Str}, l.Nodup → (∀ x ∈ l, x ∈ m) → l.length ≤ m.length := fun {l} => by
    induction l with
    | nil => intro m _ _; exact Nat.zero_le _
    | cons a l ih =>
      intro m nd h
      obtain ⟨n1, n2⟩ := List.nodup_cons.mp nd
      have pm := List.perm_cons_erase (h a List.mem_cons_self)
      have z := ih (m := m.erase a) n2 fun x hx => (List.mem_erase_of_ne (show x ≠ a from fun z => n1 (z ▸ hx))).mpr (h x (List.mem_cons_of_mem _ hx))
      have q := pm.length_eq
      rw [List.length_cons] at q ⊢
      omega
  exact le1 (nd.sublist List.filter_sublist) fun x hx => of_decide_eq_true (List.mem_filter.mp hx).2
theorem split_len (p : Str → Bool) : ∀ l : List Str, (l.filter p).length + (l.filter fun z => !p z).length = l.length
  | [] => rfl
  | a :: l => by
    have ih := split_len p l
    rw [List.filter_cons, List.filter_cons]
    cases h : p a
    · simp only [h, Bool.not_false, ↓reduceIte, Bool.false_eq_true, List.length_cons]
      omega
    · simp only [h, Bool.not_true, ↓reduceIte, Bool.false_eq_true, List.length_cons]
      omega
/-- of the tried words some are left that are none of ws, if few of ws are tried -/
theorem far_some {ws gs : List Str} (h : ∀ z ∈ tried, z ∈ ws → z ∈ gs) (hl : gs.length ≤ 23) : ∃ z, (farW ws)[0]? = some z := by
  have l1 := split_len (fun z => decide (z ∈ ws)) tried
  have l2 : (tried.filter fun z => decide (z ∈ ws)).length ≤ gs.length := by
    have e : tried.filter (fun z => decide (z ∈ ws)) = (tried.filter fun z => decide (z ∈ gs)).filter fun z => decide (z ∈ ws) := by
      rw [List.filter_filter]
      refine List.filter_congr fun z hz => ?_
      by_cases c : z ∈ ws
      · rw [decide_eq_true c, decide_eq_true (h z hz c)]
        rfl
      · rw [decide_eq_false c]
        rfl
    rw [e]
    exact Nat.le_trans (List.length_filter_le _ _) (cut_len tried_nd)
  have l3 : tried.length = 24 := by decide +kernel
  have : 0 < (farW ws).length := by
    unfold farW
    omega
  exact ⟨_, List.getElem?_eq_getElem this⟩
theorem tried_w4 : ∀ z ∈ tried, z ∉ w4 := by decide +kernel
theorem tried_bw : ∀ z ∈ tried, z ∉ bw := by decide +kernel
end C4

end Pq4v
section Pq4w
set_option maxHeartbeats 16000000
namespace C4
open PySem PySem.Spec L2 PyProof.Rows
open T (atV orV Tab TMap RestOk NormOf MkT)
structure EqF (P : Program) (w : World) (K : PySem.W.Frag) (mg : Str → Option Value) (base : Heap) (C CM CT fE : Addr) (dE : FuncData) : Prop where
  o : EqO K C fE
  g : FnOk P w K mg base CX0 2 fE dE ["self", "other"] (spEq K C CM CT)
  b : Binds K dE ["self", "other"] []
structure ReF (P : Program) (w : World) (K : PySem.W.Frag) (mg : Str → Option Value) (base : Heap) (C fR : Addr) (dR : FuncData) : Prop where
  s : PySem.W.findIn K (.ref C) "__repr__" = some (some (.ref fR))
  fn : PySem.W.isFn K (.ref fR) = true
  g : FnG P w K mg base CX0 1 fR dR ["self"] (spReprN C)
  b : Binds K dR ["self"] []
theorem notFirst_self {K : PySem.W.Frag} {C : Addr} : PySem.W.notFirst K C (.ref C) = true := by simp [PySem.W.notFirst]
theorem NMap.bt {C : Addr} {H H' : Hp} {p m : Addr} {n : List Pc} (hP : PotAt H p) (b : Bt p H H') (h : NMap C H m n) : NMap C H' m n := by
  obtain ⟨dx, u, e1, ts, e2, pr⟩ := h
  have n1 : m ≠ p := fun z => by
    obtain ⟨x, y, e, _⟩ := hP
    rw [z, e] at e1
    cases e1
  exact ⟨dx, u, b _ _ n1 e1, ts, b _ _ (tup_np hP e2) e2, pr.mono fun c q f => b _ _ (tup_np hP f) f⟩
structure EqT (P : Program) (w : World) (K : PySem.W.Frag) (mg : Str → Option Value) (base : Heap) (C CM CN fE : Addr) (dE : FuncData) : Prop where
  o : EqO K C fE
  g : FnOk P w K mg base CX0 2 fE dE ["self", "other"] (T.spEq K C CM CN)
  b : Binds K dE ["self", "other"] []
theorem TMap.bt {C : Addr} {H H' : Hp} {p m : Addr} {ex : List (Key × V)} {r : V} (hP : PotAt H p) (b : Bt p H H') (h : TMap C H m ex r) : TMap C H' m ex r := by
  obtain ⟨dx, d, e1, e2⟩ := h
  obtain ⟨x, y, e, _⟩ := hP
  have n1 : m ≠ p := fun z => by
    rw [z, e] at e1
    cases e1
  have n2 : d ≠ p := fun z => by
    rw [z, e] at e2
    cases e2
  exact ⟨dx, d, b _ _ n1 e1, b _ _ n2 e2⟩
structure CMk (P : Program) (w : World) (K : PySem.W.Frag) (mg : Str → Option Value) (base : Heap) (C : Addr) (mc : Value) (x : Str) (p f : Addr) (d : FuncData) (ps : List Str) (sp : Sp) : Prop where
  r : ClX.CRead K C mc
  c : ClX.CMet K C mc x p f
  g : FnOk P w K mg base CX0 5 f d ps sp
  b : Binds K d ps []
structure ReT (P : Program) (w : World) (K : PySem.W.Frag) (mg : Str → Option Value) (base : Heap) (C fR : Addr) (dR : FuncData) : Prop where
  s : PySem.W.findIn K (.ref C) "__repr__" = some (some (.ref fR))
  fn : PySem.W.isFn K (.ref fR) = true
  g : FnG P w K mg base CX0 1 fR dR ["self"] (T.spReprT C)
  b : Binds K dR ["self"] []
structure AtF (P : Program) (w : World) (K : PySem.W.Frag) (mg : Str → Option Value) (base : Heap) (C fA : Addr) (dA : FuncData) (sp : Sp) : Prop where
  m : Meth K C "at" fA
  g : FnOk P w K mg base CX0 3 fA dA ["self", "value"] sp
  b : Binds K dA ["self", "value"] []
/-- [f(spot) for spot in points], what changes nothing of what there is -/
theorem lc_map {K : PySem.W.Frag} {te : TE} {σ : L2.St} {H : Hp} {Q : VK} {j i : Nat} {S : Addr} {α : Type} {e1 e2 : α → V} {ys : List α} (hj : σ[j]? = some (some (.ref S))) (hS : H S = some (.lst (ys.map e1))) (hl : ys.length < 64) (hw : ∀ x, wipe ((wipe σ [i]).set i (some x)) [i] = wipe σ [i])
    (body : ∀ y ∈ ys, ∀ (H1 : Hp) (Q' : VK), Same H H1 → (∀ H2, Same H1 H2 → Q' (e2 y) H2) → te ((wipe σ [i]).set i (some (e1 y))) H1 Q') (fin : ∀ D H1, Same H H1 → H1 D = some (.lst (ys.map e2)) → Q (.ref D) H1) : tLc (iList K (tVar j)) (gName i) tYes te [i] σ H Q := by
  refine ⟨_, hj, S, rfl, ⟨_, SqL.of hS⟩, fun D hD => ?_⟩
  refine lc_list (xs := ys.map e1) (fun k H' => Same H H' ∧ H' D = some (.lst ((ys.take k).map e2))) ⟨same_upd hD, upd_same⟩ (fun k H' _ ⟨z, _⟩ => SqL.of (z _ _ hS)) (fun k x H1 hx ⟨s1, hD1⟩ => ?_) fun H1 ⟨s1, hD1⟩ => ?_
  · rw [List.getElem?_map] at hx
    cases ey : ys[k]? with
    | none =>
      rw [ey] at hx
      cases hx
    | some y =>
      rw [ey] at hx
      cases (show e1 y = x from Option.some.inj hx)
      have tk : ys.take (k + 1) = ys.take k ++ [y] := by rw [List.take_succ, ey]; rfl
      refine ⟨hw _, ?_⟩
      simp only [tYes, ↓reduceIte]
      refine body y (List.mem_of_getElem? ey) H1 _ s1 fun H2 s2 => ⟨_, s2 _ _ hD1, ?_, same_over (s1.trans s2) hD, ?_⟩
      · rw [List.length_map, List.length_take]
        exact Nat.lt_of_le_of_lt (show min k ys.length ≤ 64 by omega) (by decide)
      · rw [upd_same, tk, List.map_append] <;> rfl
  · rw [List.length_map, List.take_length] at hD1
    exact fin D H1 s1 hD1
theorem dp_ints {K : PySem.W.Frag} {H : Hp} : ∀ ks : List Int, DpAll K H (ks.map V.int) (ks.map PyData.int)
  | [] => .nil
  | k :: r => .cons (.int k) (dp_ints r)
theorem shaped_ints (ks : List Int) : SeqAt.shaped (.list (ks.map PyData.int)) = true := by
  have h : ∀ ks : List Int, PyData.canLayAll0 (ks.map PyData.int) = true := fun ks => by
    induction ks with
    | nil => rfl
    | cons k r ih =>
      show (PyData.canLay0 (.int k) && PyData.canLayAll0 (r.map PyData.int)) = true
      rw [ih] <;> rfl
  have h2 : PyData.depth (.list (ks.map PyData.int)) ≤ 64 := by
    simp only [PyData.depth]
    rw [PySem.W.depth_ints]
    omega
  show (PyData.canLayAll0 (ks.map PyData.int) && decide (PyData.depth (.list (ks.map PyData.int)) ≤ 64)) = true
  rw [h, decide_eq_true h2] <;> rfl
theorem eqv_ints : ∀ (ks ls : List Int), PyData.eqvAll (ks.map PyData.int) (ls.map PyData.int) = decide (ks = ls)
  | [], [] => rfl
  | [], _ :: _ => by
    rw [decide_eq_false (fun e => nomatch e)] <;> rfl
  | _ :: _, [] => by
    rw [decide_eq_false (fun e => nomatch e)] <;> rfl
  | k :: ks, l :: ls => by
    show ((k == l) && PyData.eqvAll (ks.map PyData.int) (ls.map PyData.int)) = _
    rw [eqv_ints ks ls]
    by_cases e : k = l
    · subst e
      rw [beq_self_eq_true, Bool.true_and]
      by_cases g : ks = ls
      · subst g
        rw [decide_eq_true rfl, decide_eq_true rfl]
      · rw [decide_eq_false g, decide_eq_false fun z => g (List.cons.inj z).2]
    · rw [beq_eq_false_iff_ne.mpr e, Bool.false_and, decide_eq_false fun z => e (List.cons.inj z).1]
/-! texts -/
theorem word_ok {z : Str} (h : wordB z 12 = true) : PyData.strOk z = true := by
  unfold PyData.strOk
  rw [← Array.all_toList, List.all_eq_true]
  intro c hc
  have := (word_asc (m := 12) h).2 c hc
  exact decide_eq_true (by omega)
theorem canLay_strs : ∀ {ks : List Str}, (∀ k ∈ ks, wordB k 12 = true) → PyData.canLayAll0 (ks.map PyData.str) = true
  | [], _ => rfl
  | k :: r, h => by
    show (PyData.strOk k && PyData.canLayAll0 (r.map PyData.str)) = true
    rw [word_ok (h k List.mem_cons_self), canLay_strs fun x hx => h x (List.mem_cons_of_mem _ hx)] <;> rfl
theorem depth_strs : ∀ ks : List Str, PyData.depthAll (ks.map PyData.str) ≤ 1
  | [] => by simp [PyData.depthAll]
  | k :: r => by
    have := depth_strs r
    simp only [List.map_cons, PyData.depthAll, PyData.depth]
    omega
theorem shaped_strs {ks : List Str} (h : ∀ k ∈ ks, wordB k 12 = true) : SeqAt.shaped (.list (ks.map PyData.str)) = true := by
  have h1 := depth_strs ks
  have h2 : PyData.depth (.list (ks.map PyData.str)) ≤ 64 := by
    simp only [PyData.depth]
    omega
  show (PyData.canLayAll0 (ks.map PyData.str) && decide (PyData.depth (.list (ks.map PyData.str)) ≤ 64)) = true
  rw [canLay_strs h, decide_eq_true h2] <;> rfl
theorem eqv_strs : ∀ (ks ls : List Str), PyData.eqvAll (ks.map PyData.str) (ls.map PyData.str) = decide (ks = ls)
  | [], [] => rfl
  | [], _ :: _ => by
    rw [decide_eq_false (fun e => nomatch e)] <;> rfl
  | _ :: _, [] => by
    rw [decide_eq_false (fun e => nomatch e)] <;> rfl
  | k :: ks, l :: ls => by
    show ((k == l) && PyData.eqvAll (ks.map PyData.str) (ls.map PyData.str)) = _
    rw [eqv_strs ks ls]
    by_cases e : k = l
    · subst e
      rw [beq_self_eq_true, Bool.true_and]
      by_cases g : ks = ls
      · subst g
        rw [decide_eq_true rfl, decide_eq_true rfl]
      · rw [decide_eq_false g, decide_eq_false fun z => g (List.cons.inj z).2]
    · rw [beq_eq_false_iff_ne.mpr e, Bool.false_and, decide_eq_false fun z => e (List.cons.inj z).1]
theorem dp_strs {K : PySem.W.Frag} {H : Hp} : ∀ ks : List Str, DpAll K H (ks.map V.str) (ks.map PyData.str)
  | [] => .nil
  | k :: r => .cons (.str k) (dp_strs r)

end C4
namespace L2
open PySem
/-- a def that keeps a promise keeps a weaker one -/
theorem FnOk.weak {P : Program} {w : World} {K : PySem.W.Frag} {mg : Str → Option Value} {base : Heap} {CX : CXT} {k : Nat} {f : Addr} {fd : FuncData} {ps : List Str} {sp sp' : Sp} (i : ∀ {vs H Q E}, sp' vs H Q E → sp vs H Q E) (F : FnOk P w K mg base CX k f fd ps sp) : FnOk P w K mg base CX k f fd ps sp' :=
  ⟨fun vs H Q E h => F.len vs H Q E (i h), fun A outer s H args us vs Q E hr e b r h => F.run A outer s H args us vs Q E hr e b r (i h)⟩
end L2
namespace C4
open PySem PySem.Spec L2 PyProof.Rows
open T (atV orV Tab TMap RestOk NormOf MkT)
/-! ### rows, maps that say what they say -/
def RowT (H : Hp) (R : Addr) (xs : List TM) : Prop := ∃ as : List Addr, H R = some (.lst (as.map V.ref)) ∧ Paired (fun a (x : TM) => TxtAt H a x.1 x.2) as xs
theorem RowT.same {H H' : Hp} {R : Addr} {xs : List TM} (h : RowT H R xs) (s : Same H H') : RowT H' R xs := by
  obtain ⟨as, a, b⟩ := h
  exact ⟨as, s _ _ a, b.mono fun c q e => e.same s⟩
def spAllT2 : Sp := fun vs H Q _ => ∃ (R : Addr) (xs : List TM) (z : Str), vs = [.ref R, .str z] ∧ RowT H R xs ∧ (∀ x ∈ xs, TmOk x) ∧ ∀ H', Same H H' → Q (.str (allT xs z)) H'
theorem allT2 {vs : List V} {H : Hp} {Q : VK} {E : XK} (h : spAllT2 vs H Q E) : spAllT vs H Q E := by
  obtain ⟨R, xs, z, rfl, ⟨as, a, b⟩, c, q⟩ := h
  exact ⟨R, as, xs, z, 3, rfl, a, b, c, q⟩
def IsN (C : Addr) (H : Hp) (m : Addr) (f : Int → Int) (k : Nat) : Prop := ∃ n, NMap C H m n ∧ Nrm f none n ∧ n.length ≤ k
def IsT (C : Addr) (H : Hp) (m : Addr) (f : Str → Str) (r : V) (k : Nat) : Prop := ∃ ex, TMap C H m ex r ∧ NrmT f r ex ∧ RestOk r ∧ ex.length ≤ k
theorem IsN.same {C : Addr} {H H' : Hp} {m : Addr} {f : Int → Int} {k : Nat} (s : Same H H') (h : IsN C H m f k) : IsN C H' m f k := by
  obtain ⟨n, a, b⟩ := h
  exact ⟨n, NMap.same s a, b⟩
theorem IsT.same {C : Addr} {H H' : Hp} {m : Addr} {f : Str → Str} {r : V} {k : Nat} (s : Same H H') (h : IsT C H m f r k) : IsT C H' m f r k := by
  obtain ⟨n, a, b⟩ := h
  exact ⟨n, TMap.same s a, b⟩
def PcOk (l : List Pc) : Prop := chn none l ∧ LimP l ∧ l.length ≤ 4
abbrev s_isrow : Stmt := top 65
abbrev nIsr : List Str := ["_law_made", "_law_row", "_law_points_here", "_law_far_here", "_law_rest", "_law_due", "_law_spot", "_law_word_here"]
theorem sc_isrow : FnScope nIsr ["_law_made", "_law_row"] (defScope s_isrow) := ⟨rfl, rfl, rfl, by decide +kernel, rfl, by decide +kernel, by decide +kernel⟩
structure TR3 (mg : Str → Option Value) (CM : Addr) : Prop where
  isi : mg "isinstance" = none
  map : mg "Map" = some (.ref CM)
  rep : mg "repr" = none
  list : mg "list" = none
def spIsRowN (C : Addr) : Sp := fun vs H Q _ => ∃ (m R : Addr) (k : Nat) (ls : List (List Pc)), vs = [.ref m, .ref R] ∧ IsN C H m (allN ls) k ∧ k ≤ 30 ∧ RowN H R ls ∧ (∀ l ∈ ls, PcOk l) ∧ 1 ≤ ls.length ∧ ls.length ≤ 5 ∧ ∀ H', Same H H' → Q (.bl true) H'
section
variable {P : Program} {w : World} {K : PySem.W.Frag} {mg : Str → Option Value} {base : Heap} {f CN CM fQ fL fA p1 g1 fT fP : Addr} {fd dQ dL dA e1 dT dP : FuncData}
theorem ok_isRowN (F : FD K "_law_is_row" s_isrow f fd) (N : NMc K CN) (ON : TcO K CN CM "number") (T0 : TR3 mg CM)
    (Q1 : Kn P w K mg base 1 "_law_points" fQ dQ ["_law_row"] spPts4N) (L1 : Kn P w K mg base 2 "_law_all_at" fL dL ["_law_row", "_law_value"] spAllN2) (A1 : AtF P w K mg base CN fA dA (spAtN CN)) (K1 : PrF P w K mg base CN p1 g1 e1 "kind" (spKind CN))
    (PD : KnG P w K mg base 3 "_law_pieces_told" fT dT ["_law_pieces_here", "_law_row"] spPtold) (GP : FnOk P w K mg base CX0 1 fP dP ["self"] (spPiecesM CN)) (bP : Binds K dP ["self"] []) (mP : Meth K CN "pieces" fP) :
    FnG P w K mg base CX0 4 f fd ["_law_made", "_law_row"] (spIsRowN CN) := by
  refine F.okG sc_isrow (fun vs H Q E h => ?_) (fun cdv A outer s H vs Q E hg hr h => ?_)
  · obtain ⟨m, R, k, ls, rfl, _⟩ := h
    rfl
  obtain ⟨m, R, k, ls, rfl, ⟨n, nm, hn, nk⟩, k30, row, ok, l1, l5, q⟩ := h
  have hG := deeper_guards (env := PyProof.Rows.envOfC "_law_is_row" (defScope s_isrow) s.heap.objs.size f cdv) hg
  have hu := hr.units
  refine ⟨_, PSs.nox (pss_cons (ps_set (i := 2) sc_isrow.nd rfl (Or.inl rfl) (pe_call Q1.f (hr.mono (by decide)) rfl Q1.m Q1.k Q1.b .nil pass0 (pa_cons (pv 1) pa_nil)))
    (pss_cons (ps_if (pt_cmpR (op_neD (by exact hu))
         (pe_lc (own := [("_law_spot", 6)]) (g := gName 6) (tt := tYes) (te := tMeth CN "at" (spAtN CN) [] E0 (tVar 0) (tCons (tVar 6) tNil)) rfl sc_isrow.nd (pi_list (pv 2)) (blkOk_by (N := nIsr) (sc := defScope s_isrow) (by decide +kernel)) (fun _ _ _ _ _ => pg_name (i := 6) sc_isrow.nd rfl (Or.inl rfl)) (fun _ _ _ _ _ => pts_nil) (fun _ _ _ _ _ => by exact (pe_meth (pv 0) N.cl A1.m A1.g (hr.mono (by decide)) A1.b .nil pass0 (pa_cons (pv 6) pa_nil))))
         (pe_lc (own := [("_law_spot", 6)]) (g := gName 6) (tt := tYes) (te := tCall spAllN2 [] E0 (tCons (tVar 1) (tCons (tVar 6) tNil))) rfl sc_isrow.nd (pi_list (pv 2)) (blkOk_by (N := nIsr) (sc := defScope s_isrow) (by decide +kernel)) (fun _ _ _ _ _ => pg_name (i := 6) sc_isrow.nd rfl (Or.inl rfl)) (fun _ _ _ _ _ => pts_nil) (fun _ _ _ _ _ => by exact (pe_call L1.f (hr.mono (by decide)) rfl L1.m L1.k L1.b .nil pass0 (pa_cons (pv 1) (pa_cons (pv 6) pa_nil))))) (nomark _)) pss_never pss_nil)
    (pss_cons (ps_if (PW.pt (pw_or (pt_not (pt_val (pe_callB call_isi (by rfl) T0.isi boot_isi (pa_cons (pv 0) (pa_cons (pe_glob (v := .ref CM) rfl T0.map rfl) pa_nil))))) (pw_or1 (pt_cmpR op_ne (pe_prop (pv 0) N.cl K1.p K1.g (hr.mono (by decide)) K1.b .nil pass0 (by rfl)) (pe_ix ix_tup (pe_ix ix_list (pv 1) pe_int (fun _ _ => rfl)) pe_int (fun _ _ => rfl)) (nomark _))))) pss_never pss_nil)
    (pss_cons (ps_if (pt_cmpR op_eq (pe_ix ix_tup (pe_ix ix_list (pv 1) pe_int (fun _ _ => rfl)) pe_int (fun _ _ => rfl)) pe_str (nomark _))
        (pss_one (ps_ret (pe_callG PD.f (by exact hG) hr rfl PD.m PD.k PD.b .nil pass0 (pa_cons (pe_meth0 (pv 0) N.cl mP GP (hr.mono (by decide)) bP .nil pass0) (pa_cons (pv 1) pa_nil))))) pss_nil)
    pss_never)))), ?_⟩
  have hcn := (nrm_chn hn).1
  have ev : ∀ x, evalP n x = allN ls x := fun x => (nrm_chn hn).2 x (none_ge x)
  have hc : RowC ls := fun l hl => (ok l hl).1
  have ln : ∀ l ∈ ls, LimN l := fun l hl => (ok l hl).2.1.n
  obtain ⟨as, hR, pa⟩ := row
  have al : as.length = ls.length := pa.length
  refine ⟨_, rfl, R, as, ls, rfl, hR, pa, l1, by omega, fun l hl => by have := (ok l hl).2.2; omega, ⟨zs3, zs3_few, spots_few ln⟩, fun S ys H1 _ _ few hS s1 => ?_⟩
  dsimp only
  refine normS (σ' := [some (.ref m), some (.ref R), some (.ref S), none, none, none, none, none]) rfl ?_
  have row : RowN H R ls := ⟨as, hR, pa⟩
  have mp : ∀ g : Int → Int, ys.map (fun y => V.int (g y)) = (ys.map g).map V.int := fun g => by rw [List.map_map] <;> rfl
  refine if_op ?_
  refine lc_map (e1 := V.int) (e2 := fun y => V.int (allN ls y)) (ys := ys) rfl hS few (by intro _; rfl) (fun y hy G Q' sG kG => ?_) (fun DA H2 s2 hA => ?_)
  · refine ⟨_, rfl, ?_⟩
    obtain ⟨dx, u, hm, hu'⟩ := NMap.same (s1.trans sG) nm
    refine ⟨m, dx, _, rfl, hm, rfl, _, rfl, m, n, y, rfl, ⟨dx, u, hm, hu'⟩, hcn, by omega, fun G2 s2 => ?_⟩
    rw [ev y]
    exact kG G2 s2
  rw [mp] at hA
  refine lc_map (e1 := V.int) (e2 := fun y => V.int (allN ls y)) (ys := ys) rfl (s2 _ _ hS) few (by intro _; rfl) (fun y hy G Q' sG kG => ?_) (fun DB H3 s3 hB => ?_)
  · exact ⟨_, rfl, _, rfl, R, ls, y, rfl, row.same ((s1.trans s2).trans sG), hc, kG _ (Same.refl _)⟩
  rw [mp] at hB
  refine ⟨_, _, .lst (SqL.of (s3 _ _ hA)) (dp_ints _), .lst (SqL.of hB) (dp_ints _), shaped_ints _, shaped_ints _, false, ?_, ?_⟩
  · show V.bl (!PyData.eqvAll ((ys.map (allN ls)).map .int) ((ys.map (allN ls)).map .int)) = V.bl false
    rw [eqv_ints, decide_eq_true rfl] <;> rfl
  refine (show (if false = true then _ else _) from ?_)
  rw [if_neg (by decide)]
  have s13 := (s1.trans s2).trans s3
  have row3 := row.same s13
  obtain ⟨as3, hR3, pa3⟩ := row3
  obtain ⟨l0, hl0⟩ : ∃ l0, ls[0]? = some l0 := ⟨_, List.getElem?_eq_getElem (by omega)⟩
  obtain ⟨a0, h0, R0, ea0, _⟩ := paired_at pa3 hl0
  have hx0 : (as3.map V.ref)[0]? = some (V.ref a0) := by rw [List.getElem?_map, h0]; rfl
  obtain ⟨dx, u, hm6, hu6⟩ := NMap.same s13 nm
  refine ⟨_, rfl, .ref m, .ref CM, .ref CN, _, _, rfl, .own _, ON.ty hm6, ON.kit, true, rfl, ?_⟩
  refine (show (if (!true) = true then _ else _) from ?_)
  rw [if_neg (by decide)]
  refine ⟨_, rfl, m, dx, _, rfl, hm6, m, dx, _, rfl, hm6, rfl, _, rfl, R, _, 0, .ref a0, rfl, rfl, SqL.of hR3, ?_, a0, _, 0, _, rfl, rfl, SqT.of ea0, rfl, rfl, false, ?_, ?_⟩
  · exact atI_nat (j := 0) hx0
  · show V.bl (!decide (V.str "number" = V.str "number")) = V.bl false
    rw [decide_eq_true rfl] <;> rfl
  refine (show (if false = true then _ else _) from ?_)
  rw [if_neg (by decide)]
  refine ⟨_, rfl, R, _, 0, .ref a0, rfl, rfl, SqL.of hR3, ?_, a0, _, 0, _, rfl, rfl, SqT.of ea0, rfl, rfl, true, ?_, ?_⟩
  · exact atI_nat (j := 0) hx0
  · show V.bl (decide (V.str "number" = V.str "number")) = V.bl true
    rw [decide_eq_true rfl]
  refine (show (if true = true then _ else _) from ?_)
  rw [if_pos rfl]
  refine ⟨_, rfl, m, dx, _, rfl, hm6, rfl, m, n, rfl, ⟨dx, u, hm6, hu6⟩, fun G H4 _ s4 hG4 => ?_⟩
  exact ⟨_, rfl, G, R, n, ls, rfl, hG4, (row.same s13).same s4, ok, l1, by omega, hn, by omega, fun H5 s5 => q H5 ((s13.trans s4).trans s5)⟩
end
/-! ### .. of texts -/
def goalT (x : TM) : List Str := x.1.map Prod.snd ++ restW x.2
def XOk (x : TM) : Prop := TxOk x.1 x.2
theorem XOk.tm {x : TM} (h : XOk x) : TmOk x := ⟨h.wok, h.ro⟩
theorem key_bw {x : TM} (h : XOk x) {z : Str} (hz : z ∈ keyT x) : z ∈ bw := h.sub.subset hz
theorem words_in {xs : List TM} {z : Str} (h : z ∈ words4 xs) : z ∈ w4 ∨ (∃ x ∈ xs, z ∈ keyT x) ∨ z ∈ xs.flatMap goalT := by
  rcases List.mem_append.mp h with h | h
  · exact .inl h
  · obtain ⟨x, hx, hz⟩ := List.mem_flatMap.mp h
    rcases List.mem_append.mp hz with hz | hz
    · rcases List.mem_append.mp hz with hz | hz
      · exact .inr (.inl ⟨x, hx, hz⟩)
      · exact .inr (.inr (List.mem_flatMap.mpr ⟨x, hx, List.mem_append_left _ hz⟩))
    · exact .inr (.inr (List.mem_flatMap.mpr ⟨x, hx, List.mem_append_right _ hz⟩))
theorem goalT_len {x : TM} (h : TmOk x) : (goalT x).length ≤ 4 := by
  have h1 := h.1.len
  have h2 := restW_len x.2
  unfold goalT
  rw [List.length_append, List.length_map]
  omega
theorem pts_far {xs : List TM} {ys : List Str} (ok : ∀ x ∈ xs, XOk x) (l5 : xs.length ≤ 5) (hm : ∀ k, k ∈ ys ↔ k ∈ wpts4 xs) : ∃ z, (farW ys)[0]? = some z := by
  refine far_some (gs := xs.flatMap goalT ++ (farW (words4 xs)).take 2) (fun z ht hz => ?_) ?_
  · rcases List.mem_append.mp ((hm z).mp hz) with h | h
    · rcases words_in h with h | ⟨x, hx, h⟩ | h
      · exact absurd h (tried_w4 z ht)
      · exact absurd (key_bw (ok x hx) h) (tried_bw z ht)
      · exact List.mem_append_left _ h
    · exact List.mem_append_right _ h
  · have h := flat_len (l := xs) (f := goalT) fun x hx => goalT_len (ok x hx).tm
    rw [List.length_append, List.length_take]
    omega
theorem wordsL_word {x : TM} (h : TmOk x) : ∀ z ∈ wordsL x, wordB z 12 = true := fun z hz => by
  rcases List.mem_append.mp hz with hz | hz
  · rcases List.mem_append.mp hz with hz | hz
    · obtain ⟨p, hp, rfl⟩ := List.mem_map.mp hz
      exact (h.1.each p hp).1
    · obtain ⟨p, hp, rfl⟩ := List.mem_map.mp hz
      exact (h.1.each p hp).2
  · rcases h.2 with e | ⟨y, e, hy⟩
    · rw [e] at hz
      cases hz
    · rw [e] at hz
      rw [List.mem_singleton.mp hz]
      exact hy
theorem wpts4_word {xs : List TM} (ok : ∀ x ∈ xs, TmOk x) : ∀ z ∈ wpts4 xs, wordB z 12 = true := fun z hz => by
  rcases List.mem_append.mp hz with hz | hz
  · rcases List.mem_append.mp hz with hz | hz
    · exact w4_ok z hz
    · obtain ⟨x, hx, hz⟩ := List.mem_flatMap.mp hz
      exact wordsL_word (ok x hx) z hz
  · exact tried_ok z (farW_in (List.mem_of_mem_take hz)).1
theorem rest_is {σ : L2.St} {H : Hp} {Q : VK} {R : Addr} {xs : List TM} {z0 : Str} {r : V} (h1 : σ[1]? = some (some (.ref R))) (h3 : σ[3]? = some (some (.str z0))) (row : RowT H R xs) (okT : ∀ x ∈ xs, TmOk x)
    (e : (r = .non ∧ allT xs z0 = z0) ∨ ∃ y, r = .str y ∧ allT xs z0 = y ∧ y ≠ z0) (q : ∀ G, Same H G → Q r G) :
    tIf (tTest (tOp rEq (tCall spAllT2 [] E0 (tCons (tVar 1) (tCons (tVar 3) tNil))) (tVar 3))) (tC .non) (tCall spAllT2 [] E0 (tCons (tVar 1) (tCons (tVar 3) tNil))) σ H Q := by
  refine ⟨_, h1, _, h3, R, xs, z0, rfl, row, okT, fun G sG => ⟨_, h3, rfl, _, rfl, ?_⟩⟩
  rcases e with ⟨rfl, e⟩ | ⟨y, rfl, e, n⟩
  · rw [show decide (V.str (allT xs z0) = V.str z0) = true by rw [e]; exact decide_eq_true rfl]
    refine (show (if true = true then _ else _) from ?_)
    rw [if_pos rfl]
    exact q G sG
  · rw [show decide (V.str (allT xs z0) = V.str z0) = false by rw [e]; exact decide_eq_false fun w => n (V.str.inj w)]
    refine (show (if false = true then _ else _) from ?_)
    rw [if_neg (by decide)]
    refine ⟨_, h1, _, h3, R, xs, z0, rfl, row.same sG, okT, fun G2 s2 => ?_⟩
    rw [e]
    exact q G2 (sG.trans s2)
theorem or_rest {σ : L2.St} {H : Hp} {Q : VK} {r : V} {y : Str} (e4 : σ[4]? = some (some r)) (e7 : σ[7]? = some (some (.str y))) (ro : RestOk r) (q : Q (.str (orS r y)) H) : tIf (tB (tIsN (tVar 4))) (tVar 7) (tVar 4) σ H Q := by
  refine ⟨_, e4, _, rfl, ?_⟩
  rcases ro with rfl | ⟨u, rfl, _⟩
  · rw [show decide (V.non = V.non) = true from decide_eq_true rfl]
    refine (show (if true = true then _ else _) from ?_)
    rw [if_pos rfl]
    exact ⟨_, e7, q⟩
  · rw [show decide (V.str u = V.non) = false from decide_eq_false fun z => nomatch z]
    refine (show (if false = true then _ else _) from ?_)
    rw [if_neg (by decide)]
    exact ⟨_, e4, q⟩
def spIsRowT (C : Addr) : Sp := fun vs H Q _ => ∃ (m R : Addr) (k : Nat) (xs : List TM), vs = [.ref m, .ref R] ∧ IsT C H m (allT xs) (rAll .non xs) k ∧ k ≤ 30 ∧ RowT H R xs ∧ (∀ x ∈ xs, XOk x) ∧ 1 ≤ xs.length ∧ xs.length ≤ 5 ∧ ∀ H', Same H H' → Q (.bl true) H'
section
variable {P : Program} {w : World} {K : PySem.W.Frag} {mg : Str → Option Value} {base : Heap} {f CT CM fQ fL fA p1 g1 fF fX p2 g2 : Addr} {fd dQ dL dA e1 dF dX e2 : FuncData}
theorem ok_isRowT (F : FD K "_law_is_row" s_isrow f fd) (TC : T.TMc K CT) (OT : TcO K CT CM "text") (T0 : TR3 mg CM)
    (Q2 : Kn P w K mg base 2 "_law_points" fQ dQ ["_law_row"] spPts4T) (L2' : Kn P w K mg base 2 "_law_all_at" fL dL ["_law_row", "_law_value"] spAllT2) (A2 : AtF P w K mg base CT fA dA (T.spAtW CT)) (K2 : PrF P w K mg base CT p1 g1 e1 "kind" (T.spKind CT))
    (FR : Kn P w K mg base 1 "_law_far" fF dF ["_law_words"] spFar) (GX : FnOk P w K mg base CX0 1 fX dX ["self"] (T.spExceptions CT)) (bX : Binds K dX ["self"] []) (mX : Meth K CT "exceptions" fX) (PR : PrF P w K mg base CT p2 g2 e2 "rest" (T.spRest CT)) :
    FnOk P w K mg base CX0 4 f fd ["_law_made", "_law_row"] (spIsRowT CT) := by
  refine F.ok sc_isrow (fun vs H Q E h => ?_) (fun cdv A outer s H vs Q E hr h => ?_)
  · obtain ⟨m, R, k, xs, rfl, _⟩ := h
    rfl
  obtain ⟨m, R, k, xs, rfl, ⟨ex, tm, hn, ro, nk⟩, k30, row, ok, l1, l5, q⟩ := h
  have hu := hr.units
  refine ⟨_, PSs.nox (pss_cons (ps_set (i := 2) sc_isrow.nd rfl (Or.inl rfl) (pe_call Q2.f (hr.mono (by decide)) rfl Q2.m Q2.k Q2.b .nil pass0 (pa_cons (pv 1) pa_nil)))
    (pss_cons (ps_if (pt_cmpR (op_neD (by exact hu))
         (pe_lc (own := [("_law_spot", 6)]) (g := gName 6) (tt := tYes) (te := tMeth CT "at" (T.spAtW CT) [] E0 (tVar 0) (tCons (tVar 6) tNil)) rfl sc_isrow.nd (pi_list (pv 2)) (blkOk_by (N := nIsr) (sc := defScope s_isrow) (by decide +kernel)) (fun _ _ _ _ _ => pg_name (i := 6) sc_isrow.nd rfl (Or.inl rfl)) (fun _ _ _ _ _ => pts_nil) (fun _ _ _ _ _ => by exact (pe_meth (pv 0) TC.cl A2.m A2.g (hr.mono (by decide)) A2.b .nil pass0 (pa_cons (pv 6) pa_nil))))
         (pe_lc (own := [("_law_spot", 6)]) (g := gName 6) (tt := tYes) (te := tCall spAllT2 [] E0 (tCons (tVar 1) (tCons (tVar 6) tNil))) rfl sc_isrow.nd (pi_list (pv 2)) (blkOk_by (N := nIsr) (sc := defScope s_isrow) (by decide +kernel)) (fun _ _ _ _ _ => pg_name (i := 6) sc_isrow.nd rfl (Or.inl rfl)) (fun _ _ _ _ _ => pts_nil) (fun _ _ _ _ _ => by exact (pe_call L2'.f (hr.mono (by decide)) rfl L2'.m L2'.k L2'.b .nil pass0 (pa_cons (pv 1) (pa_cons (pv 6) pa_nil))))) (nomark _)) pss_never pss_nil)
    (pss_cons (ps_if (PW.pt (pw_or (pt_not (pt_val (pe_callB call_isi (by rfl) T0.isi boot_isi (pa_cons (pv 0) (pa_cons (pe_glob (v := .ref CM) rfl T0.map rfl) pa_nil))))) (pw_or1 (pt_cmpR op_ne (pe_prop (pv 0) TC.cl K2.p K2.g (hr.mono (by decide)) K2.b .nil pass0 (by rfl)) (pe_ix ix_tup (pe_ix ix_list (pv 1) pe_int (fun _ _ => rfl)) pe_int (fun _ _ => rfl)) (nomark _))))) pss_never pss_nil)
    (pss_cons (ps_if (pt_cmpR op_eq (pe_ix ix_tup (pe_ix ix_list (pv 1) pe_int (fun _ _ => rfl)) pe_int (fun _ _ => rfl)) pe_str (nomark _)) pss_never pss_nil)
    (pss_cons (ps_set (i := 3) sc_isrow.nd rfl (Or.inl rfl) (pe_ix ix_list (pe_call FR.f (hr.mono (by decide)) rfl FR.m FR.k FR.b .nil pass0 (pa_cons (pv 2) pa_nil)) pe_int (fun _ _ => rfl)))
    (pss_cons (ps_set (i := 4) sc_isrow.nd rfl (Or.inr rfl) (pe_ifExp (pt_cmpR op_eq (pe_call L2'.f (hr.mono (by decide)) rfl L2'.m L2'.k L2'.b .nil pass0 (pa_cons (pv 1) (pa_cons (pv 3) pa_nil))) (pv 3) (nomark _)) pe_non (pe_call L2'.f (hr.mono (by decide)) rfl L2'.m L2'.k L2'.b .nil pass0 (pa_cons (pv 1) (pa_cons (pv 3) pa_nil)))))
    (pss_cons (ps_setLc (i := 5) (own := [("_law_word_here", 7)]) (g := gName 7) (tt := tTest (tOp rNe (tCall spAllT2 [] E0 (tCons (tVar 1) (tCons (tVar 7) tNil))) (tIf (tB (tIsN (tVar 4))) (tVar 7) (tVar 4)))) (te := tVar 7) rfl sc_isrow.nd rfl rfl (sw_true rfl rfl rfl (by decide +kernel)) (pi_list (pv 2)) (blkOk_by (N := nIsr) (sc := defScope s_isrow) (by decide +kernel)) (fun _ _ _ _ _ => pg_name (i := 7) sc_isrow.nd rfl (Or.inl rfl))
          (fun _ _ _ _ _ => by exact pts_one (pt_cmpR op_ne (pe_call L2'.f (hr.mono (by decide)) rfl L2'.m L2'.k L2'.b .nil pass0 (pa_cons (pv 1) (pa_cons (pv 7) pa_nil))) (pe_ifExp (pt_cmp (pc_isN (pv 4))) (pv 7) (pv 4)) (nomark _))) (fun _ _ _ _ _ => by exact (pv 7)))
    (pss_one (ps_ret (pe_and (pe_cmpR (op_eqD (by exact hu)) (pe_callTy (call_listD rfl) (by rfl) T0.list (by decide +kernel) (pa_cons (pe_meth0 (pv 0) TC.cl mX GX (hr.mono (by decide)) bX .nil pass0) pa_nil)) (pv 5) (nomark _)) (pe_one (pe_cmpR op_eq (pe_prop (pv 0) TC.cl PR.p PR.g (hr.mono (by decide)) PR.b .nil pass0 (by rfl)) (pv 4) (nomark _))))))))))))), ?_⟩
  have okT : ∀ x ∈ xs, TmOk x := fun x hx => (ok x hx).tm
  obtain ⟨as, hR, pa⟩ := row
  refine ⟨_, rfl, R, as, xs, rfl, hR, pa, l1, by omega, okT, fun S ys H1 srt nd mem few hS s1 => ?_⟩
  dsimp only
  refine normS (σ' := [some (.ref m), some (.ref R), some (.ref S), none, none, none, none, none]) rfl ?_
  have row : RowT H R xs := ⟨as, hR, pa⟩
  have yok : ∀ y ∈ ys, wordB y 12 = true := fun y hy => wpts4_word okT y ((mem y).mp hy)
  have mp : ∀ g : Str → Str, ys.map (fun y => V.str (g y)) = (ys.map g).map V.str := fun g => by rw [List.map_map] <;> rfl
  have w1 : ∀ z ∈ ys.map (allT xs), wordB z 12 = true := fun z hz => by
    obtain ⟨y, hy, rfl⟩ := List.mem_map.mp hz
    exact all_word okT (yok y hy)
  refine if_op ?_
  refine lc_map (e1 := V.str) (e2 := fun y => V.str (allT xs y)) (ys := ys) rfl hS few (by intro _; rfl) (fun y hy G Q' sG kG => ?_) (fun DA H2 s2 hA => ?_)
  · refine ⟨_, rfl, ?_⟩
    obtain ⟨dx, u, hm, hu'⟩ := TMap.same (s1.trans sG) tm
    refine ⟨m, dx, _, rfl, hm, rfl, _, rfl, m, ex, _, y, rfl, ⟨dx, u, hm, hu'⟩, yok y hy, fun G2 s2 => ?_⟩
    rw [hn.at_ y]
    exact kG G2 s2
  rw [mp] at hA
  refine lc_map (e1 := V.str) (e2 := fun y => V.str (allT xs y)) (ys := ys) rfl (s2 _ _ hS) few (by intro _; rfl) (fun y hy G Q' sG kG => ?_) (fun DB H3 s3 hB => ?_)
  · exact ⟨_, rfl, _, rfl, R, xs, y, rfl, row.same ((s1.trans s2).trans sG), okT, fun G2 s2 => kG G2 s2⟩
  rw [mp] at hB
  refine ⟨_, _, .lst (SqL.of (s3 _ _ hA)) (dp_strs _), .lst (SqL.of hB) (dp_strs _), shaped_strs w1, shaped_strs w1, false, ?_, ?_⟩
  · show V.bl (!PyData.eqvAll ((ys.map (allT xs)).map .str) ((ys.map (allT xs)).map .str)) = V.bl false
    rw [eqv_strs, decide_eq_true rfl] <;> rfl
  refine (show (if false = true then _ else _) from ?_)
  rw [if_neg (by decide)]
  have s13 := (s1.trans s2).trans s3
  have hS3 := s3 _ _ (s2 _ _ hS)
  have row3 := row.same s13
  obtain ⟨as3, hR3, pa3⟩ := row3
  obtain ⟨l0, hl0⟩ : ∃ l0, xs[0]? = some l0 := ⟨_, List.getElem?_eq_getElem (by omega)⟩
  obtain ⟨a0, h0, R0, ea0, _⟩ := paired_at pa3 hl0
  have hx0 : (as3.map V.ref)[0]? = some (V.ref a0) := by rw [List.getElem?_map, h0]; rfl
  obtain ⟨dx, u, hm6, hu6⟩ := TMap.same s13 tm
  refine ⟨_, rfl, .ref m, .ref CM, .ref CT, _, _, rfl, .own _, OT.ty hm6, OT.kit, true, rfl, ?_⟩
  refine (show (if (!true) = true then _ else _) from ?_)
  rw [if_neg (by decide)]
  refine ⟨_, rfl, m, dx, _, rfl, hm6, m, dx, _, rfl, hm6, rfl, _, rfl, R, _, 0, .ref a0, rfl, rfl, SqL.of hR3, ?_, a0, _, 0, _, rfl, rfl, SqT.of ea0, rfl, rfl, false, ?_, ?_⟩
  · exact atI_nat (j := 0) hx0
  · show V.bl (!decide (V.str "text" = V.str "text")) = V.bl false
    rw [decide_eq_true rfl] <;> rfl
  refine (show (if false = true then _ else _) from ?_)
  rw [if_neg (by decide)]
  refine ⟨_, rfl, R, _, 0, .ref a0, rfl, rfl, SqL.of hR3, ?_, a0, _, 0, _, rfl, rfl, SqT.of ea0, rfl, rfl, false, ?_, ?_⟩
  · exact atI_nat (j := 0) hx0
  · show V.bl (decide (V.str "text" = V.str "number")) = V.bl false
    rw [show decide (V.str "text" = V.str "number") = false from by decide +kernel]
  refine (show (if false = true then _ else _) from ?_)
  rw [if_neg (by decide)]
  -- a word that nothing names
  obtain ⟨z0, hz0⟩ := pts_far ok l5 mem
  have zf := farW_in (List.mem_of_getElem? hz0)
  have zw := tried_ok z0 zf.1
  have inY : ∀ k ∈ words4 xs, k ∈ ys := fun k hk => (mem k).mpr (List.mem_append_left _ hk)
  have znk : ∀ x ∈ xs, z0 ∉ keyT x := fun x hx hk => zf.2 (inY _ (List.mem_append_right _ (List.mem_flatMap.mpr ⟨x, hx, List.mem_append_left _ (List.mem_append_left _ hk)⟩)))
  have out : ∀ z, z ∉ ys → allT xs z = orS (rAll .non xs) z := fun z hz => all_out (r := .non) (.inl rfl) fun x hx => ⟨okT x hx, fun hk => hz (inY _ (List.mem_append_right _ (List.mem_flatMap.mpr ⟨x, hx, List.mem_append_left _ (List.mem_append_left _ hk)⟩)))⟩
  have ez0 : allT xs z0 = orS (rAll .non xs) z0 := out z0 zf.2
  have rin : rAll .non xs = .non ∨ ∃ y, rAll .non xs = .str y ∧ y ∈ ys := rest_in (W := ys) (fun x hx => ⟨okT x hx, fun k hk => inY k (List.mem_append_right _ (List.mem_flatMap.mpr ⟨x, hx, hk⟩))⟩) (.inl rfl)
  have ez : (rAll .non xs = .non ∧ allT xs z0 = z0) ∨ ∃ y, rAll .non xs = .str y ∧ allT xs z0 = y ∧ y ≠ z0 := by
    rcases rin with e | ⟨y, e, hy⟩
    · exact .inl ⟨e, by rw [ez0, e]; rfl⟩
    · exact .inr ⟨y, e, by rw [ez0, e]; rfl, fun w => zf.2 (w ▸ hy)⟩
  have allY : ∀ z, allT xs z ≠ orS (rAll .non xs) z → z ∈ ys := fun z n => by
    by_cases c : z ∈ ys
    · exact c
    · exact absurd (out z c) n
  have due := hn.due ro srt nd allY
  have nl := hn.nl
  generalize rAll .non xs = r at tm hn ro hm6 ez due allY ez0 out rin
  refine ⟨_, rfl, S, ys, rfl, hS3, fun D4 H4 hD4 s4 => ?_⟩
  refine ⟨D4, _, 0, .str z0, rfl, rfl, SqL.of hD4, ?_, ?_⟩
  · exact atI_nat (j := 0) (by rw [List.getElem?_map, hz0]; rfl)
  dsimp only
  refine normS (σ' := [some (.ref m), some (.ref R), some (.ref S), some (.str z0), none, none, none, none]) rfl ?_
  refine rest_is (xs := xs) (z0 := z0) (r := r) rfl rfl (row.same (s13.trans s4)) okT ez fun G5 s5 => ?_
  dsimp only
  refine normS (σ' := [some (.ref m), some (.ref R), some (.ref S), some (.str z0), some r, none, none, none]) rfl ?_
  have s35 := s4.trans s5
  refine ⟨_, rfl, S, rfl, ⟨_, SqL.of (s35 _ _ hS3)⟩, fun D hD => ?_⟩
  refine lc_list (xs := ys.map V.str) (fun i H' => Same G5 H' ∧ H' D = some (.lst (((ys.take i).filter fun z => !decide (allT xs z = orS r z)).map V.str))) ⟨same_upd hD, upd_same⟩ (fun i H' _ ⟨z, _⟩ => SqL.of (z _ _ (s35 _ _ hS3))) (fun i x H6 hx ⟨s6, hD6⟩ => ?_) fun H6 ⟨s6, hD6⟩ => ?_
  · rw [List.getElem?_map] at hx
    cases ey : ys[i]? with
    | none =>
      rw [ey] at hx
      cases hx
    | some y =>
      rw [ey] at hx
      cases (show V.str y = x from Option.some.inj hx)
      have tk : ys.take (i + 1) = ys.take i ++ [y] := by rw [List.take_succ, ey]; rfl
      refine ⟨rfl, ?_⟩
      refine ⟨_, rfl, _, rfl, R, xs, y, rfl, row.same ((s13.trans s35).trans s6), okT, fun G7 s7 => ?_⟩
      refine or_rest (r := r) (y := y) rfl rfl ro ?_
      refine ⟨rfl, _, rfl, ?_⟩
      rw [show decide (V.str (allT xs y) = V.str (orS r y)) = decide (allT xs y = orS r y) by
        by_cases c : allT xs y = orS r y
        · rw [c, decide_eq_true rfl, decide_eq_true rfl]
        · rw [decide_eq_false c, decide_eq_false fun w => c (V.str.inj w)]]
      refine (show (if (!decide (allT xs y = orS r y)) = true then _ else _) from ?_)
      refine ite2 (fun c => ?_) (fun c => ?_)
      · refine ⟨_, rfl, _, s7 _ _ hD6, ?_, same_over (s6.trans s7) hD, ?_⟩
        · rw [List.length_map]
          refine Nat.lt_of_le_of_lt (List.length_filter_le _ _) ?_
          rw [List.length_take]
          exact Nat.lt_of_lt_of_le (show min i ys.length < 64 by omega) (by decide)
        · have f1 : [y].filter (fun z => !decide (allT xs z = orS r z)) = [y] := by rw [List.filter_cons, if_pos c]; rfl
          rw [upd_same, tk, List.filter_append, f1, List.map_append] <;> rfl
      · refine ⟨s6.trans s7, ?_⟩
        have f0 : [y].filter (fun z => !decide (allT xs z = orS r z)) = [] := by rw [List.filter_cons, if_neg c]; rfl
        rw [s7 _ _ hD6, tk, List.filter_append, f0, List.append_nil]
  rw [List.length_map, List.take_length] at hD6
  dsimp only
  have s36 := s35.trans s6
  have tm6 := s36 _ _ hm6
  have hu7 := s36 _ _ hu6
  have fw : ∀ z ∈ ys.filter (fun z => !decide (allT xs z = orS r z)), wordB z 12 = true := fun z hz => yok z (List.mem_filter.mp hz).1
  refine ⟨_, rfl, m, dx, _, rfl, tm6, rfl, m, ex, r, rfl, ⟨dx, u, tm6, hu7⟩, nl.nd, by omega, fun D8 H8 _ s8 hD8 => ?_⟩
  refine ⟨D8, ex, rfl, .inl hD8, fun p hp => ?_⟩
  rw [due]
  have s9 := same_upd (o := HO.lst ((ys.filter fun z => !decide (allT xs z = orS r z)).map V.str)) hp
  have s89 := s8.trans s9
  refine ⟨_, rfl, _, _, .lst (SqL.of upd_same) (dp_strs _), .lst (SqL.of (s89 _ _ hD6)) (dp_strs _), shaped_strs fw, shaped_strs fw, true, ?_, ?_⟩
  · show V.bl (PyData.eqvAll _ _) = V.bl true
    rw [eqv_strs, decide_eq_true rfl]
  refine (show (if true = true then _ else _) from ?_)
  rw [if_pos rfl]
  have tm9 := s89 _ _ tm6
  have hu9 := s89 _ _ hu7
  refine ⟨_, rfl, m, dx, _, rfl, tm9, m, ex, r, rfl, ⟨dx, u, tm9, hu9⟩, _, rfl, by rcases ro with rfl | ⟨_, rfl, _⟩ <;> rfl, ?_⟩
  rw [decide_eq_true rfl]
  exact q _ ((s13.trans s36).trans s89)
end
end C4

end Pq4w
section PSL2
set_option maxHeartbeats 4000000
/-! ### xs[-2::-1]: all but the last one, from behind -/
namespace L2
open PySem PySem.Spec PyProof.Rows
theorem dropLast_take {α : Type} (l : List α) : l.dropLast = l.take (l.length - 1) := List.dropLast_eq_take
theorem all_up {α : Type} (xs : Array α) (m : Nat) (hm : m ≤ xs.size) : (List.range m).filterMap (xs[·]?) = xs.toList.take m := by
  have h := PySem.W.krv_all xs
  induction m with
  | zero => simp
  | succ k ih =>
    rw [List.range_succ, List.filterMap_append, ih (by omega), List.take_succ]
    have e : xs[k]? = xs.toList[k]? := by rw [Array.getElem?_toList]
    show _ ++ List.filterMap _ [k] = _
    rw [List.filterMap_cons, e]
    have kl : k < xs.toList.length := by rw [Array.length_toList]; omega
    rw [List.getElem?_eq_getElem kl]
    rfl
theorem pick_rev2 (items : Array Value) : slicePick items (some (-2)) none (some (-1)) = items.toList.dropLast.reverse.toArray := by
  unfold slicePick
  have hb : sliceBounds (some (-2)) none (some (-1)) items.size = ((((items.size - 1 : Nat) : Int) - 1), -1, -1) := by
    unfold sliceBounds
    simp only [Option.getD_some]
    have h1 : ¬ ((-1 : Int) > 0) := by decide
    have h2 : ((-2 : Int) < 0) := by decide
    simp only [h1, h2, if_false, if_true]
    congr 1
    omega
  rw [hb]
  show ((sliceRange (((items.size - 1 : Nat) : Int) - 1) (-1) (-1)).filterMap (items[·]?)).toArray = _
  rw [PySem.W.krv_sliceRange, PySem.W.krv_range, List.filterMap_reverse, all_up items _ (by omega), dropLast_take, Array.length_toList]
def tRev2L (K : PySem.W.Frag) (te : TE) : TE := fun σ H Q => te σ H fun x H1 => ∃ a xs, x = .ref a ∧ SqL K H1 a xs ∧ ∀ p, H1 p = none → Q (.ref p) (upd H1 p (.lst xs.dropLast.reverse))
section
variable {X : Cx}
theorem rel_dropLast {xs : List V} {its : List Value} (r : Vals xs its) : Vals xs.dropLast its.dropLast := by
  induction r with
  | nil => exact .nil
  | cons p q ih =>
    cases q with
    | nil => exact .nil
    | cons p' q' => exact .cons p ih
theorem pe_rev2L {e : Expr} {te : TE} {k k2 : Nat} {p1 p2 p3 p4 p5 pos : Pos} (he : PE X e te) : PE X (.Subscript e (.Slice (some (.UnaryOp .USub (.Constant (.int 2) k2 p4) p5)) none (some (.UnaryOp .USub (.Constant (.int 1) k p1) p2)) p3) pos) (tRev2L X.K te) := by
  refine ⟨fun pins s σ H Q I h => ?_⟩
  refine Subscript_ (thn (he.run pins s σ H _ I h) fun v s1 ⟨x, H1, I1, r1, q1⟩ => ?_)
  obtain ⟨a, xs, ex, hx, q⟩ := q1
  subst ex
  cases r1
  have hst : PO X (some (.UnaryOp .USub (.Constant (.int 1) k p1) p2)) (tPart (tUn (rU fun i => .int (-i)) (tC (.int 1)))) := po_some (pe_un un_neg pe_int)
  have hlo : PO X (some (.UnaryOp .USub (.Constant (.int 2) k2 p4) p5)) (tPart (tUn (rU fun i => .int (-i)) (tC (.int 2)))) := po_some (pe_un un_neg pe_int)
  refine wpAny_Slice (thn (hlo.run pins s1 σ H1 (fun o H2 => o = some (-2) ∧ H2 = H1) I1 ⟨2, rfl, -2, rfl, rfl, rfl⟩) fun vl s2 ⟨l, H2, I2, pl, el, e2⟩ => ?_)
  subst el e2
  refine thn (po_none.run pins s2 σ H2 (fun o H3 => o = none ∧ H3 = H2) I2 ⟨rfl, rfl⟩) fun vu s3 ⟨u, H3, I3, pu, eu, e3⟩ => ?_
  subst eu e3
  refine thn (hst.run pins s3 σ H3 (fun o H4 => o = some (-1) ∧ H4 = H3) I3 ⟨1, rfl, -1, rfl, rfl, rfl⟩) fun vs s4 ⟨o, H4, I4, ps, eo, e4⟩ => ?_
  subst eo e4
  have I5 : Inv X pins σ H4 { s4 with heap := s4.heap.push { cls := .type "slice", data := .fields #[vl, vu, vs] } } := I4.kept (t' := s4.toks) fun b ob q => Heap.get?_push_of_some _ q
  obtain ⟨its, r, ht, hz⟩ := I5.list hx
  have hlen := r.length
  show wpAny (model X.prog X.w) X.A (subscriptTail e (.Slice (some (.UnaryOp .USub (.Constant (.int 2) k2 p4) p5)) none (some (.UnaryOp .USub (.Constant (.int 1) k p1) p2)) p3) (.ref a) (.ref s4.heap.objs.size)) (EP X pins σ Q) X.xe { s4 with heap := s4.heap.push { cls := .type "slice", data := .fields #[vl, vu, vs] } }
  refine tail_any (ops := [.ref a, .ref s4.heap.objs.size]) ht.isList.typeIs (PySem.slot_list_getitem.lookup) ?_ (by with_unfolding_all rfl)
  refine wpAny_getItem_list_slice ht.isList (Heap.IsSliceOf.new _ vl vu vs) pl pu ps (by decide) ?_ (by rw [List.size_toArray]; omega)
  rw [pick_rev2]
  refine ⟨.ref _, _, I5.laid (t' := s4.toks) (o := .lst xs.dropLast.reverse) (fun b ob q => Heap.get?_push_of_some _ q) (Nat.le_refl _) ?_, rfl, q _ (I5.hok.fresh (Nat.le_refl _))⟩
  exact ⟨by rw [List.length_reverse, List.length_dropLast]; omega, _, 0, (rel_dropLast r).reverse, Heap.get?_push_size _ rfl⟩
end
end L2

end PSL2
section Pq4x
set_option maxHeartbeats 8000000
namespace C4
open PySem PySem.Spec L2 PyProof.Rows
open T (atV orV Tab TMap RestOk NormOf MkT)
/-! ### a mapping of texts, what is new of it -/
def spMapTn : Sp := fun vs H Q _ => ∃ (p : Addr), vs = [.ref p, .str "text"] ∧ PotAt H p ∧ ∀ (a R : Addr) (ws : List (Str × Str)) (r : V) (H' : Hp), H' a = some (.tup [.str "text", .ref R, r]) → WAt H' R ws → H R = none → TxOk ws r → Bt p H H' → PotAt H' p → Q (.ref a) H'
section
variable {P : Program} {w : World} {K : PySem.W.Frag} {mg : Str → Option Value} {base : Heap} {f fD fP fW fS : Addr} {fd dD dP dW dS : FuncData}
theorem ok_mapTn (F : FD K "_law_mapping" s_mapping f fd) (PK : Kn P w K mg base 2 "_law_pick" fP dP ["_law_pot_here", "_law_some_here"] (spPick K)) (WD : Kn P w K mg base 3 "_law_word" fW dW ["_law_pot_here"] spWord) (SM : Kn P w K mg base 2 "_law_some" fS dS ["_law_pot_here", "_law_given"] spSome) :
    FnOk P w K mg base CX0 4 f fd ["_law_pot_here", "_law_shape"] spMapTn := by
  refine F.ok sc_mapping (fun vs H Q E h => ?_) (fun cdv A outer s H vs Q E hr h => ?_)
  · obtain ⟨p, rfl, _⟩ := h
    rfl
  obtain ⟨p, rfl, hP, q⟩ := h
  refine ⟨_, PSs.nox (pss_cons (ps_if (pt_cmpR op_eq (pv 1) pe_str (nomark _))
      (pss_cons (ps_setLc (i := 2) (own := [("_law_word_here", 8)]) (g := gName 8) (tt := tYes) (te := tTup (tCons (tVar 8) (tCons (tCall spWord [] E0 (tCons (tVar 0) tNil)) tNil))) rfl sc_mapping.nd rfl rfl (sw_true rfl rfl rfl (by decide +kernel))
          (pi_list (pe_call SM.f (hr.mono (by decide)) rfl SM.m SM.k SM.b .nil pass0 (pa_cons (pv 0) (pa_cons (pe_lst (pa_cons pe_str (pa_cons pe_str (pa_cons pe_str pa_nil)))) pa_nil)))) (blkOk_by (N := nMap) (sc := defScope s_mapping) (by decide +kernel)) (fun _ _ _ _ _ => pg_name (i := 8) sc_mapping.nd rfl (Or.inl rfl)) (fun _ _ _ _ _ => pts_nil)
          (fun _ _ _ _ _ => by exact (pe_tup (pa_cons (pv 8) (pa_cons (pe_call WD.f hr rfl WD.m WD.k WD.b .nil pass0 (pa_cons (pv 0) pa_nil)) pa_nil)))))
        (pss_one (ps_ret (pe_tup (pa_cons pe_str (pa_cons (pv 2) (pa_cons (pe_call PK.f (hr.mono (by decide)) rfl PK.m PK.k PK.b .nil pass0 (pa_cons (pv 0) (pa_cons (pe_lst (pa_cons pe_non (pa_cons pe_non (pa_cons pe_str (pa_cons pe_str pa_nil))))) pa_nil))) pa_nil))))))) pss_nil) pss_never), ?_⟩
  refine ⟨_, rfl, rfl, _, rfl, ?_⟩
  rw [show decide (V.str "text" = V.str "text") = true from by decide +kernel]
  refine (show (if true = true then _ else _) from ?_)
  rw [if_pos rfl]
  refine ⟨_, rfl, by show 3 ≤ sizeLine; decide, fun L hL => ?_⟩
  have s1 := same_upd (o := HO.lst (bw.map V.str)) hL
  refine ⟨p, L, bw, rfl, hP.bt s1, pot_ne hP hL, upd_same, by decide, fun R ks H2 hk hR nR b2 hP2 => ?_⟩
  have c2 : Bt p H H2 := (Same.bt s1).trans b2
  have nRp : R ≠ p := pot_ne (hP.bt s1) nR
  have kl := hk.length_le
  refine ⟨R, rfl, ⟨_, SqL.of hR⟩, fun D0 hD0 => ?_⟩
  have nD := pot_ne hP2 hD0
  refine lc_list (xs := ks.map V.str) (fun i H' => Bt p H H' ∧ PotAt H' p ∧ H' R = some (.lst (ks.map V.str)) ∧ ∃ ws : List (Str × Str), ws.map Prod.fst = ks.take i ∧ (∀ q ∈ ws, wordB q.2 12 = true) ∧ WAt H' D0 ws)
    ⟨c2.trans (Same.bt (same_upd hD0)), hP2.bt (same_upd hD0), by rw [upd_ne (ne_of_none hR hD0)]; exact hR, [], by simp, fun q h => absurd h List.not_mem_nil, [], upd_same, .nil⟩ (fun i H' _ ⟨_, _, e, _⟩ => SqL.of e) (fun i x H3 hx ⟨b3, hP3, hR3, ws, hw, hg, ts, hD3, pr⟩ => ?_) fun H3 ⟨b3, hP3, hR3, ws, hw, hg, wat⟩ => ?_
  · rw [List.getElem?_map] at hx
    cases ei : ks[i]? with
    | none =>
      rw [ei] at hx
      cases hx
    | some z =>
      rw [ei] at hx
      cases (show V.str z = x from Option.some.inj hx)
      have tk : ks.take (i + 1) = ks.take i ++ [z] := by rw [List.take_succ, ei]; rfl
      refine ⟨rfl, ?_⟩
      simp only [tYes, ↓reduceIte]
      refine ⟨_, rfl, _, rfl, p, rfl, hP3, fun u H4 hu b4 hP4 => ⟨by show 2 ≤ sizeLine; decide, fun t ht => ?_⟩⟩
      have s5 := same_upd (o := HO.tup [V.str z, V.str u]) ht
      have hD5 := s5 _ _ (b4 _ _ nD hD3)
      have tl : ts.length = ws.length := pr.length
      have wl : ws.length = min i ks.length := by
        have := congrArg List.length hw
        rw [List.length_map, List.length_take] at this
        exact this
      have keep : ∀ c xs, H3 c = some (HO.tup xs) → (upd (upd H4 t (.tup [V.str z, V.str u])) D0 (.lst (ts.map V.ref ++ [.ref t]))) c = some (HO.tup xs) := fun c xs e => by
        have n : c ≠ D0 := fun y => by
          rw [y, hD3] at e
          cases e
        rw [upd_ne n]
        exact s5 _ _ (b4 _ _ (tup_np hP3 e) e)
      have ntD : t ≠ D0 := fun y => by
        rw [y, b4 _ _ nD hD3] at ht
        cases ht
      refine ⟨_, hD5, by rw [List.length_map, tl, wl]; exact Nat.lt_of_le_of_lt (show min i ks.length ≤ 3 by have : ks.length ≤ 3 := kl; omega) (by decide), fun c o nc e => ?_, ?_, ?_, ws ++ [(z, u)], by rw [List.map_append, hw, tk]; rfl, fun q hq => ?_, ts ++ [t], by rw [upd_same, List.map_append]; rfl, ?_⟩
      · have n : c ≠ D0 := fun y => by
          rw [y] at e
          have := bt_free hP2 c2 hD0
          rw [this] at e
          cases e
        rw [upd_ne n]
        exact s5 _ _ (b4 _ _ nc (b3 _ _ nc e))
      · obtain ⟨a, b, e, r⟩ := hP4.bt s5
        exact ⟨a, b, by rw [upd_ne (Ne.symm nD)]; exact e, r⟩
      · have n : R ≠ D0 := ne_of_none hR hD0
        rw [upd_ne n]
        exact s5 _ _ (b4 _ _ nRp hR3)
      · rcases List.mem_append.mp hq with h | h
        · exact hg q h
        · rw [List.mem_singleton.mp h]
          exact hu
      · exact (pr.mono fun c q e => keep _ _ e).snoc (by
          show (upd (upd H4 t (.tup [V.str z, V.str u])) D0 (.lst (ts.map V.ref ++ [.ref t]))) t = _
          rw [upd_ne ntD]
          exact upd_same)
  · rw [List.length_map, List.take_length] at hw
    refine ⟨_, rfl, _, rfl, by show 4 ≤ sizeLine; decide, fun Z hZ => ?_⟩
    have s6 := same_upd (o := HO.lst [V.non, V.non, V.str "a", V.str "b"]) hZ
    refine ⟨p, Z, _, rfl, hP3.bt s6, pot_ne hP3 hZ, upd_same, by show 0 < 4; decide, by show 4 ≤ 1000; decide, fun i v H6 hi b6 hP6 => ⟨by show 3 ≤ sizeLine; decide, fun t ht => ?_⟩⟩
    have s7 := same_upd (o := HO.tup [V.str "text", V.ref D0, v]) ht
    refine q t D0 ws v _ upd_same (((wat.same s6).bt (hP3.bt s6) b6).same s7) (bt_free hP2 c2 hD0) ⟨by rw [hw]; exact hk, hg, ?_⟩ (((b3.trans (Same.bt s6)).trans b6).trans (Same.bt s7)) (hP6.bt s7)
    have mem := List.mem_of_getElem? hi
    simp only [List.mem_cons, List.not_mem_nil, or_false] at mem
    rcases mem with rfl | rfl | rfl | rfl
    · exact .inl rfl
    · exact .inl rfl
    · exact .inr (.inl rfl)
    · exact .inr (.inr rfl)
end
theorem FnOk_up {P : Program} {w : World} {K : PySem.W.Frag} {mg : Str → Option Value} {base : Heap} {CX : CXT} {j k : Nat} {f : Addr} {fd : FuncData} {ps : List Str} {sp : Sp} (F : FnOk P w K mg base CX j f fd ps sp) (h : j ≤ k) : FnOk P w K mg base CX k f fd ps sp :=
  ⟨F.len, fun A outer s H args us vs Q E hr e b r x => F.run A outer s H args us vs Q E (hr.mono h) e b r x⟩
/-! ### the two kinds alike: maps, mappings, what they say -/
structure Kd where
  α : Type
  Ψ : Type
  Φ : Type
  C : Addr
  shape : Str
  e : α → V
  VOk : α → Prop
  ap : Φ → α → α
  comp : Φ → Φ → Φ
  idF : Φ
  con : α → Φ
  fn : Ψ → Φ
  row : List Ψ → Φ
  plain : Ψ
  txt : Φ → Str
  IsM : Hp → Addr → Φ → Nat → Prop
  MapAt : Hp → Addr → Ψ → Prop
  Nw : Hp → Hp → Addr → Ψ → Prop
  Ok : Ψ → Prop
structure KdL (kd : Kd) : Prop where
  isSame : ∀ {H H' m F k}, Same H H' → kd.IsM H m F k → kd.IsM H' m F k
  isBt : ∀ {H H' p m F k}, PotAt H p → Bt p H H' → kd.IsM H m F k → kd.IsM H' m F k
  isOff : ∀ {H m F k D xs o}, kd.IsM H m F k → H D = some (.lst xs) → kd.IsM (upd H D o) m F k
  isIns : ∀ {H m F k}, kd.IsM H m F k → ∃ dx fs, H m = some (.ins kd.C dx fs) ∧ fs.lookup ("KIND" : Str) = none ∧ fs.lookup ("_followed" : Str) = none ∧ fs.lookup ("then" : Str) = none ∧ fs.lookup ("at" : Str) = none
  matSame : ∀ {H H' a x}, Same H H' → kd.MapAt H a x → kd.MapAt H' a x
  matBt : ∀ {H H' p a x}, PotAt H p → Bt p H H' → kd.MapAt H a x → kd.MapAt H' a x
  matTup : ∀ {H a x}, kd.MapAt H a x → ∃ R v, H a = some (.tup [.str kd.shape, .ref R, v])
  matOff : ∀ {H a x D o} {as : List Addr}, kd.MapAt H a x → H D = some (.lst (as.map V.ref)) → as ≠ [] → (∀ b ∈ as, ∃ s R v, H b = some (.tup [.str s, .ref R, v])) → kd.MapAt (upd H D o) a x
  nwAt : ∀ {H H' a x}, kd.Nw H H' a x → kd.MapAt H' a x
  nwOff : ∀ {H H' a x D o u}, kd.Nw H H' a x → H D = some u → H' D = some (.lst []) → kd.MapAt (upd H' D o) a x
  rowNil : kd.row [] = kd.idF
  rowEnd : ∀ {xs x}, (∀ y ∈ xs ++ [x], kd.Ok y) → kd.row (xs ++ [x]) = kd.comp (kd.row xs) (kd.fn x)
  rowHead : ∀ {xs x}, (∀ y ∈ x :: xs, kd.Ok y) → kd.row (x :: xs) = kd.comp (kd.fn x) (kd.row xs)
  plainId : kd.fn kd.plain = kd.idF
  plainOk : kd.Ok kd.plain
  compId : ∀ {F}, kd.comp F kd.idF = F
  idComp : ∀ {F}, kd.comp kd.idF F = F
  compCon : ∀ {F v}, kd.comp F (kd.con v) = kd.con v
  apComp : ∀ {F v}, kd.ap (kd.comp (kd.con v) F) v = kd.ap F v
  okRow : ∀ {xs v}, (∀ x ∈ xs, kd.Ok x) → kd.VOk v → kd.VOk (kd.ap (kd.row xs) v)
  eqE : ∀ v, scal (kd.e v) (kd.e v) = true
section
variable (kd : Kd)
/-- a row of mappings at R -/
def RowG (H : Hp) (R : Addr) (xs : List kd.Ψ) : Prop := ∃ as : List Addr, H R = some (.lst (as.map V.ref)) ∧ Paired (kd.MapAt H) as xs
def spMapG : Sp := fun vs H Q _ => ∃ p : Addr, vs = [.ref p, .str kd.shape] ∧ PotAt H p ∧ ∀ (a : Addr) (x : kd.Ψ) (H' : Hp), kd.Nw H H' a x → kd.Ok x → Bt p H H' → PotAt H' p → Q (.ref a) H'
def spMadeG : Sp := fun vs H Q _ => ∃ (a : Addr) (x : kd.Ψ), vs = [.ref a] ∧ kd.MapAt H a x ∧ kd.Ok x ∧ ∀ (m : Addr) (H' : Hp), kd.IsM H' m (kd.fn x) 4 → Same H H' → Q (.ref m) H'
def spThenG : Sp := fun vs H Q _ => ∃ (m o : Addr) (F G : kd.Φ) (j k : Nat), vs = [.ref m, .ref o] ∧ kd.IsM H m F j ∧ kd.IsM H o G k ∧ j + k ≤ 60 ∧ ∀ (r : Addr) (H' : Hp), kd.IsM H' r (kd.comp F G) (j + k) → Same H H' → Q (.ref r) H'
def spAtG : Sp := fun vs H Q _ => ∃ (m : Addr) (F : kd.Φ) (k : Nat) (x : kd.α), vs = [.ref m, kd.e x] ∧ kd.IsM H m F k ∧ k ≤ 60 ∧ kd.VOk x ∧ ∀ H', Same H H' → Q (kd.e (kd.ap F x)) H'
def spEqG : Sp := fun vs H Q _ => ∃ (m o : Addr) (F : kd.Φ) (j k : Nat), vs = [.ref m, .ref o] ∧ kd.IsM H m F j ∧ kd.IsM H o F k ∧ j ≤ 60 ∧ k ≤ 60 ∧ ∀ H', Same H H' → Q (.bl true) H'
def spReprG : Sp := fun vs H Q _ => ∃ (m : Addr) (F : kd.Φ) (x : kd.Ψ), vs = [.ref m] ∧ kd.IsM H m (kd.fn x) 4 ∧ kd.Ok x ∧ ∀ H', Same H H' → Q (.str (kd.txt (kd.fn x))) H'
def spIsRowG : Sp := fun vs H Q _ => ∃ (m R : Addr) (k : Nat) (xs : List kd.Ψ), vs = [.ref m, .ref R] ∧ kd.IsM H m (kd.row xs) k ∧ k ≤ 30 ∧ RowG kd H R xs ∧ (∀ x ∈ xs, kd.Ok x) ∧ 1 ≤ xs.length ∧ xs.length ≤ 5 ∧ ∀ H', Same H H' → Q (.bl true) H'
def spPtsG : Sp := fun vs H Q _ => ∃ (R : Addr) (xs : List kd.Ψ), vs = [.ref R] ∧ RowG kd H R xs ∧ (∀ x ∈ xs, kd.Ok x) ∧ 1 ≤ xs.length ∧ xs.length ≤ 5 ∧ ∀ (S : Addr) (y : kd.α) (ys : List kd.α) (H' : Hp), kd.VOk y → H' S = some (.lst ((y :: ys).map kd.e)) → Same H H' → Q (.ref S) H'
def spAllG : Sp := fun vs H Q _ => ∃ (R : Addr) (xs : List kd.Ψ) (x : kd.α), vs = [.ref R, kd.e x] ∧ RowG kd H R xs ∧ (∀ x ∈ xs, kd.Ok x) ∧ kd.VOk x ∧ ∀ H', Same H H' → Q (kd.e (kd.ap (kd.row xs) x)) H'
structure KdP (P : Program) (w : World) (K : PySem.W.Frag) (mg : Str → Option Value) (base : Heap) where
  cl : Cls K kd.C
  fThen : Addr
  dThen : FuncData
  mThen : Meth K kd.C "then" fThen
  gThen : FnOk P w K mg base CX0 7 fThen dThen ["self", "other"] (spThenG kd)
  bThen : Binds K dThen ["self", "other"] []
  fAt : Addr
  dAt : FuncData
  mAt : Meth K kd.C "at" fAt
  gAt : FnOk P w K mg base CX0 3 fAt dAt ["self", "value"] (spAtG kd)
  bAt : Binds K dAt ["self", "value"] []
  fEq : Addr
  dEq : FuncData
  oEq : EqO K kd.C fEq
  gEq : FnOk P w K mg base CX0 2 fEq dEq ["self", "other"] (spEqG kd)
  bEq : Binds K dEq ["self", "other"] []
  fRe : Addr
  dRe : FuncData
  sRe : PySem.W.findIn K (.ref kd.C) "__repr__" = some (some (.ref fRe))
  nRe : PySem.W.isFn K (.ref fRe) = true
  gRe : FnG P w K mg base CX0 1 fRe dRe ["self"] (spReprG kd)
  bRe : Binds K dRe ["self"] []
  fMp : Addr
  dMp : FuncData
  mp : Kn P w K mg base 5 "_law_mapping" fMp dMp ["_law_pot_here", "_law_shape"] (spMapG kd)
  fMd : Addr
  dMd : FuncData
  md : Kn P w K mg base 6 "_law_made_map" fMd dMd ["_law_mapping_here"] (spMadeG kd)
  fIr : Addr
  dIr : FuncData
  ir : KnG P w K mg base 4 "_law_is_row" fIr dIr ["_law_made", "_law_row"] (spIsRowG kd)
  fPt : Addr
  dPt : FuncData
  pt : Kn P w K mg base 2 "_law_points" fPt dPt ["_law_row"] (spPtsG kd)
  fAl : Addr
  dAl : FuncData
  al : Kn P w K mg base 2 "_law_all_at" fAl dAl ["_law_row", "_law_value"] (spAllG kd)
end
variable {kd : Kd}
theorem RowG.same (L : KdL kd) {H H' : Hp} {R : Addr} {xs : List kd.Ψ} (h : RowG kd H R xs) (s : Same H H') : RowG kd H' R xs := by
  obtain ⟨as, a, b⟩ := h
  exact ⟨as, s _ _ a, b.mono fun c q e => L.matSame s e⟩
theorem paired_mem {β : Type} {F : Addr → β → Prop} : ∀ {as : List Addr} {xs : List β}, Paired F as xs → ∀ a ∈ as, ∃ x, F a x
  | _, _, .nil, a, h => absurd h List.not_mem_nil
  | _, _, .cons r t, a, h => by
    rcases List.mem_cons.mp h with rfl | h
    · exact ⟨_, r⟩
    · exact paired_mem t a h
theorem tups_of (L : KdL kd) {H : Hp} {as : List Addr} {xs : List kd.Ψ} (h : Paired (kd.MapAt H) as xs) : ∀ b ∈ as, ∃ s R v, H b = some (.tup [.str s, .ref R, v]) := fun b hb => by
  obtain ⟨x, hx⟩ := paired_mem h b hb
  obtain ⟨R, v, e⟩ := L.matTup hx
  exact ⟨_, R, v, e⟩
/-- a row whose list is changed -/
theorem row_off (L : KdL kd) {H : Hp} {D : Addr} {as : List Addr} {xs : List kd.Ψ} {o : HO} (hD : H D = some (.lst (as.map V.ref))) (h : Paired (kd.MapAt H) as xs) : Paired (kd.MapAt (upd H D o)) as xs := by
  cases as with
  | nil =>
    cases h
    exact .nil
  | cons a r =>
    have t := tups_of L h
    exact h.mono fun c q e => L.matOff e hD (List.cons_ne_nil _ _) t
theorem eqv_strsV (K : PySem.W.Frag) (H : Hp) : ∀ l : List Str, Paired (EqV K H 1) (l.map V.str) (l.map V.str)
  | [] => .nil
  | z :: l => .cons (.inl ⟨rfl, rfl⟩) (eqv_strsV K H l)
end C4

end Pq4x
section Pq4y
set_option maxHeartbeats 16000000
namespace C4
open PySem PySem.Spec L2 PyProof.Rows
open T (atV orV Tab TMap RestOk NormOf MkT)
/-! ### one turn, for either kind -/
abbrev s_right : Stmt := top 66
abbrev nRight : List Str := ["_law_pot_here", "_law_shape", "_law_turn", "_law_row", "_law_maps", "_law_one", "_law_kept", "_law_same", "_law_whole", "_law_last", "_law_plain", "_law_fixed", "_law_steady", "_law_many", "_law_again", "_law_mapping_here"]
theorem sc_right : FnScope nRight ["_law_pot_here"] (defScope s_right) := ⟨rfl, rfl, rfl, by decide +kernel, rfl, by decide +kernel, by decide +kernel⟩
structure CMk6 (P : Program) (w : World) (K : PySem.W.Frag) (mg : Str → Option Value) (base : Heap) (C : Addr) (mc : Value) (x : Str) (p f : Addr) (d : FuncData) (ps : List Str) (sp : Sp) : Prop where
  r : ClX.CRead K C mc
  c : ClX.CMet K C mc x p f
  g : FnOk P w K mg base CX0 6 f d ps sp
  b : Binds K d ps []
theorem paired_set {β : Type} {F : Addr → β → Prop} : ∀ {as : List Addr} {xs : List β} {a : Addr} {x : β} {j : Nat}, Paired F as xs → F a x → Paired F (as.set j a) (xs.set j x)
  | _, _, a, x, j, .nil, _ => .nil
  | _, _, a, x, 0, .cons r t, h => .cons h t
  | _, _, a, x, j + 1, .cons r t, h => .cons r (paired_set t h)
section
variable {P : Program} {w : World} {K : PySem.W.Frag} {mg : Str → Option Value} {base : Heap} {kd : Kd}
/-- row = [mapping(pot, shape) for turn in range(2 + draw(pot, 3))] -/
theorem rows_made (L : KdL kd) {σ : L2.St} {p : Addr} {G : Hp} {Q : VK} (e0 : σ[0]? = some (some (.ref p))) (e0' : ∀ x, ((wipe σ [2]).set 2 (some x))[0]? = some (some (.ref p))) (e1' : ∀ x, ((wipe σ [2]).set 2 (some x))[1]? = some (some (.str kd.shape))) (hw : ∀ x, wipe ((wipe σ [2]).set 2 (some x)) [2] = wipe σ [2]) (hP : PotAt G p)
    (q : ∀ (R : Addr) (as : List Addr) (xs : List kd.Ψ) (H' : Hp), H' R = some (.lst (as.map V.ref)) → Paired (kd.MapAt H') as xs → 2 ≤ xs.length → xs.length ≤ 4 → (∀ x ∈ xs, kd.Ok x) → G R = none → Bt p G H' → PotAt H' p → Q (.ref R) H') :
    tLc (iRng1 (tCons (tOp (rI0 fun i j => V.int (i + j)) (tC (.int 2)) (tCall spDraw [] E0 (tCons (tVar 0) (tCons (tC (.int 3)) tNil)))) tNil)) (gName 2) tYes (tCall (spMapG kd) [] E0 (tCons (tVar 0) (tCons (tVar 1) tNil))) [2] σ G Q := by
  refine ⟨_, e0, p, 3, rfl, hP, by decide, by decide, fun d H1 d0 d1 b1 hP1 => ⟨2, d, rfl, rfl, 2 + d, rfl, by omega, by omega, fun D hD => ?_⟩⟩
  have nD : D ≠ p := pot_ne hP1 hD
  have gD : G D = none := bt_free hP1 b1 hD
  refine lc_range (lo := 0) (n := (2 + d).toNat) (fun i H' => Bt p G H' ∧ PotAt H' p ∧ ∃ (as : List Addr) (xs : List kd.Ψ), H' D = some (.lst (as.map V.ref)) ∧ Paired (kd.MapAt H') as xs ∧ xs.length = i ∧ ∀ x ∈ xs, kd.Ok x)
    ⟨b1.trans (Same.bt (same_upd hD)), hP1.bt (same_upd hD), [], [], upd_same, .nil, rfl, fun x h => absurd h List.not_mem_nil⟩ (fun i H3 hi ⟨b3, hP3, as, xs, hD3, pr, len, ok⟩ => ?_) fun H3 ⟨b3, hP3, as, xs, hD3, pr, len, ok⟩ => ?_
  · refine ⟨hw _, ?_⟩
    simp only [tYes, ↓reduceIte]
    refine ⟨_, e0' _, _, e1' _, p, rfl, hP3, fun a x H4 nw okx b4 hP4 => ?_⟩
    have hD4 : H4 D = some (.lst (as.map V.ref)) := b4 _ _ nD hD3
    have al : as.length = i := pr.length.trans len
    have pr4 : Paired (kd.MapAt H4) as xs := pr.mono fun c y e => L.matBt hP3 b4 e
    refine ⟨_, hD4, by rw [List.length_map, al]; exact Nat.lt_of_lt_of_le (show i < 5 by omega) (by decide), fun c o nc e => ?_, ?_, as ++ [a], xs ++ [x], by rw [upd_same, List.map_append]; rfl, ?_, by rw [List.length_append, len]; rfl, fun y hy => ?_⟩
    · have n : c ≠ D := ne_of_none e gD
      rw [upd_ne n]
      exact b4 _ _ nc (b3 _ _ nc e)
    · obtain ⟨x', y', e, r⟩ := hP4
      exact ⟨x', y', by rw [upd_ne (Ne.symm nD)]; exact e, r⟩
    · refine (row_off L hD4 pr4).snoc ?_
      cases as with
      | nil => exact L.nwOff nw hD3 hD4
      | cons b r => exact L.matOff (L.nwAt nw) hD4 (List.cons_ne_nil _ _) (tups_of L pr4)
    · rcases List.mem_append.mp hy with h | h
      · exact ok y h
      · rw [List.mem_singleton.mp h]
        exact okx
  · exact q D as xs H3 hD3 pr (by omega) (by omega) ok gD b3 hP3
/-- if draw(pot, 3) == 0: row[-1] = row[0] -/
theorem row_set (L : KdL kd) {σ : L2.St} {D : Ends} {u : TS} {p R : Addr} {G : Hp} {as : List Addr} {xs : List kd.Ψ} (e0 : σ[0]? = some (some (.ref p))) (e3 : σ[3]? = some (some (.ref R))) (hP : PotAt G p) (hR : G R = some (.lst (as.map V.ref))) (pr : Paired (kd.MapAt G) as xs) (l2 : 2 ≤ xs.length) (l4 : xs.length ≤ 4) (ok : ∀ x ∈ xs, kd.Ok x) {G0 : Hp} (g0 : G0 R = none) (b0 : Bt p G0 G)
    (q : ∀ (as : List Addr) (xs : List kd.Ψ) (H' : Hp), H' R = some (.lst (as.map V.ref)) → Paired (kd.MapAt H') as xs → 2 ≤ xs.length → xs.length ≤ 4 → (∀ x ∈ xs, kd.Ok x) → Bt p G0 H' → PotAt H' p → u D σ H') :
    tSeq (tIfS (tTest (tOp rEq (tCall spDraw [] E0 (tCons (tVar 0) (tCons (tC (.int 3)) tNil))) (tC (.int 0)))) (tAsg (tOp (rIxL K) (tVar 3) (tC (.int 0))) (gSub (tVar 3) (tUn (rU fun i => .int (-i)) (tC (.int 1))) rSetL)) tNext) u D σ G := by
  refine ⟨_, e0, p, 3, rfl, hP, by decide, by decide, fun d H1 d0 d1 b1 hP1 => ⟨rfl, _, rfl, ?_⟩⟩
  have al : as.length = xs.length := pr.length
  have nR : R ≠ p := fun z => by
    obtain ⟨x, y, e, _⟩ := hP
    rw [z, e] at hR
    have h := HO.lst.inj (Option.some.inj hR)
    cases as with
    | nil => cases h
    | cons a r => cases h
  have hR1 := b1 _ _ nR hR
  have pr1 : Paired (kd.MapAt H1) as xs := pr.mono fun c y e => L.matBt hP b1 e
  refine ite2 (fun h => ?_) (fun h => ?_)
  · obtain ⟨x0, hx0⟩ : ∃ x0, xs[0]? = some x0 := ⟨_, List.getElem?_eq_getElem (by omega)⟩
    obtain ⟨a0, ha0, m0⟩ := paired_at pr1 hx0
    refine ⟨_, e3, R, _, 0, .ref a0, rfl, rfl, SqL.of hR1, atI_nat (j := 0) (by rw [List.getElem?_map, ha0]; rfl), _, e3, 1, rfl, R, _, -1, as.length - 1, rfl, rfl, hR1, ?_, ?_⟩
    · rw [List.length_map]
      unfold ixN
      rw [if_neg (by omega)]
      have : (-1 + (as.length : Int)) = ((as.length - 1 : Nat) : Int) := by omega
      simp only [this]
      rw [if_pos (by omega)]
      simp
    have em : (as.map V.ref).set (as.length - 1) (V.ref a0) = (as.set (as.length - 1) a0).map V.ref := by rw [List.map_set]
    rw [em]
    refine q (as.set (as.length - 1) a0) (xs.set (as.length - 1) x0) _ upd_same (paired_set (row_off L hR1 pr1) ?_) (by rw [List.length_set]; exact l2) (by rw [List.length_set]; exact l4) (fun y hy => ?_) (fun c o nc e => ?_) ?_
    · obtain ⟨a0', h1, h2⟩ := paired_at (row_off L (o := .lst ((as.set (as.length - 1) a0).map V.ref)) hR1 pr1) hx0
      rw [ha0] at h1
      cases h1
      exact h2
    · rcases List.mem_or_eq_of_mem_set hy with h | h
      · exact ok y h
      · rw [h]
        exact ok x0 (List.mem_of_getElem? hx0)
    · rw [upd_ne (ne_of_none e g0)]
      exact b1 _ _ nc (b0 _ _ nc e)
    · obtain ⟨x', y', e, r⟩ := hP1
      exact ⟨x', y', by rw [upd_ne (Ne.symm nR)]; exact e, r⟩
  · exact q as xs H1 hR1 pr1 l2 l4 ok (b0.trans b1) hP1
/-- maps = [made_map(mapping) for mapping in row] -/
theorem maps_made (L : KdL kd) {σ : L2.St} {R : Addr} {G : Hp} {Q : VK} {as : List Addr} {xs : List kd.Ψ} (e3 : σ[3]? = some (some (.ref R))) (e15 : ∀ x, ((wipe σ [15]).set 15 (some x))[15]? = some (some x)) (hw : ∀ x, wipe ((wipe σ [15]).set 15 (some x)) [15] = wipe σ [15]) (hR : G R = some (.lst (as.map V.ref))) (pr : Paired (kd.MapAt G) as xs) (l4 : xs.length ≤ 4) (ok : ∀ x ∈ xs, kd.Ok x)
    (q : ∀ (M : Addr) (ms : List Addr) (H' : Hp), H' M = some (.lst (ms.map V.ref)) → Paired (fun m x => kd.IsM H' m (kd.fn x) 4) ms xs → Same G H' → Q (.ref M) H') :
    tLc (iList K (tVar 3)) (gName 15) tYes (tCall (spMadeG kd) [] E0 (tCons (tVar 15) tNil)) [15] σ G Q := by
  have al : as.length = xs.length := pr.length
  refine ⟨_, e3, R, rfl, ⟨_, SqL.of hR⟩, fun D hD => ?_⟩
  refine lc_list (xs := as.map V.ref) (fun i H' => Same G H' ∧ ∃ ms : List Addr, H' D = some (.lst (ms.map V.ref)) ∧ Paired (fun m x => kd.IsM H' m (kd.fn x) 4) ms (xs.take i)) ⟨same_upd hD, [], upd_same, .nil⟩ (fun i H' _ ⟨z, _⟩ => SqL.of (z _ _ hR)) (fun i x H3 hx ⟨s3, ms, hD3, pm⟩ => ?_) fun H3 ⟨s3, ms, hD3, pm⟩ => ?_
  · have il : i < xs.length := by
      have := (List.getElem?_eq_some_iff.mp hx).1
      rw [List.length_map] at this
      omega
    have hp : xs[i]? = some (xs[i]'il) := List.getElem?_eq_getElem il
    generalize xs[i]'il = y at hp
    obtain ⟨a, e1, e2⟩ := paired_at pr hp
    rw [List.getElem?_map, e1] at hx
    cases (show V.ref a = x from Option.some.inj hx)
    have tk : xs.take (i + 1) = xs.take i ++ [y] := by rw [List.take_succ, hp]; rfl
    refine ⟨hw _, ?_⟩
    simp only [tYes, ↓reduceIte]
    refine ⟨_, e15 _, a, y, rfl, L.matSame s3 e2, ok y (List.mem_of_getElem? hp), fun m H4 im s4 => ?_⟩
    have hD4 := s4 _ _ hD3
    have ml : ms.length = (xs.take i).length := pm.length
    rw [List.length_take] at ml
    refine ⟨_, hD4, by rw [List.length_map, ml]; exact Nat.lt_of_le_of_lt (show min i xs.length ≤ 4 by omega) (by decide), same_over (s3.trans s4) hD, ms ++ [m], by rw [upd_same, List.map_append]; rfl, ?_⟩
    rw [tk]
    exact (pm.mono fun c z e => L.isOff (L.isSame s4 e) hD4).snoc (L.isOff im hD4)
  · rw [List.length_map, al, List.take_length] at pm
    exact q D ms H3 hD3 pm s3
/-- [repr(one) for one in maps] -/
theorem maps_shown (L : KdL kd) {σ : L2.St} {M : Addr} {G : Hp} {Q : VK} {ms : List Addr} {xs : List kd.Ψ} (e4 : σ[4]? = some (some (.ref M))) (e5 : ∀ x, ((wipe σ [5]).set 5 (some x))[5]? = some (some x)) (hw : ∀ x, wipe ((wipe σ [5]).set 5 (some x)) [5] = wipe σ [5]) (hM : G M = some (.lst (ms.map V.ref))) (pm : Paired (fun m x => kd.IsM G m (kd.fn x) 4) ms xs) (l4 : xs.length ≤ 4) (ok : ∀ x ∈ xs, kd.Ok x)
    (q : ∀ (D : Addr) (H' : Hp), H' D = some (.lst ((xs.map fun x => kd.txt (kd.fn x)).map V.str)) → Same G H' → Q (.ref D) H') :
    tLc (iList K (tVar 4)) (gName 5) tYes (tCB (rReprO kd.C (spReprG kd)) (tCons (tVar 5) tNil)) [5] σ G Q := by
  have ml : ms.length = xs.length := pm.length
  refine ⟨_, e4, M, rfl, ⟨_, SqL.of hM⟩, fun D hD => ?_⟩
  refine lc_list (xs := ms.map V.ref) (fun i H' => Same G H' ∧ H' D = some (.lst (((xs.map fun x => kd.txt (kd.fn x)).take i).map V.str))) ⟨same_upd hD, upd_same⟩ (fun i H' _ ⟨z, _⟩ => SqL.of (z _ _ hM)) (fun i x H3 hx ⟨s3, hD3⟩ => ?_) fun H3 ⟨s3, hD3⟩ => ?_
  · have il : i < xs.length := by
      have := (List.getElem?_eq_some_iff.mp hx).1
      rw [List.length_map] at this
      omega
    have hp : xs[i]? = some (xs[i]'il) := List.getElem?_eq_getElem il
    generalize xs[i]'il = y at hp
    obtain ⟨m, e1, e2⟩ := paired_at pm hp
    rw [List.getElem?_map, e1] at hx
    cases (show V.ref m = x from Option.some.inj hx)
    have tk : (xs.map fun x => kd.txt (kd.fn x)).take (i + 1) = (xs.map fun x => kd.txt (kd.fn x)).take i ++ [kd.txt (kd.fn y)] := by rw [List.take_succ, List.getElem?_map, hp]; rfl
    refine ⟨hw _, ?_⟩
    simp only [tYes, ↓reduceIte]
    have im := L.isSame s3 e2
    obtain ⟨dx, fs, hm, _⟩ := L.isIns im
    refine ⟨_, e5 _, m, dx, fs, rfl, hm, m, kd.fn y, y, rfl, im, ok y (List.mem_of_getElem? hp), fun H4 s4 => ⟨_, rfl, ?_⟩⟩
    refine ⟨_, s4 _ _ hD3, by rw [List.length_map, List.length_take, List.length_map]; exact Nat.lt_of_le_of_lt (show min i xs.length ≤ 4 by omega) (by decide), same_over (s3.trans s4) hD, ?_⟩
    rw [upd_same, tk, List.map_append] <;> rfl
  · rw [List.length_map, ml, List.take_of_length_le (by rw [List.length_map]; exact Nat.le_refl _)] at hD3
    exact q D H3 hD3 s3
end
end C4

end Pq4y
section Pq4z
set_option maxHeartbeats 32000000
namespace C4
open PySem PySem.Spec L2 PyProof.Rows
open T (atV orV Tab TMap RestOk NormOf MkT)
theorem paired_rev {α β : Type} {F : α → β → Prop} : ∀ {xs : List α} {ys : List β}, Paired F xs ys → Paired F xs.reverse ys.reverse
  | _, _, .nil => .nil
  | _, _, .cons r t => by
    rw [List.reverse_cons, List.reverse_cons]
    exact (paired_rev t).snoc r
theorem paired_drop {α β : Type} {F : α → β → Prop} : ∀ {xs : List α} {ys : List β}, Paired F xs ys → Paired F xs.dropLast ys.dropLast
  | _, _, .nil => .nil
  | _, _, .cons r .nil => .nil
  | _, _, .cons r (.cons r2 t) => .cons r (paired_drop (.cons r2 t))
theorem paired_take {α β : Type} {F : α → β → Prop} : ∀ {xs : List α} {ys : List β} (n : Nat), Paired F xs ys → Paired F (xs.take n) (ys.take n)
  | _, _, 0, _ => .nil
  | _, _, n + 1, .nil => .nil
  | _, _, n + 1, .cons r t => .cons r (paired_take n t)
theorem as_te {te : TE} {u : TS} {D : Ends} {σ : L2.St} {H : Hp} {i : Nat} (h : te σ H fun x H1 => u D (σ.set i (some x)) H1) : tSeq (tAsg te (gName i)) u D σ H := h
theorem and_op {r : R2} {t1 t2 t3 : TE} {σ : L2.St} {H : Hp} {Q : VK} (h : t1 σ H fun x H1 => t2 σ H1 fun y H2 => r x y H2 fun z H' => ∃ c, z = .bl c ∧ (if c = true then t3 σ H' Q else Q (.bl false) H')) : tAndV (tOp r t1 t2) t3 σ H Q := h
theorem par_2 {i j : Nat} {t1 t2 : TE} {u : TS} {D : Ends} {σ : L2.St} {H : Hp} (h : t1 σ H fun x H1 => t2 σ H1 fun y H2 => ∃ v w, [x, y] = [v, w] ∧ u D ((σ.set i (some v)).set j (some w)) H2) : tSeq (tPar i j (tCons t1 (tCons t2 tNil))) u D σ H := h
section
variable {K : PySem.W.Frag} {kd : Kd} (L : KdL kd)
include L
theorem then_v {H : Hp} {Q : VK} {σ : L2.St} {m o : Addr} {F G : kd.Φ} {a b j : Nat} (im : kd.IsM H m F a) (ej : σ[j]? = some (some (.ref o))) (io : kd.IsM H o G b) (ab : a + b ≤ 60) (q : ∀ r H', kd.IsM H' r (kd.comp F G) (a + b) → Same H H' → Q (.ref r) H') :
    ∃ p dx fs, V.ref m = .ref p ∧ H p = some (.ins kd.C dx fs) ∧ fs.lookup ("then" : Str) = none ∧ tCons (tVar j) tNil σ H fun vs H2 => spThenG kd (V.ref p :: vs ++ []) H2 Q E0 := by
  obtain ⟨dx, fs, hm, _, _, ht, _⟩ := L.isIns im
  exact ⟨m, dx, fs, rfl, hm, ht, _, ej, m, o, F, G, a, b, rfl, im, io, ab, q⟩
theorem then_vv {H : Hp} {Q : VK} {σ : L2.St} {m o : Addr} {F G : kd.Φ} {a b i j : Nat} (ei : σ[i]? = some (some (.ref m))) (ej : σ[j]? = some (some (.ref o))) (im : kd.IsM H m F a) (io : kd.IsM H o G b) (ab : a + b ≤ 60) (q : ∀ r H', kd.IsM H' r (kd.comp F G) (a + b) → Same H H' → Q (.ref r) H') :
    tMeth kd.C "then" (spThenG kd) [] E0 (tVar i) (tCons (tVar j) tNil) σ H Q := by
  obtain ⟨dx, fs, hm, _, _, ht, _⟩ := L.isIns im
  exact ⟨_, ei, m, dx, fs, rfl, hm, ht, _, ej, m, o, F, G, a, b, rfl, im, io, ab, q⟩
omit L in
theorem ix_rd {H : Hp} {Q : VK} {σ : L2.St} {M m : Addr} {ms : List Addr} {i k : Nat} (e4 : σ[i]? = some (some (.ref M))) (hM : H M = some (.lst (ms.map V.ref))) (hk : ms[k]? = some m) (q : Q (.ref m) H) : tOp (rIxL K) (tVar i) (tC (.int (k : Nat))) σ H Q :=
  ⟨_, e4, M, _, (k : Nat), .ref m, rfl, rfl, SqL.of hM, atI_nat (j := k) (by rw [List.getElem?_map, hk]; rfl), q⟩
theorem then_iv {H : Hp} {Q : VK} {σ : L2.St} {M m o : Addr} {ms : List Addr} {F G : kd.Φ} {a b j : Nat} (e4 : σ[4]? = some (some (.ref M))) (hM : H M = some (.lst (ms.map V.ref))) (hk : ms[0]? = some m) (ej : σ[j]? = some (some (.ref o))) (im : kd.IsM H m F a) (io : kd.IsM H o G b) (ab : a + b ≤ 60) (q : ∀ r H', kd.IsM H' r (kd.comp F G) (a + b) → Same H H' → Q (.ref r) H') :
    tMeth kd.C "then" (spThenG kd) [] E0 (tOp (rIxL K) (tVar 4) (tC (.int 0))) (tCons (tVar j) tNil) σ H Q := by
  obtain ⟨dx, fs, hm, _, _, ht, _⟩ := L.isIns im
  exact ix_rd (k := 0) e4 hM hk ⟨m, dx, fs, rfl, hm, ht, _, ej, m, o, F, G, a, b, rfl, im, io, ab, q⟩
theorem then_vi {H : Hp} {Q : VK} {σ : L2.St} {M m o : Addr} {ms : List Addr} {F G : kd.Φ} {a b i : Nat} (e4 : σ[4]? = some (some (.ref M))) (hM : H M = some (.lst (ms.map V.ref))) (hk : ms[0]? = some o) (ei : σ[i]? = some (some (.ref m))) (im : kd.IsM H m F a) (io : kd.IsM H o G b) (ab : a + b ≤ 60) (q : ∀ r H', kd.IsM H' r (kd.comp F G) (a + b) → Same H H' → Q (.ref r) H') :
    tMeth kd.C "then" (spThenG kd) [] E0 (tVar i) (tCons (tOp (rIxL K) (tVar 4) (tC (.int 0))) tNil) σ H Q := by
  obtain ⟨dx, fs, hm, _, _, ht, _⟩ := L.isIns im
  exact ⟨_, ei, m, dx, fs, rfl, hm, ht, ix_rd (k := 0) e4 hM hk ⟨m, o, F, G, a, b, rfl, im, io, ab, q⟩⟩
theorem then_ii {H : Hp} {Q : VK} {σ : L2.St} {M m o : Addr} {ms : List Addr} {F G : kd.Φ} {a b : Nat} (e4 : σ[4]? = some (some (.ref M))) (hM : H M = some (.lst (ms.map V.ref))) (hk : ms[0]? = some m) (hk1 : ms[1]? = some o) (im : kd.IsM H m F a) (io : kd.IsM H o G b) (ab : a + b ≤ 60) (q : ∀ r H', kd.IsM H' r (kd.comp F G) (a + b) → Same H H' → Q (.ref r) H') :
    tMeth kd.C "then" (spThenG kd) [] E0 (tOp (rIxL K) (tVar 4) (tC (.int 0))) (tCons (tOp (rIxL K) (tVar 4) (tC (.int 1))) tNil) σ H Q := by
  obtain ⟨dx, fs, hm, _, _, ht, _⟩ := L.isIns im
  exact ix_rd (k := 0) e4 hM hk ⟨m, dx, fs, rfl, hm, ht, ix_rd (k := 1) e4 hM hk1 ⟨m, o, F, G, a, b, rfl, im, io, ab, q⟩⟩
theorem oth_of {H : Hp} {o : Addr} {F : kd.Φ} {b : Nat} (io : kd.IsM H o F b) : OthV K kd.C H (.ref o) := by
  obtain ⟨dx, fs, hm, _⟩ := L.isIns io
  exact .inl ⟨o, rfl, .inl ⟨kd.C, dx, _, hm, notFirst_self⟩⟩
theorem ne_v {H : Hp} {Q : VK} {m o : Addr} {F : kd.Φ} {a b : Nat} (im : kd.IsM H m F a) (io : kd.IsM H o F b) (ha : a ≤ 60) (hb : b ≤ 60) (q : ∀ H', Same H H' → Q (.bl false) H') : rEqO K kd.C (spEqG kd) true (.ref m) (.ref o) H Q := by
  obtain ⟨dx, fs, hm, _⟩ := L.isIns im
  exact ⟨m, dx, fs, rfl, hm, oth_of L io, m, o, F, a, b, rfl, im, io, ha, hb, fun H' s => ⟨true, rfl, q H' s⟩⟩
theorem eq_v {H : Hp} {Q : VK} {m o : Addr} {F : kd.Φ} {a b : Nat} (im : kd.IsM H m F a) (io : kd.IsM H o F b) (ha : a ≤ 60) (hb : b ≤ 60) (q : ∀ H', Same H H' → Q (.bl true) H') : rEqO K kd.C (spEqG kd) false (.ref m) (.ref o) H Q := by
  obtain ⟨dx, fs, hm, _⟩ := L.isIns im
  exact ⟨m, dx, fs, rfl, hm, oth_of L io, m, o, F, a, b, rfl, im, io, ha, hb, fun H' s => ⟨true, rfl, q H' s⟩⟩
theorem row_one {x : kd.Ψ} (o : kd.Ok x) : kd.row [x] = kd.fn x := by
  rw [L.rowHead (xs := []) (fun y hy => by rw [List.mem_singleton.mp hy]; exact o), L.rowNil, L.compId]
end
section
variable {P : Program} {w : World} {K : PySem.W.Frag} {mg : Str → Option Value} {base : Heap} {mc : Value} {kd : Kd} {CT CN fD pS1 mS1 pS2 mS2 pC1 mC1 pC2 mC2 : Addr} {dD dS1 dS2 dC1 dC2 : FuncData} {spS1 spS2 spC1 spC2 : Sp}
variable {f : Addr} {cdv : Value} {A : Around} {outer : List Env} {s : Shared} {H0 : Hp} {E : XK}
theorem fin_swap {β : Type} (xs : List β) (i : Nat) {x : β} (h : xs.dropLast.reverse[i]? = some x) : xs.drop (xs.length - 1 - (i + 1)) = x :: xs.drop (xs.length - 1 - i) := by
  have il : i < xs.dropLast.reverse.length := (List.getElem?_eq_some_iff.mp h).1
  rw [List.length_reverse, List.length_dropLast] at il
  have e : xs[xs.length - 1 - (i + 1)]? = some x := by
    rw [List.getElem?_reverse (by rw [List.length_dropLast]; exact il), List.length_dropLast] at h
    rw [List.getElem?_dropLast] at h
    split at h
    · rw [show xs.length - 1 - (i + 1) = xs.length - 1 - 1 - i by omega]
      exact h
    · cases h
  have kl := (List.getElem?_eq_some_iff.mp e).1
  rw [List.drop_eq_getElem_cons kl, (List.getElem?_eq_some_iff.mp e).2]
  congr 2
  omega
theorem rest_ok (L : KdL kd) (Z : KdP kd P w K mg base) (tr : mg "range" = none) (tp : mg "repr" = none) (DR : Kn P w K mg base 1 "_law_draw" fD dD ["_law_pot_here", "_law_many"] spDraw)
    (gT : mg "TextMap" = some (.ref CT)) (gN : mg "NumberMap" = some (.ref CN))
    (S1 : CMk6 P w K mg base CT mc "same" pS1 mS1 dS1 ["cls"] spS1) (S2 : CMk6 P w K mg base CN mc "same" pS2 mS2 dS2 ["cls"] spS2) (C1 : CMk6 P w K mg base CT mc "constant_map" pC1 mC1 dC1 ["cls", "value"] spC1) (C2 : CMk6 P w K mg base CN mc "constant_map" pC2 mC2 dC2 ["cls", "value"] spC2)
    (hS : ∀ {σ : L2.St} {H : Hp} {Q : VK}, σ[1]? = some (some (.str kd.shape)) → (∀ m H', kd.IsM H' m kd.idF 1 → Same H H' → Q (.ref m) H') → tIf (tTest (tOp rEq (tVar 1) (tC (.str "text")))) (ClX.tCMeth CT spS1 E0 (tC (.ref CT)) tNil) (ClX.tCMeth CN spS2 E0 (tC (.ref CN)) tNil) σ H Q)
    (hC : ∀ {σ : L2.St} {H : Hp} {Q : VK} {v : kd.α}, σ[1]? = some (some (.str kd.shape)) → σ[11]? = some (some (kd.e v)) → kd.VOk v → (∀ m H', kd.IsM H' m (kd.con v) 1 → Same H H' → Q (.ref m) H') → tIf (tTest (tOp rEq (tVar 1) (tC (.str "text")))) (ClX.tCMeth CT spC1 E0 (tC (.ref CT)) (tCons (tVar 11) tNil)) (ClX.tCMeth CN spC2 E0 (tC (.ref CN)) (tCons (tVar 11) tNil)) σ H Q)
    (hPl : ∀ {σ : L2.St} {H : Hp} {Q : VK}, σ[1]? = some (some (.str kd.shape)) → (∀ D H', (∀ H2 t, Same H' H2 → H2 t = some (.tup [.str kd.shape, .ref D, .non]) → kd.MapAt H2 t kd.plain) → Same H H' → Q (.ref D) H') → tIf (tTest (tOp rEq (tVar 1) (tC (.str "text")))) (tLst tNil) (tLst (tCons (tTup (tCons (tC .non) (tCons (tC .non) (tCons (tC .non) tNil)))) tNil)) σ H Q)
    (hG : (A.deeper (PyProof.Rows.envOfC "_law_right" (defScope s_right) s.heap.objs.size f cdv)).guards = some []) (hr : Room 7 (A.deeper (PyProof.Rows.envOfC "_law_right" (defScope s_right) s.heap.objs.size f cdv))) :
    ∃ u, PSs (cxOf CX0 P w K mg base nRight "_law_right" (defScope s_right) f cdv A outer s H0 E).nox ((defBody s_right).drop 1) u ∧ ∀ (p : Addr) (G : Hp) (Q : VK), PotAt G p → (∀ H', Bt p G H' → PotAt H' p → Q (.bl true) H') →
      u { nx := fun _ H' => Q .non H', rt := Q } [some (.ref p), some (.str kd.shape), none, none, none, none, none, none, none, none, none, none, none, none, none, none] G := by
  have hu := hr.units
  have gS1 := S1.g.raw S1.b .nil
  have gS2 := S2.g.raw S2.b .nil
  have gC1 := C1.g.raw C1.b .nil
  have gC2 := C2.g.raw C2.b .nil
  refine ⟨_, pss_cons (ps_setLc (i := 3) (own := [("_law_turn", 2)]) (g := gName 2) (tt := tYes) (te := tCall (spMapG kd) [] E0 (tCons (tVar 0) (tCons (tVar 1) tNil))) rfl sc_right.nd rfl rfl (sw_true rfl rfl rfl (by decide +kernel)) (pi_range1 rfl tr (pa_cons (pe_op op_add pe_int (pe_call DR.f (hr.mono (by decide)) rfl DR.m DR.k DR.b .nil pass0 (pa_cons (pv 0) (pa_cons pe_int pa_nil)))) pa_nil)) (blkOk_by (N := nRight) (sc := defScope s_right) (by decide +kernel)) (fun _ _ _ _ _ => pg_name (i := 2) sc_right.nd rfl (Or.inl rfl)) (fun _ _ _ _ _ => pts_nil)
        (fun _ _ _ _ _ => by exact (pe_call Z.mp.f (hr.mono (by decide)) rfl Z.mp.m Z.mp.k Z.mp.b .nil pass0 (pa_cons (pv 0) (pa_cons (pv 1) pa_nil)))))
    (pss_cons (ps_if (pt_cmpR op_eq (pe_call DR.f (hr.mono (by decide)) rfl DR.m DR.k DR.b .nil pass0 (pa_cons (pv 0) (pa_cons pe_int pa_nil))) pe_int (nomark _)) (pss_one (ps_asg (pe_ix ix_list (pv 3) pe_int (fun _ _ => rfl)) (pg_sub (pv 3) (pe_un un_neg pe_int) set_list))) pss_nil)
    (pss_cons (ps_setLc (i := 4) (own := [("_law_mapping_here", 15)]) (g := gName 15) (tt := tYes) (te := tCall (spMadeG kd) [] E0 (tCons (tVar 15) tNil)) rfl sc_right.nd rfl rfl (sw_true rfl rfl rfl (by decide +kernel)) (pi_list (pv 3)) (blkOk_by (N := nRight) (sc := defScope s_right) (by decide +kernel)) (fun _ _ _ _ _ => pg_name (i := 15) sc_right.nd rfl (Or.inl rfl)) (fun _ _ _ _ _ => pts_nil)
        (fun _ _ _ _ _ => by exact (pe_call Z.md.f (hr.mono (by decide)) rfl Z.md.m Z.md.k Z.md.b .nil pass0 (pa_cons (pv 15) pa_nil))))
    (pss_cons (ps_par (i := 6) (j := 7) (by rfl) sc_right.nd rfl rfl (by decide) rfl rfl (pa_cons (pe_lc (own := [("_law_one", 5)]) (g := gName 5) (tt := tYes) (te := tCB (rReprO kd.C (spReprG kd)) (tCons (tVar 5) tNil)) rfl sc_right.nd (pi_list (pv 4)) (blkOk_by (N := nRight) (sc := defScope s_right) (by decide +kernel)) (fun _ _ _ _ _ => pg_name (i := 5) sc_right.nd rfl (Or.inl rfl)) (fun _ _ _ _ _ => pts_nil)
          (fun _ _ _ _ _ => by exact (pe_callB (call_reprO Z.sRe Z.nRe Z.gRe (by exact hG) Z.bRe (hr.mono (by decide))) (by rfl) tp boot_repr (pa_cons (pv 5) pa_nil))))
        (pa_cons (pe_ifExp (pt_cmpR op_eq (pv 1) pe_str (nomark _)) (pe_cmeth0 (pe_glob (v := .ref CT) rfl gT rfl) S1.r S1.c gS1 (hr.mono (by decide)) pass0) (pe_cmeth0 (pe_glob (v := .ref CN) rfl gN rfl) S2.r S2.c gS2 (hr.mono (by decide)) pass0)) pa_nil)) (by rfl))
    (pss_cons (ps_set (i := 8) sc_right.nd rfl (Or.inl rfl) (pe_ix ix_list (pv 4) pe_int (fun _ _ => rfl)))
    (pss_cons (ps_for .never (by rfl) (pi_list (pe_slice sl_list (pv 4) (po_some pe_int) po_none)) (pg_name (i := 5) sc_right.nd rfl (Or.inl rfl)) (pss_one (ps_set (i := 8) sc_right.nd rfl (Or.inl rfl) (pe_meth (pv 8) Z.cl Z.mThen Z.gThen hr Z.bThen .nil pass0 (pa_cons (pv 5) pa_nil)))))
    (pss_cons (ps_set (i := 9) sc_right.nd rfl (Or.inl rfl) (pe_ix ix_list (pv 4) (pe_un un_neg pe_int) (fun _ _ => rfl)))
    (pss_cons (ps_for .never (by rfl) (pi_list (pe_rev2L (pv 4))) (pg_name (i := 5) sc_right.nd rfl (Or.inl rfl)) (pss_one (ps_set (i := 9) sc_right.nd rfl (Or.inl rfl) (pe_meth (pv 5) Z.cl Z.mThen Z.gThen hr Z.bThen .nil pass0 (pa_cons (pv 9) pa_nil)))))
    (pss_cons (ps_if (PW.pt (pw_or (pt_not (pt_val (pe_callG Z.ir.f (by exact hG) (hr.mono (by decide)) rfl Z.ir.m Z.ir.k Z.ir.b .nil pass0 (pa_cons (pv 8) (pa_cons (pv 3) pa_nil))))) (pw_or (pt_cmpR (op_neO Z.oEq Z.gEq Z.bEq (hr.mono (by decide))) (pv 9) (pv 8) (nomark _)) (pw_or1 (pt_not (pt_val (pe_callG Z.ir.f (by exact hG) (hr.mono (by decide)) rfl Z.ir.m Z.ir.k Z.ir.b .nil pass0 (pa_cons (pe_meth (pe_ix ix_list (pv 4) pe_int (fun _ _ => rfl)) Z.cl Z.mThen Z.gThen hr Z.bThen .nil pass0 (pa_cons (pe_ix ix_list (pv 4) pe_int (fun _ _ => rfl)) pa_nil)) (pa_cons (pe_slice sl_list (pv 3) po_none (po_some pe_int)) pa_nil))))))))) pss_never pss_nil)
    (pss_cons (ps_if (PW.pt (pw_or (pt_cmpR (op_neO Z.oEq Z.gEq Z.bEq (hr.mono (by decide))) (pe_meth (pv 8) Z.cl Z.mThen Z.gThen hr Z.bThen .nil pass0 (pa_cons (pv 7) pa_nil)) (pv 8) (nomark _)) (pw_or (pt_cmpR (op_neO Z.oEq Z.gEq Z.bEq (hr.mono (by decide))) (pe_meth (pv 7) Z.cl Z.mThen Z.gThen hr Z.bThen .nil pass0 (pa_cons (pv 8) pa_nil)) (pv 8) (nomark _))
        (pw_or1 (pt_cmpR (op_neO Z.oEq Z.gEq Z.bEq (hr.mono (by decide))) (pe_meth (pe_ix ix_list (pv 4) pe_int (fun _ _ => rfl)) Z.cl Z.mThen Z.gThen hr Z.bThen .nil pass0 (pa_cons (pv 7) pa_nil)) (pe_ix ix_list (pv 4) pe_int (fun _ _ => rfl)) (nomark _)))))) pss_never pss_nil)
    (pss_cons (ps_set (i := 10) sc_right.nd rfl (Or.inl rfl) (pe_ifExp (pt_cmpR op_eq (pv 1) pe_str (nomark _)) (pe_lst pa_nil) (pe_lst (pa_cons (pe_tup (pa_cons pe_non (pa_cons pe_non (pa_cons pe_non pa_nil)))) pa_nil))))
    (pss_cons (ps_if (pt_not (pt_val (pe_callG Z.ir.f (by exact hG) (hr.mono (by decide)) rfl Z.ir.m Z.ir.k Z.ir.b .nil pass0 (pa_cons (pv 7) (pa_cons (pe_lst (pa_cons (pe_tup (pa_cons (pv 1) (pa_cons (pv 10) (pa_cons pe_non pa_nil)))) pa_nil)) pa_nil))))) pss_never pss_nil)
    (pss_cons (ps_set (i := 11) sc_right.nd rfl (Or.inl rfl) (pe_call Z.al.f (hr.mono (by decide)) rfl Z.al.m Z.al.k Z.al.b .nil pass0 (pa_cons (pv 3) (pa_cons (pe_ix ix_list (pe_call Z.pt.f (hr.mono (by decide)) rfl Z.pt.m Z.pt.k Z.pt.b .nil pass0 (pa_cons (pv 3) pa_nil)) pe_int (fun _ _ => rfl)) pa_nil))))
    (pss_cons (ps_set (i := 12) sc_right.nd rfl (Or.inl rfl) (pe_ifExp (pt_cmpR op_eq (pv 1) pe_str (nomark _)) (ClX.pe_cmeth (pe_glob (v := .ref CT) rfl gT rfl) C1.r C1.c gC1 (hr.mono (by decide)) pass0 (pa_cons (pv 11) pa_nil)) (ClX.pe_cmeth (pe_glob (v := .ref CN) rfl gN rfl) C2.r C2.c gC2 (hr.mono (by decide)) pass0 (pa_cons (pv 11) pa_nil))))
    (pss_cons (ps_if (PW.pt (pw_or (pt_cmpR op_ne (pe_meth (pe_meth (pv 12) Z.cl Z.mThen Z.gThen hr Z.bThen .nil pass0 (pa_cons (pv 8) pa_nil)) Z.cl Z.mAt Z.gAt (hr.mono (by decide)) Z.bAt .nil pass0 (pa_cons (pv 11) pa_nil)) (pe_call Z.al.f (hr.mono (by decide)) rfl Z.al.m Z.al.k Z.al.b .nil pass0 (pa_cons (pv 3) (pa_cons (pv 11) pa_nil))) (nomark _)) (pw_or1 (pt_cmpR (op_neO Z.oEq Z.gEq Z.bEq (hr.mono (by decide))) (pe_meth (pv 8) Z.cl Z.mThen Z.gThen hr Z.bThen .nil pass0 (pa_cons (pv 12) pa_nil)) (pv 12) (nomark _))))) pss_never pss_nil)
    (pss_cons (ps_par (i := 13) (j := 14) (by rfl) sc_right.nd rfl rfl (by decide) rfl rfl (pa_cons (pe_ix ix_list (pv 4) pe_int (fun _ _ => rfl)) (pa_cons (pe_lst (pa_cons (pe_ix ix_list (pv 3) pe_int (fun _ _ => rfl)) pa_nil)) pa_nil)) (by rfl))
    (pss_cons (ps_for .never (by rfl) (pi_range1 rfl tr (pa_cons (pe_call DR.f (hr.mono (by decide)) rfl DR.m DR.k DR.b .nil pass0 (pa_cons (pv 0) (pa_cons pe_int pa_nil))) pa_nil)) (pg_name (i := 2) sc_right.nd rfl (Or.inl rfl))
        (pss_cons (ps_set (i := 13) sc_right.nd rfl (Or.inl rfl) (pe_meth (pv 13) Z.cl Z.mThen Z.gThen hr Z.bThen .nil pass0 (pa_cons (pe_ix ix_list (pv 4) pe_int (fun _ _ => rfl)) pa_nil)))
        (pss_one (ps_set (i := 14) sc_right.nd rfl (Or.inl rfl) (pe_op op_cat (pv 14) (pe_lst (pa_cons (pe_ix ix_list (pv 3) pe_int (fun _ _ => rfl)) pa_nil)))))))
    (pss_one (ps_ret (pe_and (pe_callG Z.ir.f (by exact hG) (hr.mono (by decide)) rfl Z.ir.m Z.ir.k Z.ir.b .nil pass0 (pa_cons (pv 13) (pa_cons (pv 14) pa_nil))) (pe_and (pe_cmpR (op_eqV (by exact hu)) (pe_lc (own := [("_law_one", 5)]) (g := gName 5) (tt := tYes) (te := tCB (rReprO kd.C (spReprG kd)) (tCons (tVar 5) tNil)) rfl sc_right.nd (pi_list (pv 4)) (blkOk_by (N := nRight) (sc := defScope s_right) (by decide +kernel)) (fun _ _ _ _ _ => pg_name (i := 5) sc_right.nd rfl (Or.inl rfl)) (fun _ _ _ _ _ => pts_nil)
          (fun _ _ _ _ _ => by exact (pe_callB (call_reprO Z.sRe Z.nRe Z.gRe (by exact hG) Z.bRe (hr.mono (by decide))) (by rfl) tp boot_repr (pa_cons (pv 5) pa_nil)))) (pv 6) (nomark _)) (pe_one (pe_cmpR (op_eqO Z.oEq Z.gEq Z.bEq (hr.mono (by decide))) (pv 7) (pe_meth (pv 7) Z.cl Z.mThen Z.gThen hr Z.bThen .nil pass0 (pa_cons (pv 7) pa_nil)) (nomark _))))))))))))))))))))))), fun p G Q hP q => ?_⟩
  have kl : ∀ {as : List Addr} {xs : List kd.Ψ} {H : Hp}, Paired (kd.MapAt H) as xs → as.length = xs.length := fun h => h.length
  refine as_te ?_
  refine rows_made L (σ := [some (.ref p), some (.str kd.shape), none, none, none, none, none, none, none, none, none, none, none, none, none, none]) rfl (by intro _; rfl) (by intro _; rfl) (by intro _; rfl) hP fun R as xs H1 hR pr l2 l4 ok nR b1 hP1 => ?_
  try dsimp only
  refine normS (σ' := [some (.ref p), some (.str kd.shape), none, some (.ref R), none, none, none, none, none, none, none, none, none, none, none, none]) rfl ?_
  refine row_set (K := K) L rfl rfl hP1 hR pr l2 l4 ok nR b1 fun as xs H2 hR pr l2 l4 ok b2 hP2 => ?_
  refine as_te ?_
  refine maps_made (K := K) L (σ := [some (.ref p), some (.str kd.shape), none, some (.ref R), none, none, none, none, none, none, none, none, none, none, none, none]) rfl (by intro _; rfl) (by intro _; rfl) hR pr l4 ok fun M ms H3 hM pm s3 => ?_
  try dsimp only
  refine normS (σ' := [some (.ref p), some (.str kd.shape), none, some (.ref R), some (.ref M), none, none, none, none, none, none, none, none, none, none, none]) rfl ?_
  refine par_2 ?_
  refine maps_shown (K := K) L (σ := [some (.ref p), some (.str kd.shape), none, some (.ref R), some (.ref M), none, none, none, none, none, none, none, none, none, none, none]) rfl (by intro _; rfl) (by intro _; rfl) hM pm l4 ok fun Kp H4 hKp s4 => ?_
  refine hS rfl fun sm H5 ism s5 => ⟨_, _, rfl, ?_⟩
  -- all as it stands at H5
  have row : RowG kd H5 R xs := ⟨as, s5 _ _ (s4 _ _ (s3 _ _ hR)), pr.mono fun c y e => L.matSame s5 (L.matSame s4 (L.matSame s3 e))⟩
  have hM5 := s5 _ _ (s4 _ _ hM)
  have hK5 := s5 _ _ hKp
  have pm5 : Paired (fun m x => kd.IsM H5 m (kd.fn x) 4) ms xs := pm.mono fun c y e => L.isSame s5 (L.isSame s4 e)
  have c5 : Bt p G H5 := b2.trans (((Same.bt s3).trans (Same.bt s4)).trans (Same.bt s5))
  have hP5 := ((hP2.bt s3).bt s4).bt s5
  have ml : ms.length = xs.length := pm.length
  clear hKp hM s3 s4 s5 pm hR pr hP2 b2 hP1 b1 nR
  try dsimp only
  refine normS (σ' := [some (.ref p), some (.str kd.shape), none, some (.ref R), some (.ref M), none, some (.ref Kp), some (.ref sm), none, none, none, none, none, none, none, none]) rfl ?_
  obtain ⟨x0, hx0⟩ : ∃ x, xs[0]? = some x := ⟨_, List.getElem?_eq_getElem (by omega)⟩
  obtain ⟨x1, hx1⟩ : ∃ x, xs[1]? = some x := ⟨_, List.getElem?_eq_getElem (by omega)⟩
  obtain ⟨xl, hxl⟩ : ∃ x, xs[xs.length - 1]? = some x := ⟨_, List.getElem?_eq_getElem (by omega)⟩
  obtain ⟨m0, hm0, im0⟩ := paired_at pm5 hx0
  obtain ⟨m1, hm1, im1⟩ := paired_at pm5 hx1
  obtain ⟨m2, hm2, im2⟩ := paired_at pm5 hxl
  have ox0 := ok x0 (List.mem_of_getElem? hx0)
  have oxl := ok xl (List.mem_of_getElem? hxl)
  -- whole
  refine as_te ?_
  refine ix_rd (K := K) (k := 0) rfl hM5 hm0 ?_
  try dsimp only
  refine normS (σ' := [some (.ref p), some (.str kd.shape), none, some (.ref R), some (.ref M), none, some (.ref Kp), some (.ref sm), some (.ref m0), none, none, none, none, none, none, none]) rfl ?_
  refine ⟨_, rfl, 1, rfl, M, _, rfl, SqL.of hM5, fun T hT => ⟨T, rfl, ⟨_, SqL.of upd_same⟩, ?_⟩⟩
  have e1 : cutV (ms.map V.ref) (some 1) none = (ms.drop 1).map V.ref := by
    unfold cutV
    rw [HT.sIx_none, show (1 : Int) = ((1 : Nat) : Int) from rfl, HT.sIx_nat, List.length_map, Nat.min_eq_left (by omega), List.map_drop, List.take_of_length_le (by rw [List.length_drop, List.length_map]; exact Nat.le_refl _)]
  rw [e1]
  have s6 := same_upd (o := HO.lst ((ms.drop 1).map V.ref)) hT
  have hT6 : (upd H5 T (.lst ((ms.drop 1).map V.ref))) T = some (.lst ((ms.drop 1).map V.ref)) := upd_same
  generalize upd H5 T (.lst ((ms.drop 1).map V.ref)) = H6 at s6 hT6 ⊢
  have okt : ∀ {l : List kd.Ψ}, (∀ y ∈ l, y ∈ xs) → ∀ y ∈ l, kd.Ok y := fun h y hy => ok y (h y hy)
  refine for_list (xs := (ms.drop 1).map V.ref) (fun i σ' H' => Same H6 H' ∧ ∃ (wv : Addr) (x5 : Option V), σ' = [some (.ref p), some (.str kd.shape), none, some (.ref R), some (.ref M), x5, some (.ref Kp), some (.ref sm), some (.ref wv), none, none, none, none, none, none, none] ∧ kd.IsM H' wv (kd.row (xs.take (i + 1))) (4 * (i + 1)))
    ⟨Same.refl _, m0, none, rfl, ?_⟩ (fun i σ' H' _ ⟨z, _⟩ => SqL.of (z _ _ hT6)) (fun i v σ' H7 hv ⟨s7, wv, x5, eσ, iw⟩ => ?_) (fun σ' H7 ⟨s7, wv, x5, eσ, iw⟩ => ?_)
  · have : xs.take 1 = [x0] := by rw [List.take_succ, hx0]; rfl
    rw [this, row_one L ox0]
    exact L.isSame s6 im0
  · subst eσ
    rw [List.getElem?_map, List.getElem?_drop] at hv
    have il : i + 1 < xs.length := by
      cases e : ms[1 + i]? with
      | none =>
        rw [e] at hv
        cases hv
      | some m =>
        have := (List.getElem?_eq_some_iff.mp e).1
        omega
    have hy : xs[i + 1]? = some (xs[i + 1]'il) := List.getElem?_eq_getElem il
    generalize xs[i + 1]'il = y at hy
    obtain ⟨m, hm, im⟩ := paired_at pm5 hy
    rw [show 1 + i = i + 1 by omega, hm] at hv
    cases (show V.ref m = v from Option.some.inj hv)
    have tk : xs.take (i + 1 + 1) = xs.take (i + 1) ++ [y] := by rw [List.take_succ, hy]; rfl
    refine then_vv L rfl rfl iw (L.isSame (s6.trans s7) im) (by omega) fun r H8 ir s8 => ?_
    refine ⟨s7.trans s8, r, _, rfl, ?_⟩
    rw [tk, L.rowEnd (fun z hz => ok z (by rw [← tk] at hz; exact List.mem_of_mem_take hz))]
    rw [show 4 * (i + 1 + 1) = 4 * (i + 1) + 4 by omega]
    exact ir
  subst eσ
  rw [List.length_map, List.length_drop, ml, show xs.length - 1 + 1 = xs.length by omega, List.take_length] at iw
  have im2' := L.isSame (s6.trans s7) im2
  have hM7 := s7 _ _ (s6 _ _ hM5)
  have s57 := s6.trans s7
  clear s6 s7 hT6 hT
  -- last
  try dsimp only
  refine as_te ?_
  refine ⟨_, rfl, _, rfl, M, _, _, .ref m2, rfl, rfl, SqL.of hM7, at_last (by rw [List.length_map, ml, List.getElem?_map, hm2]; rfl), ?_⟩
  try dsimp only
  refine normS (σ' := [some (.ref p), some (.str kd.shape), none, some (.ref R), some (.ref M), x5, some (.ref Kp), some (.ref sm), some (.ref wv), some (.ref m2), none, none, none, none, none, none]) rfl ?_
  refine ⟨_, rfl, M, _, rfl, SqL.of hM7, fun T hT => ⟨T, rfl, ⟨_, SqL.of upd_same⟩, ?_⟩⟩
  have e2 : (ms.map V.ref).dropLast.reverse = ms.dropLast.reverse.map V.ref := by rw [← List.map_dropLast, ← List.map_reverse]
  rw [e2]
  have s8 := same_upd (o := HO.lst (ms.dropLast.reverse.map V.ref)) hT
  have hT8 : (upd H7 T (.lst (ms.dropLast.reverse.map V.ref))) T = some (.lst (ms.dropLast.reverse.map V.ref)) := upd_same
  generalize upd H7 T (.lst (ms.dropLast.reverse.map V.ref)) = H8 at s8 hT8 ⊢
  have pmr := paired_rev (paired_drop pm5)
  have rl : xs.dropLast.reverse.length = xs.length - 1 := by rw [List.length_reverse, List.length_dropLast]
  refine for_list (xs := ms.dropLast.reverse.map V.ref) (fun i σ' H' => Same H8 H' ∧ ∃ (lv : Addr) (x5 : Option V), σ' = [some (.ref p), some (.str kd.shape), none, some (.ref R), some (.ref M), x5, some (.ref Kp), some (.ref sm), some (.ref wv), some (.ref lv), none, none, none, none, none, none] ∧ kd.IsM H' lv (kd.row (xs.drop (xs.length - 1 - i))) (4 * (i + 1)))
    ⟨Same.refl _, m2, x5, rfl, ?_⟩ (fun i σ' H' _ ⟨z, _⟩ => SqL.of (z _ _ hT8)) (fun i v σ' H9 hv ⟨s9, lv, x5, eσ, il⟩ => ?_) (fun σ' H9 ⟨s9, lv, x5, eσ, il⟩ => ?_)
  · have kl := (List.getElem?_eq_some_iff.mp hxl).1
    have e : xs.drop (xs.length - 1 - 0) = [xl] := by
      rw [Nat.sub_zero, List.drop_eq_getElem_cons kl, (List.getElem?_eq_some_iff.mp hxl).2, List.drop_of_length_le (by omega)]
    rw [e, row_one L oxl]
    exact L.isSame s8 im2'
  · subst eσ
    have ir : i < xs.dropLast.reverse.length := by
      have h1 := (List.getElem?_eq_some_iff.mp hv).1
      have h2 := pmr.length
      rw [List.length_map] at h1
      omega
    have hy : xs.dropLast.reverse[i]? = some (xs.dropLast.reverse[i]'ir) := List.getElem?_eq_getElem ir
    generalize xs.dropLast.reverse[i]'ir = y at hy
    obtain ⟨m, hm, im⟩ := paired_at pmr hy
    rw [List.getElem?_map, hm] at hv
    cases (show V.ref m = v from Option.some.inj hv)
    have fs := fin_swap xs i hy
    refine then_vv L rfl rfl (L.isSame ((s57.trans s8).trans s9) im) il (by omega) fun r Ha ir2 sa => ?_
    refine ⟨s9.trans sa, r, _, rfl, ?_⟩
    rw [fs, L.rowHead (fun z hz => ok z (by rw [← fs] at hz; exact List.mem_of_mem_drop hz))]
    rw [show 4 * (i + 1 + 1) = 4 + 4 * (i + 1) by omega]
    exact ir2
  subst eσ
  rw [List.length_map, pmr.length, rl, show xs.length - 1 - (xs.length - 1) = 0 by omega, List.drop_zero, show xs.length - 1 + 1 = xs.length by omega] at il
  have sc := s57.trans (s8.trans s9)
  have iwc := L.isSame (s8.trans s9) iw
  have ismc := L.isSame sc ism
  have rowc := row.same L sc
  have hMc := sc _ _ hM5
  have im0c := L.isSame sc im0
  have im1c := L.isSame sc im1
  clear s8 s9 hT8 hT s57 hM7 im2' iw pmr
  -- is_row, last == whole
  try dsimp only
  refine ⟨_, rfl, _, rfl, wv, R, 4 * xs.length, xs, rfl, iwc, by omega, rowc, ok, by omega, by omega, fun Ha sa => ⟨true, rfl, ?_⟩⟩
  refine (show (if (!true) = true then _ else _) from ?_)
  rw [if_neg (by decide)]
  refine ⟨_, rfl, _, rfl, ne_v L (L.isSame sa il) (L.isSame sa iwc) (by omega) (by omega) fun Hb sb => ⟨false, rfl, ?_⟩⟩
  refine (show (if false = true then _ else _) from ?_)
  rw [if_neg (by decide)]
  have sab := sa.trans sb
  refine then_ii (K := K) L rfl (sab _ _ hMc) hm0 hm1 (L.isSame sab im0c) (L.isSame sab im1c) (by omega) fun r Hc ir sC => ?_
  obtain ⟨as', hR', pr'⟩ := rowc.same L (sab.trans sC)
  have al' : as'.length = xs.length := pr'.length
  refine ⟨_, rfl, 2, rfl, R, _, rfl, SqL.of hR', fun T hT => ?_⟩
  have e3 : cutV (as'.map V.ref) none (some 2) = (as'.take 2).map V.ref := by
    unfold cutV
    rw [HT.sIx_none, show (2 : Int) = ((2 : Nat) : Int) from rfl, HT.sIx_nat, List.drop_zero, Nat.sub_zero, List.map_take, List.length_map, Nat.min_eq_left (by omega)]
  rw [e3]
  have sd := same_upd (o := HO.lst ((as'.take 2).map V.ref)) hT
  have tk2 : xs.take 2 = [x0, x1] := by rw [List.take_succ, List.take_succ, hx0, hx1]; rfl
  have e4 : kd.row (xs.take 2) = kd.comp (kd.fn x0) (kd.fn x1) := by
    rw [tk2, show [x0, x1] = [x0] ++ [x1] from rfl, L.rowEnd (fun z hz => ok z (by rw [show [x0] ++ [x1] = [x0, x1] from rfl, ← tk2] at hz; exact List.mem_of_mem_take hz)), row_one L ox0]
  refine ⟨r, T, 4 + 4, xs.take 2, rfl, by rw [e4]; exact L.isSame sd ir, by decide, ⟨as'.take 2, upd_same, paired_take 2 (pr'.mono fun c y e => L.matSame sd e)⟩, fun y hy => ok y (List.mem_of_mem_take hy), by rw [List.length_take]; omega, by rw [List.length_take]; omega, fun Hd sd2 => ⟨true, rfl, ?_⟩⟩
  refine (show (if (!true) = true then _ else _) from ?_)
  rw [if_neg (by decide)]
  have sx := (sab.trans sC).trans (sd.trans sd2)
  have iwd := L.isSame sx iwc
  have ismd := L.isSame sx ismc
  have rowd := rowc.same L sx
  have hMd := sx _ _ hMc
  have im0d := L.isSame sx im0c
  have sc := sc.trans sx
  clear sx sd2 sd hT sC sab sb sa hR' pr' al' iwc ismc rowc hMc im0c im1c ir il
  try dsimp only [tNext]
  -- the map that leaves all as it is
  refine then_vv L rfl rfl iwd ismd (by omega) fun r Ha ir sa => ⟨_, rfl, ?_⟩
  rw [L.compId] at ir
  refine ne_v L ir (L.isSame sa iwd) (by omega) (by omega) fun Hb sb => ⟨false, rfl, ?_⟩
  refine (show (if false = true then _ else _) from ?_)
  rw [if_neg (by decide)]
  have sa := sa.trans sb
  refine then_vv L rfl rfl (L.isSame sa ismd) (L.isSame sa iwd) (by omega) fun r2 Hc ir2 sC => ⟨_, rfl, ?_⟩
  rw [L.idComp] at ir2
  have sa := sa.trans sC
  refine ne_v L ir2 (L.isSame sa iwd) (by omega) (by omega) fun Hd sd => ⟨false, rfl, ?_⟩
  refine (show (if false = true then _ else _) from ?_)
  rw [if_neg (by decide)]
  have sa := sa.trans sd
  refine then_iv (K := K) L rfl (sa _ _ hMd) hm0 rfl (L.isSame sa im0d) (L.isSame sa ismd) (by omega) fun r3 He ir3 se => ?_
  rw [L.compId] at ir3
  have sa := sa.trans se
  refine ix_rd (K := K) (k := 0) rfl (sa _ _ hMd) hm0 (ne_v L ir3 (L.isSame sa im0d) (by omega) (by omega) fun Hf sf => ⟨false, rfl, ?_⟩)
  refine (show (if false = true then _ else _) from ?_)
  rw [if_neg (by decide)]
  have sx := sa.trans sf
  have iwe := L.isSame sx iwd
  have isme := L.isSame sx ismd
  have rowe := rowd.same L sx
  have hMe := sx _ _ hMd
  have im0e := L.isSame sx im0d
  have sc := sc.trans sx
  try dsimp only [tNext]
  -- the map that leaves all as it is, by its one mapping
  refine as_te ?_
  refine hPl rfl fun pl Ha hpl sa => ?_
  try dsimp only
  refine normS (σ' := [some (.ref p), some (.str kd.shape), none, some (.ref R), some (.ref M), x5, some (.ref Kp), some (.ref sm), some (.ref wv), some (.ref lv), some (.ref pl), none, none, none, none, none]) rfl ?_
  refine ⟨_, rfl, _, rfl, _, rfl, by show 3 ≤ sizeLine; decide, fun t ht => ⟨by show 1 ≤ sizeLine; decide, fun g hg => ?_⟩⟩
  have st := (same_upd (o := HO.tup [V.str kd.shape, V.ref pl, V.non]) ht).trans (same_upd (o := HO.lst [V.ref t]) hg)
  have et : (upd (upd Ha t (.tup [V.str kd.shape, V.ref pl, V.non])) g (.lst [V.ref t])) t = some (.tup [V.str kd.shape, V.ref pl, V.non]) := (same_upd (o := HO.lst [V.ref t]) hg) _ _ upd_same
  refine ⟨sm, g, 1, [kd.plain], rfl, ?_, by decide, ⟨[t], upd_same, .cons (hpl _ t st et) .nil⟩, fun y hy => by rw [List.mem_singleton.mp hy]; exact L.plainOk, by show 1 ≤ 1; decide, by show 1 ≤ 5; decide, fun Hb sb => ⟨true, rfl, ?_⟩⟩
  · rw [row_one L L.plainOk, L.plainId]
    exact L.isSame (sa.trans st) isme
  refine (show (if (!true) = true then _ else _) from ?_)
  rw [if_neg (by decide)]
  have sa := (sa.trans st).trans sb
  clear st et hg ht hpl sb
  try dsimp only [tNext]
  -- a constant
  refine as_te ?_
  refine ⟨_, rfl, _, rfl, R, xs, rfl, rowe.same L sa, ok, by omega, by omega, fun S y ys Hc vy hS' sC => ?_⟩
  refine ⟨S, _, 0, kd.e y, rfl, rfl, SqL.of hS', atI_nat (j := 0) rfl, ?_⟩
  have sa := sa.trans sC
  refine ⟨R, xs, y, rfl, rowe.same L sa, ok, vy, fun Hd sd => ?_⟩
  have sa := sa.trans sd
  have vv := L.okRow ok vy
  generalize kd.ap (kd.row xs) y = v at vv
  try dsimp only
  refine normS (σ' := [some (.ref p), some (.str kd.shape), none, some (.ref R), some (.ref M), x5, some (.ref Kp), some (.ref sm), some (.ref wv), some (.ref lv), some (.ref pl), some (kd.e v), none, none, none, none]) rfl ?_
  refine as_te ?_
  refine hC rfl rfl vv fun st He ist se => ?_
  have sa := sa.trans se
  try dsimp only
  refine normS (σ' := [some (.ref p), some (.str kd.shape), none, some (.ref R), some (.ref M), x5, some (.ref Kp), some (.ref sm), some (.ref wv), some (.ref lv), some (.ref pl), some (kd.e v), some (.ref st), none, none, none]) rfl ?_
  refine then_vv L rfl rfl ist (L.isSame sa iwe) (by omega) fun r Hf ir sf => ?_
  have sa := sa.trans sf
  obtain ⟨dr, fr, hr1, _, _, _, hr2⟩ := L.isIns ir
  refine ⟨r, dr, fr, rfl, hr1, hr2, _, rfl, r, _, _, v, rfl, ir, by omega, vv, fun Hg sg => ?_⟩
  rw [L.apComp]
  have sa := sa.trans sg
  refine ⟨_, rfl, _, rfl, R, xs, v, rfl, rowe.same L sa, ok, vv, fun Hh sh => ⟨L.eqE _, false, ?_, ?_⟩⟩
  · show V.bl (!decide (kd.e (kd.ap (kd.row xs) v) = kd.e (kd.ap (kd.row xs) v))) = V.bl false
    rw [decide_eq_true rfl] <;> rfl
  refine (show (if false = true then _ else _) from ?_)
  rw [if_neg (by decide)]
  have sa := sa.trans sh
  have ist' := L.isSame ((sf.trans sg).trans sh) ist
  refine then_vv L rfl rfl (L.isSame sa iwe) ist' (by omega) fun r2 Hi ir2 si => ⟨_, rfl, ?_⟩
  rw [L.compCon] at ir2
  refine ne_v L ir2 (L.isSame si ist') (by omega) (by omega) fun Hj sj => ⟨false, rfl, ?_⟩
  refine (show (if false = true then _ else _) from ?_)
  rw [if_neg (by decide)]
  have sx := sa.trans (si.trans sj)
  have ismf := L.isSame sx isme
  have rowf := rowe.same L sx
  have hMf := sx _ _ hMe
  have im0f := L.isSame sx im0e
  have sc := sc.trans sx
  clear sx sj ir2 si ist' sa sh sg hr1 hr2 ir sf ist se sd sC hS' isme rowe hMe im0e iwe
  try dsimp only [tNext]
  -- the first one again and again
  obtain ⟨as', hR', pr'⟩ := rowf
  obtain ⟨a0, ha0, ma0⟩ := paired_at pr' hx0
  refine par_2 ?_
  refine ix_rd (K := K) (k := 0) rfl hMf hm0 (ix_rd (K := K) (k := 0) rfl hR' ha0 ⟨by show 1 ≤ sizeLine; decide, fun g hg => ⟨_, _, rfl, ?_⟩⟩)
  have sg := same_upd (o := HO.lst [V.ref a0]) hg
  have hg1 : (upd Hj g (.lst [V.ref a0])) g = some (.lst ([a0].map V.ref)) := upd_same
  generalize upd Hj g (.lst [V.ref a0]) = Hk at sg hg1 ⊢
  try dsimp only
  refine normS (σ' := [some (.ref p), some (.str kd.shape), none, some (.ref R), some (.ref M), x5, some (.ref Kp), some (.ref sm), some (.ref wv), some (.ref lv), some (.ref pl), some (kd.e v), some (.ref st), some (.ref m0), some (.ref g), none]) rfl ?_
  have sc := sc.trans sg
  have hPk := hP5.bt sc
  have ismk := L.isSame sg ismf
  have hMk := sg _ _ hMf
  have im0k := L.isSame sg im0f
  have hRk := sg _ _ hR'
  have ma0k := L.matSame sg ma0
  have hKk := sc _ _ hK5
  have ck := c5.trans (Same.bt sc)
  have pmk : Paired (fun m x => kd.IsM Hk m (kd.fn x) 4) ms xs := pm5.mono fun c y e => L.isSame sc e
  clear sc sg hg ma0 im0f hMf ismf hR' pr'
  have refs : ∀ {H : Hp} {a : Addr} {l : List Addr}, PotAt H p → H a = some (.lst (l.map V.ref)) → l ≠ [] → a ≠ p := fun {H a l} hp e nl z => by
    obtain ⟨x, y, e2, _⟩ := hp
    rw [z, e2] at e
    have h := HO.lst.inj (Option.some.inj e)
    cases l with
    | nil => exact nl rfl
    | cons b r => cases h
  have asn : as' ≠ [] := fun z => by rw [z] at ha0; cases ha0
  have msn : ms ≠ [] := fun z => by rw [z] at hm0; cases hm0
  refine ⟨_, rfl, p, 5, rfl, hPk, by decide, by decide, fun d Hl d0 d1 bl hPl' => ⟨d, rfl, by omega, by omega, ?_⟩⟩
  have nKp : Kp ≠ p := fun z => by
    obtain ⟨x, y, e2, _⟩ := hPk
    rw [z, e2] at hKk
    have h := HO.lst.inj (Option.some.inj hKk)
    cases xs with
    | nil => cases hx0
    | cons b r => cases h
  have isml := L.isBt hPk bl ismk
  have hMl := bl _ _ (refs hPk hMk msn) hMk
  have im0l := L.isBt hPk bl im0k
  have hRl := bl _ _ (refs hPk hRk asn) hRk
  have ma0l := L.matBt hPk bl ma0k
  have hgl := bl _ _ (refs hPk hg1 (by simp)) hg1
  have hKl := bl _ _ nKp hKk
  have cl := ck.trans bl
  have pml : Paired (fun m x => kd.IsM Hl m (kd.fn x) 4) ms xs := pmk.mono fun c y e => L.isBt hPk bl e
  clear ismk hMk im0k hRk ma0k hg1 hKk ck pmk
  have okr : ∀ j, ∀ y ∈ List.replicate j x0, kd.Ok y := fun j y hy => by rw [List.eq_of_mem_replicate hy]; exact ox0
  refine for_range (lo := 0) (n := d.toNat) (fun i σ' H' => Same Hl H' ∧ ∃ (mv gv : Addr) (x2 : Option V), σ' = [some (.ref p), some (.str kd.shape), x2, some (.ref R), some (.ref M), x5, some (.ref Kp), some (.ref sm), some (.ref wv), some (.ref lv), some (.ref pl), some (kd.e v), some (.ref st), some (.ref mv), some (.ref gv), none] ∧ kd.IsM H' mv (kd.row (List.replicate (i + 1) x0)) (4 * (i + 1)) ∧ RowG kd H' gv (List.replicate (i + 1) x0))
    ⟨Same.refl _, m0, g, none, rfl, ?_, ⟨[a0], hgl, .cons ma0l .nil⟩⟩ (fun i σ' Hm hi ⟨s1, mv, gv, x2, eσ, im, rw_⟩ => ?_) (fun σ' Hm ⟨s1, mv, gv, x2, eσ, im, rw_⟩ => ?_)
  · show kd.IsM Hl m0 (kd.row [x0]) 4
    rw [row_one L ox0]
    exact im0l
  · subst eσ
    refine as_te ?_
    refine then_vi (K := K) L rfl (s1 _ _ hMl) hm0 rfl im (L.isSame s1 im0l) (by omega) fun r Hn ir sn => ?_
    try dsimp only
    obtain ⟨gs, hgs, pgs⟩ := rw_.same L sn
    have s2 := s1.trans sn
    have gl : gs.length = i + 1 := pgs.length.trans List.length_replicate
    refine ⟨_, rfl, ?_⟩
    refine ix_rd (K := K) (k := 0) rfl (s2 _ _ hRl) ha0 ⟨by show 1 ≤ sizeLine; decide, fun l1 hl1 => ?_⟩
    have s3 := same_upd (o := HO.lst [V.ref a0]) hl1
    refine ⟨gv, l1, _, _, rfl, rfl, s3 _ _ hgs, upd_same, ?_, fun l2' hl2 => ?_⟩
    · rw [List.length_map, gl]
      exact Nat.le_trans (show i + 1 + 1 ≤ 10 by omega) (by decide)
    have s4 := s3.trans (same_upd (o := HO.lst (gs.map V.ref ++ [V.ref a0])) hl2)
    have tr2 : List.replicate (i + 1 + 1) x0 = List.replicate (i + 1) x0 ++ [x0] := List.replicate_succ'
    refine ⟨s2.trans s4, r, l2', _, rfl, ?_, ⟨gs ++ [a0], by rw [upd_same, List.map_append]; rfl, ?_⟩⟩
    · rw [tr2, L.rowEnd (fun z hz => okr (i + 1 + 1) z (by rw [tr2]; exact hz)), show 4 * (i + 1 + 1) = 4 * (i + 1) + 4 by omega]
      exact L.isSame s4 ir
    · rw [tr2]
      exact (pgs.mono fun c y e => L.matSame s4 e).snoc (L.matSame (s2.trans s4) ma0l)
  subst eσ
  try dsimp only
  have hPm := hPl'.bt s1
  refine ⟨_, rfl, _, rfl, mv, gv, _, List.replicate (d.toNat + 1) x0, rfl, im, by omega, rw_, okr _, by rw [List.length_replicate]; omega, by rw [List.length_replicate]; omega, fun Hn sn => ⟨true, rfl, ?_⟩⟩
  refine (show (if true = true then _ else _) from ?_)
  rw [if_pos rfl]
  have s2 := s1.trans sn
  refine and_op ?_
  refine maps_shown (K := K) L (σ := [some (.ref p), some (.str kd.shape), x2, some (.ref R), some (.ref M), x5, some (.ref Kp), some (.ref sm), some (.ref wv), some (.ref lv), some (.ref pl), some (kd.e v), some (.ref st), some (.ref mv), some (.ref gv), none]) rfl (by intro _; rfl) (by intro _; rfl) (s2 _ _ hMl) (pml.mono fun c y e => L.isSame s2 e) l4 ok fun D Ho hD so => ?_
  have s3 := s2.trans so
  refine ⟨_, rfl, 1, by decide, .inl ⟨D, Kp, _, _, rfl, rfl, SqL.of hD, SqL.of (s3 _ _ hKl), eqv_strsV K Ho _⟩, true, rfl, ?_⟩
  refine (show (if true = true then _ else _) from ?_)
  rw [if_pos rfl]
  refine ⟨_, rfl, ?_⟩
  refine then_vv L rfl rfl (L.isSame s3 isml) (L.isSame s3 isml) (by omega) fun r Hq ir sq => ?_
  rw [L.compId] at ir
  have s4 := s3.trans sq
  exact eq_v L (L.isSame s4 isml) ir (by omega) (by omega) fun Hr sr => q Hr (cl.trans (Same.bt (s4.trans sr))) (hPl'.bt (s4.trans sr))
end
end C4

end Pq4z
section Pq4i
set_option maxHeartbeats 8000000
namespace C4
open PySem PySem.Spec L2 PyProof.Rows
open T (atV orV Tab TMap RestOk NormOf MkT)
/-! ### the two kinds -/
open Classical in
noncomputable def txtN (f : Int → Int) : Str := if h : ∃ n, Nrm f none n then nmText (choose h) else Str.empty
theorem txtN_of {f : Int → Int} {n : List Pc} (h : Nrm f none n) : txtN f = nmText n := by
  have hx : ∃ n, Nrm f none n := ⟨n, h⟩
  unfold txtN
  rw [dif_pos hx]
  exact congrArg nmText (nrm_uniq (Classical.choose_spec hx) h)
def oS : Option Str → V
  | some z => .str z
  | none => .non
def rO : V → Option Str
  | .str z => some z
  | _ => none
theorem oS_rO {r : V} (h : RestOk r) : oS (rO r) = r := by
  rcases h with rfl | ⟨z, rfl, _⟩ <;> rfl
open Classical in
noncomputable def txtT (F : (Str → Str) × Option Str) : Str := if h : ∃ ex, NrmT F.1 (oS F.2) ex then T.tmText (choose h) (oS F.2) else Str.empty
theorem txtT_of {F : (Str → Str) × Option Str} {ex : List (Key × V)} (ro : RestOk (oS F.2)) (h : NrmT F.1 (oS F.2) ex) : txtT F = T.tmText ex (oS F.2) := by
  have hx : ∃ ex, NrmT F.1 (oS F.2) ex := ⟨ex, h⟩
  unfold txtT
  rw [dif_pos hx]
  exact congrArg (fun e => T.tmText e (oS F.2)) (NrmT.uniq ro (Classical.choose_spec hx) h)
noncomputable def kdN (C : Addr) : Kd where
  α := Int
  Ψ := List Pc
  Φ := Int → Int
  C := C
  shape := "number"
  e := V.int
  VOk := fun _ => True
  ap := fun f x => f x
  comp := fun f g x => g (f x)
  idF := fun x => x
  con := fun v _ => v
  fn := evalP
  row := allN
  plain := [(none, none, none)]
  txt := txtN
  IsM := IsN C
  MapAt := NumAt
  Nw := fun _ H' a x => NumAt H' a x ∧ x ≠ []
  Ok := PcOk
noncomputable def kdT (C : Addr) : Kd where
  α := Str
  Ψ := TM
  Φ := (Str → Str) × Option Str
  C := C
  shape := "text"
  e := V.str
  VOk := fun z => wordB z 12 = true
  ap := fun F z => F.1 z
  comp := fun F G => (fun z => G.1 (F.1 z), match F.2 with
    | some y => some (G.1 y)
    | none => G.2)
  idF := (fun z => z, none)
  con := fun v => (fun _ => v, some v)
  fn := fun x => (atS x, rO x.2)
  row := fun xs => (allT xs, rO (rAll .non xs))
  plain := ([], .non)
  txt := txtT
  IsM := fun H m F k => IsT C H m F.1 (oS F.2) k
  MapAt := fun H a x => TxtAt H a x.1 x.2
  Nw := fun H H' a x => ∃ R, H' a = some (.tup [.str "text", .ref R, x.2]) ∧ WAt H' R x.1 ∧ H R = none
  Ok := XOk
theorem ref_map {as bs : List Addr} (h : as.map V.ref = bs.map V.ref) : as = bs := by
  induction as generalizing bs with
  | nil =>
    cases bs with
    | nil => rfl
    | cons b r => cases h
  | cons a r ih =>
    cases bs with
    | nil => cases h
    | cons b t =>
      have h1 := List.cons.inj h
      rw [V.ref.inj h1.1, ih h1.2]
theorem upd_keep {H : Hp} {D c : Addr} {o u v : HO} (hD : H D = some u) (hc : H c = some v) (n : u ≠ v) : (upd H D o) c = some v := by
  have : c ≠ D := fun z => by
    rw [z, hD] at hc
    exact n (Option.some.inj hc)
  rw [upd_ne this]
  exact hc
theorem keep_tup {H : Hp} {D c : Addr} {o : HO} {xs ys : List V} (hD : H D = some (.lst xs)) (hc : H c = some (.tup ys)) : (upd H D o) c = some (.tup ys) := upd_keep hD hc fun z => nomatch z
theorem keep_pc {H : Hp} {D c : Addr} {o : HO} {xs : List V} {q : Pc} (hD : H D = some (.lst xs)) (hc : PcAt H c q) : PcAt (upd H D o) c q := keep_tup hD hc
theorem oV_str (k : Option Int) (s : Str) : oV k ≠ V.str s := fun h => by cases k <;> cases h
theorem allT_app (xs : List TM) (x : TM) : allT (xs ++ [x]) = fun z => atS x (allT xs z) := funext fun z => by
  unfold allT
  rw [List.foldl_append] <;> rfl
theorem rAll_app (r : V) (xs : List TM) (x : TM) : rAll r (xs ++ [x]) = rStep (rAll r xs) x := by
  unfold rAll
  rw [List.foldl_append] <;> rfl
theorem lst_pcs {H : Hp} {D R : Addr} {o : HO} {as : List Addr} {l : List Pc} (hD : H D = some (.lst (as.map V.ref))) (h : LstAt H R l) (n : R ≠ D) : LstAt (upd H D o) R l := by
  obtain ⟨ts, e, pr⟩ := h
  exact ⟨ts, by rw [upd_ne n]; exact e, pr.mono fun t q e => keep_pc hD e⟩
theorem lN (C : Addr) : KdL (kdN C) where
  isSame := IsN.same
  isBt := fun hP b ⟨n, nm, h⟩ => ⟨n, NMap.bt hP b nm, h⟩
  isOff := fun ⟨n, ⟨dx, u, hm, ts, hu, pr⟩, h⟩ hD => ⟨n, ⟨dx, u, upd_keep hD hm (fun z => nomatch z), ts, keep_tup hD hu, pr.mono fun t q e => keep_pc hD e⟩, h⟩
  isIns := fun ⟨n, ⟨dx, u, hm, _⟩, _⟩ => ⟨dx, _, hm, rfl, rfl, rfl, rfl⟩
  matSame := NumAt.same
  matBt := NumAt.bt
  matTup := fun ⟨R, e, _⟩ => ⟨R, _, e⟩
  matOff := fun {H a x D o as} ⟨R, e, h⟩ hD ne tup => ⟨R, upd_keep hD e (fun z => nomatch z), lst_pcs hD h fun z => by
    obtain ⟨ts, e2, pr⟩ := h
    rw [z, hD] at e2
    have es := ref_map (HO.lst.inj (Option.some.inj e2))
    subst es
    cases pr with
    | nil => exact ne rfl
    | cons r t =>
      obtain ⟨s, R2, v, h3⟩ := tup _ List.mem_cons_self
      have r2 : H _ = some (.tup [oV _, oV _, oV _]) := r
      rw [r2] at h3
      have h4 := (List.cons.inj (HO.tup.inj (Option.some.inj h3))).1
      exact oV_str _ _ h4⟩
  nwAt := fun h => h.1
  nwOff := fun {H H' a x D o u} ⟨⟨R, e, h⟩, ne⟩ _ hD => ⟨R, upd_keep hD e (fun z => nomatch z), lst_pcs (as := []) hD h fun z => by
    obtain ⟨ts, e2, pr⟩ := h
    rw [z, hD] at e2
    have es := ref_map (as := []) (HO.lst.inj (Option.some.inj e2))
    subst es
    cases pr
    exact ne rfl⟩
  rowNil := rfl
  rowEnd := fun {xs x} _ => funext fun y => allN_app xs [x] y
  rowHead := fun _ => rfl
  plainId := funext fun x => by
    show evalP [(none, none, none)] x = x
    rw [evalP, if_pos (show leO x none = true from rfl)]
    rfl
  plainOk := ⟨⟨rfl, .inl ⟨rfl, rfl⟩⟩, limP_one (.inl rfl) (.inl rfl) (.inl rfl), by show 1 ≤ 4; decide⟩
  compId := rfl
  idComp := rfl
  compCon := rfl
  apComp := rfl
  okRow := fun _ _ => trivial
  eqE := fun _ => rfl
theorem wat_off {H : Hp} {D R : Addr} {o : HO} {as : List Addr} {ws : List (Str × Str)} (hD : H D = some (.lst (as.map V.ref))) (h : WAt H R ws) (n : R ≠ D) : WAt (upd H D o) R ws := by
  obtain ⟨ts, e, pr⟩ := h
  exact ⟨ts, by rw [upd_ne n]; exact e, pr.mono fun t q e => keep_tup hD e⟩
theorem rAll_head {x : TM} (o : TmOk x) (xs : List TM) : rAll .non (x :: xs) = match rO x.2 with
    | some y => .str (allT xs y)
    | none => rAll .non xs := by
  show rAll x.2 xs = _
  rcases o.2 with e | ⟨y, e, _⟩
  · rw [e]
    rfl
  · rw [e]
    exact rAll_str y xs
theorem rowT_end (xs : List TM) (x : TM) : ((allT (xs ++ [x]), rO (rAll .non (xs ++ [x]))) : (Str → Str) × Option Str) = (fun z => atS x (allT xs z), match rO (rAll .non xs) with
    | some y => some (atS x y)
    | none => rO x.2) := by
  rw [allT_app, rAll_app]
  refine Prod.ext rfl ?_
  cases rAll .non xs <;> rfl
theorem rowT_head {x : TM} (o : TmOk x) (xs : List TM) : ((allT (x :: xs), rO (rAll .non (x :: xs))) : (Str → Str) × Option Str) = (fun z => allT xs (atS x z), match rO x.2 with
    | some y => some (allT xs y)
    | none => rO (rAll .non xs)) := by
  rw [rAll_head o]
  refine Prod.ext rfl ?_
  cases rO x.2 <;> rfl
theorem lT (C : Addr) : KdL (kdT C) where
  isSame := IsT.same
  isBt := fun hP b ⟨n, nm, h⟩ => ⟨n, TMap.bt hP b nm, h⟩
  isOff := fun ⟨n, ⟨dx, u, hm, hu⟩, h⟩ hD => ⟨n, ⟨dx, u, upd_keep hD hm (fun z => nomatch z), upd_keep hD hu (fun z => nomatch z)⟩, h⟩
  isIns := fun ⟨n, ⟨dx, u, hm, _⟩, _⟩ => ⟨dx, _, hm, rfl, rfl, rfl, rfl⟩
  matSame := TxtAt.same
  matBt := TxtAt.bt
  matTup := fun ⟨R, e, _⟩ => ⟨R, _, e⟩
  matOff := fun {H a x D o as} ⟨R, e, h⟩ hD ne tup => ⟨R, upd_keep hD e (fun z => nomatch z), wat_off hD h fun z => by
    obtain ⟨ts, e2, pr⟩ := h
    rw [z, hD] at e2
    have es := ref_map (HO.lst.inj (Option.some.inj e2))
    subst es
    generalize x.1 = ws at pr
    cases pr with
    | nil => exact ne rfl
    | cons r t =>
      obtain ⟨s, R2, v, h3⟩ := tup _ List.mem_cons_self
      rw [r] at h3
      have h4 := HO.tup.inj (Option.some.inj h3)
      have h5 := congrArg List.length h4
      cases h5⟩
  nwAt := fun ⟨R, e, w, _⟩ => ⟨R, e, w⟩
  nwOff := fun {H H' a x D o u} ⟨R, e, w, n⟩ hu hD => ⟨R, upd_keep hD e (fun z => nomatch z), wat_off (as := []) hD w fun z => by
    rw [z, hu] at n
    cases n⟩
  rowNil := rfl
  rowEnd := fun {xs x} _ => rowT_end xs x
  rowHead := fun {xs x} ok => rowT_head (XOk.tm (ok x List.mem_cons_self)) xs
  plainId := by
    show ((atS ([], V.non), rO V.non) : (Str → Str) × Option Str) = (fun z => z, none)
    rfl
  plainOk := ⟨List.nil_sublist _, fun q h => absurd h List.not_mem_nil, .inl rfl⟩
  compId := fun {F} => by
    obtain ⟨f, r⟩ := F
    cases r <;> rfl
  idComp := rfl
  compCon := fun {F v} => by
    obtain ⟨f, r⟩ := F
    cases r <;> rfl
  apComp := rfl
  okRow := fun ok h => all_word (fun x hx => (ok x hx).tm) h
  eqE := fun _ => rfl
end C4

end Pq4i
section Pq4g
set_option maxHeartbeats 8000000
namespace C4
open PySem PySem.Spec L2 PyProof.Rows
open T (atV orV Tab TMap RestOk NormOf MkT spFolT spResultF putAll gOf restOf baseOf)
section
variable {P : Program} {w : World} {K : PySem.W.Frag} {mg : Str → Option Value} {base : Heap} {CX : CXT} {j k : Nat} {x : Str} {f : Addr} {fd : FuncData} {ps : List Str} {sp sp' : Sp}
theorem FnG_imp (i : ∀ vs H Q E, sp' vs H Q E → sp vs H Q E) (F : FnG P w K mg base CX k f fd ps sp) : FnG P w K mg base CX k f fd ps sp' :=
  ⟨fun vs H Q E h => F.len vs H Q E (i _ _ _ _ h), fun A outer s H args us vs Q E hg hr e b r h => F.run A outer s H args us vs Q E hg hr e b r (i _ _ _ _ h)⟩
theorem Kn_imp (i : ∀ vs H Q E, sp' vs H Q E → sp vs H Q E) (h : j ≤ k) (F : Kn P w K mg base j x f fd ps sp) : Kn P w K mg base k x f fd ps sp' := ⟨FnOk_up (F.f.imp i) h, F.b, F.m, F.k⟩
theorem KnG_imp (i : ∀ vs H Q E, sp' vs H Q E → sp vs H Q E) (F : KnG P w K mg base k x f fd ps sp) : KnG P w K mg base k x f fd ps sp' := ⟨FnG_imp i F.f, F.b, F.m, F.k⟩
end
/-! ### the promises of numbers, alike -/
section
variable {C CM CT : Addr} {vs : List V} {H : Hp} {Q : VK} {E : XK}
theorem gThenN (h : spThenG (kdN C) vs H Q E) : spThen C (spFolN C) vs H Q E := by
  obtain ⟨m, o, F, G, j, k, rfl, ⟨n, ⟨dm, um, hm, hum⟩, hn, nj⟩, ⟨n2, ⟨dk, uk, ho, huk⟩, hn2, nk⟩, jk, q⟩ := h
  refine ⟨m, o, dm, dk, _, _, rfl, hm, ho, rfl, rfl, rfl, m, o, n, n2, rfl, ⟨dm, um, hm, hum⟩, ⟨dk, uk, ho, huk⟩, (nrm_chn hn).1, (nrm_chn hn2).1, by omega, by omega, fun r l H' nl hl ll s => q r H' ⟨l, nl, ?_, by omega⟩ s⟩
  have e : after n2 n = fun x => G (F x) := funext fun x => by
    show evalP n2 (evalP n x) = _
    rw [(nrm_chn hn).2 x (none_ge x), (nrm_chn hn2).2 _ (none_ge _)]
  rw [e] at hl
  exact hl
theorem gAtN (h : spAtG (kdN C) vs H Q E) : spAtN C vs H Q E := by
  obtain ⟨m, F, k, x, rfl, ⟨n, nm, hn, nk⟩, k60, _, q⟩ := h
  refine ⟨m, n, x, rfl, nm, (nrm_chn hn).1, by omega, fun H' s => ?_⟩
  rw [(nrm_chn hn).2 x (none_ge x)]
  exact q H' s
theorem gEqN {K : PySem.W.Frag} (h : spEqG (kdN C) vs H Q E) : spEq K C CM CT vs H Q E := by
  obtain ⟨m, o, F, j, k, rfl, ⟨n, nm, hn, _⟩, ⟨n2, nm2, hn2, _⟩, _, _, q⟩ := h
  refine ⟨m, n, .ref o, rfl, nm, .inl ⟨o, n2, rfl, nm2, ?_⟩⟩
  rw [decide_eq_true (nrm_uniq hn hn2)]
  exact q H (Same.refl _)
theorem gReprN (h : spReprG (kdN C) vs H Q E) : spReprN C vs H Q E := by
  obtain ⟨m, _, x, rfl, ⟨n, nm, hn, nk⟩, ok, q⟩ := h
  refine ⟨m, n, rfl, nm, limN_sm ((Cmp.pcs ok.1 ok.2.1).lim hn), by omega, fun H' s => ?_⟩
  rw [← txtN_of hn]
  exact q H' s
theorem gMapN (h : spMapG (kdN C) vs H Q E) : spMapN vs H Q E := by
  obtain ⟨p, rfl, hP, q⟩ := h
  exact ⟨p, rfl, hP, fun a l H' na hc l4 lim b hP' => q a l H' ⟨na, chn_ne hc⟩ ⟨hc, lim, l4⟩ b hP'⟩
theorem gMadeN (h : spMadeG (kdN C) vs H Q E) : spMadeN C vs H Q E := by
  obtain ⟨a, l, rfl, na, ok, q⟩ := h
  exact ⟨a, l, rfl, na, ok.1, by have := ok.2.2; omega, fun m n H' nm hn le s => q m H' ⟨n, nm, hn, Nat.le_trans le ok.2.2⟩ s⟩
theorem gRowN (h : spIsRowG (kdN C) vs H Q E) : spIsRowN C vs H Q E := by
  obtain ⟨m, R, k, xs, rfl, im, k30, row, ok, l1, l5, q⟩ := h
  exact ⟨m, R, k, xs, rfl, im, k30, row, ok, l1, l5, q⟩
theorem gPtsN (h : spPtsG (kdN C) vs H Q E) : spPts4N vs H Q E := by
  obtain ⟨R, xs, rfl, ⟨as, hR, pr⟩, ok, l1, l5, q⟩ := h
  refine ⟨R, as, xs, rfl, hR, pr, l1, Nat.le_trans l5 (by decide), fun l hl => Nat.le_trans (ok l hl).2.2 (by decide), ⟨zs3, zs3_few, spots_few fun l hl => (ok l hl).2.1.n⟩, fun S ys H' pw mem few hS s => ?_⟩
  have m0 : (0 : Int) ∈ ys := (mem 0).mpr (List.mem_flatMap.mpr ⟨0, List.mem_cons_self, by decide⟩)
  cases ys with
  | nil => exact absurd m0 List.not_mem_nil
  | cons y r => exact q S y r H' trivial hS s
theorem gAllN (h : spAllG (kdN C) vs H Q E) : spAllN2 vs H Q E := by
  obtain ⟨R, xs, x, rfl, row, ok, _, q⟩ := h
  exact ⟨R, xs, x, rfl, row, fun l hl => (ok l hl).1, q H (Same.refl _)⟩
/-! ### .. of texts -/
theorem gThenT (h : spThenG (kdT C) vs H Q E) : spThen C (spFolT C) vs H Q E := by
  obtain ⟨m, o, F, G, j, k, rfl, ⟨ex1, ⟨dm, um, hm, hum⟩, h1, ro1, l1⟩, ⟨ex2, ⟨dk, uk, ho, huk⟩, h2, ro2, l2⟩, jk, q⟩ := h
  have t1 : Tab j ex1 := ⟨h1.nl.tab.each, h1.nl.nd, l1⟩
  have t2 : Tab k ex2 := ⟨h2.nl.tab.each, h2.nl.nd, l2⟩
  refine ⟨m, o, dm, dk, _, _, rfl, hm, ho, rfl, rfl, rfl, m, o, ex1, ex2, _, _, j, k, rfl, ⟨dm, um, hm, hum⟩, ⟨dk, uk, ho, huk⟩, t1, t2, ro1, ro2, jk, fun p exx H' tm norm s => q p H' ?_ s⟩
  have each : ∀ q ∈ ex1, ∃ a w : Str, q.1 = Sum.inr a ∧ gOf ex2 (oS G.2) q.2 = .str w ∧ wordB a 12 = true ∧ wordB w 12 = true := fun p hp => by
    obtain ⟨a, b, rfl, wa, wb⟩ := t1.each p hp
    obtain ⟨w, e, hw⟩ := T.at_word t2 ro2 wb
    exact ⟨a, w, rfl, e, wa, hw⟩
  have tb := T.tab_all (T.base_of (r1 := oS F.2) t2) each
  have er : restOf (oS F.2) ex2 (oS G.2) = oS (((kdT C).comp F G).2) := by
    obtain ⟨f1, r1⟩ := F
    cases r1 with
    | none => rfl
    | some y => exact h2.at_ y
  have ro := T.rest_of t2 ro1 ro2
  have fa : ∀ z, atV (putAll (gOf ex2 (oS G.2)) (baseOf (oS F.2) ex2) ex1) (restOf (oS F.2) ex2 (oS G.2)) z = .str (G.1 (F.1 z)) := fun z => by
    obtain ⟨u, e1, e2⟩ := T.fol_at t1 t2 ro1 ro2 z ⟨_, h1.at_ z⟩
    rw [e2, h2.at_ u]
    rw [h1.at_ z] at e1
    rw [V.str.inj e1]
  obtain ⟨hn, le⟩ := nrmT_of tb (by omega) ro norm fa
  rw [er] at tm hn ro
  exact ⟨exx, tm, hn, ro, by omega⟩
theorem gAtT (h : spAtG (kdT C) vs H Q E) : T.spAtW C vs H Q E := by
  obtain ⟨m, F, k, x, rfl, ⟨ex, tm, hn, ro, _⟩, _, vx, q⟩ := h
  refine ⟨m, ex, _, x, rfl, tm, vx, fun H' s => ?_⟩
  rw [hn.at_ x]
  exact q H' s
theorem gEqT {K : PySem.W.Frag} (h : spEqG (kdT C) vs H Q E) : T.spEq K C CM CT vs H Q E := by
  obtain ⟨m, o, F, j, k, rfl, ⟨ex, tm, hn, ro, _⟩, ⟨ex2, tm2, hn2, ro2, _⟩, _, _, q⟩ := h
  have e := NrmT.uniq ro hn hn2
  subst e
  refine ⟨m, ex, _, .ref o, rfl, tm, .inl ⟨o, ex, _, rfl, tm2, hn.nl.txt, hn.nl.txt, hn.nl.nd, T.flat_rest ro, T.flat_rest ro, fun H' s => ?_⟩⟩
  rw [T.eq_norm hn.nl hn.nl, T.eqV_rest ro ro, decide_eq_true rfl, decide_eq_true rfl]
  exact q H' s
theorem gReprT (h : spReprG (kdT C) vs H Q E) : T.spReprT C vs H Q E := by
  obtain ⟨m, _, x, rfl, ⟨ex, tm, hn, ro, _⟩, ok, q⟩ := h
  refine ⟨m, ex, _, rfl, tm, hn.nl.tab, ro, ?_⟩
  rw [← txtT_of ro hn]
  exact q H (Same.refl _)
theorem gMapT (h : spMapG (kdT C) vs H Q E) : spMapTn vs H Q E := by
  obtain ⟨p, rfl, hP, q⟩ := h
  exact ⟨p, rfl, hP, fun a R ws r H' ea wat nR ok b hP' => q a (ws, r) H' ⟨R, ea, wat, nR⟩ ok b hP'⟩
theorem gMadeT (h : spMadeG (kdT C) vs H Q E) : spMadeT C vs H Q E := by
  obtain ⟨a, x, rfl, ta, ok, q⟩ := h
  have o := XOk.tm ok
  refine ⟨a, x.1, x.2, rfl, ta, ⟨o.1.nd, o.1.each, Nat.le_trans o.1.len (by decide)⟩, o.2, fun m ex H' tm norm s => q m H' ?_ s⟩
  obtain ⟨hn, le⟩ := nrmT_of (o.1.tab (Nat.le_refl _)) (by decide) o.2 norm fun z => at_str o.1 o.2 z
  have e : oS (rO x.2) = x.2 := oS_rO o.2
  refine ⟨ex, ?_, ?_, ?_, Nat.le_trans le (by decide)⟩
  · show TMap C H' m ex (oS (rO x.2))
    rw [e]
    exact tm
  · show NrmT (atS x) (oS (rO x.2)) ex
    rw [e]
    exact hn
  · show RestOk (oS (rO x.2))
    rw [e]
    exact o.2
theorem gRowT (h : spIsRowG (kdT C) vs H Q E) : spIsRowT C vs H Q E := by
  obtain ⟨m, R, k, xs, rfl, im, k30, row, ok, l1, l5, q⟩ := h
  have ro : RestOk (rAll .non xs) := rAll_ok (.inl rfl) fun x hx => XOk.tm (ok x hx)
  refine ⟨m, R, k, xs, rfl, ?_, k30, row, ok, l1, l5, q⟩
  have im' : IsT C H m (allT xs) (oS (rO (rAll .non xs))) k := im
  rw [oS_rO ro] at im'
  exact im'
theorem gPtsT (h : spPtsG (kdT C) vs H Q E) : spPts4T vs H Q E := by
  obtain ⟨R, xs, rfl, ⟨as, hR, pr⟩, ok, l1, l5, q⟩ := h
  have okT : ∀ x ∈ xs, TmOk x := fun x hx => XOk.tm (ok x hx)
  refine ⟨R, as, xs, rfl, hR, pr, l1, Nat.le_trans l5 (by decide), okT, fun S ys H' _ _ mem few hS s => ?_⟩
  have m0 : ("a" : Str) ∈ ys := (mem _).mpr (List.mem_append_left _ (List.mem_append_left _ (by decide)))
  cases ys with
  | nil => exact absurd m0 List.not_mem_nil
  | cons y r => exact q S y r H' (wpts4_word okT y ((mem y).mp List.mem_cons_self)) hS s
theorem gAllT (h : spAllG (kdT C) vs H Q E) : spAllT2 vs H Q E := by
  obtain ⟨R, xs, x, rfl, row, ok, _, q⟩ := h
  exact ⟨R, xs, x, rfl, row, fun x hx => XOk.tm (ok x hx), q⟩
end
end C4

end Pq4g
section Pq4h
set_option maxHeartbeats 8000000
namespace C4
open PySem PySem.Spec L2 PyProof.Rows
open T (atV orV Tab TMap RestOk NormOf MkT)
/-! ### one turn -/
def tOr2 (u1 u2 : TS) : TS := fun D σ H => u1 D σ H ∨ u2 D σ H
def spTurn : Sp := fun vs H Q _ => ∃ p : Addr, vs = [.ref p] ∧ PotAt H p ∧ ∀ H', Bt p H H' → PotAt H' p → Q (.bl true) H'
theorem pss_or {X : Cx} {ss : List Stmt} {u1 u2 : TS} (h1 : PSs X ss u1) (h2 : PSs X ss u2) : PSs X ss (tOr2 u1 u2) := ⟨fun pins s σ H D I h => h.elim (h1.run pins s σ H D I) (h2.run pins s σ H D I)⟩
theorem cond_no {t1 t2 : TE} {σ : L2.St} {H : Hp} {Q : VK} (e : σ[1]? = some (some (.str "number"))) (q : t2 σ H Q) : tIf (tTest (tOp rEq (tVar 1) (tC (.str "text")))) t1 t2 σ H Q := by
  refine ⟨_, e, rfl, _, rfl, ?_⟩
  rw [show decide (V.str "number" = V.str "text") = false from by decide +kernel]
  refine (show (if false = true then _ else _) from ?_)
  rw [if_neg (by decide)]
  exact q
theorem cond_yes {t1 t2 : TE} {σ : L2.St} {H : Hp} {Q : VK} (e : σ[1]? = some (some (.str "text"))) (q : t1 σ H Q) : tIf (tTest (tOp rEq (tVar 1) (tC (.str "text")))) t1 t2 σ H Q := by
  refine ⟨_, e, rfl, _, rfl, ?_⟩
  rw [show decide (V.str "text" = V.str "text") = true from by decide +kernel]
  refine (show (if true = true then _ else _) from ?_)
  rw [if_pos rfl]
  exact q
theorem at_nil (v z : Str) : atV [] (V.str v) z = V.str v := by
  show orV (V.str v) z = V.str v
  unfold orV
  rw [if_neg (by intro h; cases h)]
section
variable {P : Program} {w : World} {K : PySem.W.Frag} {mg : Str → Option Value} {base : Heap} {mc : Value} {f fD fP CT CN pS1 mS1 pS2 mS2 pC1 mC1 pC2 mC2 : Addr} {fd dD dP dS1 dS2 dC1 dC2 : FuncData}
theorem ok_right (F : FD K "_law_right" s_right f fd) (tr : mg "range" = none) (tp : mg "repr" = none) (DR : Kn P w K mg base 1 "_law_draw" fD dD ["_law_pot_here", "_law_many"] spDraw) (PK : Kn P w K mg base 2 "_law_pick" fP dP ["_law_pot_here", "_law_some_here"] (spPick K))
    (gT : mg "TextMap" = some (.ref CT)) (gN : mg "NumberMap" = some (.ref CN)) (Z1 : KdP (kdN CN) P w K mg base) (Z2 : KdP (kdT CT) P w K mg base)
    (S1 : CMk6 P w K mg base CT mc "same" pS1 mS1 dS1 ["cls"] (T.spSame CT)) (S2 : CMk6 P w K mg base CN mc "same" pS2 mS2 dS2 ["cls"] (spSame CN)) (C1 : CMk6 P w K mg base CT mc "constant_map" pC1 mC1 dC1 ["cls", "value"] (T.spConst CT)) (C2 : CMk6 P w K mg base CN mc "constant_map" pC2 mC2 dC2 ["cls", "value"] (spConst CN)) :
    FnG P w K mg base CX0 8 f fd ["_law_pot_here"] spTurn := by
  refine F.okG sc_right (fun vs H Q E h => ?_) (fun cdv A outer s H vs Q E hg hr h => ?_)
  · obtain ⟨p, rfl, _⟩ := h
    rfl
  obtain ⟨p, rfl, hP, q⟩ := h
  have hG := deeper_guards (env := PyProof.Rows.envOfC "_law_right" (defScope s_right) s.heap.objs.size f cdv) hg
  obtain ⟨u1, k1, r1⟩ := rest_ok (kd := kdN CN) (outer := outer) (H0 := H) (E := E) (lN CN) Z1 tr tp DR gT gN S1 S2 C1 C2
    (fun {σ H Q} e q => cond_no e ⟨rfl, rfl, fun m n H' nm hn le s => q m H' ⟨n, nm, by rw [← (lN CN).plainId]; exact hn, le⟩ s⟩)
    (fun {σ H Q v} e e11 _ q => cond_no e ⟨rfl, _, e11, v, rfl, fun m n H' nm hn le s => q m H' ⟨n, nm, by
      have e : evalP [(none, none, some v)] = fun _ => v := funext fun x => by
        rw [evalP, if_pos (show leO x none = true from rfl)]
        rfl
      rw [e] at hn
      exact hn, le⟩ s⟩)
    (fun {σ H Q} e q => cond_no e ⟨by show 3 ≤ sizeLine; decide, fun t ht => ⟨by show 1 ≤ sizeLine; decide, fun g hg => q g _ (fun H2 t2 s e2 => ⟨g, e2, [t], s _ _ upd_same, .cons (s _ _ ((same_upd hg) _ _ upd_same)) .nil⟩) ((same_upd ht).trans (same_upd hg))⟩⟩) hG hr
  obtain ⟨u2, k2, r2⟩ := rest_ok (kd := kdT CT) (outer := outer) (H0 := H) (E := E) (lT CT) Z2 tr tp DR gT gN S1 S2 C1 C2
    (fun {σ H Q} e q => cond_yes e ⟨rfl, rfl, fun m H' tm s => q m H' ⟨[], tm, ⟨T.NL.nil, fun z => rfl, fun z h => absurd h List.not_mem_nil⟩, .inl rfl, Nat.zero_le _⟩ s⟩)
    (fun {σ H Q v} e e11 vv q => cond_yes e ⟨rfl, _, e11, v, rfl, vv, fun m H' tm s => q m H' ⟨[], tm, ⟨T.NL.nil, fun z => at_nil v z, fun z h => absurd h List.not_mem_nil⟩, .inr ⟨v, rfl, vv⟩, Nat.zero_le _⟩ s⟩)
    (fun {σ H Q} e q => cond_yes e ⟨Nat.zero_le _, fun g hg => q g _ (fun H2 t s e2 => ⟨g, e2, [], s _ _ upd_same, .nil⟩) (same_upd hg)⟩) hG hr
  refine ⟨_, PSs.nox (pss_cons (ps_set (i := 1) sc_right.nd rfl (Or.inr rfl) (pe_call PK.f (hr.mono (by decide)) rfl PK.m PK.k PK.b .nil pass0 (pa_cons (pv 0) (pa_cons (pe_lst (pa_cons pe_str (pa_cons pe_str (pa_cons pe_str pa_nil)))) pa_nil)))) (pss_or k1 k2)), ?_⟩
  refine ⟨_, rfl, by show 3 ≤ sizeLine; decide, fun Lk hLk => ?_⟩
  have s1 := same_upd (o := HO.lst [V.str "number", V.str "number", V.str "text"]) hLk
  refine ⟨p, Lk, _, rfl, hP.bt s1, pot_ne hP hLk, upd_same, by show 0 < 3; decide, by show 3 ≤ 1000; decide, fun i v H1 hi b1 hP1 => ?_⟩
  have c1 : Bt p H H1 := (Same.bt s1).trans b1
  have mem := List.mem_of_getElem? hi
  simp only [List.mem_cons, List.not_mem_nil, or_false] at mem
  have N : tOr2 u1 u2 { nx := fun _ H' => Q V.non H', rt := Q } [some (.ref p), some (.str "number"), none, none, none, none, none, none, none, none, none, none, none, none, none, none] H1 := .inl (r1 p H1 Q hP1 fun H' b h => q H' (c1.trans b) h)
  rcases mem with rfl | rfl | rfl
  · exact N
  · exact N
  · exact .inr (r2 p H1 Q hP1 fun H' b h => q H' (c1.trans b) h)
end
/-! ### the law -/
abbrev s_law : Stmt := top 67
abbrev nLaw : List Str := ["_law_script", "_law_k", "_law_pot_here", "_law_turn"]
def spLaw (K : PySem.W.Frag) : Sp := fun vs H Q _ => ∃ (a : Addr) (ns : List Int), vs = [.ref a] ∧ SqL K H a (ns.map V.int) ∧ ns.length ≤ 63 ∧ ∀ H', Q (.bl true) H'
theorem sc_law : FnScope nLaw ["_law_script"] (defScope s_law) := ⟨rfl, rfl, rfl, by decide +kernel, rfl, by decide +kernel, by decide +kernel⟩
theorem boot_max : bootBuiltins "max" = some (.builtin "max") := by decide +kernel
theorem boot_min : bootBuiltins "min" = some (.builtin "min") := by decide +kernel
section
variable {P : Program} {w : World} {K : PySem.W.Frag} {mg : Str → Option Value} {base : Heap} {f fPO fRI : Addr} {fd dPO dRI : FuncData}
theorem ok_law9 (F : FD K "law" s_law f fd) (T : TT0 mg) (TA : mg "all" = none) (TM : mg "max" = none) (TN : mg "min" = none) (PO : Kn P w K mg base 1 "_law_pot" fPO dPO ["_law_script", "_law_k"] (spPot K)) (RI : KnG P w K mg base 8 "_law_right" fRI dRI ["_law_pot_here"] spTurn) :
    FnG P w K mg base CX0 9 f fd ["_law_script"] (spLaw K) := by
  refine F.okG sc_law (fun vs H Q E h => ?_) (fun cdv A outer s H vs Q E hg hr h => ?_)
  · obtain ⟨a, ns, rfl, _⟩ := h
    rfl
  obtain ⟨a, ns, rfl, hS, hl, q⟩ := h
  have hG := deeper_guards (env := PyProof.Rows.envOfC "law" (defScope s_law) s.heap.objs.size f cdv) hg
  refine ⟨_, PSs.nox (pss_cons (ps_for .never (by rfl) (pi_range1 rfl T.rng (pa_cons (pe_callB (call_max2 rfl) (by rfl) TM boot_max (pa_cons pe_int (pa_cons (pe_callB (call_min2 rfl) (by rfl) TN boot_min (pa_cons pe_int (pa_cons (pe_callB call_len_seq (by rfl) T.len boot_len (pa_cons (pv 0) pa_nil)) pa_nil))) pa_nil))) pa_nil)) (pg_name (i := 1) sc_law.nd rfl (Or.inl rfl))
      (pss_cons (ps_set (i := 2) sc_law.nd rfl (Or.inr rfl) (pe_call PO.f (hr.mono (by decide)) rfl PO.m PO.k PO.b .nil pass0 (pa_cons (pv 0) (pa_cons (pv 1) pa_nil))))
      (pss_one (ps_if (pt_not (pt_val (pe_callB (cr_all rfl) (by rfl) TA boot_all (pa_cons (pe_lc (own := [("_law_turn", 3)]) (g := gName 3) (tt := tYes) (te := tCall spTurn [] E0 (tCons (tVar 2) tNil)) rfl sc_law.nd (pi_range1 rfl T.rng (pa_cons pe_int pa_nil))
          (blkOk_by (N := nLaw) (sc := defScope s_law) (by decide +kernel)) (fun _ _ _ _ _ => pg_name (i := 3) sc_law.nd rfl (Or.inl rfl)) (fun _ _ _ _ _ => pts_nil)
          (fun _ _ _ _ _ => by exact (pe_callG RI.f (by exact hG) hr rfl RI.m RI.k RI.b .nil pass0 (pa_cons (pv 2) pa_nil)))) pa_nil)))) pss_never pss_nil))))
    (pss_one (ps_ret pe_bl))), ?_⟩
  have hl' : (ns.map V.int).length ≤ 63 := by rw [List.length_map]; exact hl
  refine ⟨_, rfl, a, _, rfl, .inl hS, _, _, rfl, _, _, rfl, ?_⟩
  generalize hm : (if (((ns.map V.int).length : Nat) : Int) < (6 : Int) then (((ns.map V.int).length : Nat) : Int) else (6 : Int)) = m
  have m0 : 0 ≤ m ∧ m ≤ 6 := by
    rw [← hm]
    split <;> omega
  generalize hj : (if m > 1 then m else (1 : Int)) = j
  have j0 : 0 ≤ j ∧ j ≤ 6 := by
    rw [← hj]
    split <;> omega
  refine ⟨_, rfl, by omega, by omega, ?_⟩
  refine for_range (lo := 0) (n := j.toNat) (fun i σ' H' => Same H H' ∧ ∃ b c : Option V, σ' = [some (.ref a), b, c, none]) ⟨fun _ _ e => e, none, none, rfl⟩ (fun i σ' H1 hi ⟨s1, b, c, eσ⟩ => ?_) (fun σ' H1 _ => q H1)
  subst eσ
  refine ⟨_, rfl, _, rfl, a, ns, 0 + (i : Int), rfl, s1.seq hS, hl, by omega, by omega, fun p x y hp hx hy hy2 => ?_⟩
  dsimp only
  have s2 := same_upd (o := HO.lst [V.int x, V.int y]) hp
  have hP2 : PotAt (upd H1 p (.lst [.int x, .int y])) p := ⟨x, y, upd_same, hx, hy, hy2⟩
  have off : ∀ H', Bt p (upd H1 p (.lst [.int x, .int y])) H' → Same H1 H' := fun H' b c o e => by
    have n : c ≠ p := ne_of_none e hp
    exact b c o n (by rw [upd_ne n]; exact e)
  generalize upd H1 p (.lst [.int x, .int y]) = H2 at s2 hP2 off ⊢
  refine ⟨5, rfl, by decide, by decide, fun D hD => ?_⟩
  have nD := pot_ne hP2 hD
  refine lc_range (lo := 0) (n := 5) (fun i H' => Bt p H2 H' ∧ PotAt H' p ∧ H' D = some (.lst (List.replicate i (V.bl true)))) ⟨Same.bt (same_upd hD), hP2.bt (same_upd hD), upd_same⟩ (fun i H3 hi ⟨b3, hP3, hD3⟩ => ?_) fun H3 ⟨b3, hP3, hD3⟩ => ?_
  · refine ⟨rfl, ?_⟩
    simp only [tYes, ↓reduceIte]
    refine ⟨_, rfl, p, rfl, hP3, fun H4 b4 hP4 => ⟨_, b4 _ _ nD hD3, by rw [List.length_replicate]; exact Nat.lt_of_lt_of_le (show i < 5 by omega) (show 5 ≤ sizeLine by decide), fun c o nc e => ?_, ?_, ?_⟩⟩
    · have n : c ≠ D := ne_of_none e hD
      rw [upd_ne n]
      exact b4 _ _ nc (b3 _ _ nc e)
    · obtain ⟨x', y', e, r⟩ := hP4
      exact ⟨x', y', by rw [upd_ne (Ne.symm nD)]; exact e, r⟩
    · rw [upd_same, List.replicate_succ']
  · refine ⟨D, List.replicate 5 true, rfl, SqL.of (by rw [hD3, List.map_replicate]), ?_⟩
    rw [all_true]
    refine ⟨true, rfl, ?_⟩
    refine (show (if (!true) = true then _ else _) from ?_)
    rw [if_neg (by decide)]
    exact ⟨s1.trans (off _ b3), _, _, rfl⟩
end
end C4

end Pq4h
section PHeZ
set_option maxHeartbeats 4000000
/-! ### the head's facts: defs that stand anywhere (properties, class methods), one Bool of the written part -/
namespace He
open PySem PySem.Spec PyProof.Rows L2
def asZ (g : Addr → Option Obj) (n : Nat) : List Addr := sysModules :: cStatics :: asD g n
/-- the def in the record of this type that the class has under this name -/
def rcA (K : PySem.W.Frag) (C : Addr) (T : String) (m : Str) : Addr := match PySem.W.recIn K (ma K C m) T with
  | some (.ref g :: _) => g
  | _ => 0
def fnZ (K : PySem.W.Frag) (a : Addr) : FnW := match K.lookup a with
  | some ⟨_, _, .func fd, _⟩ => some (fd.name, fd.qualname, fd.params, fd.body, fd.scope, fd.globals, fd.closure, fd.builtins)
  | _ => none
structure DefZ where
  adr : PySem.W.Frag → Addr
  name : Str
  qual : Str
  params : Arguments
  body : List Stmt
  scope : Scope
  dfl : List Dv := []
def DefZ.val (d : DefZ) : FnW := some (d.name, d.qual, d.params, .stmts d.body, d.scope, mainGlobals, [], builtinsNs)
def DefZ.dvs (K : PySem.W.Frag) (d : DefZ) : List V := d.dfl.map (Dv.v K)
def DefZ.ok (K : PySem.W.Frag) (d : DefZ) : Bool := PySem.W.keepIn K (.ref (d.adr K)) && (match K.lookup (d.adr K) with
  | some ⟨_, _, .func fd, _⟩ => PySem.W.codeIn K fd.code d.qual && dflB K fd.defaults (d.dvs K)
  | _ => false)
theorem DefZ.funD {K : PySem.W.Frag} {d : DefZ} (e : fnZ K (d.adr K) = d.val) (c : d.ok K = true) : ∃ fd, FunD K d.name d.qual d.params d.body d.scope (d.dvs K) [] (d.adr K) fd := by
  obtain ⟨kp, c2⟩ := ba c
  unfold fnZ at e
  cases q : K.lookup (d.adr K) with
  | none =>
    rw [q] at c2
    cases c2
  | some o =>
    obtain ⟨oc, od, dt, osl⟩ := o
    rw [q] at c2 e
    cases dt with
    | func fd =>
      obtain ⟨n1, n2, n3, n4, n5, n6, n7, n8, n9, n10, n11, n12, n13, n14, n15⟩ := fd
      have e2 : (some (n1, n2, n3, n4, n5, n6, n7, n15) : FnW) = some (d.name, d.qual, d.params, .stmts d.body, d.scope, mainGlobals, [], builtinsNs) := e
      simp only [Option.some.injEq, Prod.mk.injEq] at e2
      obtain ⟨h1, h2, h3, h4, h5, h6, h7, h8⟩ := e2
      subst h1 h2 h3 h4 h5 h6 h7 h8
      have c3 : (PySem.W.codeIn K n13 d.qual && dflB K n8 (d.dvs K)) = true := c2
      obtain ⟨k1, k2⟩ := ba c3
      exact ⟨_, ⟨oc, od, n8, n9, n10, n11, n12, n13, n14, osl, rfl, q, k1, dflB_ok k2, .inl rfl⟩, kp⟩
    | _ => cases c2
def obsZ (n : Nat) (fn : List DefZ) (ex : PySem.W.Frag → Bool) (g : Addr → Option Obj) : Bool × List FnW := ((fn.all fun d => d.ok (frG g (asZ g n))) && ex (frG g (asZ g n)), fn.map fun d => fnZ (frG g (asZ g n)) (d.adr (frG g (asZ g n))))
structure SaysZ (fn : List DefZ) (ex : PySem.W.Frag → Bool) (K : PySem.W.Frag) : Prop where
  ok : (fn.all fun d => d.ok K) = true
  more : ex K = true
  fns : fn.map (fun d => fnZ K (d.adr K)) = fn.map DefZ.val
theorem saysZ_of {n : Nat} {fn : List DefZ} {ex : PySem.W.Frag → Bool} {g : Addr → Option Obj} (e : obsZ n fn ex g = (true, fn.map DefZ.val)) : SaysZ fn ex (frG g (asZ g n)) := by
  have e1 : ((fn.all fun d => d.ok (frG g (asZ g n))) && ex (frG g (asZ g n))) = true := congrArg (fun z : Bool × List FnW => z.1) e
  exact ⟨(ba e1).1, (ba e1).2, congrArg (fun z : Bool × List FnW => z.2) e⟩
def hookZ (n : Nat) (fn : List DefZ) (ex : PySem.W.Frag → Bool) : PySem.W.Hook where
  α := Bool × List FnW
  obs := fun s => obsZ n fn ex s.heap.get?
  val := fun _ => (true, fn.map DefZ.val)
  says := fun _ h => ∃ K : PySem.W.Frag, K.In h ∧ SaysZ fn ex K
  of := fun _ _ e => ⟨_, frG_in, saysZ_of e⟩
  keeps := fun _ _ _ ⟨K, hK, c⟩ k => ⟨K, PySem.W.Frag.In.keeps hK k, c⟩
theorem obsZ_eq {n : Nat} {fn : List DefZ} {ex : PySem.W.Frag → Bool} {g : Addr → Option Obj} {s : Shared} (h : ∀ a, g a = s.heap.get? a) : obsZ n fn ex g = (hookZ n fn ex).obs s := by
  have e : g = s.heap.get? := funext h
  rw [e] <;> rfl
theorem SaysZ.def_ {fn : List DefZ} {ex : PySem.W.Frag → Bool} {K : PySem.W.Frag} (c : SaysZ fn ex K) (i : Nat) {d : DefZ} (h : fn[i]? = some d) : ∃ fd, FunD K d.name d.qual d.params d.body d.scope (d.dvs K) [] (d.adr K) fd := by
  have e2 : (fn.map fun d => fnZ K (d.adr K))[i]? = (fn.map DefZ.val)[i]? := by rw [c.fns]
  rw [List.getElem?_map, List.getElem?_map, h] at e2
  exact DefZ.funD (Option.some.inj e2) (List.all_eq_true.mp c.ok d (List.mem_of_getElem? h))
/-! ### a class method, a property -/
def cmB (K : PySem.W.Frag) (C : Addr) (m : Str) : Bool := (match PySem.W.findCls K (.ref C) (.type "type") m with
    | some (.get (.builtin b) (.ref p) .none (.ref C')) => decide (b = "classmethod.__get__") && (decide (p = ma K C m) && decide (C' = C))
    | _ => false) && ((match PySem.W.recIn K (ma K C m) "classmethod" with
    | some (.ref g :: _) => decide (g = rcA K C "classmethod" m)
    | _ => false) && PySem.W.fnIn K (rcA K C "classmethod" m))
theorem cmB_ok {K : PySem.W.Frag} {C : Addr} {m : Str} (h : cmB K C m = true) : ClX.CMet K C (.type "type") m (ma K C m) (rcA K C "classmethod" m) := by
  obtain ⟨h1, h⟩ := ba h
  obtain ⟨h2, h3⟩ := ba h
  refine ⟨?_, ?_, h3⟩
  · split at h1
    · rename_i b p C' e
      obtain ⟨e1, h1⟩ := ba h1
      obtain ⟨e2, e3⟩ := ba h1
      rw [e, of_decide_eq_true e1, of_decide_eq_true e2, of_decide_eq_true e3]
    · cases h1
  · split at h2
    · rename_i g r e
      exact ⟨r, by rw [e, of_decide_eq_true h2]⟩
    · cases h2
def prB (K : PySem.W.Frag) (C : Addr) (m : Str) : Bool := eqO (PySem.W.findIn K (.ref C) m) (some (some (.ref (ma K C m)))) && (eqO (PySem.W.specialIn K (.ref (ma K C m)) "__get__") (some (some (.builtin "property.__get__"))) && (decide (PySem.W.takesIn K (.ref (ma K C m)) = some true) &&
  (match PySem.W.recIn K (ma K C m) "property" with
    | some (.ref g :: _) => decide (g = rcA K C "property" m)
    | _ => false)))
theorem prB_ok {K : PySem.W.Frag} {C : Addr} {m : Str} (h : prB K C m = true) : PropOf K C m (ma K C m) (rcA K C "property" m) := by
  obtain ⟨h1, h⟩ := ba h
  obtain ⟨h2, h⟩ := ba h
  obtain ⟨h3, h4⟩ := ba h
  refine ⟨eqO_ok h1, eqO_ok h2, of_decide_eq_true h3, ?_⟩
  split at h4
  · rename_i g r e
    exact ⟨r, by rw [e, of_decide_eq_true h4]⟩
  · cases h4
def crB (K : PySem.W.Frag) (C : Addr) : Bool := PySem.W.readsIn K C (.type "type") && eqO (PySem.W.specialIn K (.ref C) "__getattribute__") (some (some (.builtin "type.__getattribute__")))
theorem crB_ok {K : PySem.W.Frag} {C : Addr} (h : crB K C = true) : ClX.CRead K C (.type "type") := by
  obtain ⟨h1, h2⟩ := ba h
  exact ⟨h1, eqO_ok h2⟩
end He

end PHeZ
section PHeR
set_option maxHeartbeats 4000000
/-! ### the head's facts over few objects: what some names of the module reach -/
namespace He
open PySem PySem.Spec PyProof.Rows L2
/-- what an object names, but the classes above a class -/
def refsN (o : Obj) : List Addr := refV o.cls ++ (match o.dict with
  | some d => [d]
  | none => []) ++ match o.data with
  | .seq its _ => its.toList.flatMap refV
  | .dict es _ => es.toList.flatMap fun e => refV e.val
  | .func fd => refV fd.code ++ (refV fd.defaults ++ (refV fd.kwdefaults ++ fd.closure.map (·.2)))
  | .cls cd => [cd.ns]
  | .fields vs => vs.toList.flatMap refV
  | .cell (some v) => refV v
  | _ => []
def asF (g : Addr → Option Obj) : Nat → List Addr → List Addr
  | 0, fr => fr
  | n + 1, fr => fr ++ asF g n (fr.flatMap fun a => match g a with
    | some o => refsN o
    | none => [])
def rootsA (g : Addr → Option Obj) (roots : List Str) : List Addr := roots.filterMap fun x => match PySem.W.nsIn (frG g [mainGlobals]) mainGlobals x with
  | some (some (.ref a)) => some a
  | _ => none
def asR (roots : List Str) (n : Nat) (g : Addr → Option Obj) : List Addr := sysModules :: cStatics :: mainGlobals :: asF g n (rootsA g roots)
def obsR (as : (Addr → Option Obj) → List Addr) (fn : List DefZ) (ex : PySem.W.Frag → Bool) (g : Addr → Option Obj) : Bool × List FnW := ((fn.all fun d => d.ok (frG g (as g))) && ex (frG g (as g)), fn.map fun d => fnZ (frG g (as g)) (d.adr (frG g (as g))))
theorem saysR_of {as : (Addr → Option Obj) → List Addr} {fn : List DefZ} {ex : PySem.W.Frag → Bool} {g : Addr → Option Obj} (e : obsR as fn ex g = (true, fn.map DefZ.val)) : SaysZ fn ex (frG g (as g)) := by
  have e1 : ((fn.all fun d => d.ok (frG g (as g))) && ex (frG g (as g))) = true := congrArg (fun z : Bool × List FnW => z.1) e
  exact ⟨(ba e1).1, (ba e1).2, congrArg (fun z : Bool × List FnW => z.2) e⟩
def hookR (as : (Addr → Option Obj) → List Addr) (fn : List DefZ) (ex : PySem.W.Frag → Bool) : PySem.W.Hook where
  α := Bool × List FnW
  obs := fun s => obsR as fn ex s.heap.get?
  val := fun _ => (true, fn.map DefZ.val)
  says := fun _ h => ∃ K : PySem.W.Frag, K.In h ∧ SaysZ fn ex K
  of := fun _ _ e => ⟨_, frG_in, saysR_of e⟩
  keeps := fun _ _ _ ⟨K, hK, c⟩ k => ⟨K, PySem.W.Frag.In.keeps hK k, c⟩
theorem obsR_eq {as : (Addr → Option Obj) → List Addr} {fn : List DefZ} {ex : PySem.W.Frag → Bool} {g : Addr → Option Obj} {s : Shared} (h : ∀ a, g a = s.heap.get? a) : obsR as fn ex g = (hookR as fn ex).obs s := by
  have e : g = s.heap.get? := funext h
  rw [e] <;> rfl
end He

end PHeR
section Pk14y
set_option maxHeartbeats 0
namespace C4
open PySem PySem.Spec PyProof.Rows L2 He
def z0 : DefZ := ⟨fun K => ma K (ga K "InvalidValue") "__init__", "__init__", "InvalidValue.__init__", defArgs s_initIV, defBody s_initIV, defScope s_initIV, []⟩
def z1 : DefZ := ⟨fun K => ma K (ga K "InvalidMap") "__init__", "__init__", "InvalidMap.__init__", defArgs s_initIM, defBody s_initIM, defScope s_initIM, []⟩
def z2 : DefZ := ⟨fun K => ga K "is_number", "is_number", "is_number", defArgs s_is_number, defBody s_is_number, defScope s_is_number, []⟩
def z3 : DefZ := ⟨fun K => ga K "is_word", "is_word", "is_word", defArgs s_is_word, defBody s_is_word, defScope s_is_word, []⟩
def z4 : DefZ := ⟨fun K => ga K "is_kind", "is_kind", "is_kind", defArgs s_is_kind, defBody s_is_kind, defScope s_is_kind, []⟩
def z5 : DefZ := ⟨fun K => ga K "is_value", "is_value", "is_value", defArgs s_is_value, defBody s_is_value, defScope s_is_value, []⟩
def z6 : DefZ := ⟨fun K => ga K "is_stretch", "is_stretch", "is_stretch", defArgs s_is_stretch, defBody s_is_stretch, defScope s_is_stretch, []⟩
def z7 : DefZ := ⟨fun K => rcA K (ga K "NumberMap") "property" "kind", "kind", "Map.kind", defArgs s_kind, defBody s_kind, defScope s_kind, []⟩
def z8 : DefZ := ⟨fun K => ma K (ga K "NumberMap") "at", "at", "Map.at", defArgs s_mat, defBody s_mat, defScope s_mat, []⟩
def z9 : DefZ := ⟨fun K => ma K (ga K "NumberMap") "__eq__", "__eq__", "Map.__eq__", defArgs s_meq, defBody s_meq, defScope s_meq, []⟩
def z10 : DefZ := ⟨fun K => rcA K (ga K "TextMap") "property" "kind", "kind", "Map.kind", defArgs T.s_kind, defBody T.s_kind, defScope T.s_kind, []⟩
def z11 : DefZ := ⟨fun K => ma K (ga K "TextMap") "at", "at", "Map.at", defArgs T.s_mat, defBody T.s_mat, defScope T.s_mat, []⟩
def z12 : DefZ := ⟨fun K => ma K (ga K "TextMap") "__eq__", "__eq__", "Map.__eq__", defArgs T.s_meq, defBody T.s_meq, defScope T.s_meq, []⟩
def z13 : DefZ := ⟨fun K => ma K (ga K "NumberMap") "__init__", "__init__", "NumberMap.__init__", defArgs s_ninit, defBody s_ninit, defScope s_ninit, []⟩
def z14 : DefZ := ⟨fun K => ma K (ga K "NumberMap") "pieces", "pieces", "NumberMap.pieces", defArgs s_npieces, defBody s_npieces, defScope s_npieces, []⟩
def z15 : DefZ := ⟨fun K => ma K (ga K "NumberMap") "__repr__", "__repr__", "NumberMap.__repr__", defArgs s_nrepr, defBody s_nrepr, defScope s_nrepr, []⟩
def z16 : DefZ := ⟨fun K => ma K (ga K "NumberMap") "_result", "_result", "NumberMap._result", defArgs s_nresult, defBody s_nresult, defScope s_nresult, []⟩
def z17 : DefZ := ⟨fun K => ma K (ga K "NumberMap") "_content", "_content", "NumberMap._content", defArgs s_ncontent, defBody s_ncontent, defScope s_ncontent, []⟩
def z18 : DefZ := ⟨fun K => ma K (ga K "TextMap") "__init__", "__init__", "TextMap.__init__", defArgs T.s_init, defBody T.s_init, defScope T.s_init, [.non, .non]⟩
def z19 : DefZ := ⟨fun K => rcA K (ga K "TextMap") "classmethod" "same", "same", "TextMap.same", defArgs T.s_same, defBody T.s_same, defScope T.s_same, []⟩
def z20 : DefZ := ⟨fun K => rcA K (ga K "TextMap") "property" "rest", "rest", "TextMap.rest", defArgs T.s_rest, defBody T.s_rest, defScope T.s_rest, []⟩
def z21 : DefZ := ⟨fun K => rcA K (ga K "TextMap") "classmethod" "constant_map", "constant_map", "TextMap.constant_map", defArgs T.s_constant, defBody T.s_constant, defScope T.s_constant, []⟩
def z22 : DefZ := ⟨fun K => rcA K (ga K "NumberMap") "classmethod" "same", "same", "NumberMap.same", defArgs s_nsame, defBody s_nsame, defScope s_nsame, []⟩
def z23 : DefZ := ⟨fun K => rcA K (ga K "NumberMap") "classmethod" "constant_map", "constant_map", "NumberMap.constant_map", defArgs s_nconst, defBody s_nconst, defScope s_nconst, []⟩
def z24 : DefZ := ⟨fun K => ma K (ga K "NumberMap") "then", "then", "Map.then", defArgs s_then, defBody s_then, defScope s_then, []⟩
def z25 : DefZ := ⟨fun K => ma K (ga K "TextMap") "then", "then", "Map.then", defArgs s_then, defBody s_then, defScope s_then, []⟩
def z26 : DefZ := ⟨fun K => ma K (ga K "NumberMap") "_followed", "_followed", "NumberMap._followed", defArgs s_nfol, defBody s_nfol, defScope s_nfol, []⟩
def z27 : DefZ := ⟨fun K => ma K (ga K "TextMap") "_followed", "_followed", "TextMap._followed", defArgs T.s_tfol, defBody T.s_tfol, defScope T.s_tfol, []⟩
def z28 : DefZ := ⟨fun K => ma K (ga K "TextMap") "exceptions", "exceptions", "TextMap.exceptions", defArgs T.s_exceptions, defBody T.s_exceptions, defScope T.s_exceptions, []⟩
def z29 : DefZ := ⟨fun K => ma K (ga K "TextMap") "__repr__", "__repr__", "TextMap.__repr__", defArgs T.s_repr, defBody T.s_repr, defScope T.s_repr, []⟩
def z30 : DefZ := ⟨fun K => ma K (ga K "TextMap") "_usual", "_usual", "TextMap._usual", defArgs T.s_usual, defBody T.s_usual, defScope T.s_usual, []⟩
def z31 : DefZ := ⟨fun K => ma K (ga K "TextMap") "_result", "_result", "TextMap._result", defArgs T.s_result, defBody T.s_result, defScope T.s_result, []⟩
def z32 : DefZ := ⟨fun K => ma K (ga K "TextMap") "_content", "_content", "TextMap._content", defArgs T.s_content, defBody T.s_content, defScope T.s_content, []⟩
def z33 : DefZ := ⟨fun K => ga K "_is_piece", "_is_piece", "_is_piece", defArgs s_is_piece, defBody s_is_piece, defScope s_is_piece, []⟩
def z34 : DefZ := ⟨fun K => ga K "_normal_pieces", "_normal_pieces", "_normal_pieces", defArgs s_pieces, defBody s_pieces, defScope s_pieces, []⟩
def z35 : DefZ := ⟨fun K => ga K "_normal_what", "_normal_what", "_normal_what", defArgs s_what, defBody s_what, defScope s_what, []⟩
def z36 : DefZ := ⟨fun K => ga K "_described", "_described", "_described", defArgs s_described, defBody s_described, defScope s_described, []⟩
def z37 : DefZ := ⟨fun K => ga K "_taken", "_taken", "_taken", defArgs s_taken, defBody s_taken, defScope s_taken, []⟩
def z38 : DefZ := ⟨fun K => ga K "_place_of", "_place_of", "_place_of", defArgs s_place, defBody s_place, defScope s_place, []⟩
def z39 : DefZ := ⟨fun K => ga K "pieces_within", "pieces_within", "pieces_within", defArgs s_withinP, defBody s_withinP, defScope s_withinP, []⟩
def z40 : DefZ := ⟨fun K => ga K "is_map", "is_map", "is_map", defArgs s_ismap, defBody s_ismap, defScope s_ismap, []⟩
def z41 : DefZ := ⟨fun K => ga K "check_map", "check_map", "check_map", defArgs s_chkmap, defBody s_chkmap, defScope s_chkmap, []⟩
def z42 : DefZ := ⟨fun K => ga K "_law_pot", "_law_pot", "_law_pot", defArgs sPot, defBody sPot, defScope sPot, []⟩
def z43 : DefZ := ⟨fun K => ga K "_law_draw", "_law_draw", "_law_draw", defArgs sDraw, defBody sDraw, defScope sDraw, []⟩
def z44 : DefZ := ⟨fun K => ga K "_law_pick", "_law_pick", "_law_pick", defArgs sPick, defBody sPick, defScope sPick, []⟩
def z45 : DefZ := ⟨fun K => ga K "_law_some", "_law_some", "_law_some", defArgs s_some, defBody s_some, defScope s_some, []⟩
def z46 : DefZ := ⟨fun K => ga K "_law_limit", "_law_limit", "_law_limit", defArgs s_limit, defBody s_limit, defScope s_limit, []⟩
def z47 : DefZ := ⟨fun K => ga K "_law_word", "_law_word", "_law_word", defArgs s_word, defBody s_word, defScope s_word, []⟩
def z48 : DefZ := ⟨fun K => ga K "_law_pieces", "_law_pieces", "_law_pieces", defArgs s_pcs, defBody s_pcs, defScope s_pcs, []⟩
def z49 : DefZ := ⟨fun K => ga K "_law_mapping", "_law_mapping", "_law_mapping", defArgs s_mapping, defBody s_mapping, defScope s_mapping, []⟩
def z50 : DefZ := ⟨fun K => ga K "_law_at", "_law_at", "_law_at", defArgs s_at, defBody s_at, defScope s_at, []⟩
def z51 : DefZ := ⟨fun K => ga K "_law_made_map", "_law_made_map", "_law_made_map", defArgs s_madeMap, defBody s_madeMap, defScope s_madeMap, []⟩
def z52 : DefZ := ⟨fun K => ga K "_law_all_at", "_law_all_at", "_law_all_at", defArgs s_allat, defBody s_allat, defScope s_allat, []⟩
def z53 : DefZ := ⟨fun K => ga K "_law_far", "_law_far", "_law_far", defArgs s_far, defBody s_far, defScope s_far, []⟩
def z54 : DefZ := ⟨fun K => ga K "_law_points", "_law_points", "_law_points", defArgs s_points, defBody s_points, defScope s_points, []⟩
def z55 : DefZ := ⟨fun K => ga K "_law_pieces_told", "_law_pieces_told", "_law_pieces_told", defArgs s_ptold, defBody s_ptold, defScope s_ptold, []⟩
def z56 : DefZ := ⟨fun K => ga K "_law_is_row", "_law_is_row", "_law_is_row", defArgs s_isrow, defBody s_isrow, defScope s_isrow, []⟩
def z57 : DefZ := ⟨fun K => ga K "_law_right", "_law_right", "_law_right", defArgs s_right, defBody s_right, defScope s_right, []⟩
def z58 : DefZ := ⟨fun K => ga K "law", "law", "law", defArgs s_law, defBody s_law, defScope s_law, []⟩
def zn0 : List DefZ := [z0, z1, z2, z3, z4, z5, z6, z7, z8, z9, z10, z11, z12, z13, z14]
def zn1 : List DefZ := [z15, z16, z17, z18, z19, z20, z21, z22, z23, z24, z25, z26, z27, z28, z29]
def zn2 : List DefZ := [z30, z31, z32, z33, z34, z35, z36, z37, z38, z39, z40, z41, z42, z43, z44]
def zn3 : List DefZ := [z45, z46, z47, z48, z49, z50, z51, z52, z53, z54, z55, z56, z57, z58]
def zn : List DefZ := zn0 ++ (zn1 ++ (zn2 ++ (zn3 ++ [])))
def frees : List Str := ["isinstance", "repr", "all", "len", "max", "abs", "int", "divmod", "range", "min", "str", "bool", "dict", "list", "set", "sorted", "tuple", "enumerate"]
def glo0 : List Str := ["InvalidValue", "InvalidMap", "Map", "NumberMap", "TextMap", "is_number", "is_word", "is_kind", "is_value", "is_stretch", "_is_piece", "_normal_pieces", "_normal_what", "_described", "_taken", "_place_of"]
def glo1 : List Str := ["pieces_within", "is_map", "check_map", "_law_pot", "_law_draw", "_law_pick", "_law_some", "_law_limit", "_law_word", "_law_pieces", "_law_mapping", "_law_at", "_law_made_map", "_law_all_at", "_law_far", "_law_points"]
def glo2 : List Str := ["_law_pieces_told", "_law_is_row", "_law_right", "law"]
def glos : List Str := glo0 ++ glo1 ++ glo2
abbrev gT (K : PySem.W.Frag) : Addr := ga K "TextMap"
abbrev gN (K : PySem.W.Frag) : Addr := ga K "NumberMap"
abbrev gM (K : PySem.W.Frag) : Addr := ga K "Map"
abbrev gV (K : PySem.W.Frag) : Addr := ga K "InvalidValue"
abbrev gI (K : PySem.W.Frag) : Addr := ga K "InvalidMap"
def fas : List Fa := [.int "TEXT_LENGTH" 12, .cls "TextMap", .cls "NumberMap", .noat "TextMap" "_exceptions", .noat "TextMap" "_rest", .noat "NumberMap" "_pieces", .meth "TextMap" "_usual", .meth "TextMap" "_result", .meth "TextMap" "at", .meth "TextMap" "exceptions", .meth "TextMap" "_content", .meth "NumberMap" "_result", .meth "NumberMap" "at", .meth "NumberMap" "pieces", .meth "NumberMap" "_content", .meth "TextMap" "then", .meth "NumberMap" "then", .meth "TextMap" "_followed", .meth "NumberMap" "_followed", .mkr "TextMap", .mkr "NumberMap"]
def xoB (K : PySem.W.Frag) (C : Addr) (f : Str) : Bool := xcB K C && (eqO (PySem.W.findIn K (.ref C) "__init__") (some (some (.ref (ma K C "__init__")))) && (decide (PySem.W.typeIn K (.ref (ma K C "__init__")) = some (.type "function")) && eqO (PySem.W.findIn K (.ref C) f) (some none)))
def tcB (K : PySem.W.Frag) (C : Str) (kd : Str) : Bool := eqO (PySem.W.findIn K (.ref (ga K C)) "__class__") (some (some (.builtin "object.__class__"))) && (eqO (PySem.W.specialIn K (.builtin "object.__class__") "__get__") (some (some (.builtin "getset_descriptor.__get__"))) && (decide (PySem.W.takesIn K (.builtin "object.__class__") = some true) &&
  (decide (PySem.W.mroIn K (ga K C) (.type "object") = some true) && (decide (PySem.W.kitOne K (.ref (ga K C)) (.ref (gM K)) = some true) && conB K C "KIND" (.str kd)))))
def eqB (K : PySem.W.Frag) (C : Addr) : Bool := eqO (PySem.W.findIn K (.ref C) "__eq__") (some (some (.ref (ma K C "__eq__")))) && (PySem.W.isFn K (.ref (ma K C "__eq__")) && (eqO (PySem.W.findIn K (.ref C) "__ne__") (some (some (.builtin "object.__ne__"))) && (decide (PySem.W.mroIn K C (.type "object") = some true) &&
  (eqO (PySem.W.findIn K (.ref C) "__repr__") (some (some (.ref (ma K C "__repr__")))) && PySem.W.isFn K (.ref (ma K C "__repr__"))))))
def otB (K : PySem.W.Frag) : Bool := noMods K
def exK (K : PySem.W.Frag) : Bool := (fas.all fun f => f.ok K) && ((frees.all fun x => eqO (PySem.W.nsIn K mainGlobals x) (some none)) && ((glos.all fun x => eqO (PySem.W.nsIn K mainGlobals x) (some (some (.ref (ga K x))))) && (xoB K (gV K) "value" && (xoB K (gI K) "position" && (tcB K "TextMap" "text" && (tcB K "NumberMap" "number" && (eqB K (gN K) && (eqB K (gT K) &&
  (prB K (gT K) "rest" && (prB K (gT K) "kind" && (prB K (gN K) "kind" && (crB K (gT K) && (cmB K (gT K) "same" && (crB K (gN K) && (cmB K (gN K) "same" && (cmB K (gT K) "constant_map" && (cmB K (gN K) "constant_map" && otB K)))))))))))))))))
abbrev R : PySem.W.OpenRow := PySem.W.OpenLaw.row PySem.Challenge.rw_keptedits_k14_whole_one_map_then_another
def roots : List Str := "KeptError" :: glos
abbrev hk : PySem.W.Hook := hookR (asR roots 4) zn exK
def ob (s : PySem.W.SharedT) : Bool × List FnW := obsR (asR roots 4) zn exK (HandSHeadRun.getT s)
theorem ob_eq (s : PySem.W.SharedT) : ob s = hk.obs s.abs := obsR_eq (HandSHeadRun.getT_eq s)
def loose0 : List Str := ["_wall", "KeptError", "InvalidValue", "InvalidSet", "InvalidMap", "Unlike", "LETTERS", "TEXT_LENGTH", "is_number", "is_word", "is_kind", "is_value", "kind_of", "natural", "ValueSet", "Numbers", "Texts", "numbers_of_stretches"]
def loose1 : List Str := ["_numbers_told", "texts_of_words", "is_set", "check_set", "is_stretch", "is_within", "_is_stretch_tuple", "_merged", "_place", "_reaches", "_later", "_shared_stretches", "_gaps", "_nearest", "_text_at", "Map", "NumberMap", "TextMap"]
def loose2 : List Str := ["is_map", "check_map", "_is_piece", "_normal_pieces", "_normal_what", "_described", "_taken", "_place_of", "pieces_within", "_stretches_apart", "_usually_apart", "_law_pot", "_law_draw", "_law_pick", "_law_some", "_law_limit", "_law_word", "_law_pieces"]
def loose3 : List Str := ["_law_mapping", "_law_at", "_law_made_map", "_law_all_at", "_law_far", "_law_points", "_law_pieces_told", "_law_is_row", "_law_right"]
def loose : List Str := loose0 ++ loose1 ++ loose2 ++ loose3
theorem run (w : World) : HandSHeadRun.RunEq R (PySem.W.view R.prog [67]) hk ob 9000 loose w := by
  intro os
  kernel_rfl
end C4

end Pk14y
section Pk14z
set_option maxHeartbeats 0
namespace C4
open PySem PySem.Spec PyProof.Rows L2 He
structure Facts (K : PySem.W.Frag) : Prop where
  a : ∀ f, f ∈ fas → f.ok K = true
  f : ∀ x, x ∈ frees → eqO (PySem.W.nsIn K mainGlobals x) (some none) = true
  g : ∀ x, x ∈ glos → eqO (PySem.W.nsIn K mainGlobals x) (some (some (.ref (ga K x)))) = true
  xv : xoB K (gV K) "value" = true
  xi : xoB K (gI K) "position" = true
  tt : tcB K "TextMap" "text" = true
  tn : tcB K "NumberMap" "number" = true
  eN : eqB K (gN K) = true
  eT : eqB K (gT K) = true
  pr : prB K (gT K) "rest" = true
  pk : prB K (gT K) "kind" = true
  pn : prB K (gN K) "kind" = true
  ct : crB K (gT K) = true
  ms : cmB K (gT K) "same" = true
  cn : crB K (gN K) = true
  ns : cmB K (gN K) "same" = true
  mc : cmB K (gT K) "constant_map" = true
  nc : cmB K (gN K) "constant_map" = true
  ot : otB K = true
theorem facts_of {K : PySem.W.Frag} (h : exK K = true) : Facts K := by
  obtain ⟨h_a, h⟩ := ba h
  obtain ⟨h_f, h⟩ := ba h
  obtain ⟨h_g, h⟩ := ba h
  obtain ⟨h_xv, h⟩ := ba h
  obtain ⟨h_xi, h⟩ := ba h
  obtain ⟨h_tt, h⟩ := ba h
  obtain ⟨h_tn, h⟩ := ba h
  obtain ⟨h_eN, h⟩ := ba h
  obtain ⟨h_eT, h⟩ := ba h
  obtain ⟨h_pr, h⟩ := ba h
  obtain ⟨h_pk, h⟩ := ba h
  obtain ⟨h_pn, h⟩ := ba h
  obtain ⟨h_ct, h⟩ := ba h
  obtain ⟨h_ms, h⟩ := ba h
  obtain ⟨h_cn, h⟩ := ba h
  obtain ⟨h_ns, h⟩ := ba h
  obtain ⟨h_mc, h⟩ := ba h
  obtain ⟨h_nc, h⟩ := ba h
  exact ⟨fun x hx => List.all_eq_true.mp h_a x hx, fun x hx => List.all_eq_true.mp h_f x hx, fun x hx => List.all_eq_true.mp h_g x hx, h_xv, h_xi, h_tt, h_tn, h_eN, h_eT, h_pr, h_pk, h_pn, h_ct, h_ms, h_cn, h_ns, h_mc, h_nc, h⟩
section
variable {P : Program} {w : World} {K : PySem.W.Frag} {h base : Heap} {mg : Str → Option Value}
theorem free_at (X : K.In h) (G : h.Ns mainGlobals mg) (c : Facts K) {x : Str} (hx : x ∈ frees) : mg x = none := PySem.W.mg_none_of X G (eqO_ok (c.f x hx))
theorem glo_at (X : K.In h) (G : h.Ns mainGlobals mg) (c : Facts K) {x : Str} (hx : x ∈ glos) : mg x = some (.ref (ga K x)) := PySem.W.mg_of X G (eqO_ok (c.g x hx))
theorem xo_at {C fI : Addr} {dI : FuncData} {xn f : Str} (e : xoB K C f = true) (hf : fI = ma K C "__init__") (hm : mg xn = some (.ref C)) (hg : FnOk P w K mg base CX0 1 fI dI ["self", f] (spXI K f)) (hb : KBn K dI ["self", f] 2 [] (fun us _ => us) (fun us _ => us)) : XcO P w K mg base C fI dI xn f := by
  obtain ⟨h1, e⟩ := ba e
  obtain ⟨h2, e⟩ := ba e
  obtain ⟨h3, h4⟩ := ba e
  subst hf
  exact ⟨xcB_ok h1, eqO_ok h2, of_decide_eq_true h3, hm, eqO_ok h4, hg, hb⟩
theorem tc_at {C kd : Str} (e : tcB K C kd = true) (hc : Cls K (ga K C)) : TcO K (ga K C) (gM K) kd := by
  obtain ⟨h1, e⟩ := ba e
  obtain ⟨h2, e⟩ := ba e
  obtain ⟨h3, e⟩ := ba e
  obtain ⟨h4, e⟩ := ba e
  obtain ⟨h5, h6⟩ := ba e
  exact ⟨hc, eqO_ok h1, eqO_ok h2, of_decide_eq_true h3, of_decide_eq_true h4, of_decide_eq_true h5, conB_ok h6⟩
theorem eq_at {C : Addr} (e : eqB K C = true) : EqO K C (ma K C "__eq__") ∧ PySem.W.findIn K (.ref C) "__repr__" = some (some (.ref (ma K C "__repr__"))) ∧ PySem.W.isFn K (.ref (ma K C "__repr__")) = true := by
  obtain ⟨q1, qq⟩ := ba e
  obtain ⟨q2, qq⟩ := ba qq
  obtain ⟨q3, qq⟩ := ba qq
  obtain ⟨q4, qq⟩ := ba qq
  obtain ⟨q5, q6⟩ := ba qq
  exact ⟨⟨eqO_ok q1, q2, eqO_ok q3, of_decide_eq_true q4⟩, eqO_ok q5, q6⟩
end
theorem facts {P : Program} {w : World} {K : PySem.W.Frag} {h : Heap} {mg : Str → Option Value} {f : Addr} (X : K.In h) (G : h.Ns mainGlobals mg) (hfa : mg ("law" : Str) = some (.ref f)) (cc : SaysZ zn exK K) :
    ∃ fd : FuncData, (∀ (s : Shared) (v : Value), BindsTo s fd ⟨[v], []⟩ [("_law_script", v)]) ∧ ∀ base : Heap, K.In base → base.Ns mainGlobals mg → FnG P w K mg base CX0 9 f fd ["_law_script"] (spLaw K) := by
  have c := facts_of cc.more
  obtain ⟨d0, D0⟩ := cc.def_ 0 (d := z0) rfl
  obtain ⟨d1, D1⟩ := cc.def_ 1 (d := z1) rfl
  obtain ⟨d2, D2⟩ := cc.def_ 2 (d := z2) rfl
  obtain ⟨d3, D3⟩ := cc.def_ 3 (d := z3) rfl
  obtain ⟨d4, D4⟩ := cc.def_ 4 (d := z4) rfl
  obtain ⟨d5, D5⟩ := cc.def_ 5 (d := z5) rfl
  obtain ⟨d6, D6⟩ := cc.def_ 6 (d := z6) rfl
  obtain ⟨d7, D7⟩ := cc.def_ 7 (d := z7) rfl
  obtain ⟨d8, D8⟩ := cc.def_ 8 (d := z8) rfl
  obtain ⟨d9, D9⟩ := cc.def_ 9 (d := z9) rfl
  obtain ⟨d10, D10⟩ := cc.def_ 10 (d := z10) rfl
  obtain ⟨d11, D11⟩ := cc.def_ 11 (d := z11) rfl
  obtain ⟨d12, D12⟩ := cc.def_ 12 (d := z12) rfl
  obtain ⟨d13, D13⟩ := cc.def_ 13 (d := z13) rfl
  obtain ⟨d14, D14⟩ := cc.def_ 14 (d := z14) rfl
  obtain ⟨d15, D15⟩ := cc.def_ 15 (d := z15) rfl
  obtain ⟨d16, D16⟩ := cc.def_ 16 (d := z16) rfl
  obtain ⟨d17, D17⟩ := cc.def_ 17 (d := z17) rfl
  obtain ⟨d18, D18⟩ := cc.def_ 18 (d := z18) rfl
  obtain ⟨d19, D19⟩ := cc.def_ 19 (d := z19) rfl
  obtain ⟨d20, D20⟩ := cc.def_ 20 (d := z20) rfl
  obtain ⟨d21, D21⟩ := cc.def_ 21 (d := z21) rfl
  obtain ⟨d22, D22⟩ := cc.def_ 22 (d := z22) rfl
  obtain ⟨d23, D23⟩ := cc.def_ 23 (d := z23) rfl
  obtain ⟨d24, D24⟩ := cc.def_ 24 (d := z24) rfl
  obtain ⟨d25, D25⟩ := cc.def_ 25 (d := z25) rfl
  obtain ⟨d26, D26⟩ := cc.def_ 26 (d := z26) rfl
  obtain ⟨d27, D27⟩ := cc.def_ 27 (d := z27) rfl
  obtain ⟨d28, D28⟩ := cc.def_ 28 (d := z28) rfl
  obtain ⟨d29, D29⟩ := cc.def_ 29 (d := z29) rfl
  obtain ⟨d30, D30⟩ := cc.def_ 30 (d := z30) rfl
  obtain ⟨d31, D31⟩ := cc.def_ 31 (d := z31) rfl
  obtain ⟨d32, D32⟩ := cc.def_ 32 (d := z32) rfl
  obtain ⟨d33, D33⟩ := cc.def_ 33 (d := z33) rfl
  obtain ⟨d34, D34⟩ := cc.def_ 34 (d := z34) rfl
  obtain ⟨d35, D35⟩ := cc.def_ 35 (d := z35) rfl
  obtain ⟨d36, D36⟩ := cc.def_ 36 (d := z36) rfl
  obtain ⟨d37, D37⟩ := cc.def_ 37 (d := z37) rfl
  obtain ⟨d38, D38⟩ := cc.def_ 38 (d := z38) rfl
  obtain ⟨d39, D39⟩ := cc.def_ 39 (d := z39) rfl
  obtain ⟨d40, D40⟩ := cc.def_ 40 (d := z40) rfl
  obtain ⟨d41, D41⟩ := cc.def_ 41 (d := z41) rfl
  obtain ⟨d42, D42⟩ := cc.def_ 42 (d := z42) rfl
  obtain ⟨d43, D43⟩ := cc.def_ 43 (d := z43) rfl
  obtain ⟨d44, D44⟩ := cc.def_ 44 (d := z44) rfl
  obtain ⟨d45, D45⟩ := cc.def_ 45 (d := z45) rfl
  obtain ⟨d46, D46⟩ := cc.def_ 46 (d := z46) rfl
  obtain ⟨d47, D47⟩ := cc.def_ 47 (d := z47) rfl
  obtain ⟨d48, D48⟩ := cc.def_ 48 (d := z48) rfl
  obtain ⟨d49, D49⟩ := cc.def_ 49 (d := z49) rfl
  obtain ⟨d50, D50⟩ := cc.def_ 50 (d := z50) rfl
  obtain ⟨d51, D51⟩ := cc.def_ 51 (d := z51) rfl
  obtain ⟨d52, D52⟩ := cc.def_ 52 (d := z52) rfl
  obtain ⟨d53, D53⟩ := cc.def_ 53 (d := z53) rfl
  obtain ⟨d54, D54⟩ := cc.def_ 54 (d := z54) rfl
  obtain ⟨d55, D55⟩ := cc.def_ 55 (d := z55) rfl
  obtain ⟨d56, D56⟩ := cc.def_ 56 (d := z56) rfl
  obtain ⟨d57, D57⟩ := cc.def_ 57 (d := z57) rfl
  obtain ⟨d58, D58⟩ := cc.def_ 58 (d := z58) rfl
  have fr : ∀ x, x ∈ frees → mg x = none := fun x hx => free_at X G c hx
  have gl : ∀ x, x ∈ glos → mg x = some (.ref (ga K x)) := fun x hx => glo_at X G c hx
  have fa : ∀ f, f ∈ fas → f.ok K = true := c.a
  have b2 : Binds K d2 ["value"] [] := D2.bindsN fun _ _ _ _ _ _ us hl => match us, hl with | [_], _ => rfl
  have b3 : Binds K d3 ["value", "most"] [] := D3.bindsN fun _ _ _ _ _ _ us hl => match us, hl with | [_, _], _ => rfl
  have b4 : Binds K d4 ["value"] [] := D4.bindsN fun _ _ _ _ _ _ us hl => match us, hl with | [_], _ => rfl
  have b5 : Binds K d5 ["value", "kind"] [] := D5.bindsN fun _ _ _ _ _ _ us hl => match us, hl with | [_, _], _ => rfl
  have b6 : Binds K d6 ["first", "last"] [] := D6.bindsN fun _ _ _ _ _ _ us hl => match us, hl with | [_, _], _ => rfl
  have b7 : Binds K d7 ["self"] [] := D7.bindsN fun _ _ _ _ _ _ us hl => match us, hl with | [_], _ => rfl
  have b8 : Binds K d8 ["self", "value"] [] := D8.bindsN fun _ _ _ _ _ _ us hl => match us, hl with | [_, _], _ => rfl
  have b9 : Binds K d9 ["self", "other"] [] := D9.bindsN fun _ _ _ _ _ _ us hl => match us, hl with | [_, _], _ => rfl
  have b10 : Binds K d10 ["self"] [] := D10.bindsN fun _ _ _ _ _ _ us hl => match us, hl with | [_], _ => rfl
  have b11 : Binds K d11 ["self", "value"] [] := D11.bindsN fun _ _ _ _ _ _ us hl => match us, hl with | [_, _], _ => rfl
  have b12 : Binds K d12 ["self", "other"] [] := D12.bindsN fun _ _ _ _ _ _ us hl => match us, hl with | [_, _], _ => rfl
  have b13 : Binds K d13 ["self", "pieces"] [] := D13.bindsN fun _ _ _ _ _ _ us hl => match us, hl with | [_, _], _ => rfl
  have b14 : Binds K d14 ["self"] [] := D14.bindsN fun _ _ _ _ _ _ us hl => match us, hl with | [_], _ => rfl
  have b15 : Binds K d15 ["self"] [] := D15.bindsN fun _ _ _ _ _ _ us hl => match us, hl with | [_], _ => rfl
  have b16 : Binds K d16 ["self", "value"] [] := D16.bindsN fun _ _ _ _ _ _ us hl => match us, hl with | [_, _], _ => rfl
  have b17 : Binds K d17 ["self"] [] := D17.bindsN fun _ _ _ _ _ _ us hl => match us, hl with | [_], _ => rfl
  have b19 : Binds K d19 ["cls"] [] := D19.bindsN fun _ _ _ _ _ _ us hl => match us, hl with | [_], _ => rfl
  have b20 : Binds K d20 ["self"] [] := D20.bindsN fun _ _ _ _ _ _ us hl => match us, hl with | [_], _ => rfl
  have b21 : Binds K d21 ["cls", "value"] [] := D21.bindsN fun _ _ _ _ _ _ us hl => match us, hl with | [_, _], _ => rfl
  have b22 : Binds K d22 ["cls"] [] := D22.bindsN fun _ _ _ _ _ _ us hl => match us, hl with | [_], _ => rfl
  have b23 : Binds K d23 ["cls", "value"] [] := D23.bindsN fun _ _ _ _ _ _ us hl => match us, hl with | [_, _], _ => rfl
  have b24 : Binds K d24 ["self", "other"] [] := D24.bindsN fun _ _ _ _ _ _ us hl => match us, hl with | [_, _], _ => rfl
  have b25 : Binds K d25 ["self", "other"] [] := D25.bindsN fun _ _ _ _ _ _ us hl => match us, hl with | [_, _], _ => rfl
  have b26 : Binds K d26 ["self", "other"] [] := D26.bindsN fun _ _ _ _ _ _ us hl => match us, hl with | [_, _], _ => rfl
  have b27 : Binds K d27 ["self", "other"] [] := D27.bindsN fun _ _ _ _ _ _ us hl => match us, hl with | [_, _], _ => rfl
  have b28 : Binds K d28 ["self"] [] := D28.bindsN fun _ _ _ _ _ _ us hl => match us, hl with | [_], _ => rfl
  have b29 : Binds K d29 ["self"] [] := D29.bindsN fun _ _ _ _ _ _ us hl => match us, hl with | [_], _ => rfl
  have b30 : Binds K d30 ["self", "value"] [] := D30.bindsN fun _ _ _ _ _ _ us hl => match us, hl with | [_, _], _ => rfl
  have b31 : Binds K d31 ["self", "value"] [] := D31.bindsN fun _ _ _ _ _ _ us hl => match us, hl with | [_, _], _ => rfl
  have b32 : Binds K d32 ["self"] [] := D32.bindsN fun _ _ _ _ _ _ us hl => match us, hl with | [_], _ => rfl
  have b33 : Binds K d33 ["pieces", "position"] [] := D33.bindsN fun _ _ _ _ _ _ us hl => match us, hl with | [_, _], _ => rfl
  have b34 : Binds K d34 ["pieces"] [] := D34.bindsN fun _ _ _ _ _ _ us hl => match us, hl with | [_], _ => rfl
  have b35 : Binds K d35 ["pieces", "at", "start"] [] := D35.bindsN fun _ _ _ _ _ _ us hl => match us, hl with | [_, _, _], _ => rfl
  have b36 : Binds K d36 ["pieces", "at", "start", "what"] [] := D36.bindsN fun _ _ _ _ _ _ us hl => match us, hl with | [_, _, _, _], _ => rfl
  have b37 : Binds K d37 ["what", "value"] [] := D37.bindsN fun _ _ _ _ _ _ us hl => match us, hl with | [_, _], _ => rfl
  have b38 : Binds K d38 ["pieces", "value"] [] := D38.bindsN fun _ _ _ _ _ _ us hl => match us, hl with | [_, _], _ => rfl
  have b39 : Binds K d39 ["pieces", "first", "last"] [] := D39.bindsN fun _ _ _ _ _ _ us hl => match us, hl with | [_, _, _], _ => rfl
  have b40 : Binds K d40 ["value", "kind"] [] := D40.bindsN fun _ _ _ _ _ _ us hl => match us, hl with | [_, _], _ => rfl
  have b41 : Binds K d41 ["value", "kind"] [] := D41.bindsN fun _ _ _ _ _ _ us hl => match us, hl with | [_, _], _ => rfl
  have b42 : Binds K d42 ["_law_script", "_law_k"] [] := D42.bindsN fun _ _ _ _ _ _ us hl => match us, hl with | [_, _], _ => rfl
  have b43 : Binds K d43 ["_law_pot_here", "_law_many"] [] := D43.bindsN fun _ _ _ _ _ _ us hl => match us, hl with | [_, _], _ => rfl
  have b44 : Binds K d44 ["_law_pot_here", "_law_some_here"] [] := D44.bindsN fun _ _ _ _ _ _ us hl => match us, hl with | [_, _], _ => rfl
  have b45 : Binds K d45 ["_law_pot_here", "_law_given"] [] := D45.bindsN fun _ _ _ _ _ _ us hl => match us, hl with | [_, _], _ => rfl
  have b46 : Binds K d46 ["_law_pot_here"] [] := D46.bindsN fun _ _ _ _ _ _ us hl => match us, hl with | [_], _ => rfl
  have b47 : Binds K d47 ["_law_pot_here"] [] := D47.bindsN fun _ _ _ _ _ _ us hl => match us, hl with | [_], _ => rfl
  have b48 : Binds K d48 ["_law_pot_here", "_law_edges"] [] := D48.bindsN fun _ _ _ _ _ _ us hl => match us, hl with | [_, _], _ => rfl
  have b49 : Binds K d49 ["_law_pot_here", "_law_shape"] [] := D49.bindsN fun _ _ _ _ _ _ us hl => match us, hl with | [_, _], _ => rfl
  have b50 : Binds K d50 ["_law_mapping_here", "_law_value"] [] := D50.bindsN fun _ _ _ _ _ _ us hl => match us, hl with | [_, _], _ => rfl
  have b51 : Binds K d51 ["_law_mapping_here"] [] := D51.bindsN fun _ _ _ _ _ _ us hl => match us, hl with | [_], _ => rfl
  have b52 : Binds K d52 ["_law_row", "_law_value"] [] := D52.bindsN fun _ _ _ _ _ _ us hl => match us, hl with | [_, _], _ => rfl
  have b53 : Binds K d53 ["_law_words"] [] := D53.bindsN fun _ _ _ _ _ _ us hl => match us, hl with | [_], _ => rfl
  have b54 : Binds K d54 ["_law_row"] [] := D54.bindsN fun _ _ _ _ _ _ us hl => match us, hl with | [_], _ => rfl
  have b55 : Binds K d55 ["_law_pieces_here", "_law_row"] [] := D55.bindsN fun _ _ _ _ _ _ us hl => match us, hl with | [_, _], _ => rfl
  have b56 : Binds K d56 ["_law_made", "_law_row"] [] := D56.bindsN fun _ _ _ _ _ _ us hl => match us, hl with | [_, _], _ => rfl
  have b57 : Binds K d57 ["_law_pot_here"] [] := D57.bindsN fun _ _ _ _ _ _ us hl => match us, hl with | [_], _ => rfl
  obtain ⟨e3, v3, bFull⟩ := D18.binds1 (ps := ["self", "exceptions", "rest"]) 3 2 (by simp [DefZ.dvs, z18]) (by simp [DefZ.dvs, z18]) fun T kV doc pm an cdv ct us its hl hi => match us, hl, its, hi with | [_, _, _], _, [_, _], _ => ⟨_, rfl, rfl⟩
  have w3 : e3 = [] := by
    cases v3
    rfl
  subst w3
  have bNone := D18.binds1 (ps := ["self", "exceptions", "rest"]) 1 0 (by simp [DefZ.dvs, z18]) (by simp [DefZ.dvs, z18]) fun T kV doc pm an cdv ct us its hl hi => match us, hl, its, hi with | [_], _, [_, _], _ => ⟨_, rfl, rfl⟩
  have k0 : KBn K d0 ["self", "value"] 2 [] (fun us _ => us) (fun us _ => us) := D0.kbn 2 (fun us _ => us) (fun r _ => r) fun _ _ _ _ _ _ us ws hl hw => match us, hl, ws, hw with | [_, _], _, [], _ => rfl
  have k1 : KBn K d1 ["self", "position"] 2 [] (fun us _ => us) (fun us _ => us) := D1.kbn 2 (fun us _ => us) (fun r _ => r) fun _ _ _ _ _ _ us ws hl hw => match us, hl, ws, hw with | [_, _], _, [], _ => rfl
  have e := hfa.symm.trans (gl "law" (by decide +kernel))
  cases e
  have b := FunD.bindsA (ps := ["_law_script"]) D58 fun _ _ _ _ _ _ us hl => match us, hl with | [_], _ => rfl
  refine ⟨d58, fun s v => b s [v] rfl, fun base _ _ => ?_⟩
  have hT : T.TMc K (gT K) := ⟨cls_ok (fa _ (by simp [fas] : Fa.cls "TextMap" ∈ fas)), noat_ok (fa _ (by simp [fas] : Fa.noat "TextMap" "_exceptions" ∈ fas)), noat_ok (fa _ (by simp [fas] : Fa.noat "TextMap" "_rest" ∈ fas))⟩
  have hN : NMc K (gN K) := ⟨cls_ok (fa _ (by simp [fas] : Fa.cls "NumberMap" ∈ fas)), noat_ok (fa _ (by simp [fas] : Fa.noat "NumberMap" "_pieces" ∈ fas))⟩
  have oT := tc_at c.tt hT.cl
  have oN := tc_at c.tn hN.cl
  have hlen := int_ok X G (fa _ (by simp [fas] : Fa.int "TEXT_LENGTH" 12 ∈ fas))
  have mU := meth_ok (fa _ (by simp [fas] : Fa.meth "TextMap" "_usual" ∈ fas))
  have mRt := meth_ok (fa _ (by simp [fas] : Fa.meth "TextMap" "_result" ∈ fas))
  have mAt := meth_ok (fa _ (by simp [fas] : Fa.meth "TextMap" "at" ∈ fas))
  have mE := meth_ok (fa _ (by simp [fas] : Fa.meth "TextMap" "exceptions" ∈ fas))
  have mCt := meth_ok (fa _ (by simp [fas] : Fa.meth "TextMap" "_content" ∈ fas))
  have mR := meth_ok (fa _ (by simp [fas] : Fa.meth "NumberMap" "_result" ∈ fas))
  have mA := meth_ok (fa _ (by simp [fas] : Fa.meth "NumberMap" "at" ∈ fas))
  have mP := meth_ok (fa _ (by simp [fas] : Fa.meth "NumberMap" "pieces" ∈ fas))
  have mC := meth_ok (fa _ (by simp [fas] : Fa.meth "NumberMap" "_content" ∈ fas))
  have mThT := meth_ok (fa _ (by simp [fas] : Fa.meth "TextMap" "then" ∈ fas))
  have mThN := meth_ok (fa _ (by simp [fas] : Fa.meth "NumberMap" "then" ∈ fas))
  have mFoT := meth_ok (fa _ (by simp [fas] : Fa.meth "TextMap" "_followed" ∈ fas))
  have mFoN := meth_ok (fa _ (by simp [fas] : Fa.meth "NumberMap" "_followed" ∈ fas))
  have kT := mkr_ok (fa _ (by simp [fas] : Fa.mkr "TextMap" ∈ fas))
  have kN := mkr_ok (fa _ (by simp [fas] : Fa.mkr "NumberMap" ∈ fas))
  have hK : noMods K = true := c.ot
  obtain ⟨eoN, rsN, rfN⟩ := eq_at c.eN
  obtain ⟨eoT, rsT, rfT⟩ := eq_at c.eT
  have mM : mg "Map" = some (.ref (gM K)) := gl _ (by decide +kernel)
  have TPf : TxtP K mg := ⟨fr _ (by decide +kernel), fr _ (by decide +kernel), fr _ (by decide +kernel), fr _ (by decide +kernel), fr _ (by decide +kernel)⟩
  have TWf : TW mg := ⟨fr _ (by decide +kernel), fr _ (by decide +kernel), fr _ (by decide +kernel)⟩
  have TIf : T.TI12 mg := ⟨fr _ (by decide +kernel), fr _ (by decide +kernel), fr _ (by decide +kernel)⟩
  have TSf : TS3 mg := ⟨fr _ (by decide +kernel), fr _ (by decide +kernel), fr _ (by decide +kernel)⟩
  have TRf : TR3 mg (gM K) := ⟨fr _ (by decide +kernel), mM, fr _ (by decide +kernel), fr _ (by decide +kernel)⟩
  have T0f : TT0 mg := ⟨fr _ (by decide +kernel), trivial, fr _ (by decide +kernel)⟩
  have XV : XcO P w K mg base (gV K) _ d0 "InvalidValue" "value" := xo_at c.xv rfl (gl _ (by decide +kernel)) (ok_initIV D0) k0
  have XM : XcO P w K mg base (gI K) _ d1 "InvalidMap" "position" := xo_at c.xi rfl (gl _ (by decide +kernel)) (ok_initIM D1) k1
  have NU : Kn P w K mg base 1 "is_number" _ d2 _ (spIsNumber K) := ⟨ok_is_number D2 TWf (fr _ (by decide +kernel)) (fr _ (by decide +kernel)), b2, gl _ (by decide +kernel), D2.kp⟩
  have WO : Kn P w K mg base 1 "is_word" _ d3 _ (spIsWord K) := ⟨ok_is_word D3 TWf, b3, gl _ (by decide +kernel), D3.kp⟩
  have KI : Kn P w K mg base 1 "is_kind" _ d4 _ (spIsKind K) := ⟨ok_is_kind D4 TWf, b4, gl _ (by decide +kernel), D4.kp⟩
  have KN : Kn P w K mg base 1 "is_kind" _ d4 _ (spIsKindN K) := ⟨ok_is_kindN D4 TWf, b4, gl _ (by decide +kernel), D4.kp⟩
  have VA : Kn P w K mg base 2 "is_value" _ d5 _ (spIsValue K) := ⟨ok_is_value D5 ⟨NU, WO, KI, kit_ty (show kitB "str" "str" = some true by decide +kernel), hlen⟩, b5, gl _ (by decide +kernel), D5.kp⟩
  have VN : Kn P w K mg base 2 "is_value" _ d5 _ (spIsValN K) := ⟨ok_is_valN D5 KN NU, b5, gl _ (by decide +kernel), D5.kp⟩
  have ST : Kn P w K mg base 2 "is_stretch" _ d6 _ spStretch := ⟨ok_stretch D6 TWf NU, b6, gl _ (by decide +kernel), D6.kp⟩
  have WH : Kn P w K mg base 1 "_normal_what" _ d35 _ spWhat := ⟨ok_what D35, b35, gl _ (by decide +kernel), D35.kp⟩
  have TK : Kn P w K mg base 1 "_taken" _ d37 _ spTaken := ⟨ok_taken D37, b37, gl _ (by decide +kernel), D37.kp⟩
  have DE : Kn P w K mg base 2 "_described" _ d36 _ spDescr := ⟨ok_described D36 TK, b36, gl _ (by decide +kernel), D36.kp⟩
  have IP : Kn P w K mg base 3 "_is_piece" _ d33 _ spPiece := ⟨ok_piece D33 TWf (fr _ (by decide +kernel)) ST NU, b33, gl _ (by decide +kernel), D33.kp⟩
  have NP : Kn P w K mg base 3 "_normal_pieces" _ d34 _ spPieces := ⟨ok_pieces D34 (fr _ (by decide +kernel)) WH DE, b34, gl _ (by decide +kernel), D34.kp⟩
  have PLC : Kn P w K mg base 1 "_place_of" _ d38 _ spPlace := ⟨ok_place D38 (fr _ (by decide +kernel)), b38, gl _ (by decide +kernel), D38.kp⟩
  have NI := ok_ninit (P := P) (w := w) (mg := mg) (base := base) D13 TWf (fr _ (by decide +kernel)) (fr _ (by decide +kernel)) (fr _ (by decide +kernel)) hN IP NP
  have MN : MkN P w K mg base (gN K) _ d13 := ⟨kN, NI, b13, gl _ (by decide +kernel)⟩
  have GR := ok_result (P := P) (w := w) (mg := mg) (base := base) D16 hN TK PLC
  have GN := ok_at_n (P := P) (w := w) (mg := mg) (base := base) D8 hN oN VN GR b16 mR
  have GP := ok_npieces (P := P) (w := w) (mg := mg) (base := base) D14 hN (fr _ (by decide +kernel))
  have GC := ok_content (P := P) (w := w) (mg := mg) (base := base) D17 hN
  have GUt := T.ok_usual (P := P) (w := w) (mg := mg) (base := base) D30 hT
  have GRt := T.ok_result (P := P) (w := w) (mg := mg) (base := base) D31 hT GUt b30 mU
  have GEt := T.ok_exceptions (P := P) (w := w) (mg := mg) (base := base) D28 hT
  have GCt := T.ok_content (P := P) (w := w) (mg := mg) (base := base) D32 hT
  have GWt := T.ok_at_w (P := P) (w := w) (mg := mg) (base := base) D11 hT oT VA GRt b31 mRt XV
  have MT : T.MkT P w K mg base (gT K) _ d18 := ⟨kT, T.ok_init D18 TIf hT VA GUt b30 mU XM.x XM.i XM.t XM.m XM.g XM.b, bFull, bNone, gl _ (by decide +kernel)⟩
  have EN : EqF P w K mg base (gN K) (gM K) (gT K) _ d9 := ⟨eoN, ok_meq D9 hN oN oT (fr _ (by decide +kernel)) mM GC b17 mC, b9⟩
  have ET : EqT P w K mg base (gT K) (gM K) (gN K) _ d12 := ⟨eoT, T.ok_meq D12 hT oT oN (fr _ (by decide +kernel)) mM GCt b32 mCt, b12⟩
  have RN : ReF P w K mg base (gN K) _ d15 := ⟨rsN, rfN, ok_nrepr D15 hN (fr _ (by decide +kernel)) hK, b15⟩
  have RT : ReT P w K mg base (gT K) _ d29 := ⟨rsT, rfT, T.ok_repr D29 hT hK, b29⟩
  have PR : PrF P w K mg base (gT K) _ _ d20 "rest" (T.spRest (gT K)) := ⟨prB_ok c.pr, T.ok_rest D20 hT, b20⟩
  have PKt : PrF P w K mg base (gT K) _ _ d10 "kind" (T.spKind (gT K)) := ⟨prB_ok c.pk, T.ok_kind D10 oT, b10⟩
  have PKn : PrF P w K mg base (gN K) _ _ d7 "kind" (spKind (gN K)) := ⟨prB_ok c.pn, ok_kind D7 oN, b7⟩
  have KN' : PrF P w K mg base (gN K) _ _ d7 "kind" (spKd (gN K) "number") := PKn
  have KT' : PrF P w K mg base (gT K) _ _ d10 "kind" (spKd (gT K) "text") := PKt
  have S1 : CMk6 P w K mg base (gT K) (.type "type") "same" _ _ d19 ["cls"] (T.spSame (gT K)) := ⟨crB_ok c.ct, cmB_ok c.ms, FnOk_up (T.ok_same D19 MT) (by decide), b19⟩
  have S2 : CMk6 P w K mg base (gN K) (.type "type") "same" _ _ d22 ["cls"] (spSame (gN K)) := ⟨crB_ok c.cn, cmB_ok c.ns, ok_nsame D22 MN, b22⟩
  have C1 : CMk6 P w K mg base (gT K) (.type "type") "constant_map" _ _ d21 ["cls", "value"] (T.spConst (gT K)) := ⟨crB_ok c.ct, cmB_ok c.mc, FnOk_up (T.ok_constant D21 MT VA XV) (by decide), b21⟩
  have C2 : CMk6 P w K mg base (gN K) (.type "type") "constant_map" _ _ d23 ["cls", "value"] (spConst (gN K)) := ⟨crB_ok c.cn, cmB_ok c.nc, ok_nconst D23 MN NU, b23⟩
  have IMn : Kn P w K mg base 3 "is_map" _ d40 _ (spIsMap (gN K) "number") := ⟨ok_ismap D40 (fr _ (by decide +kernel)) mM oN KN', b40, gl _ (by decide +kernel), D40.kp⟩
  have IMt : Kn P w K mg base 3 "is_map" _ d40 _ (spIsMap (gT K) "text") := ⟨ok_ismap D40 (fr _ (by decide +kernel)) mM oT KT', b40, gl _ (by decide +kernel), D40.kp⟩
  have CHn : Kn P w K mg base 4 "check_map" _ d41 _ (spChkMap (gN K) "number") := ⟨ok_chkmap D41 IMn, b41, gl _ (by decide +kernel), D41.kp⟩
  have CHt : Kn P w K mg base 4 "check_map" _ d41 _ (spChkMap (gT K) "text") := ⟨ok_chkmap D41 IMt, b41, gl _ (by decide +kernel), D41.kp⟩
  have PLO : Kn P w K mg base 1 "_place_of" _ d38 _ spPlaceO := ⟨FnOk.or (ok_place D38 (fr _ (by decide +kernel))) (ok_place0 D38), b38, gl _ (by decide +kernel), D38.kp⟩
  have WI : Kn P w K mg base 2 "pieces_within" _ d39 _ spWithinP := ⟨ok_withinP D39 PLO, b39, gl _ (by decide +kernel), D39.kp⟩
  have NF := ok_followN (P := P) (w := w) (mg := mg) (base := base) D26 hN WI GR b16 mR MN
  have GRF := T.ok_resultF (P := P) (w := w) (mg := mg) (base := base) D31 hT GUt b30 mU
  have TF := T.ok_followT (P := P) (w := w) (mg := mg) (base := base) D27 hT GEt b28 mE GRF b31 mRt MT
  have THn := ok_then (P := P) (w := w) (mg := mg) (base := base) D24 oN CHn NF b26 mFoN
  have THt := ok_then (P := P) (w := w) (mg := mg) (base := base) D25 oT CHt (FnOk_up TF (by decide)) b27 mFoT
  have PO : Kn P w K mg base 1 "_law_pot" _ d42 _ (spPot K) := ⟨ok_pot D42 TPf, b42, gl _ (by decide +kernel), D42.kp⟩
  have DR : Kn P w K mg base 1 "_law_draw" _ d43 _ spDraw := ⟨ok_draw D43 TPf, b43, gl _ (by decide +kernel), D43.kp⟩
  have PL : Kn P w K mg base 2 "_law_pick" _ d44 _ (spPick K) := ⟨ok_pick D44 TPf DR.f DR.b DR.m DR.k, b44, gl _ (by decide +kernel), D44.kp⟩
  have PS_ : Kn P w K mg base 2 "_law_pick" _ d44 _ spPickS := ⟨ok_pickS D44 TPf DR, b44, gl _ (by decide +kernel), D44.kp⟩
  have SM : Kn P w K mg base 2 "_law_some" _ d45 _ spSome := ⟨ok_some D45 DR, b45, gl _ (by decide +kernel), D45.kp⟩
  have LM : Kn P w K mg base 3 "_law_limit" _ d46 _ spLimit := ⟨ok_limit D46 DR PL, b46, gl _ (by decide +kernel), D46.kp⟩
  have WD : Kn P w K mg base 3 "_law_word" _ d47 _ spWord := ⟨ok_word D47 TPf (fr _ (by decide +kernel)) DR PL PS_, b47, gl _ (by decide +kernel), D47.kp⟩
  have PC : Kn P w K mg base 4 "_law_pieces" _ d48 _ spPcs := ⟨ok_pcs D48 PL LM, b48, gl _ (by decide +kernel), D48.kp⟩
  have M1 : Kn P w K mg base 5 "_law_mapping" _ d49 _ spMapN := ⟨ok_mapN D49 TSf DR PL LM PC, b49, gl _ (by decide +kernel), D49.kp⟩
  have M2 : Kn P w K mg base 4 "_law_mapping" _ d49 _ spMapTn := ⟨ok_mapTn D49 PL WD SM, b49, gl _ (by decide +kernel), D49.kp⟩
  have L1 : Kn P w K mg base 1 "_law_at" _ d50 _ spLatN := ⟨ok_latN D50, b50, gl _ (by decide +kernel), D50.kp⟩
  have L2' : Kn P w K mg base 1 "_law_at" _ d50 _ spLatT := ⟨ok_latT D50 (fr _ (by decide +kernel)), b50, gl _ (by decide +kernel), D50.kp⟩
  have D1' : Kn P w K mg base 6 "_law_made_map" _ d51 _ (spMadeN (gN K)) := ⟨ok_madeN D51 MN, b51, gl _ (by decide +kernel), D51.kp⟩
  have D2' : Kn P w K mg base 5 "_law_made_map" _ d51 _ (spMadeT (gT K)) := ⟨ok_madeT D51 MT (fr _ (by decide +kernel)), b51, gl _ (by decide +kernel), D51.kp⟩
  have AL1 : Kn P w K mg base 2 "_law_all_at" _ d52 _ spAllN2 := ⟨(ok_allN D52 L1).imp fun _ _ _ _ => all2, b52, gl _ (by decide +kernel), D52.kp⟩
  have AL2 : Kn P w K mg base 2 "_law_all_at" _ d52 _ spAllT2 := ⟨(ok_allT D52 L2').imp fun _ _ _ _ => allT2, b52, gl _ (by decide +kernel), D52.kp⟩
  have FR : Kn P w K mg base 1 "_law_far" _ d53 _ spFar := ⟨ok_far D53 TSf, b53, gl _ (by decide +kernel), D53.kp⟩
  have Q1 : Kn P w K mg base 1 "_law_points" _ d54 _ spPts4N := ⟨ok_pts4N D54 TSf, b54, gl _ (by decide +kernel), D54.kp⟩
  have Q2 : Kn P w K mg base 2 "_law_points" _ d54 _ spPts4T := ⟨ok_pts4T D54 TSf (fr _ (by decide +kernel)) FR, b54, gl _ (by decide +kernel), D54.kp⟩
  have PD : KnG P w K mg base 3 "_law_pieces_told" _ d55 _ spPtold := ⟨ok_ptold D55 (fr _ (by decide +kernel)) (fr _ (by decide +kernel)) hK Q1 AL1, b55, gl _ (by decide +kernel), D55.kp⟩
  have IR1 : KnG P w K mg base 4 "_law_is_row" _ d56 _ (spIsRowN (gN K)) := ⟨ok_isRowN D56 hN oN TRf Q1 AL1 ⟨mA, GN, b8⟩ PKn PD GP b14 mP, b56, gl _ (by decide +kernel), D56.kp⟩
  have IR2 : KnG P w K mg base 4 "_law_is_row" _ d56 _ (spIsRowT (gT K)) := ⟨(ok_isRowT D56 hT oT TRf Q2 AL2 ⟨mAt, GWt, b11⟩ PKt FR GEt b28 mE PR).g, b56, gl _ (by decide +kernel), D56.kp⟩
  let Z1 : KdP (kdN (gN K)) P w K mg base :=
    { cl := hN.cl, fThen := _, dThen := _, mThen := mThN, gThen := THn.imp fun _ _ _ _ => gThenN, bThen := b24,
      fAt := _, dAt := _, mAt := mA, gAt := GN.imp fun _ _ _ _ => gAtN, bAt := b8,
      fEq := _, dEq := _, oEq := EN.o, gEq := EN.g.imp fun _ _ _ _ => gEqN, bEq := EN.b,
      fRe := _, dRe := _, sRe := RN.s, nRe := RN.fn, gRe := FnG_imp (fun _ _ _ _ => gReprN) RN.g, bRe := RN.b,
      fMp := _, dMp := _, mp := Kn_imp (fun _ _ _ _ => gMapN) (Nat.le_refl _) M1, fMd := _, dMd := _, md := Kn_imp (fun _ _ _ _ => gMadeN) (Nat.le_refl _) D1', fIr := _, dIr := _, ir := KnG_imp (fun _ _ _ _ => gRowN) IR1,
      fPt := _, dPt := _, pt := Kn_imp (fun _ _ _ _ => gPtsN) (by decide) Q1, fAl := _, dAl := _, al := Kn_imp (fun _ _ _ _ => gAllN) (Nat.le_refl _) AL1 }
  let Z2 : KdP (kdT (gT K)) P w K mg base :=
    { cl := hT.cl, fThen := _, dThen := _, mThen := mThT, gThen := THt.imp fun _ _ _ _ => gThenT, bThen := b25,
      fAt := _, dAt := _, mAt := mAt, gAt := GWt.imp fun _ _ _ _ => gAtT, bAt := b11,
      fEq := _, dEq := _, oEq := ET.o, gEq := ET.g.imp fun _ _ _ _ => gEqT, bEq := ET.b,
      fRe := _, dRe := _, sRe := RT.s, nRe := RT.fn, gRe := FnG_imp (fun _ _ _ _ => gReprT) RT.g, bRe := RT.b,
      fMp := _, dMp := _, mp := Kn_imp (fun _ _ _ _ => gMapT) (by decide) M2, fMd := _, dMd := _, md := Kn_imp (fun _ _ _ _ => gMadeT) (by decide) D2', fIr := _, dIr := _, ir := KnG_imp (fun _ _ _ _ => gRowT) IR2,
      fPt := _, dPt := _, pt := Kn_imp (fun _ _ _ _ => gPtsT) (Nat.le_refl _) Q2, fAl := _, dAl := _, al := Kn_imp (fun _ _ _ _ => gAllT) (Nat.le_refl _) AL2 }
  have RI : KnG P w K mg base 8 "_law_right" _ d57 _ spTurn := ⟨ok_right D57 (fr _ (by decide +kernel)) (fr _ (by decide +kernel)) DR PL (gl _ (by decide +kernel)) (gl _ (by decide +kernel)) Z1 Z2 S1 S2 C1 C2, b57, gl _ (by decide +kernel), D57.kp⟩
  exact ok_law9 D58 T0f (fr _ (by decide +kernel)) (fr _ (by decide +kernel)) (fr _ (by decide +kernel)) PO RI
end C4
open PySem PySem.W PySem.Calls PyProof.Rows
theorem PySem.Challenge.cw_keptedits_k14_whole_one_map_then_another_holds : PySem.Challenge.rw_keptedits_k14_whole_one_map_then_another.Holds := by
  w_on; o_law
  refine HandSHeadRun.head_any (r := OpenLaw.row PySem.Challenge.rw_keptedits_k14_whole_one_map_then_another) (q := view (OpenLaw.row PySem.Challenge.rw_keptedits_k14_whole_one_map_then_another).prog [67]) (H := C4.hk) (ob := C4.ob) (M := 9000) (loose := C4.loose) (d := HandSHeadRun.topDef (OpenLaw.row PySem.Challenge.rw_keptedits_k14_whole_one_map_then_another).prog 67) (kwd := []) C4.ob_eq
    (by kernel_rfl) (fun s => by kernel_rfl) C4.run (by kernel_rfl) (by kernel_rfl) (by kernel_rfl) (by rfl) (by first | assumption | decide +kernel) (by decide +kernel) ⟨rfl, rfl, rfl, rfl, rfl, by decide +kernel⟩ ?hw ?hc
  case hw => w_witness2
  case hc =>
    refine L2.walk_ofG (l := PySem.Challenge.rw_keptedits_k14_whole_one_map_then_another) (n := 63) (k := 9) (x := "_law_script") (CX := fun _ => L2.CX0) rfl (by decide) (by kernel_rfl) ⟨rfl, by decide, by decide⟩ ?F (fun _ _ _ _ _ z => z)
    intro w mg fa h Y G hmg0
    obtain ⟨K, KX, c⟩ := Y
    have hmg : mg ("law" : PySem.Str) = some (.ref fa) := by
      have e : (HandSHeadRun.topDef (OpenLaw.row PySem.Challenge.rw_keptedits_k14_whole_one_map_then_another).prog 67).name = ("law" : PySem.Str) := by kernel_rfl
      rw [← e]
      exact hmg0
    obtain ⟨fd, hb, hF⟩ := C4.facts (P := (PySem.Challenge.rw_keptedits_k14_whole_one_map_then_another).prog) (w := w) KX G hmg c
    exact ⟨K, fd, C4.spLaw K, KX, hb, fun H a ns hl _ hS => ⟨a, ns, rfl, hS, hl, fun _ => rfl⟩, hF⟩

end Pk14z
