import PyProof.Rows.All
import Wide.All
import OpenK.AllK
import Wide.FinOn
import KE.KStateDown
import Lean
import KE.KIsAll
import KE.KTryMore
import KE.KExcInit
import HandS.ForMost
import HandS.Exc
import HandS.ExcOwn
import HandS.ExcInit
import HandS.ExcIs
import HandS.ExcField
import HandS.IsInst
import HandS.Defaults
import HandS.MakeKw
import KE.KExcIs
import HandS.HeadHook2
import HandS.Set
import HandS.SetFor
import HandS.Strs
import HandS.Walk
import HandS.Iter
import PySem.Challenge.RW_keptedits_k12_whole_maps_of_texts
import HandS.Text
import HandS.Steps
import HandS.StrMore
import HandS.Dict
import HandS.DictComp
import HandS.More
import HandS.DictEq
import HandS.DeepEq
import HandS.OwnEq
import HandS.Property
import HandS.ClsMeth
import HandS.Star
import KE.KFmtOwn
import HandS.FStr
import PyProof.StrLawsRepr
import HandS.Style
import HandS.DictSubView
import HandS.HotCalls
import HandS.Head0
import HandS.Head1
import HandS.Head2
import HandS.HeadEnd
import HandS.HeadHook1
import HandS.HeadHook3
set_option Elab.async false
set_option linter.all false
set_option maxRecDepth 100000
section PE1
set_option maxHeartbeats 4000000
/-! Own exception classes over any built-in base, their objects held as values: made by place or by name, their fields, isinstance. -/
namespace PySem
namespace EXV
open PySem.W PySem.Calls PyProof.Rows PySem.HandSPX Builtin Builtin.ObjectAttr

/-- what is asked of the built-in base B -/
structure BaseX (B newId initId : String) (tl : List Value) : Prop where
  F : ExcBaseFacts B newId initId tl
  S : StoreFacts B tl "object.__setattr__" "object"
theorem base_VE : BaseX "ValueError" "ValueError.__new__" "ValueError.__init__" [.type "ValueError", .type "Exception", .type "BaseException", .type "object"] := ⟨F.excBase_ValueError, F.store_ValueError⟩
theorem base_RE : BaseX "RuntimeError" "RuntimeError.__new__" "RuntimeError.__init__" [.type "RuntimeError", .type "Exception", .type "BaseException", .type "object"] := ⟨F.excBase_RuntimeError, F.store_RuntimeError⟩
theorem base_LE : BaseX "LookupError" "LookupError.__new__" "LookupError.__init__" [.type "LookupError", .type "Exception", .type "BaseException", .type "object"] := ⟨F.excBase_LookupError, F.store_LookupError⟩
theorem base_AE : BaseX "ArithmeticError" "ArithmeticError.__new__" "ArithmeticError.__init__" [.type "ArithmeticError", .type "Exception", .type "BaseException", .type "object"] := ⟨F.excBase_ArithmeticError, F.store_ArithmeticError⟩
theorem taker_none {K : W.Frag} {C : Addr} {f : Str} (h : W.findIn K (.ref C) f = some none) : W.takerIn K C f = some none := by
  unfold W.takerIn
  rw [h] <;> rfl
theorem over_of {K : W.Frag} {C : Addr} {cd : ClassData} {bm tl : List Value} (hcd : W.clsIn K C = some cd) (hm : cd.mro = .ref C :: bm) (ht : W.excTail tl bm = true) : W.excOver K C tl = true := by
  unfold W.excOver
  rw [hcd, Option.any_some, hm]
  simp [ht]
section
variable {prog : Program} {w : World} {A : Around} {R : Result → Shared → Prop} {hp : Heap} {g : Array GenState} {d : Drawn} {t : Nat} {os : OsState} {tl : List Value} {B : String}
/-- self.f = v on an exception that has no dict as yet -/
theorem osa_new {K : W.Frag} {name : Str} {tk : Tok} {v : Value} {x C : Addr} {fv : Array Value} {cd : ClassData} {bm : List Value} (SF : StoreFacts B tl "object.__setattr__" "object")
    (X : K.In hp) (hx : hp.get? x = some { cls := .ref C, data := .fields fv }) (hcd : W.clsIn K C = some cd) (hm : cd.mro = .ref C :: bm) (ht : W.excTail tl bm = true) (hh : cd.hasDict = true) (ha : W.findIn K (.ref C) name = some none)
    (hq : ∀ h' tk' dx, (∀ b o, b ≠ x → hp.get? b = some o → h'.get? b = some o) → hp.objs.size ≤ dx → dx ≠ x → h'.get? x = some { cls := .ref C, dict := some dx, data := .fields fv } →
      h'.Ns1 dx (fun y => if y = name then some v else none) → R (.ok (.ret .none)) ⟨h', g, d, tk', os⟩) :
    codeAny (model prog w) A (.call (.builtin "object.__setattr__") ⟨[.ref x, .str name tk, v], []⟩) R ⟨hp, g, d, t, os⟩ := by
  have hxs : x ≠ hp.objs.size := Nat.ne_of_lt (Heap.lt_size hx)
  have hcls : W.Looks (model prog w) hp (classData C) cd := W.looks_clsIn X hcd
  refine osa_openX (s := ⟨hp, g, d, t, os⟩) (ox := { cls := .ref C, data := .fields fv }) (od := none) SF X ⟨hx, rfl, rfl, trivial⟩ (over_of hcd hm ht) (taker_none ha) fun b => ?_
  obtain ⟨nm, bs, mro, ns, qn, hd, sn, sb, ab, col, del⟩ := cd
  dsimp only at hh
  subst hh
  unfold storeInOwnDict ownDictForStores
  repeat (first | with_reducible refine HandSPX.store_in_new ?_ ?_ | with_reducible refine wpAny_loadPart_at hx ?_ | with_reducible refine hcls.at ?_ | wp_step)
  · exact ⟨_, #[], _, (Heap.get?_update_ne _ _ _ _ hxs.symm).trans (Heap.get?_push_at rfl rfl), rfl, fun e he => absurd he (by simp), fun _ => rfl⟩
  · intro h' tk' hn' hs
    have old : ∀ b o, b ≠ x → hp.get? b = some o → h'.get? b = some o := fun b o hb ho =>
      (hs.2 b (Nat.ne_of_lt (Heap.lt_size ho))).trans ((Heap.get?_update_ne _ _ _ _ hb).trans (Heap.get?_push_of_some _ ho))
    exact hq h' tk' hp.objs.size old (Nat.le_refl _) hxs.symm ((hs.2 x hxs).trans (Heap.get?_update_self _ (Heap.get?_push_of_some _ hx) rfl)) hn'
/-- a further field of an exception that has its dict -/
theorem osa_more {K : W.Frag} {name : Str} {tk : Tok} {v : Value} {x C dx : Addr} {fv : Array Value} {cd : ClassData} {bm : List Value} {m0 : Str → Option Value} {nl : List Str} (SF : StoreFacts B tl "object.__setattr__" "object")
    (X : K.In hp) (hx : hp.get? x = some { cls := .ref C, dict := some dx, data := .fields fv }) (hns : hp.Ns1 dx m0) (hw : Within m0 nl) (hz : nl.length ≤ 1000) (hcd : W.clsIn K C = some cd) (hm : cd.mro = .ref C :: bm) (ht : W.excTail tl bm = true) (hh : cd.hasDict = true)
    (ha : W.findIn K (.ref C) name = some none)
    (hq : ∀ h' tk', (∀ b o, b ≠ dx → hp.get? b = some o → h'.get? b = some o) → h'.Ns1 dx (fun y => if y = name then some v else m0 y) → R (.ok (.ret .none)) ⟨h', g, d, tk', os⟩) :
    codeAny (model prog w) A (.call (.builtin "object.__setattr__") ⟨[.ref x, .str name tk, v], []⟩) R ⟨hp, g, d, t, os⟩ := by
  obtain ⟨oD, _, _, hoD, _, _⟩ := hns.count hw
  have hcls : W.Looks (model prog w) hp (classData C) cd := W.looks_clsIn X hcd
  refine osa_openX (s := ⟨hp, g, d, t, os⟩) (ox := { cls := .ref C, dict := some dx, data := .fields fv }) (od := some oD) SF X ⟨hx, rfl, rfl, hoD⟩ (over_of hcd hm ht) (taker_none ha) fun b => ?_
  obtain ⟨nm, bs, mro, ns, qn, hd, sn, sb, ab, col, del⟩ := cd
  dsimp only at hh
  subst hh
  unfold storeInOwnDict ownDictForStores
  repeat (first | with_reducible refine OEX.store_in_old hns hw hz ?_ | with_reducible refine wpAny_loadPart_at hx ?_ | with_reducible refine hcls.at ?_ | wp_step)
  exact fun h' tk' hn' hs => hq h' tk' (fun b o hb ho => (hs.2 b hb).trans ho) hn'
end

/-! ### C(.., k = v): BaseException.__new__, then the own __init__, by names too -/
section
variable {M : Model} {A : Around} {E : Value → Shared → Prop} {h : Heap} {g : Array GenState} {d : Drawn} {t : Nat} {os : OsState}
variable {nm q : Str} {C N : Addr} {bs bm bmB : List Value} {hdct : Bool} {sn : List Str} {sub : List Value} {ab : Bool} {col : Option Bool} {dd : Option Addr} {k0 k1 k2 k3 k5 : Option Value} {B newId initId : String}
theorem check_new_kw (F : ExcBaseFacts B newId initId bmB) (hT : ∀ X : String, bm.contains (.type X) = bmB.contains (.type X)) {rest : List Value} {kw : List (Str × Value)} {Q : Unit → Shared → Prop}
    (hC : h.get? C = some (excClassObj nm q C N bs bm hdct sn sub ab col dd k0 k1 k2 k3 k5 newId)) (hq : Q () ⟨h, g, d, t, os⟩) : wpAny M A (checkBuiltinCall newId ⟨.ref C :: rest, kw⟩) Q E ⟨h, g, d, t, os⟩ := by
  have hcont : (Value.ref C :: bm).contains (.type B) = true := by rw [List.contains_cons, hT, F.hasB, Bool.or_true]
  have hstar := F.noStar
  simp only [checkBuiltinCall, F.newKind, F.newSplit, F.newRow]
  repeat (first | refine wpAny_loadPart_at hC ?_ | (refine wpAny_isSubtype_exc hC ?_; rw [hcont]) | refine wpAny_staticBase_exc hC ?_ | refine wpAny_madeBy_exc hC ?_ | simp only [bne_self_eq_false, Bool.false_eq_true, if_false] | wp_step)
  exact hq
end
section
variable {prog : Program} {w : World} {A : Around} {E : Value → Shared → Prop} {R : Result → Shared → Prop} {h : Heap} {g : Array GenState} {d : Drawn} {t : Nat} {os : OsState}
variable {nm q : Str} {C N : Addr} {bs bm bmB : List Value} {hdct : Bool} {sn : List Str} {sub : List Value} {ab : Bool} {col : Option Bool} {dd : Option Addr} {k0 k1 k2 k3 k5 : Option Value} {B newId initId : String}
theorem new_kw (F : ExcBaseFacts B newId initId bmB) (hT : ∀ X : String, bm.contains (.type X) = bmB.contains (.type X)) {rest : List Value} {kw : List (Str × Value)}
    (hC : h.get? C = some (excClassObj nm q C N bs bm hdct sn sub ab col dd k0 k1 k2 k3 k5 newId))
    (hq : R (.ok (.ret (.ref (h.objs.size + 1)))) ⟨(h.push { cls := .type "tuple", data := .seq rest.toArray }).push
      { cls := .ref C, data := .fields #[.ref h.objs.size, .none, .none, .none, .bool false, .none] }, g, d, t, os⟩) (hrest : rest.length ≤ sizeLine) :
    codeAny (model prog w) A (.builtin newId ⟨.ref C :: rest, kw⟩) R ⟨h, g, d, t, os⟩ := by
  have hends := F.ends
  have hcB : (Value.ref C :: bm).contains (.type B) = true := by rw [List.contains_cons, hT, F.hasB, Bool.or_true]
  have hcA : (Value.ref C :: bm).contains (.type "AttributeError") = false := by rw [List.contains_cons, hT, F.noAttr]; rfl
  have hcN : (Value.ref C :: bm).contains (.type "NameError") = false := by rw [List.contains_cons, hT, F.noName]; rfl
  refine codeAny_builtinAt F.entry ?_
  unfold Builtin.«BaseException.__new__»
  refine wpAt_bind ?_
  show wpAt _ _ _ (stack >>= _) _ _ _
  refine wpAt_bind (wpAt_stack fun p below => wpAt_of_wpAny ?_)
  wp_walk
  refine wpAt_of_wpAny ?_
  rw [F.owner]
  repeat (first | with_reducible refine wpAny_madeHere_exc F.canon hC ?_ | with_reducible refine wpAny_loadPart_at hC ?_ | (with_reducible refine wpAny_isSubtype_exc hC ?_; first | rw [hcB] | rw [hcA] | rw [hcN]) | wp_step)
  show R _ _
  rw [Heap.size_push]
  exact hq
theorem type_call_kw (F : ExcBaseFacts B newId initId bmB) (hT : ∀ X : String, bm.contains (.type X) = bmB.contains (.type X)) {rest : List Value} {kw : List (Str × Value)} {fI : Addr} {Q : Fin → Shared → Prop}
    (hC : h.get? C = some (excClassObj nm q C N bs bm hdct sn sub ab col dd k0 k1 k2 k3 k5 newId))
    (hi : W.Looks (model prog w) h (typeLookup (.ref C) "__init__") (some (.ref fI))) (hb : ∀ self, W.Looks (model prog w) h (bindSpecial (.ref fI) self) (.ref fI, [self])) (hrest : rest.length ≤ sizeLine)
    (hq : codeAny (model prog w) A (.call (.ref fI) ⟨.ref (h.objs.size + 1) :: rest, kw⟩)
      (fun r s' => match r with | .ok (.ret v) => v = .none ∧ Q (.done (.ret (.ref (h.objs.size + 1)))) s' | .ok _ => False | .error e => E e s')
      ⟨(h.push (W.kdv_tup rest)).push (excO C h.objs.size), g, d, t, os⟩) :
    wpAny (model prog w) A (Builtin.«type.__call__» ⟨.ref C :: rest, kw⟩) Q E ⟨h, g, d, t, os⟩ := by
  repeat (first | with_reducible refine wpAny_loadPart_at hC ?_ | with_reducible refine wpAny_madeBy_exc hC ?_ | wp_step)
  refine codeAny_call_builtin_code (Code.quiet_builtin _ F.quiet) (check_new_kw F hT hC ?_)
  refine new_kw F hT hC ?_ hrest
  show wpAny _ _ _ _ _ _
  have k : ∀ b o, h.get? b = some o → ((h.push (W.kdv_tup rest)).push (excO C h.objs.size)).get? b = some o := fun b o e => Heap.get?_push_of_some _ (Heap.get?_push_of_some _ e)
  have hC₁ := k _ _ hC
  have hget : ((h.push (W.kdv_tup rest)).push (excO C h.objs.size)).get? (h.objs.size + 1) = some (excO C h.objs.size) := by heap_get
  have hcC : (Value.ref C :: bm).contains (.ref C) = true := by simp
  have i1 := hi.keeps k
  have b1 := (hb (.ref (h.objs.size + 1))).keeps k
  unfold isInstance
  repeat (first | with_reducible refine wpAny_loadPart_at hget ?_ | (with_reducible refine wpAny_isSubtype_exc hC₁ ?_; rw [hcC]) | wp_step)
  show wpAny _ _ (typeLookup (.ref C) _) _ _ _
  refine i1.at ?_
  refine wpAny_holding (wpAny_bind (b1.at ?_))
  refine wpAny_bind (wpAny_call (codeAny_mono hq fun r s' z => ?_))
  rcases r with e | (v | _ | _ | _) <;> first | exact z | exact z.elim | skip
  obtain ⟨rfl, z⟩ := z
  first
    | exact wpAny_pure (wpAny_pure z)
    | (wp_walk; exact z)
theorem call_kw (F : ExcBaseFacts B newId initId bmB) (hT : ∀ X : String, bm.contains (.type X) = bmB.contains (.type X)) {rest : List Value} {kw : List (Str × Value)} {fI : Addr}
    (hC : h.get? C = some (excClassObj nm q C N bs bm hdct sn sub ab col dd k0 k1 k2 k3 k5 newId))
    (hi : W.Looks (model prog w) h (typeLookup (.ref C) "__init__") (some (.ref fI))) (hb : ∀ self, W.Looks (model prog w) h (bindSpecial (.ref fI) self) (.ref fI, [self])) (hrest : rest.length ≤ sizeLine)
    (hq : codeAny (model prog w) (A.under (.builtin "type.__call__" ⟨.ref C :: rest, kw⟩)) (.call (.ref fI) ⟨.ref (h.objs.size + 1) :: rest, kw⟩) (W.InitBack (h.objs.size + 1) R)
      ⟨(h.push (W.kdv_tup rest)).push (excO C h.objs.size), g, d, t, os⟩) :
    codeAny (model prog w) A (.call (.ref C) ⟨rest, kw⟩) R ⟨h, g, d, t, os⟩ := by
  have f1 := tc_lookup
  have f2 := tc_bind (.ref C)
  have hTy : (⟨h, g, d, t, os⟩ : Shared).TypeIs (.ref C) "type" := ⟨_, hC, rfl⟩
  refine codeAny_of_tree ?_
  show wpAny _ _ (callAny (.ref C) _) _ _ _
  repeat (any_goals (first | assumption | with_reducible refine wpAny_loadPart_at hC ?_ | wp_step))
  refine ⟨rfl, ?_⟩
  refine codeAny_call_builtin_at (Code.quiet_builtin _ (by decide +kernel)) entry_typeCall (wpAny_check_type_call_sub hC (type_call_kw F hT hC hi hb hrest ?_))
  refine codeAny_mono hq fun r s' z => ?_
  rcases r with e | (v | _ | _ | _) <;> exact z
end
end EXV
end PySem

end PE1
section PE2
set_option maxHeartbeats 4000000
namespace L2
open PySem PySem.Spec PyProof.Rows
/-- what the written part says of an own exception class -/
structure XC (K : PySem.W.Frag) (C : Addr) : Prop where
  cls : ∃ B newId initId tl nm q N bs bm sn sub ab col dd k0 k1 k2 k3 k5, PySem.EXV.BaseX B newId initId tl ∧ K.lookup C = some (excClassObj nm q C N bs bm true sn sub ab col dd k0 k1 k2 k3 k5 newId) ∧ PySem.W.excTail tl bm = true
  sa : PySem.W.findIn K (.ref C) "__setattr__" = some (some (.builtin "object.__setattr__"))
  exC : PySem.W.subIn K (.ref C) (.type "BaseException") = some true
  tyC : PySem.W.typeIn K (.ref C) = some (.type "type")
  kC : PySem.W.keepIn K (.ref C) = true
  ga : PySem.W.findIn K (.ref C) "__getattribute__" = some (some (.builtin "BaseException.__getattribute__"))
  gg : PySem.W.findIn K (.ref C) "__getattr__" = some none
  hd : PySem.W.hasDictIn K C = true
  ha : PySem.W.findIn K (.ref C) "__class__" = some (some (.builtin "object.__class__"))
  hn : PySem.W.specialIn K (.builtin "object.__class__") "__get__" = some (some (.builtin "getset_descriptor.__get__"))
  ht : PySem.W.takesIn K (.builtin "object.__class__") = some true
  hm : PySem.W.mroIn K C (.type "object") = some true
def xInit (K : PySem.W.Frag) (C : Addr) : Bool :=
  PySem.W.excInitIn K C [.type "ValueError", .type "Exception", .type "BaseException", .type "object"] "ValueError.__new__" || (PySem.W.excInitIn K C [.type "LookupError", .type "Exception", .type "BaseException", .type "object"] "LookupError.__new__" ||
  (PySem.W.excInitIn K C [.type "RuntimeError", .type "Exception", .type "BaseException", .type "object"] "RuntimeError.__new__" || PySem.W.excInitIn K C [.type "ArithmeticError", .type "Exception", .type "BaseException", .type "object"] "ArithmeticError.__new__"))
def xcB (K : PySem.W.Frag) (C : Addr) : Bool :=
  xInit K C && (decide (PySem.W.findIn K (.ref C) "__setattr__" = some (some (.builtin "object.__setattr__"))) && (decide (PySem.W.subIn K (.ref C) (.type "BaseException") = some true) && (decide (PySem.W.typeIn K (.ref C) = some (.type "type")) &&
  (PySem.W.keepIn K (.ref C) && (decide (PySem.W.findIn K (.ref C) "__getattribute__" = some (some (.builtin "BaseException.__getattribute__"))) && (decide (PySem.W.findIn K (.ref C) "__getattr__" = some none) && (PySem.W.hasDictIn K C &&
  (decide (PySem.W.findIn K (.ref C) "__class__" = some (some (.builtin "object.__class__"))) && (decide (PySem.W.specialIn K (.builtin "object.__class__") "__get__" = some (some (.builtin "getset_descriptor.__get__"))) &&
  (decide (PySem.W.takesIn K (.builtin "object.__class__") = some true) && decide (PySem.W.mroIn K C (.type "object") = some true)))))))))))
theorem xInit_one {K : PySem.W.Frag} {C : Addr} {tl : List Value} {newId : String} (q : PySem.W.excInitIn K C tl newId = true) (hd : PySem.W.hasDictIn K C = true) :
    ∃ nm qn N bs bm sn sub ab col dd k0 k1 k2 k3 k5, K.lookup C = some (excClassObj nm qn C N bs bm true sn sub ab col dd k0 k1 k2 k3 k5 newId) ∧ PySem.W.excTail tl bm = true := by
  unfold PySem.W.excInitIn at q
  unfold PySem.W.hasDictIn PySem.W.clsIn at hd
  split at q
  · rename_i dd cd sl ho
    split at q
    · rename_i C' bm k0 k1 k2 k3 n k5 hm hs
      simp only [Bool.and_eq_true, beq_iff_eq, Bool.not_eq_true'] at q
      obtain ⟨⟨⟨rfl, rfl⟩, hdel⟩, ht⟩ := q
      obtain ⟨nm, bs, mro, ns, qn, hdct, sn, sub, ab, col, del⟩ := cd
      dsimp only at hm hdel
      subst hm hdel
      have hsl : sl = #[k0, k1, k2, k3, some (.builtin n), k5] := by
        obtain ⟨l⟩ := sl
        simp only at hs
        rw [hs]
      subst hsl
      rw [ho] at hd
      have hh : hdct = true := hd
      subst hh
      exact ⟨nm, qn, ns, bs, bm, sn, sub, ab, col, dd, k0, k1, k2, k3, k5, ho, ht⟩
    · cases q
  · cases q
theorem xcB_ok {K : PySem.W.Frag} {C : Addr} (h : xcB K C = true) : XC K C := by
  obtain ⟨h0, h⟩ := Bool.and_eq_true_iff.mp h
  obtain ⟨h1, h⟩ := Bool.and_eq_true_iff.mp h
  obtain ⟨h2, h⟩ := Bool.and_eq_true_iff.mp h
  obtain ⟨h3, h⟩ := Bool.and_eq_true_iff.mp h
  obtain ⟨h4, h⟩ := Bool.and_eq_true_iff.mp h
  obtain ⟨h5, h⟩ := Bool.and_eq_true_iff.mp h
  obtain ⟨h6, h⟩ := Bool.and_eq_true_iff.mp h
  obtain ⟨h7, h⟩ := Bool.and_eq_true_iff.mp h
  obtain ⟨h8, h⟩ := Bool.and_eq_true_iff.mp h
  obtain ⟨h9, h⟩ := Bool.and_eq_true_iff.mp h
  obtain ⟨h10, h11⟩ := Bool.and_eq_true_iff.mp h
  refine ⟨?_, of_decide_eq_true h1, of_decide_eq_true h2, of_decide_eq_true h3, h4, of_decide_eq_true h5, of_decide_eq_true h6, h7, of_decide_eq_true h8, of_decide_eq_true h9, of_decide_eq_true h10, of_decide_eq_true h11⟩
  rcases Bool.or_eq_true_iff.mp h0 with q | q
  · obtain ⟨nm, qn, N, bs, bm, sn, sub, ab, col, dd, k0, k1, k2, k3, k5, e, t⟩ := xInit_one q h7
    exact ⟨_, _, _, _, nm, qn, N, bs, bm, sn, sub, ab, col, dd, k0, k1, k2, k3, k5, PySem.EXV.base_VE, e, t⟩
  · rcases Bool.or_eq_true_iff.mp q with q | q
    · obtain ⟨nm, qn, N, bs, bm, sn, sub, ab, col, dd, k0, k1, k2, k3, k5, e, t⟩ := xInit_one q h7
      exact ⟨_, _, _, _, nm, qn, N, bs, bm, sn, sub, ab, col, dd, k0, k1, k2, k3, k5, PySem.EXV.base_LE, e, t⟩
    · rcases Bool.or_eq_true_iff.mp q with q | q
      · obtain ⟨nm, qn, N, bs, bm, sn, sub, ab, col, dd, k0, k1, k2, k3, k5, e, t⟩ := xInit_one q h7
        exact ⟨_, _, _, _, nm, qn, N, bs, bm, sn, sub, ab, col, dd, k0, k1, k2, k3, k5, PySem.EXV.base_RE, e, t⟩
      · obtain ⟨nm, qn, N, bs, bm, sn, sub, ab, col, dd, k0, k1, k2, k3, k5, e, t⟩ := xInit_one q h7
        exact ⟨_, _, _, _, nm, qn, N, bs, bm, sn, sub, ab, col, dd, k0, k1, k2, k3, k5, PySem.EXV.base_AE, e, t⟩

/-! ### an exception object as a value -/
/-- at a: an exception of the class at C with these fields -/
def IsX (H : Hp) (C : Addr) (fs : List (Str × V)) (a : Addr) : Prop := (fs = [] ∧ H a = some (exo a C none)) ∨ ∃ dx, H a = some (exo a C (some dx)) ∧ H dx = some (exd dx fs)
theorem IsX.same {H H' : Hp} {C a : Addr} {fs : List (Str × V)} (s : Same H H') (h : IsX H C fs a) : IsX H' C fs a := by
  rcases h with ⟨e, h⟩ | ⟨dx, h1, h2⟩
  · exact .inl ⟨e, s _ _ h⟩
  · exact .inr ⟨dx, s _ _ h1, s _ _ h2⟩

section
variable {X : Cx} {pins : List (Addr × Obj)} {σ : St} {H : Hp} {s : Shared} {a C dx : Addr} {f : Str} {y : V} {u : Value} {fs : List (Str × V)} {Q : Unit → Shared → Prop} {E : Value → Shared → Prop} {A : Around}
/-- self.f = y, the first one -/
theorem xst_new (T : XC X.K C) (I : Inv X pins σ H s) (e : H a = some (exo a C none)) (hno : PySem.W.findIn X.K (.ref C) f = some none) (ry : RelV y u)
    (h : ∀ dx s', H dx = none → dx ≠ a → Inv X pins σ (upd (upd H dx (exd dx [(f, y)])) a (exo a C (some dx))) s' → Q () s') : wpAny (model X.prog X.w) A (setAttr (.ref a) f u) Q E s := by
  obtain ⟨B, newId, initId, tl, nm, q, N, bs, bm, sn, sub, ab, col, dd, k0, k1, k2, k3, k5, BX, hC, hbm⟩ := T.cls
  have hcl : PySem.W.clsIn X.K C = some { name := nm, bases := bs, mro := .ref C :: bm, ns := N, qualname := q, hasDict := true, slotNames := sn, subclasses := sub, abstract := ab, collection := col, hasDel := false } := by unfold PySem.W.clsIn; rw [hC] <;> rfl
  obtain ⟨t1, ho⟩ := exo_at I.hok e
  obtain ⟨hp, g, d, t, os⟩ := s
  refine PySem.W.set_plain I.kIn (ox := { cls := .ref C, dict := none, data := .fields #[.ref t1, .none, .none, .none, .bool false, .none] }) (od := none) ⟨ho, rfl, rfl, trivial⟩ T.sa ?_
  refine PySem.EXV.osa_new BX.S I.kIn ho hcl rfl hbm rfl hno (fun h' tk' dx k dn dne hx hn => ?_)
  have hnd : H dx = none := I.hok.fresh dn
  have nd : ∀ {b : Addr} {o : Obj}, hp.get? b = some o → b ≠ dx := fun {b o} q => Nat.ne_of_lt (Nat.lt_of_lt_of_le (Heap.lt_size q) dn)
  have na : ∀ {b : Addr}, H b = none → b ≠ a := fun {b} n z => by
    rw [z, e] at n
    cases n
  have Un1 : Un X.fs [] H (upd (upd H dx (exd dx [(f, y)])) a (exo a C (some dx))) hp h' := {
    keep := fun b o q n _ _ => k b o (na n) q
    slot := fun b o q n _ _ => ⟨o.slots, k b o (na n) q⟩
    free := fun b o q n _ => by rw [upd_ne (na n), upd_ne (nd q)]; exact n
    there := fun b o q _ => by
      by_cases hb : b = a
      · exact ⟨_, by rw [hb]; exact hx⟩
      · exact ⟨o, k b o hb q⟩
    tups := fun b xs q => by rw [upd_ne (at_ne e q exo_tup), upd_ne (ne_of_none q hnd)]; exact q
    frzs := fun b o v q => by rw [upd_ne (at_ne e q exo_frz), upd_ne (ne_of_none q hnd)]; exact q
    tbls := fun b ps q => ⟨#[], by rw [upd_ne (at_ne e q exo_tbl), upd_ne (ne_of_none q hnd), q]; simp⟩ }
  refine h dx _ hnd dne (I.un (t' := tk') Un1 fun b o q => ?_)
  by_cases hb : b = a
  · subst hb
    rw [upd_same] at q
    cases q
    exact exo_ok hx
  · rw [upd_ne hb] at q
    by_cases hd : b = dx
    · subst hd
      rw [upd_same] at q
      cases q
      exact exd_ok hn (relO_put (fs := []) ry fun g => True.intro)
    · rw [upd_ne hd] at q
      exact (I.hok b o q).stay (fun c v hc z => k c v (by
          rcases hc with hc | hc
          · rw [hc]
            exact hb
          · exact at_ne e hc exo_own) z)
        (fun c hc => by rw [upd_ne (at_ne e hc exo_own), upd_ne (ne_of_none hc hnd)]; exact hc) (fun c xs hc => by rw [upd_ne (at_ne e hc exo_tup), upd_ne (ne_of_none hc hnd)]; exact hc)
/-- self.f = y, a further one -/
theorem xst_more (T : XC X.K C) (I : Inv X pins σ H s) (e : H a = some (exo a C (some dx))) (ed : H dx = some (exd dx fs)) (hl : fs.length ≤ 900) (hno : PySem.W.findIn X.K (.ref C) f = some none) (ry : RelV y u)
    (h : ∀ s', Inv X pins σ (upd H dx (exd dx ((f, y) :: fs))) s' → Q () s') : wpAny (model X.prog X.w) A (setAttr (.ref a) f u) Q E s := by
  obtain ⟨B, newId, initId, tl, nm, q, N, bs, bm, sn, sub, ab, col, dd, k0, k1, k2, k3, k5, BX, hC, hbm⟩ := T.cls
  have hcl : PySem.W.clsIn X.K C = some { name := nm, bases := bs, mro := .ref C :: bm, ns := N, qualname := q, hasDict := true, slotNames := sn, subclasses := sub, abstract := ab, collection := col, hasDel := false } := by unfold PySem.W.clsIn; rw [hC] <;> rfl
  obtain ⟨t1, ho⟩ := exo_at I.hok e
  obtain ⟨mA, hns, rel⟩ := exd_at I.hok ed
  have hw := within_of rel
  obtain ⟨hp, g, d, t, os⟩ := s
  obtain ⟨oD, _, _, hoD, _, _⟩ := hns.count hw
  refine PySem.W.set_plain I.kIn (ox := { cls := .ref C, dict := some dx, data := .fields #[.ref t1, .none, .none, .none, .bool false, .none] }) (od := some oD) ⟨ho, rfl, rfl, hoD⟩ T.sa ?_
  refine PySem.EXV.osa_more BX.S I.kIn ho hns hw (by rw [List.length_map]; omega) hcl rfl hbm rfl hno (fun h' tk' k hn => ?_)
  have hd : ∃ o, h'.get? dx = some o := by
    obtain ⟨o, _, _, e', _⟩ := hn
    exact ⟨o, e'⟩
  exact h _ (I.write (t' := tk') (x := dx) (e := dx) (o := exd dx ((f, y) :: fs)) (by rw [ed]; exact True.intro) (.inl rfl) k hd (exd_ok hn (relO_put ry rel)))
end
/-- self.f = e, self an exception that is being made -/
def tXst (K : PySem.W.Frag) (f : Str) (to te : TE) : TS := fun D σ H => te σ H fun y H1 => to σ H1 fun x H2 => ∃ a C : Addr, x = .ref a ∧ XC K C ∧ PySem.W.findIn K (.ref C) f = some none ∧
  ((H2 a = some (exo a C none) ∧ ∀ dx, H2 dx = none → dx ≠ a → D.nx σ (upd (upd H2 dx (exd dx [(f, y)])) a (exo a C (some dx)))) ∨
    ∃ (dx : Addr) (fs : List (Str × V)), H2 a = some (exo a C (some dx)) ∧ H2 dx = some (exd dx fs) ∧ fs.length ≤ 900 ∧ D.nx σ (upd H2 dx (exd dx ((f, y) :: fs))))
section
variable {X : Cx} {o e : Expr} {es : List Expr} {to te : TE} {ta : TA} {f : Str} {p p' p1 p2 pos : Pos}
theorem ps_xst (ho : PE X o to) (he : PE X e te) (hs : swapsWith e (some (.Attribute o f p')) pos.line X.env = pure false := by rfl) : PS X (.Assign [.Attribute o f p'] e pos) (tXst X.K f to te) := by
  refine ⟨fun pins s σ H D I h => ?_⟩
  refine plainObj_wpAny_Assign_Attribute (thn (he.run pins s σ H _ I h) fun v s1 ⟨y, H1, I1, r1, q1⟩ => thn (ho.run pins s1 σ H1 _ I1 q1) fun u s2 ⟨x, H2, I2, r2, a, C, ex, T, hno, q⟩ => ?_) hs
  subst ex
  obtain rfl : u = Value.ref a := r2
  rcases q with ⟨ea, q⟩ | ⟨dx, fs, ea, ed, hl, q⟩
  · exact xst_new T I2 ea hno r1 fun dx s' n ne J => ⟨σ, _, J, q dx n ne⟩
  · exact xst_more T I2 ea ed hl hno r1 fun s' J => ⟨σ, _, J, q⟩
end
end L2

end PE2
section PE3
set_option maxHeartbeats 4000000
namespace L2
open PySem PySem.Spec PyProof.Rows
/-- a def without defaults, called with keywords -/
theorem FunD.kbn {K : PySem.W.Frag} {x qual : Str} {params : Arguments} {body : List Stmt} {scope : Scope} {kws : List (Str × V)} {f : Addr} {fd : FuncData} {ps ks : List Str} (F : FunD K x qual params body scope [] kws f fd) (n : Nat) (g : {α : Type} → List α → List α → List α)
    (hrel : ∀ {vs zs : List V} {us ws : List Value}, Vals vs us → Vals zs ws → Vals (g vs zs) (g us ws))
    (h : ∀ (kV doc pm : Value) (an : Option Addr) (cdv ct : Value) (us ws : List Value), us.length = n → ws.length = ks.length → bindArgs (PySem.W.fnOf x qual params body scope .none kV doc pm an cdv ct) ⟨us, ks.zip ws⟩ = pure (ps.zip (g us ws))) :
    KBn K fd ps n ks (fun us ws => g us ws) (fun vs zs => g vs zs) := by
  obtain ⟨oc, od, dV, kV, doc, pm, an, cdv, ct, osl, rfl, lk, hcd, hD, hK⟩ := F.ex
  rcases hD with ⟨_, rfl⟩ | ⟨e, _⟩
  · exact ⟨fun s us ws X l1 l2 => .of_eq (h kV doc pm an cdv ct us ws l1 l2), fun r1 r2 => hrel r1 r2⟩
  · exact absurd rfl e
/-- C(e, .., k = v, ..), C an own exception class: a new object, then __init__ keeping sp -/
def tXmk (C : Addr) (n m : Nat) (sp : Sp) (gV : List V → List V → List V) (t tk : TA) : TE := fun σ H Q => t σ H fun vs H1 => tk σ H1 fun zs H2 => vs.length = n ∧ zs.length = m ∧
  ∀ a, H2 a = none → sp (gV (.ref a :: vs) zs) (upd H2 a (exo a C none)) (fun v H3 => v = .non ∧ Q (.ref a) H3) E0
section
variable {X : Cx} {CX : CXT} {k n : Nat} {fI C : Addr} {fd : FuncData} {ps ks : List Str} {sp : Sp} {x : Str} {p pos : Pos} {e : Expr} {es : List Expr} {kws : List Keyword} {t tk : TA} {g : List Value → List Value → List Value} {gV : List V → List V → List V}
theorem run_xmk {pins : List (Addr × Obj)} {σ : St} {H : Hp} {s : Shared} {Q : VK} {us ws : List Value} {vs zs : List V} (T : XC X.K C) (iC : PySem.W.findIn X.K (.ref C) "__init__" = some (some (.ref fI))) (tI : PySem.W.typeIn X.K (.ref fI) = some (.type "function"))
    (F : FnOk X.prog X.w X.K X.mg X.base CX k fI fd ps sp) (hr : Room (k + 1) X.A) (hb : KBn X.K fd ps (n + 1) ks g gV) (hx : Passes CX X E0) (hn : n ≤ 1000) (I : Inv X pins σ H s) (r : Vals vs us) (rz : Vals zs ws) (l1 : vs.length = n) (l2 : zs.length = ks.length)
    (h : ∀ a, H a = none → sp (gV (.ref a :: vs) zs) (upd H a (exo a C none)) (fun v H2 => v = .non ∧ Q (.ref a) H2) E0) :
    wpAny (model X.prog X.w) X.A (call (.ref C) us (ks.zip ws)) (EP X pins σ Q) X.xe s := by
  obtain ⟨B, newId, initId, tl, nm, q, N, bs, bm, sn, sub, ab, col, dd, k0, k1, k2, k3, k5, BX, hC, hbm⟩ := T.cls
  obtain ⟨hp, gs, dr, tk', os⟩ := s
  have hsz : hp.objs.size ≤ hp.objs.size + 1 := Nat.le_succ _
  have hn1 : H (hp.objs.size + 1) = none := I.hok.fresh hsz
  have hq := h (hp.objs.size + 1) hn1
  have kk : ∀ b o, hp.get? b = some o → ((hp.push (PySem.W.kdv_tup us)).push (PySem.HandSPX.excO C hp.objs.size)).get? b = some o := fun b o e => Heap.get?_push_of_some _ (Heap.get?_push_of_some _ e)
  have hget : ((hp.push (PySem.W.kdv_tup us)).push (PySem.HandSPX.excO C hp.objs.size)).get? (hp.objs.size + 1) = some (PySem.HandSPX.excO C hp.objs.size) := by heap_get
  have I2 : Inv X pins σ (upd H (hp.objs.size + 1) (exo (hp.objs.size + 1) C none)) ⟨(hp.push (PySem.W.kdv_tup us)).push (PySem.HandSPX.excO C hp.objs.size), gs, dr, tk', os⟩ :=
    I.laid (t' := tk') (a := hp.objs.size + 1) (o := exo (hp.objs.size + 1) C none) (h' := (hp.push (PySem.W.kdv_tup us)).push (PySem.HandSPX.excO C hp.objs.size)) kk hsz (exo_ok hget)
  have r1 : Vals (V.ref (hp.objs.size + 1) :: vs) (Value.ref (hp.objs.size + 1) :: us) := .cons rfl r
  have r2 := hb.rel r1 rz
  have e1 : (Value.ref (hp.objs.size + 1) :: us).length = n + 1 := r1.length.symm.trans (congrArg Nat.succ l1)
  have e2 : ws.length = ks.length := rz.length.symm.trans l2
  have hus : us.length ≤ sizeLine := by
    rw [← r.length, l1]
    exact Nat.le_trans hn (by decide)
  refine wpAny_call (PySem.EXV.call_kw BX.F (fun Y => PySem.W.excTail_contains Y bm hbm) (I.kIn _ _ hC) (PySem.W.looks_findIn I.kIn iC) (fun self => PySem.W.bind_fn I.kIn self tI) hus
    (codeAny_mono (F.run _ X.stack _ _ ⟨Value.ref (hp.objs.size + 1) :: us, ks.zip ws⟩ (g (Value.ref (hp.objs.size + 1) :: us) ws) _ _ E0 (hr.make C us (ks.zip ws)) (I2.env0.make C us (ks.zip ws)) (hb.to _ (Value.ref (hp.objs.size + 1) :: us) ws I2.kIn e1 e2) r2 hq) fun r s' hq' => ?_))
  cases r with
  | error er => exact hx pins σ _ _ er s' I2 hq'
  | ok fl =>
    cases fl with
    | ret u =>
      obtain ⟨v, H', I3, rv, ev, q3⟩ := I2.after hq'
      subst ev
      exact ⟨rv, ⟨V.ref (hp.objs.size + 1), H', I3, rfl, q3⟩⟩
    | next => exact False.elim hq'
    | brk => exact False.elim hq'
    | cont => exact False.elim hq'
/-- C(e, ..) -/
theorem pe_xmk (T : XC X.K C) (iC : PySem.W.findIn X.K (.ref C) "__init__" = some (some (.ref fI))) (tI : PySem.W.typeIn X.K (.ref fI) = some (.type "function"))
    (F : FnOk X.prog X.w X.K X.mg X.base CX k fI fd ps sp) (hr : Room (k + 1) X.A) (hb : KBn X.K fd ps (n + 1) [] g gV) (hx : Passes CX X E0) (hn : n ≤ 1000) (hg : Gl X x) (hm : X.mg x = some (.ref C)) (ha : PA X (e :: es) t)
    (hdb : (x == ("__debug__" : Str)) = false := by decide) (he : starEach (e :: es) X.env = (false, eval e X.env) :: starEach es X.env := by rfl) (hpl : (backTo pos (starEach es X.env)).any (·.1) = false := by rfl) :
    PE X (.Call (.Name x p) (e :: es) [] pos) (tXmk C n 0 sp gV t tNil) := by
  refine ⟨fun pins s σ H Q I h => ?_⟩
  refine wpAny_Call_Name_kw (ld_glob I hg hm ?_ hdb)
  refine PySem.W.callWith_K (h₀ := X.base) I.ok.mod.kin T.kC (thn (ha.run pos pins s σ H _ I h) fun us s1 ⟨vs, H1, I1, r1, q1⟩ => ⟨I1.kIn, ?_⟩) he hpl
  obtain ⟨l1, l2, q2⟩ := q1
  exact run_xmk (ws := []) (zs := []) (ks := []) T iC tI F hr hb hx hn I1 r1 .nil l1 rfl q2
/-- C() -/
theorem pe_xmk0 (T : XC X.K C) (iC : PySem.W.findIn X.K (.ref C) "__init__" = some (some (.ref fI))) (tI : PySem.W.typeIn X.K (.ref fI) = some (.type "function"))
    (F : FnOk X.prog X.w X.K X.mg X.base CX k fI fd ps sp) (hr : Room (k + 1) X.A) (hb : KBn X.K fd ps 1 [] g gV) (hx : Passes CX X E0) (hg : Gl X x) (hm : X.mg x = some (.ref C)) 
    (hdb : (x == ("__debug__" : Str)) = false := by decide) (hpl : ((backTo pos (starEach [] X.env)).any (·.1) || (backToKw pos (keywordEach [] X.env)).any (·.1.isNone)) = false := by rfl) :
    PE X (.Call (.Name x p) [] [] pos) (tXmk C 0 0 sp gV tNil tNil) := by
  refine ⟨fun pins s σ H Q I h => ?_⟩
  refine wpAny_Call_Name_kw (ld_glob I hg hm ?_ hdb)
  refine PySem.W.callWith_KW0 (h₀ := X.base) I.ok.mod.kin T.kC rfl ?_ hpl
  obtain ⟨l1, l2, q2⟩ := (show tXmk C 0 0 sp gV tNil tNil σ H Q from h)
  refine wpAny_pure ⟨I.kIn, ?_⟩
  exact run_xmk (us := []) (vs := []) (ws := []) (zs := []) (ks := []) T iC tI F hr hb hx (Nat.zero_le _) I .nil .nil rfl rfl q2
/-- C(k = v, ..) -/
theorem pe_xmkK (T : XC X.K C) (iC : PySem.W.findIn X.K (.ref C) "__init__" = some (some (.ref fI))) (tI : PySem.W.typeIn X.K (.ref fI) = some (.type "function"))
    (F : FnOk X.prog X.w X.K X.mg X.base CX k fI fd ps sp) (hr : Room (k + 1) X.A) (hb : KBn X.K fd ps 1 ks g gV) (hx : Passes CX X E0) (hg : Gl X x) (hm : X.mg x = some (.ref C)) (hkw : PK X kws tk)
    (hall : (backToKw pos (keywordEach kws X.env)).all (·.1.isSome) = true := by rfl) (hks : (backToKw pos (keywordEach kws X.env)).filterMap (·.1) = ks := by rfl) (hdb : (x == ("__debug__" : Str)) = false := by decide)
    (hpl : ((backTo pos (starEach [] X.env)).any (·.1) || (backToKw pos (keywordEach kws X.env)).any (·.1.isNone)) = false := by rfl) :
    PE X (.Call (.Name x p) [] kws pos) (tXmk C 0 ks.length sp gV tNil tk) := by
  refine ⟨fun pins s σ H Q I h => ?_⟩
  refine wpAny_Call_Name_kw (ld_glob I hg hm ?_ hdb)
  refine PySem.W.callWith_KW0 (h₀ := X.base) I.ok.mod.kin T.kC hall ?_ hpl
  refine thn (hkw.run pos pins s σ H _ I h) fun ws s2 ⟨zs, H2, I2, rz, l1, l2, q2⟩ => ⟨I2.kIn, ?_⟩
  rw [hks]
  exact run_xmk (us := []) (vs := []) T iC tI F hr hb hx (Nat.zero_le _) I2 .nil rz rfl l2 q2
end

/-! ### e.f, isinstance(e, C) -/
/-- e.f of an exception that is tracked -/
def tXat (K : PySem.W.Frag) (f : Str) (te : TE) : TE := fun σ H Q => te σ H fun x H1 => ∃ (a C : Addr) (fs : List (Str × V)) (v : V), x = .ref a ∧ XC K C ∧ PySem.W.findIn K (.ref C) f = some none ∧ IsX H1 C fs a ∧ fs.lookup f = some v ∧ Q v H1
theorem pe_xat {X : Cx} {K : PySem.W.Frag} {e : Expr} {te : TE} {pos : Pos} {f : Str} (he : PE X e te) (hb : attributeBase e f X.env (eval e X.env) = eval e X.env := by rfl) (hK : X.K = K := by rfl) : PE X (.Attribute e f pos) (tXat K f te) := by
  subst hK
  refine ⟨fun pins s σ H Q I h => ?_⟩
  refine attr_of hb (thn (he.run pins s σ H _ I h) fun u s1 hh => ?_)
  obtain ⟨x, H1, I1, rx, a, C, fs, v, ex, T, hno, hx, l, q⟩ := hh
  subst ex
  obtain rfl : u = Value.ref a := rx
  rcases hx with ⟨rfl, _⟩ | ⟨dx, ea, ed⟩
  · cases l
  · obtain ⟨t1, ho⟩ := exo_at I1.hok ea
    obtain ⟨mA, hns, rel⟩ := exd_at I1.hok ed
    obtain ⟨od, hod, hl⟩ := lookIn_ns hns
    obtain ⟨w, hw, rw'⟩ := RelO.some_of (v := v) (o := mA f) (by rw [← l]; exact rel f)
    have J : PySem.W.InstAt s1.heap a { cls := .ref C, dict := some dx, data := .fields #[.ref t1, .none, .none, .none, .bool false, .none] } C (some od) := ⟨ho, rfl, rfl, hod⟩
    exact HandSPX.exc_get I1.kIn J T.ga T.gg T.exC (PySem.W.findObj_own T.hd hno rfl (by rw [hl, hw])) (handed_of rw') ⟨v, H1, I1.tok _, rw', q⟩
end L2

end PE3
section PE4
set_option maxHeartbeats 4000000
namespace L2
open PySem PySem.Spec PyProof.Rows
theorem XC.isCls {K : PySem.W.Frag} {C : Addr} (T : XC K C) : (PySem.W.clsIn K C).isSome = true := by
  obtain ⟨cd, hc, _⟩ := PySem.W.any_some T.hd
  rw [hc] <;> rfl
section
variable {X : Cx} {pins : List (Addr × Obj)} {σ : St} {H : Hp} {s : Shared}
theorem kit_x {a C : Addr} {fs : List (Str × V)} (I : Inv X pins σ H s) (T : XC X.K C) (h : IsX H C fs a) : ∃ P : Heap → Prop, PySem.W.KitX X.K (.ref a) (.ref C) P ∧ P s.heap := by
  rcases h with ⟨_, ea⟩ | ⟨dx, ea, ed⟩
  · obtain ⟨t1, ho⟩ := exo_at I.hok ea
    exact ⟨_, PySem.W.kitx_exc (od := none) T.isCls T.ga T.gg T.exC T.ha T.hn T.ht T.hm, ⟨ho, rfl, rfl, trivial⟩⟩
  · obtain ⟨t1, ho⟩ := exo_at I.hok ea
    obtain ⟨mA, ⟨od, es, ep, e1, _⟩, rel⟩ := exd_at I.hok ed
    exact ⟨_, PySem.W.kitx_exc (od := some od) T.isCls T.ga T.gg T.exC T.ha T.hn T.ht T.hm, ⟨ho, rfl, rfl, e1⟩⟩
end
/-- isinstance(e, c), e a tracked exception, c one class -/
def rIsX (K : PySem.W.Frag) : List V → Hp → VK → Prop := fun xs H Q => ∃ (a C : Addr) (fs : List (Str × V)) (c : V) (u : Value) (b : Bool), xs = [.ref a, c] ∧ ClsV c u ∧ XC K C ∧ IsX H C fs a ∧ PySem.W.kitOne K (.ref C) u = some b ∧ Q (.bl b) H
/-- isinstance(e, (c1, c2, ..)) -/
def rIsXT (K : PySem.W.Frag) : List V → Hp → VK → Prop := fun xs H Q => ∃ (a C tp : Addr) (fs : List (Str × V)) (cs : List V) (us : List Value) (b : Bool), xs = [.ref a, .ref tp] ∧ H tp = some (.tup cs) ∧ Paired ClsV cs us ∧ XC K C ∧ IsX H C fs a ∧ PySem.W.kitAny K (.ref C) us = some b ∧ Q (.bl b) H
section
variable {X : Cx}
theorem call_isX : CallR X (.builtin "isinstance") (rIsX X.K) := by
  intro pins s σ H xs us Q I r h
  obtain ⟨a, C, fs, c, u, b, rfl, k, T, hx, e, q⟩ := h
  obtain ⟨u1, u2, rfl, r1, r2⟩ := vals2 r
  have e2 := k.eq r2
  subst e2
  cases (show u1 = Value.ref a from r1)
  obtain ⟨P, Z, p⟩ := kit_x I T hx
  exact PySem.W.kia_one Z I.kIn p e (fun z => nomatch z) fun tk => ⟨.bl b, H, I.tok tk, rfl, q⟩
theorem call_isXT : CallR X (.builtin "isinstance") (rIsXT X.K) := by
  intro pins s σ H xs us Q I r h
  obtain ⟨a, C, tp, fs, cs, ws, b, rfl, hT, k, T, hx, e, q⟩ := h
  obtain ⟨u1, u2, rfl, r1, r2⟩ := vals2 r
  cases (show u1 = Value.ref a from r1)
  cases (show u2 = Value.ref tp from r2)
  obtain ⟨P, Z, p⟩ := kit_x I T hx
  obtain ⟨_, its, rv, o, h1, h2, n, h3⟩ := (show ObjOk X.prog X.w H s.heap tp (.tup cs) from I.hok tp _ hT)
  have e3 := ClsV.all k rv
  subst e3
  obtain ⟨oc, od, dt, sl⟩ := o
  simp only at h2 h3
  subst h2 h3
  exact PySem.W.kia_tup Z I.kIn p h1 e (fun z => nomatch z) fun tk => ⟨.bl b, H, I.tok tk, rfl, q⟩
end
end L2

end PE4
section PE5
set_option maxHeartbeats 4000000
/-! Promises of defs that are called while no repr runs: what repr tells is then told. -/
namespace L2
open PySem PySem.Spec PyProof.Rows
/-- a def keeps sp wherever it is called outside of any repr -/
structure FnG (P : Program) (w : World) (K : PySem.W.Frag) (mg : Str → Option Value) (base : Heap) (CX : CXT) (k : Nat) (f : Addr) (fd : FuncData) (ps : List Str) (sp : Sp) : Prop where
  len : ∀ vs H Q E, sp vs H Q E → vs.length = ps.length
  run : ∀ (A : Around) (outer : List Env) (s : Shared) (H : Hp) (args : Args) (us : List Value) (vs : List V) (Q : VK) (E : XK), A.guards = some [] → Room k A → Env0 P w K mg base A outer s H → BindsTo s fd args (ps.zip us) → Vals vs us → sp vs H Q E →
    codeAny (model P w) A (.call (.ref f) args) (CR CX outer P w H s Q E) s
theorem FnOk.g {P : Program} {w : World} {K : PySem.W.Frag} {mg : Str → Option Value} {base : Heap} {CX : CXT} {k : Nat} {f : Addr} {fd : FuncData} {ps : List Str} {sp : Sp} (F : FnOk P w K mg base CX k f fd ps sp) : FnG P w K mg base CX k f fd ps sp :=
  ⟨F.len, fun A outer s H args us vs Q E _ => F.run A outer s H args us vs Q E⟩
theorem deeper_guards {A : Around} {env : Env} (h : A.guards = some []) : (A.deeper env).guards = some [] := by
  have e : (A.deeper env).guards = A.guards := by rfl
  rw [e, h]
/-- the rule for a def, by its body, the guards told -/
theorem FunD.okG {CX : CXT} {P : Program} {w : World} {K : PySem.W.Frag} {mg : Str → Option Value} {base : Heap} {k : Nat} {f : Addr} {x qual : Str} {params : Arguments} {body : List Stmt} {scope : Scope} {dvs : List V} {kws : List (Str × V)} {fd : FuncData} {N ps : List Str} {sp : Sp}
    (F : FunD K x qual params body scope dvs kws f fd) (S : FnScope N ps scope) (len : ∀ vs H Q E, sp vs H Q E → vs.length = ps.length)
    (hbody : ∀ (cdv : Value) (A : Around) (outer : List Env) (s : Shared) (H : Hp) (vs : List V) (Q : VK) (E : XK), A.guards = some [] → Room k (A.deeper (envOfC qual scope s.heap.objs.size f cdv)) → sp vs H Q E →
      ∃ t, PSs (cxOf CX P w K mg base N qual scope f cdv A outer s H E) body t ∧ t { nx := fun _ H' => Q .non H', rt := Q } (start N vs) H) : FnG P w K mg base CX (k + 1) f fd ps sp := by
  obtain ⟨oc, od, dV, kV, doc, pm, an, cdv, ct, osl, rfl, lk, hcd, _, _⟩ := F.ex
  refine ⟨len, fun A outer s H args us vs Q E hg hr e0 hb r hsp => ?_⟩
  have old : ∀ b o, base.get? b = some o → s.heap.get? b = some o := fun b o e => (e0.bs b o e).1
  have KX : K.In s.heap := e0.mod.kin.keeps old
  have lim : s.heap.NoLimit := e0.mod.nolimit.keeps old
  refine codeAny_call_function hr.depth (KX _ _ lk) rfl S.co S.gen rfl (PySem.W.codeRec_of KX hcd) (hb _ _ _ _ (wpAny_newFunctionEnv_cells S.kind (fun y hy => ?_) fun env he s1 x => ?_))
  · rcases S.par y.1 (List.of_mem_zip (show (y.1, y.2) ∈ ps.zip us from hy)).1 with q | q
    · exact .inl q
    · exact .inr ⟨q, PySem.W.cellsFrom_some _ _ _ (.inl q)⟩
  · subst he
    obtain ⟨t, ht, hq⟩ := hbody cdv A outer s H vs Q E hg (hr.deeper _) hsp
    refine ⟨lim.keeps x.toInCall.keep, codeAny_func (wpAny_mono (ht.run [] s1 (start N vs) H _ (inv_start S hr.hd e0 (len _ _ _ _ hsp) r x) hq) (fun fl s' hs => ?_) fun e s' hs => hs)⟩
    cases fl with
    | ret u =>
      obtain ⟨v, σ', H', J, rv, q⟩ := hs
      exact ⟨v, H', J.os, J.bare, J.base, J.hok, rv, q⟩
    | next =>
      obtain ⟨σ', H', J, q⟩ := hs
      exact ⟨V.non, H', J.os, J.bare, J.base, J.hok, rfl, q⟩
    | brk =>
      obtain ⟨_, _, _, q⟩ := hs
      exact False.elim q
    | cont =>
      obtain ⟨_, _, _, q⟩ := hs
      exact False.elim q
section
variable {X : Cx} {CX : CXT} {k : Nat} {f C : Addr} {fd : FuncData} {ps : List Str} {sp : Sp} {dvs : List V} {ds : List Value} {E : XK} {x m : Str} {p pos apos : Pos} {e o : Expr} {es : List Expr} {ta : TE} {t : TA}
theorem runG {pins : List (Addr × Obj)} {σ : St} {H : Hp} {s : Shared} {Q : VK} {us : List Value} {vs : List V} (F : FnG X.prog X.w X.K X.mg X.base CX k f fd ps sp) (hG : X.A.guards = some []) (hr : Room k X.A) (hb : Binds X.K fd ps ds) (hd : Vals dvs ds) (hx : Passes CX X E)
    (I : Inv X pins σ H s) (r : Vals vs us) (h : sp (vs ++ dvs) H Q E) : wpAny (model X.prog X.w) X.A (call (.ref f) us) (EP X pins σ Q) X.xe s := by
  have r2 : Vals (vs ++ dvs) (us ++ ds) := r.append hd
  have hl : (us ++ ds).length = ps.length := r2.length.symm.trans (F.len _ _ _ _ h)
  refine wpAny_call (codeAny_mono (F.run X.A X.stack s H ⟨us, []⟩ (us ++ ds) (vs ++ dvs) Q E hG hr I.env0 (hb s us I.kIn hl) r2 h) fun r s' hq => ?_)
  cases r with
  | error e => exact hx pins σ H s e s' I hq
  | ok fl =>
    cases fl with
    | ret u => exact I.after hq
    | next => exact False.elim hq
    | brk => exact False.elim hq
    | cont => exact False.elim hq
/-- f(e, ..) where the guards are told -/
theorem pe_callG (F : FnG X.prog X.w X.K X.mg X.base CX k f fd ps sp) (hG : X.A.guards = some []) (hr : Room k X.A) (hg : Gl X x) (hm : X.mg x = some (.ref f)) (hk : PySem.W.keepIn X.K (.ref f) = true) (hb : Binds X.K fd ps ds) (hd : Vals dvs ds) (hx : Passes CX X E)
    (ha : PA X (e :: es) t) (hdb : (x == ("__debug__" : Str)) = false := by decide) (he : starEach (e :: es) X.env = (false, eval e X.env) :: starEach es X.env := by rfl) (hpl : (backTo pos (starEach es X.env)).any (·.1) = false := by rfl) :
    PE X (.Call (.Name x p) (e :: es) [] pos) (tCall sp dvs E t) :=
  ⟨fun pins s σ H Q I h => wpAny_Call_Name_kw (ld_glob I hg hm (PySem.W.callWith_K (h₀ := X.base) I.ok.mod.kin hk (thn (ha.run pos pins s σ H _ I h) fun us s1 ⟨vs, H1, I1, r, q⟩ => ⟨I1.kIn, runG F hG hr hb hd hx I1 r q⟩) he hpl) hdb)⟩
end
/-- a law's call where its def's promise wants the guards -/
theorem law_callG {P : Program} {w : World} {K : PySem.W.Frag} {mg mb : Str → Option Value} {CX : CXT} {k : Nat} {fa a : Addr} {fd : FuncData} {x : Str} {sp : Sp} {s₁ : Shared} {vs : List Value} {ns : List Int}
    (KX : K.In s₁.heap) (hns : s₁.heap.Ns mainGlobals mg) (hb : s₁.heap.Ns builtinsNs mb) (hbb : ∀ x : Str, x ≠ "__name__" → mb x = bootBuiltins x) (hlim : s₁.heap.NoLimit) (hg : s₁.gens = #[])
    (ha : s₁.heap.get? a = some { cls := .type "list", data := .seq vs.toArray }) (hi : IntsAre vs ns) (hl : ns.length ≤ sizeLine) (hr : Room k callerA)
    (F : ∀ base : Heap, K.In base → base.Ns mainGlobals mg → FnG P w K mg base CX k fa fd [x] sp) (hbind : ∀ (s : Shared) (u : Value), BindsTo s fd ⟨[u], []⟩ [(x, u)])
    (hsp : ∀ H : Hp, Only H → SqL K H a (ns.map V.int) → sp [.ref a] H (fun v _ => v = .bl true) fun _ _ _ => False)
    (hCX : ∀ H e s', CX [] H s₁ (fun _ _ _ => False) e s' → False) :
    codeAny (model P w) callerA (.call (.ref fa) ⟨[.ref a], []⟩) (fun r s' => r = .ok (.ret (.bool true)) ∧ OldK s₁.heap s'.heap ∧ s'.os = s₁.os ∧ AllBare s'.gens) s₁ := by
  -- what is tracked at the entry: the script, unless it is one of the module's own objects
  have core : ∀ H : Hp, Only H → SqL K H a (ns.map V.int) → HOk P w H s₁.heap → (∀ b, H b ≠ none → b = a ∧ K.lookup a = none) →
      codeAny (model P w) callerA (.call (.ref fa) ⟨[.ref a], []⟩) (fun r s' => r = .ok (.ret (.bool true)) ∧ OldK s₁.heap s'.heap ∧ s'.os = s₁.os ∧ AllBare s'.gens) s₁ := by
    intro H hO hS hok hA
    have keep : ∀ {b : Addr} {o : Obj}, s₁.heap.get? b = some o → (b = a → K.lookup a = none → False) → (hidT s₁.heap H).get? b = some o := fun {b o} e no => hidT_get e (by
      cases q : H b with
      | none => rfl
      | some u =>
        have z := hA b (by rw [q]; simp)
        exact (no z.1 z.2).elim)
    have nsK : ∀ {b : Addr} {m : Str → Option Value}, s₁.heap.Ns b m → (hidT s₁.heap H).Ns b m := fun {b m} ⟨o, es, ep, e, d, r⟩ => ⟨o, es, ep, keep e (fun z _ => by
      rw [z, ha] at e
      cases e
      cases d), d, r⟩
    have hKb : K.In (hidT s₁.heap H) := fun b o e => keep (KX b o e) fun z n => by
      rw [z, n] at e
      cases e
    obtain ⟨mc, h1, h2⟩ := hlim
    have e0 : Env0 P w K mg (hidT s₁.heap H) callerA [] s₁ H := ⟨rfl, ⟨hKb, nsK hns, ⟨mb, nsK hb, hbb⟩, ⟨mc, nsK h1, h2⟩⟩, fun b o e => of_hidT e, Nat.le_of_eq (hidT_size _ _), trivial, fun b hb => absurd (show b ∈ ([] : List Addr) from hb) (by simp), hok, .of_eq hg⟩
    refine codeAny_mono ((F _ hKb (nsK hns)).run callerA [] s₁ H ⟨[.ref a], []⟩ [.ref a] [.ref a] _ _ rfl hr e0 (hbind s₁ (.ref a)) (.cons rfl .nil) (hsp H hO hS)) fun r s' h => ?_
    cases r with
    | error e => exact (hCX H e s' h).elim
    | ok fl =>
      cases fl with
      | next => exact False.elim h
      | brk => exact False.elim h
      | cont => exact False.elim h
      | ret u =>
        obtain ⟨v, H', os, bare, un, hok', r', q⟩ := h
        cases (show v = .bl true from q)
        cases (show u = Value.bool true from r')
        refine ⟨rfl, OldK.of_keep fun b o e => ?_, os, bare⟩
        cases q : H b with
        | none => exact un.keep b o e q (fun z => absurd (show b ∈ ([] : List Addr) from z) (by simp)) (by simp)
        | some u =>
          obtain ⟨ob, xs, z⟩ : ∃ o xs, H b = some (.frz o (.lst xs)) := (hO b).resolve_left (by rw [q]; simp)
          have e1 := (hok b _ z).1
          rw [e] at e1
          cases e1
          exact (hok' b _ (un.frzs b _ _ z)).1
  have rv := vals_ints hi
  cases hk : K.lookup a with
  | some o =>
    have e := KX a o hk
    rw [ha] at e
    cases e
    exact core (fun _ => none) (fun _ => .inl rfl) (.inr ⟨_, vs.toArray, _, hk, rfl, rfl, rfl, by rw [List.size_toArray, hi.length]; exact hl, by simpa using rv⟩) (fun b u z => by cases (show (none : Option HO) = some u from z)) fun b z => absurd rfl z
  | none =>
    have at_ : ∀ b u, (if b = a then some (HO.frz { cls := .type "list", data := .seq vs.toArray } (.lst (ns.map V.int))) else none) = some u → b = a ∧ u = HO.frz { cls := .type "list", data := .seq vs.toArray } (.lst (ns.map V.int)) := fun b u z => by
      by_cases q : b = a
      · rw [if_pos q] at z
        exact ⟨q, (Option.some.inj z).symm⟩
      · rw [if_neg q] at z
        cases z
    refine core (fun b => if b = a then some (.frz { cls := .type "list", data := .seq vs.toArray } (.lst (ns.map V.int))) else none) (fun b => ?_) (.inl (.inr ⟨{ cls := .type "list", data := .seq vs.toArray }, if_pos rfl⟩)) (fun b u z => ?_) fun b z => ⟨?_, hk⟩
    · by_cases q : b = a
      · exact .inr ⟨_, _, if_pos q⟩
      · exact .inl (if_neg q)
    · obtain ⟨rfl, rfl⟩ := at_ b u z
      exact ⟨ha, by rw [List.length_map]; exact hl, vs, _, rv, ha⟩
    · cases q : (if b = a then some (HO.frz { cls := .type "list", data := .seq vs.toArray } (.lst (ns.map V.int))) else none) with
      | none => exact absurd q z
      | some u => exact (at_ b u q).1
/-- the end of a law -/
theorem walk_ofG {l : PySem.W.OpenLaw} {n k : Nat} {q : Program} {loose : List Str} {XP : (Str → Option Value) → Heap → Prop} {YP : World → Heap → Prop} {d : DefRec} {CX : World → CXT} {x : Str}
    (hn : l.most = some n) (hn2 : n ≤ sizeLine) (hdf : d.params.defaults = []) (hr : Room k callerA)
    (F : ∀ (w : World) (mg : Str → Option Value) (fa : Addr) (h : Heap), YP w h → h.Ns mainGlobals mg → mg d.name = some (.ref fa) →
      ∃ (K : PySem.W.Frag) (fd : FuncData) (sp : Sp), K.In h ∧ (∀ (s : Shared) (u : Value), BindsTo s fd ⟨[u], []⟩ [(x, u)]) ∧
        (∀ (H : Hp) (a : Addr) (ns : List Int), ns.length ≤ n → Only H → SqL K H a (ns.map V.int) → sp [.ref a] H (fun v _ => v = .bl true) fun _ _ _ => False) ∧
        ∀ base : Heap, K.In base → base.Ns mainGlobals mg → FnG l.prog w K mg base (CX w) k fa fd [x] sp)
    (hCX : ∀ (w : World) (H : Hp) (s : Shared) (e : Value) (s' : Shared), CX w [] H s (fun _ _ _ => False) e s' → False) :
    PySem.W.WalkO q loose XP YP l.row.toRowW d [] (fun f vs => PySem.call f vs) := by
  refine Att.attach_call hn hdf fun w s₀ s₁ mg mb fa o pm cd doc a vs ns G Y ho hd hcd hmg hobj hints hlen hg => ?_
  obtain ⟨K, fd, sp, KX, hb, hsp, hF⟩ := F w mg fa _ Y G.T.g hmg
  exact law_callG KX G.T.g G.T.b G.T.builtins G.T.nolimit hg hobj hints (Nat.le_trans hlen hn2) hr hF hb (fun H hO hS => hsp H a ns hlen hO hS) fun H e s' => hCX w H s₁ e s'
end L2

end PE5
section PE6
set_option maxHeartbeats 4000000
/-! What repr tells of data at any depth. -/
namespace L2
open PySem PySem.Spec PyProof.Rows
def kD : Key → PyData
  | .inl i => .int i
  | .inr x => .str x
mutual
/-- v is these data, by what is tracked -/
inductive Rp (H : Hp) : V → PyData → Prop
  | non : Rp H .non .none
  | bl (b : Bool) : Rp H (.bl b) (.bool b)
  | int (i : Int) : Rp H (.int i) (.int i)
  | str (x : Str) : Rp H (.str x) (.str x)
  | lst {a : Addr} {xs : List V} {ds : List PyData} : H a = some (.lst xs) → RpAll H xs ds → Rp H (.ref a) (.list ds)
  | tup {a : Addr} {xs : List V} {ds : List PyData} : H a = some (.tup xs) → RpAll H xs ds → Rp H (.ref a) (.tuple ds)
  | dic {a : Addr} {kvs : List (Key × V)} {ds : List (PyData × PyData)} : H a = some (.dK kvs) → RpKv H kvs ds → Rp H (.ref a) (.dict ds)
inductive RpAll (H : Hp) : List V → List PyData → Prop
  | nil : RpAll H [] []
  | cons {v : V} {vs : List V} {d : PyData} {ds : List PyData} : Rp H v d → RpAll H vs ds → RpAll H (v :: vs) (d :: ds)
inductive RpKv (H : Hp) : List (Key × V) → List (PyData × PyData) → Prop
  | nil : RpKv H [] []
  | cons {k : Key} {v : V} {kvs : List (Key × V)} {d : PyData} {ds : List (PyData × PyData)} : Rp H v d → RpKv H kvs ds → RpKv H ((k, v) :: kvs) ((kD k, d) :: ds)
end
mutual
theorem Rp.same {H H' : Hp} (s : Same H H') : ∀ {v : V} {d : PyData}, Rp H v d → Rp H' v d
  | _, _, .non => .non
  | _, _, .bl b => .bl b
  | _, _, .int i => .int i
  | _, _, .str x => .str x
  | _, _, .lst h r => .lst (s _ _ h) (RpAll.same s r)
  | _, _, .tup h r => .tup (s _ _ h) (RpAll.same s r)
  | _, _, .dic h r => .dic (s _ _ h) (RpKv.same s r)
theorem RpAll.same {H H' : Hp} (s : Same H H') : ∀ {vs : List V} {ds : List PyData}, RpAll H vs ds → RpAll H' vs ds
  | _, _, .nil => .nil
  | _, _, .cons h r => .cons (Rp.same s h) (RpAll.same s r)
theorem RpKv.same {H H' : Hp} (s : Same H H') : ∀ {vs : List (Key × V)} {ds : List (PyData × PyData)}, RpKv H vs ds → RpKv H' vs ds
  | _, _, .nil => .nil
  | _, _, .cons h r => .cons (Rp.same s h) (RpKv.same s r)
end
theorem key_read {h : Heap} {k : Key} {u : Value} (e : keyIs k u = true) : Reads h u (kD k) [] := by
  rcases keyIs_shape e with ⟨i, t, rfl, rfl⟩ | ⟨x, t, rfl, rfl⟩
  · exact Reads.int i t
  · exact Reads.str x t
section
variable {X : Cx} {pins : List (Addr × Obj)} {σ : St} {H : Hp} {s : Shared}
mutual
theorem Rp.reads (I : Inv X pins σ H s) (hm : ∀ a xs, H a = some (.lst xs) → a ≠ sysModules) : ∀ {v : V} {d : PyData} {u : Value}, Rp H v d → RelV v u → ∃ as, Reads s.heap u d as ∧ sysModules ∉ as
  | _, _, u, .non, r => by
    cases (show u = Value.none from r)
    exact ⟨[], .none, by simp⟩
  | _, _, u, .bl b, r => by
    cases (show u = Value.bool b from r)
    exact ⟨[], .bool b, by simp⟩
  | _, _, u, .int i, r => by
    obtain ⟨t, q⟩ := (show ∃ t, u = Value.int i t from r)
    cases q
    exact ⟨[], .int i t, by simp⟩
  | _, _, u, .str x, r => by
    obtain ⟨t, q⟩ := (show ∃ t, u = Value.str x t from r)
    cases q
    exact ⟨[], .str x t, by simp⟩
  | _, _, u, .lst (a := a) (xs := xs) h k, r => by
    cases (show u = Value.ref a from r)
    obtain ⟨_, its, n, rv, e⟩ := (show ObjOk X.prog X.w H s.heap a (.lst xs) from I.hok a _ h)
    obtain ⟨as, q, no⟩ := RpAll.reads I hm k rv
    exact ⟨_, .list e rfl rfl (by simpa using q), fun z => by
      rcases List.mem_cons.mp z with z | z
      · exact hm a xs h z.symm
      · exact no z⟩
  | _, _, u, .tup (a := a) (xs := xs) h k, r => by
    cases (show u = Value.ref a from r)
    obtain ⟨_, its, rv, o, e, c, n, dd⟩ := (show ObjOk X.prog X.w H s.heap a (.tup xs) from I.hok a _ h)
    obtain ⟨as, q, no⟩ := RpAll.reads I hm k rv
    exact ⟨_, .tuple e c dd (by simpa using q), no⟩
  | _, _, u, .dic (a := a) (kvs := kvs) h k, r => by
    cases (show u = Value.ref a from r)
    obtain ⟨_, ns, vs, kv, o, es, ep, e, ex, dd, _, pr, _⟩ := (show ObjOk X.prog X.w H s.heap a (.dK kvs) from I.hok a _ h)
    obtain ⟨as, bs, q1, q2, n1, n2⟩ := RpKv.reads I hm k kv pr
    exact ⟨_, .dict e ex.1 dd q1 q2, fun z => by
      rcases List.mem_append.mp z with z | z
      · rcases List.mem_cons.mp z with z | z
        · rw [← z] at ns
          simp at ns
        · exact n1 z
      · exact n2 z⟩
theorem RpAll.reads (I : Inv X pins σ H s) (hm : ∀ a xs, H a = some (.lst xs) → a ≠ sysModules) : ∀ {vs : List V} {ds : List PyData} {us : List Value}, RpAll H vs ds → Vals vs us → ∃ as, ReadsAll s.heap us ds as ∧ sysModules ∉ as
  | _, _, _, .nil, .nil => ⟨[], .nil, by simp⟩
  | _, _, _, .cons h k, .cons r t => by
    obtain ⟨as, q1, n1⟩ := Rp.reads I hm h r
    obtain ⟨bs, q2, n2⟩ := RpAll.reads I hm k t
    exact ⟨_, .cons q1 q2, fun z => (List.mem_append.mp z).elim n1 n2⟩
theorem RpKv.reads (I : Inv X pins σ H s) (hm : ∀ a xs, H a = some (.lst xs) → a ≠ sysModules) : ∀ {kvs : List (Key × V)} {ds : List (PyData × PyData)} {vs : List (Key × Value)} {es : List DictEntry}, RpKv H kvs ds → KV kvs vs → Pairs (mixKind X.prog X.w) es vs →
    ∃ as bs, ReadsAll s.heap (es.map (·.key)) (ds.map (·.1)) as ∧ ReadsAll s.heap (es.map (·.val)) (ds.map (·.2)) bs ∧ sysModules ∉ as ∧ sysModules ∉ bs
  | _, _, _, _, .nil, .nil, .nil => ⟨[], [], .nil, .nil, by simp, by simp⟩
  | _, _, _, _, .cons h k, .cons r t, .cons e1 e2 e3 => by
    obtain ⟨as, bs, q1, q2, n1, n2⟩ := RpKv.reads I hm k t e3
    obtain ⟨cs, q3, n3⟩ := Rp.reads I hm h r.2
    have hk := e1
    rw [← r.1] at hk
    refine ⟨_, _, .cons (key_read (h := s.heap) hk) q1, .cons (by dsimp only; rw [e2]; exact q3) q2, fun z => ?_, fun z => (List.mem_append.mp z).elim n3 n2⟩
    rcases List.mem_append.mp z with z | z
    · cases z
    · exact n1 z
end
end
/-- repr(v) -/
def rRepr (xs : List V) (H : Hp) (Q : VK) : Prop := ∃ (v : V) (d : PyData), xs = [v] ∧ Rp H v d ∧ d.showable = true ∧ d.shown.length ≤ sizeLine ∧ d.depth ≤ 60 ∧ Q (.str d.shown) H
/-- sys.modules is no list, by the written part -/
def noMods (K : PySem.W.Frag) : Bool := match K.lookup sysModules with
  | some ⟨.type c, _, _, _⟩ => decide (c ≠ "list")
  | _ => false
theorem noMods_ok {X : Cx} {pins : List (Addr × Obj)} {σ : St} {H : Hp} {s : Shared} (I : Inv X pins σ H s) (h : noMods X.K = true) : ∀ a xs, H a = some (.lst xs) → a ≠ sysModules := fun a xs e z => by
  subst z
  obtain ⟨_, its, n, rv, q⟩ := (show ObjOk X.prog X.w H s.heap sysModules (.lst xs) from I.hok _ _ e)
  unfold noMods at h
  cases k : X.K.lookup sysModules with
  | none =>
    rw [k] at h
    cases h
  | some o =>
    have q2 := I.kIn _ _ k
    rw [q] at q2
    cases q2
    rw [k] at h
    simp at h
theorem call_reprD {X : Cx} (hg : X.A.guards = some []) (hu : X.A.units + 64 < cLine) (hK : noMods X.K = true) : CallR X (.builtin "repr") rRepr := by
  intro pins s σ H xs us Q I r h
  obtain ⟨v, d, rfl, hr, hs, hl, hd, q⟩ := h
  obtain ⟨u, rfl, ru⟩ := vals1 r
  cases hr with
  | non =>
    cases (show u = Value.none from ru)
    exact PySem.P.repr_of_none ⟨.str _, H, I.tok _, ⟨_, rfl⟩, q⟩
  | bl b =>
    cases (show u = Value.bool b from ru)
    exact PySem.P.repr_of_bool ⟨.str _, H, I.tok _, ⟨_, rfl⟩, q⟩
  | int i =>
    obtain ⟨t, z⟩ := (show ∃ t, u = Value.int i t from ru)
    cases z
    exact PySem.P.repr_of_int (by simpa [PyData.showable] using hs) ⟨.str _, H, I.tok _, ⟨_, rfl⟩, q⟩
  | str x =>
    obtain ⟨t, z⟩ := (show ∃ t, u = Value.str x t from ru)
    cases z
    exact PySem.P.repr_of_str ⟨.str _, H, I.tok _, ⟨_, rfl⟩, q⟩ hl
  | lst h k =>
    obtain ⟨as, w, no⟩ := Rp.reads I (noMods_ok I hK) (.lst h k) ru
    cases (show u = Value.ref _ from ru)
    exact repr_of_reads' w hs (fun _ => no) hg (by omega) (fun _ _ e => e) (fun h' t tk kp => ⟨.str _, H, I.kept (t' := tk) kp, ⟨_, rfl⟩, q⟩) hl
  | tup h k =>
    obtain ⟨as, w, no⟩ := Rp.reads I (noMods_ok I hK) (.tup h k) ru
    cases (show u = Value.ref _ from ru)
    exact repr_of_reads' w hs (fun _ => no) hg (by omega) (fun _ _ e => e) (fun h' t tk kp => ⟨.str _, H, I.kept (t' := tk) kp, ⟨_, rfl⟩, q⟩) hl
  | dic h k =>
    obtain ⟨as, w, no⟩ := Rp.reads I (noMods_ok I hK) (.dic h k) ru
    cases (show u = Value.ref _ from ru)
    exact repr_of_reads' w hs (fun _ => no) hg (by omega) (fun _ _ e => e) (fun h' t tk kp => ⟨.str _, H, I.kept (t' := tk) kp, ⟨_, rfl⟩, q⟩) hl
end L2
/-! ### the head's facts: each def, and one Bool of the written part (sys.modules among it) -/
namespace He
open PySem PySem.Spec PyProof.Rows L2
def asY (g : Addr → Option Obj) (n : Nat) : List Addr := sysModules :: asD g n
def obsY (n : Nat) (fn : List DefD) (ex : PySem.W.Frag → Bool) (g : Addr → Option Obj) : Bool × List FnW := ((fn.all fun d => d.ok (frG g (asY g n))) && ex (frG g (asY g n)), fn.map fun d => fnW (frG g (asY g n)) d.at_)
structure SaysY (fn : List DefD) (ex : PySem.W.Frag → Bool) (K : PySem.W.Frag) : Prop where
  ok : (fn.all fun d => d.ok K) = true
  more : ex K = true
  fns : fn.map (fun d => fnW K d.at_) = fn.map DefD.val
theorem saysY_of {n : Nat} {fn : List DefD} {ex : PySem.W.Frag → Bool} {g : Addr → Option Obj} (e : obsY n fn ex g = (true, fn.map DefD.val)) : SaysY fn ex (frG g (asY g n)) := by
  have e1 : ((fn.all fun d => d.ok (frG g (asY g n))) && ex (frG g (asY g n))) = true := congrArg (fun z : Bool × List FnW => z.1) e
  exact ⟨(ba e1).1, (ba e1).2, congrArg (fun z : Bool × List FnW => z.2) e⟩
def hookY (n : Nat) (fn : List DefD) (ex : PySem.W.Frag → Bool) : PySem.W.Hook where
  α := Bool × List FnW
  obs := fun s => obsY n fn ex s.heap.get?
  val := fun _ => (true, fn.map DefD.val)
  says := fun _ h => ∃ K : PySem.W.Frag, K.In h ∧ SaysY fn ex K
  of := fun _ _ e => ⟨_, frG_in, saysY_of e⟩
  keeps := fun _ _ _ ⟨K, hK, c⟩ k => ⟨K, PySem.W.Frag.In.keeps hK k, c⟩
theorem obsY_eq {n : Nat} {fn : List DefD} {ex : PySem.W.Frag → Bool} {g : Addr → Option Obj} {s : Shared} (h : ∀ a, g a = s.heap.get? a) : obsY n fn ex g = (hookY n fn ex).obs s := by
  have e : g = s.heap.get? := funext h
  rw [e] <;> rfl
theorem SaysY.def_ {fn : List DefD} {ex : PySem.W.Frag → Bool} {K : PySem.W.Frag} (c : SaysY fn ex K) (i : Nat) {d : DefD} (h : fn[i]? = some d) : ∃ fd, FunD K d.name d.qual d.params d.body d.scope (d.dvs K) (d.kws K) (fAd K d.at_) fd := by
  have e2 : (fn.map fun d => fnW K d.at_)[i]? = (fn.map DefD.val)[i]? := by rw [c.fns]
  rw [List.getElem?_map, List.getElem?_map, h] at e2
  exact DefD.funD (Option.some.inj e2) (List.all_eq_true.mp c.ok d (List.mem_of_getElem? h))
end He

end PE6
section PM12
set_option maxHeartbeats 4000000
/-! sorted(set(xs)), xs a list of texts. -/
namespace TxSet
open PySem PySem.Spec PyProof.Rows L2
def keyT (e : Int × Value) : Str := match e.2 with
  | .str k _ => k
  | _ => Str.empty
def GoodT (P : Program) (w : World) (e : Int × Value) : Prop := ∃ k tk, e.2 = Value.str k tk ∧ e.1 = (PySem.strKind P w).hash k
/-- the entries es with the table t are those of a set of just the texts zs -/
structure Tb (P : Program) (w : World) (es : Array (Int × Value)) (t : SetTable) (zs : List Str) : Prop where
  good : ∀ e ∈ es.toList, GoodT P w e
  nd : (es.toList.map keyT).Nodup
  mem : ∀ k, k ∈ zs ↔ k ∈ es.toList.map keyT
  le : es.size ≤ zs.length
  fit : t.fits es.size = true
  ris : Ris t.place.toList
  led : w.params.followText "set-order" = true ∨ t.led = true
/-- at a: a set of the texts zs -/
def Tx (P : Program) (w : World) (h : Heap) (a : Addr) (zs : List Str) : Prop := ∃ o es ep t, h.get? a = some o ∧ o.ExactSet ∧ o.data = .set es ep t ∧ Tb P w es t zs
section
variable {P : Program} {w : World} {h h' : Heap} {a : Addr} {zs : List Str}
theorem Tx.at (R : Tx P w h a zs) (k : ∀ o, h.get? a = some o → h'.get? a = some o) : Tx P w h' a zs := by
  obtain ⟨o, es, ep, t, ho, r⟩ := R
  exact ⟨o, es, ep, t, k o ho, r⟩
theorem elemsT {l : List (Int × Value)} (g : ∀ e ∈ l, GoodT P w e) : ElemsOf (PySem.strKind P w) l := fun e he => by
  obtain ⟨k, tk, h1, h2⟩ := g e he
  exact ⟨⟨k, by rw [h1]; exact strKind_is P w k tk, h2⟩, by rw [h1] <;> rfl⟩
theorem isT {e : Int × Value} (g : GoodT P w e) (k : Str) : (PySem.strKind P w).is k e.2 = true ↔ keyT e = k := by
  obtain ⟨k0, tk, h1, _⟩ := g
  unfold keyT
  rw [h1]
  constructor
  · intro q
    obtain ⟨t, et⟩ := Value.isStrOf_shape (show Value.isStrOf k (.str k0 tk) = true from q)
    injection et
  · intro q
    have q' : k0 = k := q
    subst q'
    exact strKind_is P w k0 tk
theorem memT {l : List (Int × Value)} (g : ∀ e ∈ l, GoodT P w e) (k : Str) : k ∈ l.map keyT ↔ ∃ e ∈ l, (PySem.strKind P w).is k e.2 = true := by
  rw [List.mem_map]
  exact ⟨fun ⟨e, he, q⟩ => ⟨e, he, (isT (g e he) k).2 q⟩, fun ⟨e, he, q⟩ => ⟨e, he, (isT (g e he) k).1 q⟩⟩
theorem Tb.perm {es es2 : Array (Int × Value)} {t t2 : SetTable} (T : Tb P w es t zs) (pm : es2.toList.Perm es.toList) (hf : t2.fits es2.size = true) (hr : Ris t2.place.toList) (hl : t2.led = t.led) : Tb P w es2 t2 zs where
  good := fun e he => T.good e (pm.mem_iff.mp he)
  nd := (pm.map keyT).nodup_iff.mpr T.nd
  mem := fun k => (T.mem k).trans (pm.map keyT).mem_iff.symm
  le := by
    have e := pm.length_eq
    rw [Array.length_toList, Array.length_toList] at e
    rw [e]
    exact T.le
  fit := hf
  ris := hr
  led := T.led.imp id fun z => by rw [hl]; exact z
theorem Tb.table {es : Array (Int × Value)} {t t2 : SetTable} (T : Tb P w es t zs) (hf : t2.fits es.size = true) (hr : Ris t2.place.toList) (hl : w.params.followText "set-order" = true ∨ t2.led = true) : Tb P w es t2 zs := ⟨T.good, T.nd, T.mem, T.le, hf, hr, hl⟩
end
section
variable {P : Program} {w : World} {A : Around} {E : Value → Shared → Prop} {s : Shared} {a : Addr} {zs : List Str}
/-- the new entries stored, the table laid anew where it is too full -/
theorem tail_tx {g : Bool → Sem Unit} (hg : ∀ (b : Bool) (s₁ : Shared) (Q' : Unit → Shared → Prop), Q' () s₁ → wpAny (model P w) A (g b) Q' E s₁) {o : Obj} {es es1 : Array (Int × Value)} {ep : Nat} {t t2 : SetTable} (ho : s.heap.get? a = some o) (hex : o.ExactSet) (hd : o.data = .set es ep t)
    (T : Tb P w es1 t2 zs) (hz : zs.length < 64) {wasDummy : Bool} {R : Option Bool → Shared → Prop} (hR : ∀ h', Heap.SameBut a s.heap h' → Tx P w h' a zs → R (some true) { s with heap := h' }) :
    wpAny (model P w) A (storeSet a es1 t2 >>= fun _ => if (!wasDummy && t2.tooFull) = true then g (relayAll t2 es1 (SetTable.grown es1.size)).2.2 >>= fun _ => storeSet a (relayAll t2 es1 (SetTable.grown es1.size)).1 (relayAll t2 es1 (SetTable.grown es1.size)).2.1 >>= fun _ => pure (some true) else pure (some true)) R E s := by
  have hb1 : es1.size < scanBound := by
    have := T.le
    unfold scanBound
    omega
  refine wpAny_bind (wpAny_storeSet_of ho hd ?_ (fits_of_scanBound hb1))
  have ho1 := store_at (es' := es1) (t' := t2) ho hd
  have sb1 := Heap.SameBut.update s.heap a (Obj.putSet es1 t2)
  split
  · have T2 := T.perm (relayAll_perm t2 es1 (SetTable.grown es1.size)) (relayAll_fits t2 es1 (SetTable.grown es1.size)) (relayAll_ris t2 es1 (SetTable.grown es1.size)) (relayAll_led t2 es1 (SetTable.grown es1.size))
    generalize relayAll t2 es1 (SetTable.grown es1.size) = Z at T2 ⊢
    obtain ⟨es2, t3, gave⟩ := Z
    dsimp only at T2 ⊢
    have hb2 : es2.size < scanBound := by
      have := T2.le
      unfold scanBound
      omega
    refine wpAny_bind (hg _ _ _ (wpAny_bind (wpAny_storeSet_of ho1 rfl ?_ (fits_of_scanBound hb2))))
    exact wpAny_pure (hR _ (sb1.trans (Heap.SameBut.update _ a _)) ⟨_, es2, _, t3, store_at (es' := es2) (t' := t3) ho1 rfl, hex, rfl, T2⟩)
  · exact wpAny_pure (hR _ sb1 ⟨_, es1, _, t2, ho1, hex, rfl, T⟩)
/-- a text put in -/
theorem add_tx {k : Str} {tk : Tok} {Q : Bool → Shared → Prop} (R : Tx P w s.heap a zs) (room : zs.length + 1 < 64) (hQ : ∀ h' b, Heap.SameBut a s.heap h' → Tx P w h' a (zs ++ [k]) → Q b { s with heap := h' }) :
    wpAny (model P w) A (setAddHashed a (.str k tk) ((PySem.strKind P w).hash k)) Q E s := by
  obtain ⟨o, es, ep, t, ho, hex, hd, T⟩ := R
  have hkey : (PySem.strKind P w).is k (.str k tk) = true := strKind_is P w k tk
  have hsc : (Value.str k tk).scannable = true := rfl
  have hel : ElemsOf (PySem.strKind P w) es.toList := elemsT T.good
  have hb : es.size < scanBound := by
    have := T.le
    unfold scanBound
    omega
  have room2 : (zs ++ [k]).length < 64 := by
    rw [List.length_append, List.length_singleton]
    exact room
  unfold setAddHashed setAddHashedIn
  refine wpAny_holding (wpAny_bind (wpAny_setState_of ho hd T.fit ?_))
  dsimp only
  rw [byScan_of hsc hb hel]
  simp only [↓reduceIte]
  unfold setAddByScan
  refine wpAny_bind (wpAny_bind (wpAny_rule (wpAny_bind (wpAny_setScan_of hkey ho hd T.fit hel ?_))))
  cases hfi : List.findIdx? (fun e => (PySem.strKind P w).is k e.2) es.toList with
  | some j =>
    dsimp only
    obtain ⟨hj, pj, _⟩ := List.findIdx?_eq_some_iff_getElem.mp hfi
    have hk : k ∈ es.toList.map keyT := (memT (P := P) (w := w) T.good k).2 ⟨_, List.getElem_mem hj, pj⟩
    refine wpAny_pure (wpAny_pure (hQ s.heap _ (Heap.SameBut.refl a s.heap) ⟨o, es, ep, t, ho, hex, hd, T.good, T.nd, fun i => ?_, ?_, T.fit, T.ris, T.led⟩))
    · rw [List.mem_append, List.mem_singleton, ← T.mem i]
      exact ⟨fun z => z.elim id fun e => (T.mem i).2 (e ▸ hk), .inl⟩
    · rw [List.length_append]
      exact Nat.le_trans T.le (Nat.le_add_right _ _)
  | none =>
    dsimp only
    have hnk : k ∉ es.toList.map keyT := fun z => by
      obtain ⟨e, he, q⟩ := (memT (P := P) (w := w) T.good k).1 z
      have c := List.findIdx?_eq_none_iff.mp hfi e he
      rw [q] at c
      cases c
    have hgw : ∀ (b : Bool) {s₁ : Shared} {Q' : Unit → Shared → Prop}, Q' () s₁ → wpAny (model P w) A (match b with | true => rule "set.scan.the-table-gave-way" | false => pure ()) Q' E s₁ := fun b s₁ Q' q => by
      cases b
      · exact wpAny_pure q
      · exact wpAny_rule q
    have pm := layNew_perm t es ((PySem.strKind P w).hash k) (.str k tk)
    have hf1 := layNew_fits t es ((PySem.strKind P w).hash k) (.str k tk)
    have hr1 := layNew_ris t es ((PySem.strKind P w).hash k) (.str k tk) T.ris
    have hl1 := layNew_led t es ((PySem.strKind P w).hash k) (.str k tk)
    generalize layNew t es ((PySem.strKind P w).hash k) (.str k tk) = Z at pm hf1 hr1 hl1 ⊢
    obtain ⟨es1, t1, wasDummy, gave⟩ := Z
    dsimp only at pm hf1 hr1 hl1 ⊢
    rw [Array.toList_push] at pm
    have pc : es1.toList.Perm (((PySem.strKind P w).hash k, Value.str k tk) :: es.toList) := pm.trans (List.perm_append_singleton _ _)
    have pk : (es1.toList.map keyT).Perm (k :: es.toList.map keyT) := pc.map keyT
    have hsz : es1.size = es.size + 1 := by rw [← Array.length_toList, pc.length_eq, List.length_cons, Array.length_toList]
    have hled : w.params.followText "set-order" = true ∨ t1.led = true := T.led.imp id fun z => by rw [hl1]; exact z
    have T1 : Tb P w es1 t1 (zs ++ [k]) := {
      good := fun e he => by
        rcases List.mem_cons.mp (pc.mem_iff.mp he) with z | z
        · rw [z]
          exact ⟨k, tk, rfl, rfl⟩
        · exact T.good e z
      nd := pk.nodup_iff.mpr (List.nodup_cons.mpr ⟨hnk, T.nd⟩)
      mem := fun i => by
        rw [List.mem_append, List.mem_singleton, T.mem i, pk.mem_iff, List.mem_cons]
        exact Or.comm
      le := by
        rw [hsz, List.length_append, List.length_singleton]
        exact Nat.succ_le_succ T.le
      fit := hf1
      ris := hr1
      led := hled }
    refine wpAny_bind (hgw _ ?_)
    split
    · refine wpAny_bind ?_
      rw [hashByValue_scannable 8 hsc]
      refine wpAny_pure (tail_tx (fun b s₁ Q' q => ?_) ho hex hd (T1.table ?_ ?_ ?_) room2 fun h' sb r => ?_)
      · cases b
        · exact wpAny_pure q
        · exact wpAny_rule q
      · first
          | (split <;> first | exact hf1 | exact SetTable.fits_plain_off hf1)
          | exact hf1
      · first
          | (split <;> exact hr1)
          | exact hr1
      · first
          | (split <;> exact hled)
          | exact hled
      · dsimp only
        exact wpAny_pure (hQ h' _ sb r)
    · refine wpAny_bind (wpAny_pure ?_)
      simp only [↓reduceIte]
      refine tail_tx (fun b s₁ Q' q => ?_) ho hex hd T1 room2 fun h' sb r => ?_
      · cases b
        · exact wpAny_pure q
        · exact wpAny_rule q
      · dsimp only
        exact wpAny_pure (hQ h' _ sb r)
end
end TxSet

end PM12
section PN12
set_option maxHeartbeats 4000000
namespace TxSet
open PySem PySem.Spec PyProof.Rows L2
theorem new_tx {P : Program} {w : World} {h : Heap} {a : Addr} (ho : h.get? a = some { cls := .type "set", dict := none, data := .set #[] 0 (.fresh 0 0 (!w.params.followText "set-order")) }) : Tx P w h a [] :=
  ⟨_, #[], 0, _, ho, ⟨rfl, rfl, rfl⟩, rfl, (fun e he => by simp at he), (by simp), (fun k => by simp), Nat.le_refl _, (by rfl), List.Pairwise.nil, by
    show _ ∨ (!w.params.followText "set-order") = true
    cases w.params.followText "set-order"
    · exact .inr rfl
    · exact .inl rfl⟩
section
variable {P : Program} {w : World} {A : Around} {E : Value → Shared → Prop} {s : Shared}
/-- the loop that puts the texts in -/
theorem loop_tx {I : Addr} {fp wr : List Addr} {G : Array GenState → Array GenState → Prop} {n : Nat} {Pv : Nat → Value → Prop} {St : Nat → Shared → Prop} {R : Result → Shared → Prop} (W : WalksS P w A.in1 I fp wr G n Pv St) (S : Addr) (hSf : S ∉ fp) (xs : List Str) (hn : xs.length = n) (h64 : n < 64)
    (hval : ∀ i v, Pv i v → ∃ t, v = .str (xs.getD i Str.empty) t) :
    ∀ (k i : Nat) (s : Shared), n - i = k → i ≤ n → St i s → Tx P w s.heap S (xs.take i) → (∀ s', Moved (S :: wr) G s s' → Tx P w s'.heap S xs → R (.ok (.ret .none)) s') →
      codeAny (model P w) A (.builtin "set.update.loop" ⟨[.ref S, .ref I], []⟩) R s := by
  have hSw : S ∉ wr := fun z => hSf (W.sub _ z)
  have wider : ∀ b ∈ wr, b ∈ S :: wr := fun b hb => List.mem_cons_of_mem _ hb
  intro k
  induction k with
  | zero =>
    intro i s hk hi hst hS hR
    have hin : i = n := by omega
    subst hin
    rw [List.take_of_length_le (Nat.le_of_eq hn)] at hS
    refine codeAny_builtin F.entry_set_update_loop ?_
    rw [Around.under_plainId F.plain_set_update_loop _]
    show wpAny _ A.in1 (pyNext (.ref I) >>= _) _ _ s
    refine wpAny_bind (W.done s _ _ hst fun s' hm => ?_)
    show wpAny _ A.in1 (ret Value.none) _ _ s'
    exact wpAny_pure (hR s' (hm.mono wider) (hS.at fun o e => hm.heap S o hSw e))
  | succ k ih =>
    intro i s hk hi hst hS hR
    have hlt : i < n := by omega
    refine codeAny_builtin F.entry_set_update_loop ?_
    rw [Around.under_plainId F.plain_set_update_loop _]
    show wpAny _ A.in1 (pyNext (.ref I) >>= _) _ _ s
    refine wpAny_bind (W.item i s _ _ hlt hst fun v s' hP hst' hm => ?_)
    obtain ⟨t, rfl⟩ := hval i v hP
    have hS1 : Tx P w s'.heap S (xs.take i) := hS.at fun o e => hm.heap S o hSw e
    have hx : xs[i]? = some (xs.getD i Str.empty) := by
      rw [List.getD_eq_getElem?_getD, List.getElem?_eq_getElem (by omega)] <;> rfl
    show wpAny _ A.in1 (holding [Value.str (xs.getD i Str.empty) t] (setAdd S (.str (xs.getD i Str.empty) t)) >>= _) _ _ s'
    refine wpAny_bind (wpAny_holding ?_)
    unfold setAdd
    refine wpAny_holding (wpAny_bind ((PySem.strKind P w).pyHash (k := xs.getD i Str.empty) (strKind_is _ _ _ _) ?_))
    refine add_tx (s := { s' with toks := s'.toks + 1 }) hS1 (by rw [List.length_take]; omega) fun h' b hsb hS2 => ?_
    have hS3 : Tx P w h' S (xs.take (i + 1)) := by
      rw [List.take_add_one, hx]
      exact hS2
    refine wpAny_pure ⟨plainId_quiet F.plain_set_update_loop _, ih (i + 1) _ (by omega) hlt (W.frame _ s' _ _ hst' (Nat.le_succ _) fun b hb o e => ?_) hS3 fun s'' hm'' hS'' => ?_⟩
    · rw [hsb.2 b (fun z : b = S => hSf (by rw [← z]; exact hb))]
      exact e
    · refine hR s'' (Moved.trans W.gtrans ((hm.mono wider).then_heap (Nat.le_succ _) fun b o hb e => ?_) hm'') hS''
      rw [hsb.2 b (fun z : b = S => hb (by rw [z]; exact List.mem_cons_self))]
      exact e
abbrev newSet (w : World) : Obj := { cls := .type "set", dict := none, data := .set #[] 0 (.fresh 0 0 (!w.params.followText "set-order")) }
set_option maxHeartbeats 3200000 in
/-- set(xs) -/
theorem set_of {l : Addr} {items : Array Value} {xs : List Str} {Q : Value → Shared → Prop} (hh : A.handled = none) (hl : s.heap.IsList l items) (hi : StrsAre items.toList xs) (h64 : xs.length < 64)
    (h : ∀ (h' : Heap) (tk : Nat), Tx P w h' s.heap.objs.size xs → (∀ b o, b < s.heap.objs.size → s.heap.get? b = some o → h'.get? b = some o) → Q (.ref s.heap.objs.size) { s with heap := h', toks := tk }) :
    wpAny (model P w) A (call (.type "set") [.ref l]) Q E s := by
  obtain ⟨c, tl, hmro⟩ := PySem.F.called_set.mro
  have m1 := PySem.F.called_set.made
  have m2 := PySem.F.called_set.sub
  refine wpAny_call (codeAny_of_tree ?_)
  show wpAny _ _ (callAny (.type "set") _) _ _ _
  refine wpAny_pure ⟨Code.quiet_builtin _ (by decide +kernel), codeAny_builtin PySem.F.entry_type_call ?_⟩
  rw [Around.under_plain (weight_type_call_type "set" [.ref l] []) rfl]
  have m3 := PySem.F.called_set.notType
  have m4 := PySem.F.called_set.canCreate
  have m5 := PySem.F.typeCall_set_1 (.ref l)
  repeat (any_goals (first | assumption | wp_step))
  refine codeAny_mono (code_set_led1 (.ref l) (E := E) (Q₁ := fun obj s₁ => obj = .ref s.heap.objs.size ∧ s₁ = { s with heap := s.heap.push (newSet w) }) ⟨rfl, rfl⟩) fun r s₁ hr => ?_
  cases r with
  | error e => exact hr
  | ok fl =>
    cases fl with
    | ret obj =>
      obtain ⟨rfl, rfl⟩ := hr
      have hS : (s.heap.push (newSet w)).get? s.heap.objs.size = some (newSet w) := Heap.get?_push_size _ rfl
      have hT : Shared.TypeIs { s with heap := s.heap.push (newSet w) } (.ref s.heap.objs.size) "set" := ⟨_, hS, rfl⟩
      have m6 := PySem.F.called_set.init.lookup
      have m7 := PySem.F.called_set.init.bind (.ref s.heap.objs.size)
      repeat (any_goals (first | assumption | wp_step))
      refine codeAny_mono (codeAny_call_builtin (R := wants (fun r s₂ => r = .none ∧ ∃ h' tk, s₂ = { s with heap := h', toks := tk } ∧ Tx P w h' s.heap.objs.size xs ∧ (∀ b o, b < s.heap.objs.size → s.heap.get? b = some o → h'.get? b = some o)) E)
        PySem.F.called_set.init.plain PySem.F.entry_set_init (check_set_init_1 hT ?_)) fun r₂ s₂ hr₂ => ?_
      · obtain ⟨⟨ocls, odict, odata, oslots⟩, hol, hcl, nl, hdl⟩ := hl
        simp only at hcl hdl
        subst hcl hdl
        have hol' : (s.heap.push (newSet w)).get? l = some { cls := .type "list", dict := odict, data := .seq items nl, slots := oslots } := Heap.get?_push_of_some _ hol
        have hsls := PySem.F.sub_list_set
        have hslf := PySem.F.sub_list_frozenset
        have hne : (Value.type "list" == Value.type "dict") = false := by decide
        have hl1 : (s.heap.push (newSet w)).IsList l items := ⟨_, hol', rfl, nl, rfl⟩
        unfold Builtin.«set.__init__» noKeywords Builtin.Frozenset.updateFrom
        generalize hPI : pyIter = PI
        wp_walk
        subst hPI
        refine wpAny_pyIter_list hl1 ?_
        refine wpAny_bind (wpAny_runValue ?_)
        have hlS : l < s.heap.objs.size := Heap.lt_size hol
        have hh3 : A.in1.in1.in1.handled = none := by simp [hh]
        have hneI : l ≠ (s.heap.push (newSet w)).objs.size := by
          rw [Heap.size_push]
          exact Nat.ne_of_lt (Nat.lt_succ_of_lt hlS)
        have hSf : s.heap.objs.size ∉ [(s.heap.push (newSet w)).objs.size, l] := by
          rw [Heap.size_push]
          simp only [List.mem_cons, List.mem_singleton, List.not_mem_nil, or_false, not_or]
          exact ⟨Nat.ne_of_lt (Nat.lt_succ_self _), Nat.ne_of_gt hlS⟩
        have hsz : xs.length = items.size := by rw [← StrsAre.len_eq hi, Array.length_toList]
        refine loop_tx ((Walks.list hh3 _ l hneI items).toS) s.heap.objs.size hSf xs hsz (by rw [← hsz]; exact h64) (fun i v hv => SS.strs_at hi i v (by rw [Array.getElem?_toList]; exact hv)) (items.size - 0) 0 _ (by omega) (Nat.zero_le _)
          ⟨⟨_, Heap.get?_push_size _ rfl, rfl, rfl⟩, (hl1.push _)⟩ ?start ?last
        case start =>
          have z : ((s.heap.push (newSet w)).push { cls := .type "list_iterator", data := .fields #[.ref l, .int 0 0] }).get? s.heap.objs.size = some (newSet w) := Heap.get?_push_of_some _ hS
          exact new_tx z
        case last =>
          intro s' hm hS'
          obtain ⟨h', g', d', tk', os'⟩ := s'
          have eg : g' = s.gens := hm.gens
          have ed : d' = s.drawn := hm.drawn
          have eo : os' = s.os := hm.os
          subst eg ed eo
          show wpAny _ _ _ _ _ _
          refine wpAny_pure ?_
          show wpAny _ _ (ret Value.none) _ _ _
          refine wpAny_pure ⟨rfl, h', tk', rfl, hS', fun b o hb e => ?_⟩
          refine hm.heap b o ?_ (Heap.get?_push_of_some _ (Heap.get?_push_of_some _ e))
          rw [Heap.size_push]
          simp only [List.mem_cons, List.mem_singleton, List.not_mem_nil, or_false, not_or]
          exact ⟨Nat.ne_of_lt hb, Nat.ne_of_lt (Nat.lt_succ_of_lt hb)⟩
      · cases r₂ with
        | error e => exact hr₂
        | ok fl₂ =>
          cases fl₂ with
          | ret r =>
            obtain ⟨rfl, h', tk, rfl, hS', hk'⟩ := hr₂
            repeat (any_goals (first | assumption | wp_step))
            exact h _ _ hS' hk'
          | _ => exact hr₂.elim
    | _ => exact hr.elim
theorem strs_of : ∀ (l : List Value), (∀ v ∈ l, ∃ k tk, v = Value.str k tk) → StrsAre l (l.map fun v => match v with | .str k _ => k | _ => Str.empty)
  | [], _ => .nil
  | v :: l, h => by
    obtain ⟨k, tk, rfl⟩ := h v List.mem_cons_self
    exact .cons k tk (strs_of l fun u hu => h u (List.mem_cons_of_mem _ hu))
/-- sorted(s) -/
theorem sorted_of {a : Addr} {xs : List Str} {Q : Value → Shared → Prop} (R : Tx P w s.heap a xs) (hh : A.handled = none) (h64 : xs.length < 64)
    (hQ : ∀ s' p (out : Array Value) (c : Nat) (ys : List Str), (∀ b o, s.heap.get? b = some o → s'.heap.get? b = some o) → s'.gens = s.gens → s'.os = s.os → s.heap.objs.size ≤ p →
      s'.heap.get? p = some (seqObj "list" out c) → StrsAre out.toList ys → sortedS ys = true → ys.Nodup → (∀ k, k ∈ ys ↔ k ∈ xs) → ys.length ≤ xs.length → Q (.ref p) s') :
    wpAny (model P w) A (call (.builtin "sorted") [.ref a]) Q E s := by
  obtain ⟨o, es, ep, t, ho, hex, hd, T⟩ := R
  have hn : es.size < 64 := Nat.lt_of_le_of_lt T.le h64
  refine Calls.call_function_entry kind_sorted plain_sorted entry_sorted (args_sorted1 _) ?_
  unfold Builtin.«sorted»
  refine wpAny_bind (m := checkCount "sorted" 1 1 _) (wpAny_pure ?_)
  refine wpAny_bind (collect_set (A := A.in1) hh ⟨o, ho, hex.1, hd⟩ T.fit (by unfold scanBound; omega) T.ris T.led fun s1 vs k1 hz g1 o1 pm => ?_)
  have hvl : vs.length = es.size := by rw [pm.length_eq, List.length_map, Array.length_toList]
  have hI := strs_of vs fun v hv => by
    obtain ⟨e, he, q⟩ := List.mem_map.mp (pm.mem_iff.mp hv)
    obtain ⟨k, tk, h1, _⟩ := T.good e he
    exact ⟨k, tk, by rw [← q]; exact h1⟩
  have pk : (vs.map fun v => match v with | .str k _ => k | _ => Str.empty).Perm (es.toList.map keyT) := by
    have q := pm.map fun v : Value => match v with | .str k _ => k | _ => Str.empty
    rw [List.map_map] at q
    exact q
  generalize (vs.map fun v => match v with | .str k _ => k | _ => Str.empty) = zs at hI pk
  refine wpAny_bind (wpAny_newList ?_ (by rw [hvl, sizeLine_eq]; omega))
  have hoL : (s1.heap.push (seqObj "list" vs.toArray 0)).get? s1.heap.objs.size = some (seqObj "list" vs.toArray 0) := Heap.get?_push_size _ rfl
  refine wpAny_bind (wpAny_holding (wpAny_call_entry slot_list_sort ⟨_, hoL, rfl⟩ entry_list_sort (list_sort_treeK strKind_oneLt hoL hI.keysOf (fun v₁ v₂ rest e => keyKind_strs (by rw [← e]; exact hI)) (by rw [hvl]; exact hn) fun st' hp hs => ?_) (args_list_sort _)))
  obtain ⟨ys, a1, a2, a3⟩ := sorted_out_str hI hp hs
  have pn : ys.Perm (es.toList.map keyT) := a2.trans pk
  obtain ⟨c, hc⟩ := sortedHeap_at (vs := vs) (out := (arrOf st').map (·.2)) hoL
  refine ⟨_, rfl, wpAny_pure ⟨_, rfl, hQ _ s1.heap.objs.size _ c ys (fun b u e => ?_) g1 o1 hz hc a1 a3 (pn.nodup_iff.mpr T.nd) (fun k => by rw [pn.mem_iff, ← T.mem k]) ?_⟩⟩
  · have q := k1 b u e
    have hlt := Heap.lt_size q
    show (sortedHeap (s1.heap.push (seqObj "list" vs.toArray 0)) s1.heap.objs.size vs _).get? b = some u
    rw [sortedHeap_old (Nat.ne_of_lt hlt) (by rw [size_push']; exact Nat.lt_succ_of_lt hlt)]
    exact Heap.get?_push_of_some _ q
  · rw [pn.length_eq, List.length_map, Array.length_toList]
    exact T.le
end
end TxSet

end PN12
section PO12
set_option maxHeartbeats 4000000
namespace L2
open PySem PySem.Spec PyProof.Rows TxSet
/-- a set of the texts xs -/
def TxO (P : Program) (w : World) (a : Addr) (xs : List Str) : HO := .ext fun h => Tx P w h a xs
theorem txO_new {w : World} {P : Program} {H : Hp} {h : Heap} {a : Addr} {xs : List Str} (R : Tx P w h a xs) : ObjOk P w H h a (TxO P w a xs) := by
  have ⟨o, _, _, _, ho, _⟩ := R
  exact ⟨R, ⟨o, ho⟩, fun h1 h2 p k => Tx.at p k⟩
section
variable {X : Cx}
/-- set(xs), texts -/
def rSetTx (K : PySem.W.Frag) (P : Program) (w : World) : List V → Hp → VK → Prop := fun vs H Q => ∃ (l : Addr) (xs : List Str), vs = [V.ref l] ∧ SqL K H l (xs.map V.str) ∧ xs.length < 64 ∧ ∀ a, H a = none → Q (.ref a) (upd H a (TxO P w a xs))
theorem cr_setTx (hc : X.calm = true) : CallR X (.type "set") (rSetTx X.K X.prog X.w) := by
  intro pins s σ H vs us Q I r h
  obtain ⟨l, xs, rfl, hs, h64, q⟩ := h
  obtain ⟨its, rv, hl, _⟩ := I.list hs
  rw [Vals.ref1 r]
  refine set_of (I.ok.hd hc) hl.isList rv.strs h64 fun h' tk hS k => ?_
  have kk : ∀ b o, s.heap.get? b = some o → h'.get? b = some o := fun b o e => k b o (Heap.lt_size e) e
  exact ⟨.ref _, upd H s.heap.objs.size (TxO X.prog X.w s.heap.objs.size xs), I.laid (t' := tk) kk (Nat.le_refl _) (txO_new hS), rfl, q _ (I.hok.fresh (Nat.le_refl _))⟩
/-- sorted(s), s a set of texts -/
def rSortedTx (P : Program) (w : World) : List V → Hp → VK → Prop := fun vs H Q => ∃ (a : Addr) (xs : List Str), vs = [V.ref a] ∧ H a = some (TxO P w a xs) ∧ xs.length < 64 ∧
  ∀ (ys : List Str) (p : Addr), sortedS ys = true → ys.Nodup → (∀ k, k ∈ ys ↔ k ∈ xs) → ys.length ≤ xs.length → H p = none → Q (.ref p) (upd H p (.lst (ys.map V.str)))
theorem cr_sortedTx (hc : X.calm = true) : CallR X (.builtin "sorted") (rSortedTx X.prog X.w) := by
  intro pins s σ H vs us Q I r h
  obtain ⟨a, xs, rfl, ha, h64, q⟩ := h
  have R : Tx X.prog X.w s.heap a xs := (I.hok a _ ha).1
  rw [Vals.ref1 r]
  refine sorted_of R (I.ok.hd hc) h64 fun s' p out c ys k g o hp hg hi hs nd hm hl => ?_
  have hlen : (ys.map V.str).length ≤ sizeLine := by
    rw [List.length_map, sizeLine_eq]
    omega
  have hn : H p = none := I.hok.fresh hp
  have J : Inv X pins σ (upd H p (.lst (ys.map V.str))) { s with heap := s'.heap, gens := s'.gens, drawn := s'.drawn, toks := s'.toks } :=
    I.call (ch := []) (Un.laid k hp hn) (I.hok.laid k hp ⟨hlen, out.toList, c, vals_of_strs hi, hg⟩) (by rw [g]; exact I.bare) (fun _ z => nomatch z)
  have e : s' = { s with heap := s'.heap, gens := s'.gens, drawn := s'.drawn, toks := s'.toks } := by
    cases s'
    cases s
    cases o
    rfl
  rw [e]
  exact ⟨.ref p, _, J, rfl, q ys p hs nd hm hl hn⟩
end
end L2

end PO12
section PC12
set_option maxHeartbeats 4000000
namespace C12
open PySem L2
def top (i : Nat) : Stmt := PySem.Challenge.pw_keptedits_k12_whole_maps_of_texts.main.body.getD i (.Pass ⟨0, 0, 0, 0⟩)
abbrev sPot : Stmt := top 23
abbrev sDraw : Stmt := top 24
abbrev sPick : Stmt := top 25
abbrev FD (K : PySem.W.Frag) (x : Str) (st : Stmt) (f : Addr) (fd : FuncData) : Prop := FunD K x x (defArgs st) (defBody st) (defScope st) [] [] f fd
/-! ### heaps: what stands but at p -/
def Bt (p : Addr) (H H' : Hp) : Prop := ∀ b o, b ≠ p → H b = some o → H' b = some o
theorem Bt.refl (p : Addr) (H : Hp) : Bt p H H := fun _ _ _ e => e
theorem Bt.trans {p : Addr} {H H1 H2 : Hp} (a : Bt p H H1) (b : Bt p H1 H2) : Bt p H H2 := fun c o n e => b c o n (a c o n e)
theorem Same.bt {p : Addr} {H H' : Hp} (s : Same H H') : Bt p H H' := fun b o _ e => s b o e
theorem same_upd {H : Hp} {p : Addr} {o : HO} (h : H p = none) : Same H (upd H p o) := fun b u e => by
  rw [upd_ne (ne_of_none e h)]
  exact e
theorem bt_upd {H : Hp} {p : Addr} {o : HO} : Bt p H (upd H p o) := fun b u n e => by
  rw [upd_ne n]
  exact e
/-- H without p -/
def hid (p : Addr) (H : Hp) : Hp := fun b => if b = p then none else H b
theorem hid_same (p : Addr) (H : Hp) : Same (hid p H) H := fun b o e => by
  unfold hid at e
  by_cases h : b = p
  · rw [if_pos h] at e
    cases e
  · rw [if_neg h] at e
    exact e
theorem Bt.hid {p : Addr} {H H' : Hp} (s : Bt p H H') : Same (hid p H) (hid p H') := fun b o e => by
  unfold C12.hid at e ⊢
  by_cases h : b = p
  · rw [if_pos h] at e
    cases e
  · rw [if_neg h] at e ⊢
    exact s b o h e
theorem Bt.free {p q : Addr} {H H' : Hp} (s : Bt p H H') (hq : q ≠ p) (h : H' q = none) : H q = none := by
  cases e : H q with
  | none => rfl
  | some o =>
    rw [s q o hq e] at h
    cases h
/-! ### the pot: two ints, the rest of the digits and the seed -/
def PotAt (H : Hp) (p : Addr) : Prop := ∃ x y : Int, H p = some (.lst [.int x, .int y]) ∧ 0 ≤ x ∧ 0 ≤ y ∧ y ≤ 2147483630
def spPot (K : PySem.W.Frag) : Sp := fun vs H Q _ => ∃ (a : Addr) (ns : List Int) (k : Int), vs = [.ref a, .int k] ∧ SqL K H a (ns.map V.int) ∧ ns.length ≤ 63 ∧ 0 ≤ k ∧ k ≤ 63 ∧
  ∀ (p : Addr) (x y : Int), H p = none → 0 ≤ x → 0 ≤ y → y ≤ 2147483630 → Q (.ref p) (upd H p (.lst [.int x, .int y]))
def spDraw : Sp := fun vs H Q _ => ∃ (p : Addr) (n : Int), vs = [.ref p, .int n] ∧ PotAt H p ∧ 0 < n ∧ n < 1073741824 ∧ ∀ (d : Int) (H' : Hp), 0 ≤ d → d < n → Bt p H H' → PotAt H' p → Q (.int d) H'
def spPick (K : PySem.W.Frag) : Sp := fun vs H Q _ => ∃ (p l : Addr) (xs : List V), vs = [.ref p, .ref l] ∧ PotAt H p ∧ l ≠ p ∧ H l = some (.lst xs) ∧ 0 < xs.length ∧ xs.length ≤ 1000 ∧
  ∀ (i : Nat) (v : V) (H' : Hp), xs[i]? = some v → Bt p H H' → PotAt H' p → Q v H'
structure TxtP (K : PySem.W.Frag) (mg : Str → Option Value) : Prop where
  len : mg "len" = none
  max : mg "max" = none
  abs : mg "abs" = none
  int : mg "int" = none
  divmod : mg "divmod" = none
section
variable {P : Program} {w : World} {K : PySem.W.Frag} {mg : Str → Option Value} {base : Heap}
theorem scPot : FnScope ["_law_script", "_law_k", "_law_cell"] ["_law_script", "_law_k"] (defScope sPot) := ⟨rfl, rfl, rfl, by decide +kernel, rfl, by decide +kernel, by decide +kernel⟩
theorem ok_pot {f : Addr} {fd : FuncData} (F : FD K "_law_pot" sPot f fd) (T : TxtP K mg) : FnOk P w K mg base CX0 1 f fd ["_law_script", "_law_k"] (spPot K) := by
  refine F.ok scPot (fun vs H Q E h => ?_) (fun cdv A outer s H vs Q E hr h => ?_)
  · obtain ⟨a, ns, k, rfl, _⟩ := h
    rfl
  · obtain ⟨a, ns, k, rfl, hS, hl, k0, k1, kk⟩ := h
    refine ⟨_, PSs.nox (pss_cons (ps_set (i := 2) scPot.nd rfl (Or.inl rfl) (pe_ifExp (pt_cmpR op_lt (pv 1) (pe_callB call_len_seq (by rfl) T.len PySem.boot_len (pa_cons (pv 0) pa_nil)) (nomark _)) (pe_ix ix_list (pv 0) (pv 1) (fun _ _ => rfl)) (pe_op op_mul pe_int (pv 1))))
      (pss_one (ps_ret (pe_lst (pa_cons (pe_callB (call_max2 rfl) (by rfl) T.max (by decide +kernel) (pa_cons pe_int (pa_cons (pe_op op_sub (pe_callB call_abs (by rfl) T.abs (by decide +kernel) (pa_cons (pv 2) pa_nil)) (pe_op op_pow pe_int pe_int)) pa_nil)))
        (pa_cons (pe_op op_add (pe_op op_mod (pe_callTy call_int1 (by rfl) T.int (by decide +kernel) (pa_cons (pe_op op_add (pe_op op_add (pe_op op_mul (pe_op op_mod (pe_callTy call_int1 (by rfl) T.int (by decide +kernel) (pa_cons (pe_callB call_abs (by rfl) T.abs (by decide +kernel) (pa_cons (pv 2) pa_nil)) pa_nil)) pe_int) pe_int) (pe_op op_mul pe_int (pv 1))) pe_int) pa_nil)) pe_int) pe_int) pa_nil)))))), ?_⟩
    refine ⟨_, rfl, _, rfl, a, _, rfl, .inl hS, _, _, rfl, rfl, _, rfl, ?_⟩
    have cell : ∀ c : Int, tRet (tLst (tCons (tCB (fun xs H Q => ∃ i j, xs = [V.int i, V.int j] ∧ Q (V.int (if j > i then j else i)) H) (tCons (tC (V.int 0)) (tCons (tOp (rI0 fun i j => V.int (i - j)) (tCB (fun xs H Q => ∃ i, xs = [V.int i] ∧ Q (V.int (if i < 0 then -i else i)) H) (tCons (tVar 2) tNil)) (tOp (rI CPow fun i j => V.int (i ^ j.toNat)) (tC (V.int 10)) (tC (V.int 18)))) tNil)))
        (tCons (tOp (rI0 fun i j => V.int (i + j)) (tOp (rI (fun _ j => 0 < j) fun i j => V.int (i % j)) (tCB (fun xs H Q => (∃ i, xs = [V.int i] ∧ Q (V.int i) H) ∨ ∃ k, xs = [V.bl k] ∧ Q (V.int (if k = true then 1 else 0)) H) (tCons (tOp (rI0 fun i j => V.int (i + j)) (tOp (rI0 fun i j => V.int (i + j))
          (tOp (rI CMul fun i j => V.int (i * j)) (tOp (rI (fun _ j => 0 < j) fun i j => V.int (i % j)) (tCB (fun xs H Q => (∃ i, xs = [V.int i] ∧ Q (V.int i) H) ∨ ∃ k, xs = [V.bl k] ∧ Q (V.int (if k = true then 1 else 0)) H) (tCons (tCB (fun xs H Q => ∃ i, xs = [V.int i] ∧ Q (V.int (if i < 0 then -i else i)) H) (tCons (tVar 2) tNil)) tNil)) (tC (V.int 2147483563))) (tC (V.int 40009)))
          (tOp (rI CMul fun i j => V.int (i * j)) (tC (V.int 61297)) (tVar 1))) (tC (V.int 17))) tNil)) (tC (V.int 2147483629))) (tC (V.int 1))) tNil))) { nx := fun _ H' => Q .non H', rt := Q } [some (.ref a), some (.int k), some (.int c)] H := fun c => by
      refine ⟨_, rfl, _, rfl, _, _, rfl, rfl, ⟨by decide, by decide, by decide⟩, _, _, rfl, rfl, _, _, rfl, ?_⟩
      refine ⟨_, rfl, _, rfl, .inl ⟨_, rfl, _, _, rfl, rfl, (by show (0 : Int) < 2147483563; decide), _, _, rfl, rfl, .inr ⟨by decide, by decide⟩, _, rfl, _, _, rfl, rfl, .inl ⟨by decide, by decide⟩, _, _, rfl, rfl, _, _, rfl, rfl, .inl ⟨_, rfl, _, _, rfl, rfl, (by show (0 : Int) < 2147483629; decide), _, _, rfl, rfl, ?_⟩⟩⟩
      refine ⟨by show 2 ≤ sizeLine; decide, fun p hp => kk p _ _ hp ?_ ?_ ?_⟩
      · split <;> omega
      · exact Int.add_nonneg (Int.emod_nonneg _ (by decide)) (by decide)
      · have := Int.emod_lt_of_pos (((if c < 0 then -c else c) % 2147483563 * 40009 + 61297 * k + 17)) (show (0 : Int) < 2147483629 by decide)
        omega
    refine ite2 (fun h => ?_) (fun h => ?_)
    · have hk : k.toNat < ns.length := by
        have := of_decide_eq_true h
        rw [List.length_map] at this
        omega
      refine ⟨_, rfl, _, rfl, a, _, k, .int (ns[k.toNat]'hk), rfl, rfl, hS, ?_, cell _⟩
      have e := atI_nat (xs := ns.map V.int) (j := k.toNat) (v := .int (ns[k.toNat]'hk)) (by rw [List.getElem?_map, List.getElem?_eq_getElem hk] <;> rfl)
      rw [Int.toNat_of_nonneg k0] at e
      exact e
    · exact ⟨_, rfl, _, _, rfl, rfl, .inl ⟨by decide, by decide⟩, cell _⟩
theorem scDraw : FnScope ["_law_pot_here", "_law_many", "_law_digit"] ["_law_pot_here", "_law_many"] (defScope sDraw) := ⟨rfl, rfl, rfl, by decide +kernel, rfl, by decide +kernel, by decide +kernel⟩
theorem ok_draw {f : Addr} {fd : FuncData} (F : FD K "_law_draw" sDraw f fd) (T : TxtP K mg) : FnOk P w K mg base CX0 1 f fd ["_law_pot_here", "_law_many"] spDraw := by
  refine F.ok scDraw (fun vs H Q E h => ?_) (fun cdv A outer s H vs Q E hr h => ?_)
  · obtain ⟨p, n, rfl, _⟩ := h
    rfl
  · obtain ⟨p, n, rfl, ⟨x, y, hp, x0, y0, y1⟩, n0, n1, kk⟩ := h
    refine ⟨_, PSs.nox (pss_cons (ps_if (pt_cmpR op_gt (pe_ix ix_list (pv 0) pe_int (fun _ _ => rfl)) pe_int (nomark _))
        (pss_cons (ps_asg (pe_callB call_divmod (by rfl) T.divmod (by decide +kernel) (pa_cons (pe_ix ix_list (pv 0) pe_int (fun _ _ => rfl)) (pa_cons (pv 1) pa_nil))) (pg_tup rfl (pgs_cons (pg_sub (pv 0) pe_int set_list) (pgs_cons (pg_name (i := 2) scDraw.nd rfl (.inl rfl)) pgs_nil))))
          (pss_one (ps_ret (pv 2)))) pss_nil)
      (pss_cons (ps_asg (pe_op op_mod (pe_callTy call_int1 (by rfl) T.int (by decide +kernel) (pa_cons (pe_op op_add (pe_op op_mul (pe_ix ix_list (pv 0) pe_int (fun _ _ => rfl)) pe_int) pe_int) pa_nil)) pe_int) (pg_sub (pv 0) pe_int set_list))
      (pss_one (ps_ret (pe_op op_mod (pe_callTy call_int1 (by rfl) T.int (by decide +kernel) (pa_cons (pe_op op_fdiv (pe_op op_mod (pe_callTy call_int1 (by rfl) T.int (by decide +kernel) (pa_cons (pe_op op_mul (pe_ix ix_list (pv 0) pe_int (fun _ _ => rfl)) (pe_ix ix_list (pv 0) pe_int (fun _ _ => rfl))) pa_nil)) pe_int) pe_int) pa_nil)) (pv 1)))))), ?_⟩
    refine ⟨_, rfl, p, _, _, .int x, rfl, rfl, SqL.of hp, rfl, _, _, rfl, rfl, _, rfl, ?_⟩
    refine ite2 (fun h => ?_) (fun h => ?_)
    · refine ⟨_, rfl, p, _, _, .int x, rfl, rfl, SqL.of hp, rfl, _, rfl, _, _, rfl, ⟨n0, n1⟩, fun t ht => ?_⟩
      have ntp : p ≠ t := ne_of_none hp ht
      refine ⟨t, _, rfl, SqT.of upd_same, rfl, ?_⟩
      refine ⟨_, _, rfl, _, rfl, p, _, _, 0, rfl, rfl, (by rw [upd_ne ntp]; exact hp), rfl, _, _, rfl, rfl, ?_⟩
      refine ⟨_, rfl, kk _ _ (Int.emod_nonneg _ (by omega)) (Int.emod_lt_of_pos _ n0) (fun b o nb e => ?_) ⟨x / n, y, upd_same, Int.ediv_nonneg x0 (by omega), y0, y1⟩⟩
      rw [upd_ne nb]
      exact same_upd ht b o e
    · refine ⟨_, rfl, p, _, _, .int y, rfl, rfl, SqL.of hp, rfl, _, _, rfl, rfl, .inr ⟨by decide, by decide⟩, _, _, rfl, rfl, .inl ⟨_, rfl, _, _, rfl, rfl, (by show (0 : Int) < 2147483587; decide), ?_⟩⟩
      refine ⟨_, rfl, p, _, _, 1, rfl, rfl, hp, rfl, ?_⟩
      have z0 : 0 ≤ (y * 44203 + 15511) % 2147483587 := Int.emod_nonneg _ (by decide)
      have z1 : (y * 44203 + 15511) % 2147483587 < 2147483587 := Int.emod_lt_of_pos _ (by decide)
      refine ⟨_, rfl, p, _, _, .int ((y * 44203 + 15511) % 2147483587), rfl, rfl, SqL.of upd_same, rfl, _, rfl, p, _, _, .int ((y * 44203 + 15511) % 2147483587), rfl, rfl, SqL.of upd_same, rfl, _, _, rfl, rfl, .inl ⟨by omega, by omega⟩,
        .inl ⟨_, rfl, _, _, rfl, rfl, (by show (0 : Int) < 2147483549; decide), _, _, rfl, rfl, ⟨by decide, by decide⟩, .inl ⟨_, rfl, _, rfl, _, _, rfl, rfl, n0, ?_⟩⟩⟩
      exact kk _ _ (Int.emod_nonneg _ (by omega)) (Int.emod_lt_of_pos _ n0) bt_upd ⟨x, _, upd_same, x0, z0, by omega⟩
theorem scPick : FnScope ["_law_pot_here", "_law_some"] ["_law_pot_here", "_law_some"] (defScope sPick) := ⟨rfl, rfl, rfl, by decide +kernel, rfl, by decide +kernel, by decide +kernel⟩
theorem ok_pick {f fd_ : Addr} {fd fdd : FuncData} (F : FD K "_law_pick" sPick f fd) (T : TxtP K mg) (GD : FnOk P w K mg base CX0 1 fd_ fdd ["_law_pot_here", "_law_many"] spDraw) (bD : Binds K fdd ["_law_pot_here", "_law_many"] []) (mD : mg "_law_draw" = some (.ref fd_)) (kD : PySem.W.keepIn K (.ref fd_) = true) :
    FnOk P w K mg base CX0 2 f fd ["_law_pot_here", "_law_some"] (spPick K) := by
  refine F.ok scPick (fun vs H Q E h => ?_) (fun cdv A outer s H vs Q E hr h => ?_)
  · obtain ⟨p, l, xs, rfl, _⟩ := h
    rfl
  · obtain ⟨p, l, xs, rfl, hP, nl, hl, l0, l1, kk⟩ := h
    refine ⟨_, PSs.nox (pss_one (ps_ret (pe_ix ix_list (pv 1) (pe_call GD hr rfl mD kD bD .nil pass0 (pa_cons (pv 0) (pa_cons (pe_callB call_len_seq (by rfl) T.len PySem.boot_len (pa_cons (pv 1) pa_nil)) pa_nil))) (fun _ _ => rfl)))), ?_⟩
    refine ⟨_, rfl, _, rfl, _, rfl, l, _, rfl, .inl (SqL.of hl), p, _, rfl, hP, by omega, by omega, fun d H' d0 d1 hb hp' => ?_⟩
    have hd : d.toNat < xs.length := by omega
    have e : xs[d.toNat]? = some (xs[d.toNat]'hd) := List.getElem?_eq_getElem hd
    refine ⟨l, xs, d, xs[d.toNat]'hd, rfl, rfl, SqL.of (hb l _ nl hl), ?_, kk d.toNat _ H' e hb hp'⟩
    have z := atI_nat e
    rw [Int.toNat_of_nonneg d0] at z
    exact z
end
/-- the def called x keeps sp -/
structure Kn (P : Program) (w : World) (K : PySem.W.Frag) (mg : Str → Option Value) (base : Heap) (k : Nat) (x : Str) (fa : Addr) (fd : FuncData) (ps : List Str) (sp : Sp) : Prop where
  f : FnOk P w K mg base CX0 k fa fd ps sp
  b : Binds K fd ps []
  m : mg x = some (.ref fa)
  k : PySem.W.keepIn K (.ref fa) = true
structure KnG (P : Program) (w : World) (K : PySem.W.Frag) (mg : Str → Option Value) (base : Heap) (k : Nat) (x : Str) (fa : Addr) (fd : FuncData) (ps : List Str) (sp : Sp) : Prop where
  f : FnG P w K mg base CX0 k fa fd ps sp
  b : Binds K fd ps []
  m : mg x = some (.ref fa)
  k : PySem.W.keepIn K (.ref fa) = true
theorem Same.free {H H' : Hp} {a : Addr} (s : Same H H') (n : H' a = none) : H a = none := by
  cases z : H a with
  | none => rfl
  | some o =>
    rw [s a o z] at n
    cases n
theorem PotAt.bt {H H' : Hp} {p : Addr} (s : Same H H') (h : PotAt H p) : PotAt H' p := by
  obtain ⟨x, y, e, r⟩ := h
  exact ⟨x, y, s _ _ e, r⟩
theorem pot_ne {H : Hp} {p q : Addr} (h : PotAt H p) (n : H q = none) : q ≠ p := fun e => by
  obtain ⟨x, y, z, _⟩ := h
  rw [e, z] at n
  cases n
theorem boot_all : bootBuiltins "all" = some (.builtin "all") := by decide +kernel
theorem all_true : ∀ n : Nat, (List.replicate n true).all id = true
  | 0 => rfl
  | n + 1 => by
    rw [List.replicate_succ, List.all_cons, all_true n] <;> rfl
theorem same_over {H H' : Hp} {l : Addr} {o : HO} (s : Same H H') (h : H l = none) : Same H (upd H' l o) := fun b u e => by
  rw [upd_ne (ne_of_none e h)]
  exact s _ _ e
def spRight : Sp := fun vs H Q _ => ∃ (p : Addr), vs = [.ref p] ∧ PotAt H p ∧ ∀ H', Bt p H H' → Q (.bl true) H'
theorem boot_len : bootBuiltins "len" = some (.builtin "len") := by decide +kernel
structure TT0 (mg : Str → Option Value) : Prop where
  rng : mg "range" = none
  enu : True
  len : mg "len" = none
abbrev s_law : Stmt := top 37
def spLaw (K : PySem.W.Frag) : Sp := fun vs H Q _ => ∃ (a : Addr) (ns : List Int), vs = [.ref a] ∧ SqL K H a (ns.map V.int) ∧ ns.length ≤ 63 ∧ ∀ H', Q (.bl true) H'
theorem sc_law : FnScope ["_law_script", "_law_k"] ["_law_script"] (defScope s_law) := ⟨rfl, rfl, rfl, by decide +kernel, rfl, by decide +kernel, by decide +kernel⟩
theorem boot_max : bootBuiltins "max" = some (.builtin "max") := by decide +kernel
theorem boot_min : bootBuiltins "min" = some (.builtin "min") := by decide +kernel
section
variable {P : Program} {w : World} {K : PySem.W.Frag} {mg : Str → Option Value} {base : Heap} {f fPO fRI : Addr} {fd dPO dRI : FuncData}
theorem ok_law (F : FD K "law" s_law f fd) (T : TT0 mg) (TA : mg "all" = none) (TM : mg "max" = none) (TN : mg "min" = none) (PO : Kn P w K mg base 1 "_law_pot" fPO dPO ["_law_script", "_law_k"] (spPot K)) (RI : KnG P w K mg base 4 "_law_right" fRI dRI ["_law_pot_here"] spRight) :
    FnG P w K mg base CX0 5 f fd ["_law_script"] (spLaw K) := by
  refine F.okG sc_law (fun vs H Q E h => ?_) (fun cdv A outer s H vs Q E hg hr h => ?_)
  · obtain ⟨a, ns, rfl, _⟩ := h
    rfl
  obtain ⟨a, ns, rfl, hS, hl, q⟩ := h
  have hG := deeper_guards (env := PyProof.Rows.envOfC "law" (defScope s_law) s.heap.objs.size f cdv) hg
  refine ⟨_, PSs.nox (pss_one (ps_ret (pe_callB (cr_all rfl) (by rfl) TA boot_all (pa_cons (pe_lc (own := [("_law_k", 1)]) (g := gName 1) (tt := tYes) rfl sc_law.nd
      (pi_range1 rfl T.rng (pa_cons (pe_callB (call_max2 rfl) (by rfl) TM boot_max (pa_cons pe_int (pa_cons (pe_callB (call_min2 rfl) (by rfl) TN boot_min (pa_cons (pe_callB call_len_seq (by rfl) T.len boot_len (pa_cons (pv 0) pa_nil)) (pa_cons pe_int pa_nil))) pa_nil))) pa_nil))
      (blkOk_by (N := ["_law_script", "_law_k"]) (sc := defScope s_law) (by decide +kernel)) (fun _ _ _ _ _ => pg_name (i := 1) sc_law.nd rfl (Or.inl rfl)) (fun _ _ _ _ _ => pts_nil)
      (fun _ _ _ _ _ => by exact (pe_callG RI.f (by exact hG) hr rfl RI.m RI.k RI.b .nil pass0 (pa_cons (pe_call PO.f (hr.mono (by decide)) rfl PO.m PO.k PO.b .nil pass0 (pa_cons (pv 0) (pa_cons (pv 1) pa_nil))) pa_nil)))) pa_nil)))), ?_⟩
  have hl' : (ns.map V.int).length ≤ 63 := by rw [List.length_map]; exact hl
  refine ⟨_, rfl, a, _, rfl, .inl hS, _, _, rfl, _, _, rfl, ?_⟩
  generalize hm : (if (6 : Int) < (((ns.map V.int).length : Nat) : Int) then (6 : Int) else (((ns.map V.int).length : Nat) : Int)) = m
  have m0 : 0 ≤ m ∧ m ≤ 6 := by
    rw [← hm]
    split <;> omega
  generalize hj : (if m > 1 then m else (1 : Int)) = j
  have j0 : 0 ≤ j ∧ j ≤ 6 := by
    rw [← hj]
    split <;> omega
  refine ⟨_, rfl, by omega, by omega, fun D hD => ?_⟩
  refine lc_range (lo := 0) (n := j.toNat) (fun i H' => Same H H' ∧ H' D = some (.lst (List.replicate i (V.bl true)))) ⟨same_upd hD, upd_same⟩ (fun i H1 hi ⟨s1, hD1⟩ => ?_) fun H1 ⟨s1, hD1⟩ => ?_
  · refine ⟨rfl, ?_⟩
    refine iteT (A := tCall spRight [] E0 (tCons (tCall (spPot K) [] E0 (tCons (tVar 0) (tCons (tVar 1) tNil))) tNil) [some (.ref a), some (.int (0 + (i : Int)))] H1 _) (B := Same H H1 ∧ H1 D = some (.lst (List.replicate (i + 1) (V.bl true)))) ?_
    refine ⟨_, rfl, _, rfl, a, ns, 0 + (i : Int), rfl, s1.seq hS, hl, by omega, by omega, fun p x y hp hx hy hy2 => ⟨p, rfl, ⟨x, y, upd_same, hx, hy, hy2⟩, fun H3 b3 => ?_⟩⟩
    have s3 : Same H1 H3 := fun b o e => by
      have n : b ≠ p := ne_of_none e hp
      exact b3 b o n (by rw [upd_ne n]; exact e)
    refine ⟨_, s3 _ _ hD1, by rw [List.length_replicate]; exact Nat.lt_of_lt_of_le (show i < 6 by omega) (show 6 ≤ sizeLine by decide), same_over (s1.trans s3) hD, ?_⟩
    rw [upd_same, List.replicate_succ']
  · refine ⟨D, List.replicate j.toNat true, rfl, SqL.of (by rw [hD1, List.map_replicate]), ?_⟩
    rw [all_true]
    exact q H1
end
end C12

end PC12
section PD12
set_option maxHeartbeats 4000000
namespace C12
open PySem L2
/-! ### what is a word, a kind, a value -/
abbrev s_is_number : Stmt := top 7
abbrev s_is_word : Stmt := top 8
abbrev s_is_kind : Stmt := top 9
abbrev s_is_value : Stmt := top 10
theorem boot_isi : bootBuiltins "isinstance" = some (.builtin "isinstance") := by decide +kernel
def strB : V → Bool
  | .str _ => true
  | _ => false
/-- isinstance tells whether x is a text -/
def AsStr (K : PySem.W.Frag) (H : Hp) (x : V) : Prop := ∃ t, TyX K H x t ∧ PySem.W.kitOne K t (.type "str") = some (strB x)
def letB (c : Nat) : Bool := decide (c < 128) && (Unicode.isAlpha c && (Unicode.isLower c && !(Unicode.isUpper c || Unicode.isTitle c)))
def wordB (z : Str) (m : Int) : Bool := decide (((z.length : Nat) : Int) ≤ m) && (Txt.isascii z && (Txt.isalpha z && Txt.islower z))
/-- one to so many letters are a word -/
theorem wordB_of {z : Str} {m : Nat} (l : 1 ≤ z.length) (k : z.length ≤ m) (h : ∀ c ∈ z.cps.toList, letB c = true) : wordB z m = true := by
  have g : ∀ c ∈ z.cps.toList, c < 128 ∧ Unicode.isAlpha c = true ∧ Unicode.isLower c = true ∧ (Unicode.isUpper c || Unicode.isTitle c) = false := fun c hc => by
    have e := h c hc
    unfold letB at e
    rw [Bool.and_eq_true, Bool.and_eq_true, Bool.and_eq_true, Bool.not_eq_true'] at e
    exact ⟨of_decide_eq_true e.1, e.2.1, e.2.2.1, e.2.2.2⟩
  have e1 : Txt.isascii z = true := by
    unfold Txt.isascii
    rw [← Array.all_toList, List.all_eq_true]
    exact fun c hc => decide_eq_true (g c hc).1
  have e2 : Txt.isalpha z = true := by
    unfold Txt.isalpha
    rw [← Array.all_toList, Bool.and_eq_true, List.all_eq_true]
    exact ⟨decide_eq_true l, fun c hc => (g c hc).2.1⟩
  have e3 : Txt.islower z = true := by
    unfold Txt.islower
    rw [← Array.any_toList, ← Array.any_toList, Bool.and_eq_true, Bool.not_eq_true', List.any_eq_true]
    refine ⟨?_, ?_⟩
    · have l' : 0 < z.cps.toList.length := by rw [Array.length_toList]; exact l
      exact ⟨z.cps.toList[0], List.getElem_mem l', (g _ (List.getElem_mem l')).2.2.1⟩
    · rw [List.any_eq_false]
      exact fun c hc => by rw [(g c hc).2.2.2]; decide
  unfold wordB
  rw [e1, e2, e3, Bool.true_and, Bool.true_and, Bool.and_true]
  exact decide_eq_true (by omega)
theorem word_asc {z : Str} {m : Nat} (h : wordB z m = true) : z.length ≤ m ∧ ∀ c ∈ z.cps.toList, c < 128 := by
  unfold wordB at h
  rw [Bool.and_eq_true, Bool.and_eq_true] at h
  have l := of_decide_eq_true h.1
  have e := h.2.1
  unfold Txt.isascii at e
  rw [← Array.all_toList, List.all_eq_true] at e
  exact ⟨by omega, fun c hc => of_decide_eq_true (e c hc)⟩
def isWd (x : V) (m : Int) : Bool := match x with
  | .str z => wordB z m
  | _ => false
structure TW (mg : Str → Option Value) : Prop where
  isi : mg "isinstance" = none
  str : mg "str" = none
  len : mg "len" = none
def spIsWord (K : PySem.W.Frag) : Sp := fun vs H Q _ => ∃ (x : V) (m : Int), vs = [x, .int m] ∧ m ≤ 1000 ∧ AsStr K H x ∧ (∀ z, x = .str z → z.length ≤ sizeLine) ∧ ∀ H', Same H H' → Q (.bl (isWd x m)) H'
theorem sc_is_word : FnScope ["value", "most"] ["value", "most"] (defScope s_is_word) := ⟨rfl, rfl, rfl, by decide +kernel, rfl, by decide +kernel, by decide +kernel⟩
section
variable {P : Program} {w : World} {K : PySem.W.Frag} {mg : Str → Option Value} {base : Heap} {f : Addr} {fd : FuncData}
theorem ok_is_word (F : FD K "is_word" s_is_word f fd) (T : TW mg) : FnOk P w K mg base CX0 1 f fd ["value", "most"] (spIsWord K) := by
  refine F.ok sc_is_word (fun vs H Q E h => ?_) (fun cdv A outer s H vs Q E hr h => ?_)
  · obtain ⟨x, m, rfl, _⟩ := h
    rfl
  obtain ⟨x, m, rfl, hm, ⟨t, ty, kt⟩, hz, q⟩ := h
  refine ⟨_, PSs.nox (pss_cons (ps_if (PW.pt (pw_or (pt_not (pt_val (pe_callB call_isi (by rfl) T.isi boot_isi (pa_cons (pv 0) (pa_cons (pe_bltn (v := .ty "str") (by rfl) T.str (by decide +kernel) rfl) pa_nil))))) (pw_or1 (pt_cmpR op_gt (pe_callB call_len_str (by rfl) T.len boot_len (pa_cons (pv 0) pa_nil)) (pv 1) (nomark _))))) (pss_one (ps_ret pe_bl)) pss_nil)
    (pss_one (ps_ret (pe_and (pe_m0 PySem.F.slot_str_isascii PySem.F.type_str_isascii mt_isascii (pv 0)) (pe_and (pe_m0 PySem.F.slot_str_isalpha PySem.F.type_str_isalpha mt_isalpha (pv 0)) (pe_one (pe_m0 PySem.F.slot_str_islower PySem.F.type_str_islower mt_islower (pv 0)))))))), ?_⟩
  refine ⟨_, rfl, x, .ty "str", t, _, _, rfl, .ty _, ty, kt, ?_⟩
  refine ⟨_, rfl, ?_⟩
  have nostr : isWd x m = false → strB x = false → Q (.bl false) H := fun e _ => by
    have z := q H (Same.refl H)
    rw [e] at z
    exact z
  cases x with
  | str z =>
    refine (show (if (!true) = true then _ else _) from ?_)
    rw [if_neg (by decide)]
    refine ⟨_, rfl, z, rfl, hz z rfl, _, rfl, _, _, rfl, rfl, _, rfl, ?_⟩
    have w := q H (Same.refl H)
    have e0 : isWd (.str z) m = (decide (((z.length : Nat) : Int) ≤ m) && (Txt.isascii z && (Txt.isalpha z && Txt.islower z))) := rfl
    rw [e0] at w
    refine ite2 (fun h1 => ?_) (fun h1 => ?_)
    · have h2 := of_decide_eq_true h1
      rw [decide_eq_false (by omega), Bool.false_and] at w
      exact w
    · have h2 := of_decide_eq_false (Bool.eq_false_iff.mpr h1)
      rw [decide_eq_true (by omega), Bool.true_and] at w
      refine ⟨_, rfl, ⟨_, rfl⟩, z, rfl, rfl, trivial, _, rfl, ?_⟩
      refine ite2 (fun a1 => ?_) (fun a1 => ?_)
      · rw [a1, Bool.true_and] at w
        refine ⟨_, rfl, ⟨_, rfl⟩, z, rfl, rfl, trivial, _, rfl, ?_⟩
        refine ite2 (fun a2 => ?_) (fun a2 => ?_)
        · rw [a2, Bool.true_and] at w
          exact ⟨_, rfl, ⟨_, rfl⟩, z, rfl, rfl, trivial, w⟩
        · rw [Bool.eq_false_iff.mpr a2, Bool.false_and] at w
          exact w
      · rw [Bool.eq_false_iff.mpr a1, Bool.false_and] at w
        exact w
  | _ => exact nostr rfl rfl
def spIsKind (K : PySem.W.Frag) : Sp := fun vs H Q _ => vs = [.str "text"] ∧ PySem.W.kitOne K (.type "str") (.type "str") = some true ∧ ∀ H', Same H H' → Q (.bl true) H'
theorem sc_is_kind : FnScope ["value"] ["value"] (defScope s_is_kind) := ⟨rfl, rfl, rfl, by decide +kernel, rfl, by decide +kernel, by decide +kernel⟩
theorem ok_is_kind (F : FD K "is_kind" s_is_kind f fd) (T : TW mg) : FnOk P w K mg base CX0 1 f fd ["value"] (spIsKind K) := by
  refine F.ok sc_is_kind (fun vs H Q E h => ?_) (fun cdv A outer s H vs Q E hr h => ?_)
  · obtain ⟨rfl, _⟩ := h
    rfl
  obtain ⟨rfl, kt, q⟩ := h
  refine ⟨_, PSs.nox (pss_one (ps_ret (pe_and (pe_callB call_isi (by rfl) T.isi boot_isi (pa_cons (pv 0) (pa_cons (pe_bltn (v := .ty "str") (by rfl) T.str (by decide +kernel) rfl) pa_nil))) (pe_one (pe_cmpR op_in_seq (pv 0) (pe_tup (pa_cons pe_str (pa_cons pe_str pa_nil))) (by rfl)))))), ?_⟩
  refine ⟨_, rfl, .str "text", .ty "str", .type "str", _, _, rfl, .ty _, .base (.str _), kt, true, rfl, ?_⟩
  refine (show (if true = true then _ else _) from ?_)
  rw [if_pos rfl]
  refine ⟨_, rfl, by show 2 ≤ sizeLine; decide, fun p hp => ?_⟩
  exact ⟨p, _, rfl, .inr (SqT.of upd_same), rfl, rfl, q _ (same_upd hp)⟩
def spIsValue (K : PySem.W.Frag) : Sp := fun vs H Q _ => ∃ (x : V), vs = [x, .str "text"] ∧ AsStr K H x ∧ (∀ z, x = .str z → z.length ≤ sizeLine) ∧ ∀ H', Same H H' → Q (.bl (isWd x 12)) H'
theorem sc_is_value : FnScope ["value", "kind"] ["value", "kind"] (defScope s_is_value) := ⟨rfl, rfl, rfl, by decide +kernel, rfl, by decide +kernel, by decide +kernel⟩
theorem tyx_same {H H' : Hp} {x : V} {t : Value} (s : Same H H') (h : TyX K H x t) : TyX K H' x t := by
  cases h with
  | base b =>
    refine .base ?_
    cases b with
    | non => exact .non
    | bl y => exact .bl y
    | int y => exact .int y
    | str y => exact .str y
    | flt y => exact .flt y
    | lst ea => exact .lst (s _ _ ea)
    | frz ea => exact .frz (s _ _ ea)
    | tup ea => exact .tup (s _ _ ea)
    | dK ea => exact .dK (s _ _ ea)
    | dT ea => exact .dT (s _ _ ea)
    | ins ea cl ha hn htk hm => exact .ins (s _ _ ea) cl ha hn htk hm
  | byt y => exact .byt y
  | set e => exact .set (s _ _ e)
  | kList e c => exact .kList e c
  | kTuple e c => exact .kTuple e c
  | kDict e c => exact .kDict e c
  | fTuple e => exact .fTuple (s _ _ e)
  | fDict e => exact .fDict (s _ _ e)
theorem asStr_same {H H' : Hp} {x : V} (s : Same H H') (h : AsStr K H x) : AsStr K H' x := by
  obtain ⟨t, a, b⟩ := h
  exact ⟨t, tyx_same s a, b⟩
def spIsNumber (K : PySem.W.Frag) : Sp := fun vs H Q _ => ∃ (x : V) (t : Value) (b1 b2 : Bool), vs = [x] ∧ TyX K H x t ∧ PySem.W.kitOne K t (.type "int") = some b1 ∧ PySem.W.kitOne K t (.type "bool") = some b2 ∧ ∀ H', Same H H' → Q (.bl (b1 && !b2)) H'
theorem sc_is_number : FnScope ["value"] ["value"] (defScope s_is_number) := ⟨rfl, rfl, rfl, by decide +kernel, rfl, by decide +kernel, by decide +kernel⟩
theorem ok_is_number (F : FD K "is_number" s_is_number f fd) (T : TW mg) (ti : mg "int" = none) (tb : mg "bool" = none) : FnOk P w K mg base CX0 1 f fd ["value"] (spIsNumber K) := by
  refine F.ok sc_is_number (fun vs H Q E h => ?_) (fun cdv A outer s H vs Q E hr h => ?_)
  · obtain ⟨x, t, b1, b2, rfl, _⟩ := h
    rfl
  obtain ⟨x, t, b1, b2, rfl, ty, k1, k2, q⟩ := h
  refine ⟨_, PSs.nox (pss_one (ps_ret (pe_and (pe_callB call_isi (by rfl) T.isi boot_isi (pa_cons (pv 0) (pa_cons (pe_bltn (v := .ty "int") (by rfl) ti (by decide +kernel) rfl) pa_nil))) (pe_one (pe_not (pe_callB call_isi (by rfl) T.isi boot_isi (pa_cons (pv 0) (pa_cons (pe_bltn (v := .ty "bool") (by rfl) tb (by decide +kernel) rfl) pa_nil)))))))), ?_⟩
  refine ⟨_, rfl, x, .ty "int", t, _, _, rfl, .ty _, ty, k1, b1, rfl, ?_⟩
  refine ite2 (fun h1 => ?_) (fun h1 => ?_)
  · refine ⟨_, rfl, x, .ty "bool", t, _, _, rfl, .ty _, ty, k2, b2, rfl, ?_⟩
    have z := q H (Same.refl H)
    rw [h1, Bool.true_and] at z
    exact z
  · have z := q H (Same.refl H)
    rw [Bool.eq_false_iff.mpr h1, Bool.false_and] at z
    exact z
structure Kv (P : Program) (w : World) (K : PySem.W.Frag) (mg : Str → Option Value) (base : Heap) (fN fW fK : Addr) (dN dW dK : FuncData) : Prop where
  n : Kn P w K mg base 1 "is_number" fN dN ["value"] (spIsNumber K)
  wo : Kn P w K mg base 1 "is_word" fW dW ["value", "most"] (spIsWord K)
  k : Kn P w K mg base 1 "is_kind" fK dK ["value"] (spIsKind K)
  s : PySem.W.kitOne K (.type "str") (.type "str") = some true
  m : ∃ t, mg "TEXT_LENGTH" = some (.int 12 t)
theorem ok_is_value {fN fW fK : Addr} {dN dW dK : FuncData} (F : FD K "is_value" s_is_value f fd) (W : Kv P w K mg base fN fW fK dN dW dK) : FnOk P w K mg base CX0 2 f fd ["value", "kind"] (spIsValue K) := by
  refine F.ok sc_is_value (fun vs H Q E h => ?_) (fun cdv A outer s H vs Q E hr h => ?_)
  · obtain ⟨x, rfl, _⟩ := h
    rfl
  obtain ⟨x, rfl, hx, hz, q⟩ := h
  obtain ⟨t, ht⟩ := W.m
  refine ⟨_, PSs.nox (pss_cons (ps_if (pt_not (pt_val (pe_call W.k.f hr rfl W.k.m W.k.k W.k.b .nil pass0 (pa_cons (pv 1) pa_nil)))) (pss_one (ps_ret pe_bl)) pss_nil)
    (pss_cons (ps_if (pt_cmpR op_eq (pv 1) pe_str (nomark _)) (pss_one (ps_ret (pe_call W.n.f hr rfl W.n.m W.n.k W.n.b .nil pass0 (pa_cons (pv 0) pa_nil)))) pss_nil)
    (pss_one (ps_ret (pe_call W.wo.f hr rfl W.wo.m W.wo.k W.wo.b .nil pass0 (pa_cons (pv 0) (pa_cons (pe_glob (v := .int 12) (by rfl) ht ⟨t, rfl⟩) pa_nil))))))), ?_⟩
  refine ⟨_, rfl, rfl, W.s, fun H1 s1 => ⟨true, rfl, ?_⟩⟩
  refine (show (if (!true) = true then _ else _) from ?_)
  rw [if_neg (by decide)]
  refine ⟨_, rfl, rfl, ?_⟩
  have e : decide (V.str "text" = V.str "number") = false := by decide +kernel
  refine ⟨_, rfl, ?_⟩
  rw [e]
  refine (show (if false = true then _ else _) from ?_)
  rw [if_neg (by decide)]
  exact ⟨_, rfl, x, 12, rfl, by decide, asStr_same s1 hx, hz, fun H2 s2 => q H2 (s1.trans s2)⟩
end
end C12

end PD12
section PF12
set_option maxHeartbeats 4000000
namespace C12
open PySem L2
/-! ### a pick out of a text, a word -/
abbrev s_word : Stmt := top 26
def spPickS : Sp := fun vs H Q _ => ∃ (p : Addr) (z : Str), vs = [.ref p, .str z] ∧ PotAt H p ∧ 0 < z.length ∧ z.length ≤ 1000 ∧ ∀ (i : Nat) (c : Nat) (H' : Hp), z.cps.toList[i]? = some c → Bt p H H' → PotAt H' p → Q (.str ⟨#[c]⟩) H'
def spWord : Sp := fun vs H Q _ => ∃ (p : Addr), vs = [.ref p] ∧ PotAt H p ∧ ∀ (z : Str) (H' : Hp), wordB z 12 = true → Bt p H H' → PotAt H' p → Q (.str z) H'
def letters : Str := "abcdefghijklmnopqrstuvwxyz"
theorem letters_ok : letters.cps.toList.all letB = true := by decide +kernel
theorem sc_word : FnScope ["_law_pot_here", "_law_letters", "_law_turn"] ["_law_pot_here"] (defScope s_word) := ⟨rfl, rfl, rfl, by decide +kernel, rfl, by decide +kernel, by decide +kernel⟩
section
variable {P : Program} {w : World} {K : PySem.W.Frag} {mg : Str → Option Value} {base : Heap} {f fD fP fS : Addr} {fd dD dP dS : FuncData}
theorem ok_pickS (F : FD K "_law_pick" sPick f fd) (T : TxtP K mg) (D : Kn P w K mg base 1 "_law_draw" fD dD ["_law_pot_here", "_law_many"] spDraw) : FnOk P w K mg base CX0 2 f fd ["_law_pot_here", "_law_some"] spPickS := by
  refine F.ok scPick (fun vs H Q E h => ?_) (fun cdv A outer s H vs Q E hr h => ?_)
  · obtain ⟨p, z, rfl, _⟩ := h
    rfl
  · obtain ⟨p, z, rfl, hP, l0, l1, kk⟩ := h
    refine ⟨_, PSs.nox (pss_one (ps_ret (pe_ix ix_str (pv 1) (pe_call D.f hr rfl D.m D.k D.b .nil pass0 (pa_cons (pv 0) (pa_cons (pe_callB call_len_str (by rfl) T.len PySem.boot_len (pa_cons (pv 1) pa_nil)) pa_nil))) (fun _ _ => rfl)))), ?_⟩
    have hs : z.length ≤ sizeLine := Nat.le_trans l1 (by decide)
    refine ⟨_, rfl, _, rfl, _, rfl, z, rfl, hs, p, _, rfl, hP, by omega, by omega, fun d H' d0 d1 hb hp' => ?_⟩
    have hd : d.toNat < z.cps.toList.length := by
      have : z.length = z.cps.toList.length := by simp [Str.length]
      omega
    have e : z.cps.toList[d.toNat]? = some (z.cps.toList[d.toNat]'hd) := List.getElem?_eq_getElem hd
    refine ⟨z, d, z.cps.toList[d.toNat]'hd, rfl, rfl, hs, ?_, kk d.toNat _ H' e hb hp'⟩
    have q := atI_nat e
    rw [Int.toNat_of_nonneg d0] at q
    exact q
theorem join_letters (cs : List Nat) : (Txt.join ("" : Str) (cs.map fun c => (⟨#[c]⟩ : Str))).cps.toList = cs := by
  have j : ∀ l : List Nat, TL.joinL [] (l.map fun c => [c]) = l := fun l => by
    induction l with
    | nil => rfl
    | cons a r ih =>
      cases r with
      | nil => rfl
      | cons b r => exact congrArg (a :: ·) ih
  have e : TL.tl (Txt.join ("" : Str) (cs.map fun c => (⟨#[c]⟩ : Str))) = cs := by
    rw [TL.join_eq, TL.tl_join, List.map_map]
    exact j cs
  exact e
/-- words: one to twelve letters -/
theorem word_of {z : Str} (l : 1 ≤ z.length) (m : z.length ≤ 12) (h : ∀ c ∈ z.cps.toList, letB c = true) : wordB z 12 = true := wordB_of (m := 12) l m h
theorem let_of {c : Nat} (h : c ∈ letters.cps.toList) : letB c = true := List.all_eq_true.mp letters_ok c h
/-- [pick(pot, letters) for turn in range(1 + draw(pot, 12))] -/
theorem letters_made {σ : St} {H : Hp} {Q : VK} {E E' : XK} {p : Addr} (ep : σ[0]? = some (some (.ref p))) (hw : ∀ x : V, wipe ((wipe σ [2]).set 2 (some x)) [2] = wipe σ [2]) (e0 : ∀ x : V, ((wipe σ [2]).set 2 (some x))[0]? = some (some (.ref p))) (e1 : ∀ x : V, ((wipe σ [2]).set 2 (some x))[1]? = some (some (.str letters))) (hp0 : PotAt H p)
    (q : ∀ l (cs : List Nat) H', H' l = some (.lst (cs.map fun c => V.str ⟨#[c]⟩)) → 1 ≤ cs.length → cs.length ≤ 12 → (∀ c ∈ cs, c ∈ letters.cps.toList) → Bt p H H' → PotAt H' p → Q (.ref l) H') :
    tLc (iRng1 (tCons (tOp (rI0 fun i j => .int (i + j)) (tC (.int 1)) (tCall spDraw [] E' (tCons (tVar 0) (tCons (tC (.int 12)) tNil)))) tNil)) (gName 2) tYes (tCall spPickS [] E (tCons (tVar 0) (tCons (tVar 1) tNil))) [2] σ H Q := by
  refine ⟨_, ep, p, 12, rfl, hp0, by decide, by decide, fun d H0 d0 d1 b0 hp => ⟨1, d, rfl, rfl, ⟨1 + d, rfl, by omega, by omega, fun D hD => ?_⟩⟩⟩
  have nDp := pot_ne hp hD
  refine lc_range (lo := 0) (n := (1 + d).toNat) (fun i H' => ∃ cs : List Nat, cs.length = i ∧ H' D = some (.lst (cs.map fun c => V.str ⟨#[c]⟩)) ∧ (∀ c ∈ cs, c ∈ letters.cps.toList) ∧ Bt p H0 H' ∧ PotAt H' p)
    ⟨[], rfl, upd_same, fun v h => absurd h List.not_mem_nil, Same.bt (same_upd hD), hp.bt (same_upd hD)⟩ (fun i H1 hi ⟨cs, hc, hD1, hv, hb, hp1⟩ => ?_) fun H1 ⟨cs, hc, hD1, hv, hb, hp1⟩ => ?_
  · refine ⟨hw _, ?_⟩
    refine iteT (A := tCall spPickS [] E (tCons (tVar 0) (tCons (tVar 1) tNil)) ((wipe σ [2]).set 2 (some (.int (0 + (i : Int))))) H1 _) (B := ∃ cs : List Nat, cs.length = i + 1 ∧ H1 D = some (.lst (cs.map fun c => V.str ⟨#[c]⟩)) ∧ (∀ c ∈ cs, c ∈ letters.cps.toList) ∧ Bt p H0 H1 ∧ PotAt H1 p) ?_
    refine ⟨_, e0 _, _, e1 _, p, letters, rfl, hp1, by decide +kernel, by decide +kernel, fun j c H2 hj hb2 hp2 => ?_⟩
    refine ⟨_, hb2 _ _ nDp hD1, ?_, cs ++ [c], by simp [hc], by rw [upd_same, List.map_append]; rfl, fun u hu => ?_, fun b o n e => ?_, ?_⟩
    · rw [List.length_map, hc]
      exact Nat.lt_of_lt_of_le (show i < 100 by omega) (by decide)
    · rcases List.mem_append.mp hu with h | h
      · exact hv u h
      · rw [List.mem_singleton.mp h]
        exact List.mem_of_getElem? hj
    · by_cases h : b = D
      · rw [h, hD] at e
        cases e
      · rw [upd_ne h]
        exact hb2 b o n (hb b o n e)
    · obtain ⟨x, y, z, r⟩ := hp2
      exact ⟨x, y, by rw [upd_ne (Ne.symm nDp)]; exact z, r⟩
  · exact q D cs H1 hD1 (by omega) (by omega) hv (b0.trans hb) hp1
theorem ok_word (F : FD K "_law_word" s_word f fd) (T : TxtP K mg) (tr : mg "range" = none) (D : Kn P w K mg base 1 "_law_draw" fD dD ["_law_pot_here", "_law_many"] spDraw) (PL : Kn P w K mg base 2 "_law_pick" fP dP ["_law_pot_here", "_law_some"] (spPick K)) (PS_ : Kn P w K mg base 2 "_law_pick" fP dP ["_law_pot_here", "_law_some"] spPickS) :
    FnOk P w K mg base CX0 3 f fd ["_law_pot_here"] spWord := by
  refine F.ok sc_word (fun vs H Q E h => ?_) (fun cdv A outer s H vs Q E hr h => ?_)
  · obtain ⟨p, rfl, _⟩ := h
    rfl
  obtain ⟨p, rfl, hP, kk⟩ := h
  refine ⟨_, PSs.nox (pss_cons (ps_set (i := 1) sc_word.nd rfl (Or.inr rfl) pe_str)
    (pss_cons (ps_if (pt_cmpR op_eq (pe_call D.f (hr.mono (by decide)) rfl D.m D.k D.b .nil pass0 (pa_cons (pv 0) (pa_cons pe_int pa_nil))) pe_int (nomark _))
      (pss_one (ps_ret (pe_join pe_str (pe_lc (own := [("_law_turn", 2)]) (g := gName 2) (tt := tYes) rfl sc_word.nd (pi_range1 rfl tr (pa_cons (pe_op op_add pe_int (pe_call D.f (hr.mono (by decide)) rfl D.m D.k D.b .nil pass0 (pa_cons (pv 0) (pa_cons pe_int pa_nil)))) pa_nil)) (blkOk_by (N := ["_law_pot_here", "_law_letters", "_law_turn"]) (sc := defScope s_word) (by decide +kernel)) (fun _ _ _ _ _ => pg_name (i := 2) sc_word.nd rfl (Or.inl rfl)) (fun _ _ _ _ _ => pts_nil)
        (fun _ _ _ _ _ => by exact (pe_call PS_.f hr rfl PS_.m PS_.k PS_.b .nil pass0 (pa_cons (pv 0) (pa_cons (pv 1) pa_nil)))))))) pss_nil)
    (pss_one (ps_ret (pe_call PL.f hr rfl PL.m PL.k PL.b .nil pass0 (pa_cons (pv 0) (pa_cons (pe_lst (pa_cons pe_str (pa_cons pe_str (pa_cons pe_str (pa_cons pe_str (pa_cons pe_str pa_nil)))))) pa_nil))))))), ?_⟩
  refine ⟨_, rfl, p, 8, rfl, hP, by decide, by decide, fun d H1 d0 d1 b1 hP1 => ⟨rfl, _, rfl, ?_⟩⟩
  refine ite2 (fun h => ?_) (fun h => ?_)
  · refine ⟨⟨_, rfl⟩, ?_⟩
    refine letters_made (σ := [some (.ref p), some (.str letters), none]) (p := p) rfl (fun _ => rfl) (fun _ => rfl) (fun _ => rfl) hP1 (fun l cs H3 hl c1 c2 hv b3 hP3 => ?_)
    have z := join_letters cs
    have len : (Txt.join ("" : Str) (cs.map fun c => (⟨#[c]⟩ : Str))).length = cs.length := by
      show (Txt.join ("" : Str) (cs.map fun c => (⟨#[c]⟩ : Str))).cps.size = cs.length
      rw [← Array.length_toList, z]
    refine ⟨"", l, cs.map fun c => (⟨#[c]⟩ : Str), rfl, rfl, .inl (SqL.of (by rw [hl, List.map_map]; rfl)), ?_, kk _ H3 (word_of (by omega) (by omega) fun c hc' => let_of (hv c (z ▸ hc'))) (b1.trans b3) hP3⟩
    have sm : ∀ l : List Nat, ((l.map fun c => (⟨#[c]⟩ : Str)).map (·.length)).sum = l.length := fun l => by
      induction l with
      | nil => rfl
      | cons a r ih =>
        simp only [List.map_cons, List.sum_cons, List.length_cons, ih]
        show 1 + r.length = r.length + 1
        omega
    rw [sm, List.length_map]
    have e0' : ("" : Str).length = 0 := by decide +kernel
    rw [e0']
    omega
  · refine ⟨_, rfl, by show 5 ≤ sizeLine; decide, fun l hl => ?_⟩
    have nl := pot_ne hP1 hl
    refine ⟨p, l, _, rfl, hP1.bt (same_upd hl), nl, upd_same, (by show 0 < 5; decide), (by show 5 ≤ 1000; decide), fun i v H' hi hb hp => ?_⟩
    have hm := List.mem_of_getElem? hi
    simp only [List.mem_cons, List.not_mem_nil, or_false] at hm
    have bb : Bt p H H' := (b1.trans (Same.bt (same_upd hl))).trans hb
    rcases hm with rfl | rfl | rfl | rfl | rfl
    all_goals exact kk _ H' (by decide +kernel) bb hp
end
end C12

end PF12
section PG12
set_option maxHeartbeats 4000000
namespace C12
open PySem L2
/-! ### a table of words -/
abbrev s_table : Stmt := top 27
structure Tab (n : Nat) (kvs : List (Key × V)) : Prop where
  each : ∀ q ∈ kvs, ∃ a b : Str, q = (Sum.inr a, V.str b) ∧ wordB a 12 = true ∧ wordB b 12 = true
  nd : (kvs.map (·.1)).Nodup
  len : kvs.length ≤ n
theorem Tab.nil : Tab 0 [] := ⟨fun q h => absurd h List.not_mem_nil, List.nodup_nil, Nat.le_refl _⟩
theorem putK_keys {kvs : List (Key × V)} {k : Key} {v : V} : (putK kvs k v).map (·.1) = if (kvs.any fun kv => decide (kv.1 = k)) = true then kvs.map (·.1) else kvs.map (·.1) ++ [k] := by
  unfold putK
  split
  · rw [List.map_map]
    apply List.map_congr_left
    intro q _
    show (if q.1 = k then (q.1, v) else q).1 = q.1
    split <;> rfl
  · rw [List.map_append]
    rfl
theorem Tab.put {n : Nat} {kvs : List (Key × V)} {a b : Str} (t : Tab n kvs) (wa : wordB a 12 = true) (wb : wordB b 12 = true) : Tab (n + 1) (putK kvs (Sum.inr a) (V.str b)) := by
  refine ⟨fun q hq => ?_, ?_, ?_⟩
  · unfold putK at hq
    split at hq
    · obtain ⟨r, hr, e⟩ := List.mem_map.mp hq
      by_cases h : r.1 = Sum.inr a
      · rw [if_pos h] at e
        exact ⟨a, b, by rw [← e, h], wa, wb⟩
      · rw [if_neg h] at e
        exact e ▸ t.each r hr
    · rcases List.mem_append.mp hq with h | h
      · exact t.each q h
      · exact ⟨a, b, List.mem_singleton.mp h, wa, wb⟩
  · rw [putK_keys]
    split
    · exact t.nd
    · rename_i h
      refine List.nodup_append.mpr ⟨t.nd, by simp, fun x hx y hy => ?_⟩
      rw [List.mem_singleton.mp hy]
      intro e
      obtain ⟨r, hr, er⟩ := List.mem_map.mp hx
      exact h (List.any_eq_true.mpr ⟨r, hr, decide_eq_true (er.trans e)⟩)
  · have e := congrArg List.length (putK_keys (kvs := kvs) (k := Sum.inr a) (v := V.str b))
    rw [List.length_map] at e
    have l := t.len
    rw [e]
    split
    · rw [List.length_map]
      omega
    · rw [List.length_append, List.length_map, List.length_singleton]
      omega
def spTable : Sp := fun vs H Q _ => ∃ (p : Addr), vs = [.ref p] ∧ PotAt H p ∧ ∀ (d : Addr) (kvs : List (Key × V)) (H' : Hp), Tab 5 kvs → H d = none → H' d = some (.dK kvs) → Bt p H H' → PotAt H' p → Q (.ref d) H'
theorem sc_table : FnScope ["_law_pot_here", "_law_made", "_law_turn"] ["_law_pot_here"] (defScope s_table) := ⟨rfl, rfl, rfl, by decide +kernel, rfl, by decide +kernel, by decide +kernel⟩
section
variable {P : Program} {w : World} {K : PySem.W.Frag} {mg : Str → Option Value} {base : Heap} {f fD fW : Addr} {fd dD dW : FuncData}
theorem ok_table (F : FD K "_law_table" s_table f fd) (tr : mg "range" = none) (D : Kn P w K mg base 1 "_law_draw" fD dD ["_law_pot_here", "_law_many"] spDraw) (W : Kn P w K mg base 3 "_law_word" fW dW ["_law_pot_here"] spWord) :
    FnOk P w K mg base CX0 4 f fd ["_law_pot_here"] spTable := by
  refine F.ok sc_table (fun vs H Q E h => ?_) (fun cdv A outer s H vs Q E hr h => ?_)
  · obtain ⟨p, rfl, _⟩ := h
    rfl
  obtain ⟨p, rfl, hP, kk⟩ := h
  have hu := hr.units
  refine ⟨_, PSs.nox (pss_cons (ps_set (i := 1) sc_table.nd rfl (Or.inl rfl) pe_dnewK)
    (pss_cons (ps_for .never (by rfl) (pi_range1 rfl tr (pa_cons (pe_call D.f (hr.mono (by decide)) rfl D.m D.k D.b .nil pass0 (pa_cons (pv 0) (pa_cons pe_int pa_nil))) pa_nil)) (pg_name (i := 2) sc_table.nd rfl (Or.inl rfl))
      (pss_one (ps_dput (show A.units + 3 + 1 < cLine by have h : A.units + 3 + 64 < cLine := hu; omega) (pv 1) (pe_call W.f hr rfl W.m W.k W.b .nil pass0 (pa_cons (pv 0) pa_nil)) (pe_call W.f hr rfl W.m W.k W.b .nil pass0 (pa_cons (pv 0) pa_nil)) rfl)))
    (pss_one (ps_ret (pv 1))))), ?_⟩
  intro d hd
  have nd := pot_ne hP hd
  refine ⟨_, rfl, p, 6, rfl, hP.bt (same_upd hd), by decide, by decide, fun n H1 n0 n1 b1 hP1 => ⟨n, rfl, by omega, by omega, ?_⟩⟩
  refine for_range (lo := 0) (n := n.toNat) (fun i σ' H' => (∃ x : Option V, σ' = [some (.ref p), some (.ref d), x]) ∧ ∃ kvs, Tab i kvs ∧ H' d = some (.dK kvs) ∧ Bt p H H' ∧ PotAt H' p)
    ⟨⟨none, rfl⟩, [], .nil, b1 _ _ nd upd_same, (Same.bt (same_upd hd)).trans b1, hP1⟩ (fun i σ' H2 hi ⟨⟨x, e⟩, kvs, t, h2, b2, hP2⟩ => ?_) (fun σ' H2 ⟨⟨x, e⟩, kvs, t, h2, b2, hP2⟩ => ?_)
  · subst e
    refine ⟨_, rfl, p, rfl, hP2, fun zb H3 wb b3 hP3 => ⟨_, rfl, _, rfl, p, rfl, hP3, fun za H4 wa b4 hP4 => ?_⟩⟩
    have h4 := b4 _ _ nd (b3 _ _ nd h2)
    refine ⟨d, _, rfl, DPut.k (k := Sum.inr za) h4 (Nat.lt_of_le_of_lt t.len (Nat.lt_of_lt_of_le (show i < 6 by omega) (by decide))), ⟨_, rfl⟩, _, t.put wa wb, upd_same, fun b o nb e => ?_, ?_⟩
    · rw [upd_ne (ne_of_none e hd)]
      exact b4 b o nb (b3 b o nb (b2 b o nb e))
    · obtain ⟨x, y, z, r⟩ := hP4
      exact ⟨x, y, by rw [upd_ne (Ne.symm nd)]; exact z, r⟩
  · subst e
    exact ⟨_, rfl, kk d kvs H2 ⟨t.each, t.nd, Nat.le_trans t.len (by omega)⟩ hd h2 b2 hP2⟩
/-- what the law's table says of a word -/
def orV (last : V) (z : Str) : V := if last = .non then .str z else last
def atV (kvs : List (Key × V)) (last : V) (z : Str) : V := match valV kvs (Sum.inr z) with
  | some v => v
  | none => orV last z
abbrev s_at : Stmt := top 28
def spAt : Sp := fun vs H Q _ => ∃ (d : Addr) (kvs : List (Key × V)) (last : V) (z : Str), vs = [.ref d, last, .str z] ∧ H d = some (.dK kvs) ∧ Q (atV kvs last z) H
theorem sc_at : FnScope ["_law_table_here", "_law_last", "_law_word_here"] ["_law_table_here", "_law_last", "_law_word_here"] (defScope s_at) := ⟨rfl, rfl, rfl, by decide +kernel, rfl, by decide +kernel, by decide +kernel⟩
theorem ok_at (F : FD K "_law_at" s_at f fd) : FnOk P w K mg base CX0 1 f fd ["_law_table_here", "_law_last", "_law_word_here"] spAt := by
  refine F.ok sc_at (fun vs H Q E h => ?_) (fun cdv A outer s H vs Q E hr h => ?_)
  · obtain ⟨d, kvs, last, z, rfl, _⟩ := h
    rfl
  obtain ⟨d, kvs, last, z, rfl, hd, q⟩ := h
  have hu := hr.units
  have hu1 : A.units + 3 + 1 < cLine := by have h : A.units + 3 + 64 < cLine := hu; omega
  refine ⟨_, PSs.nox (pss_cons (ps_if (pt_cmp (pc_din hu1 (pv 2) (pv 0))) (pss_one (ps_ret (pe_dget hu1 (pv 0) (pv 2) (fun _ _ => rfl)))) pss_nil)
    (pss_one (ps_ret (pe_ifExp (pt_cmp (pc_isN (pv 1))) (pv 2) (pv 1))))), ?_⟩
  refine ⟨_, rfl, _, rfl, d, valV kvs (Sum.inr z), rfl, DGet.k (k := Sum.inr z) hd, _, rfl, ?_⟩
  unfold atV at q
  cases e : valV kvs (Sum.inr z) with
  | some v =>
    rw [e] at q
    exact ⟨_, rfl, _, rfl, d, v, rfl, e ▸ DGet.k (k := Sum.inr z) hd, q⟩
  | none =>
    rw [e] at q
    refine ⟨_, rfl, _, rfl, ?_⟩
    by_cases h : last = .non
    · rw [decide_eq_true h]
      unfold orV at q
      rw [if_pos h] at q
      exact ⟨_, rfl, q⟩
    · rw [decide_eq_false h]
      unfold orV at q
      rw [if_neg h] at q
      exact ⟨_, rfl, q⟩
end
end C12

end PG12
section PH12
set_option maxHeartbeats 4000000
namespace C12
open PySem L2
/-! ### a map of texts: its object, what it says of a word -/
def inCls (s : Stmt) (i : Nat) : Stmt := match s with
  | .ClassDef _ _ _ body .. => body.getD i (.Pass ⟨0, 0, 0, 0⟩)
  | _ => .Pass ⟨0, 0, 0, 0⟩
abbrev s_usual : Stmt := inCls (top 15) 8
abbrev s_result : Stmt := inCls (top 15) 9
structure TMc (K : PySem.W.Frag) (C : Addr) : Prop where
  cl : Cls K C
  nE : NoAttr K C "_exceptions"
  nR : NoAttr K C "_rest"
/-- at m: a map of texts of the class at C with these exceptions and this rest -/
def TMap (C : Addr) (H : Hp) (m : Addr) (kvs : List (Key × V)) (r : V) : Prop := ∃ dx d, H m = some (.ins C dx [("_rest", r), ("_exceptions", .ref d)]) ∧ H d = some (.dK kvs)
theorem TMap.same {C : Addr} {H H' : Hp} {m : Addr} {kvs : List (Key × V)} {r : V} (s : Same H H') (h : TMap C H m kvs r) : TMap C H' m kvs r := by
  obtain ⟨dx, d, a, b⟩ := h
  exact ⟨dx, d, s _ _ a, s _ _ b⟩
def spUsual (C : Addr) : Sp := fun vs H Q _ => ∃ (m dx : Addr) (fs : List (Str × V)) (r : V) (z : Str), vs = [.ref m, .str z] ∧ H m = some (.ins C dx fs) ∧ fs.lookup ("_rest" : Str) = some r ∧ Q (orV r z) H
def spResult (C : Addr) : Sp := fun vs H Q _ => ∃ (m : Addr) (kvs : List (Key × V)) (r : V) (z : Str), vs = [.ref m, .str z] ∧ TMap C H m kvs r ∧ Q (atV kvs r z) H
theorem sc_usual : FnScope ["self", "value"] ["self", "value"] (defScope s_usual) := ⟨rfl, rfl, rfl, by decide +kernel, rfl, by decide +kernel, by decide +kernel⟩
theorem sc_result : FnScope ["self", "value"] ["self", "value"] (defScope s_result) := ⟨rfl, rfl, rfl, by decide +kernel, rfl, by decide +kernel, by decide +kernel⟩
abbrev FM (K : PySem.W.Frag) (x q : Str) (st : Stmt) (f : Addr) (fd : FuncData) : Prop := FunD K x q (defArgs st) (defBody st) (defScope st) [] [] f fd
section
variable {P : Program} {w : World} {K : PySem.W.Frag} {mg : Str → Option Value} {base : Heap} {f fU C : Addr} {fd dU : FuncData}
theorem ok_usual (F : FM K "_usual" "TextMap._usual" s_usual f fd) (T : TMc K C) : FnOk P w K mg base CX0 1 f fd ["self", "value"] (spUsual C) := by
  refine F.ok sc_usual (fun vs H Q E h => ?_) (fun cdv A outer s H vs Q E hr h => ?_)
  · obtain ⟨m, dx, fs, r, z, rfl, _⟩ := h
    rfl
  obtain ⟨m, dx, fs, r, z, rfl, hm, hl, q⟩ := h
  refine ⟨_, PSs.nox (pss_one (ps_ret (pe_ifExp (pt_cmp (pc_isN (pe_fld (pv 0) rfl))) (pv 1) (pe_fld (pv 0) rfl)))), ?_⟩
  refine ⟨_, rfl, m, C, dx, _, r, rfl, hm, T.cl, T.nR, hl, _, rfl, ?_⟩
  unfold orV at q
  by_cases h : r = .non
  · rw [decide_eq_true h]
    rw [if_pos h] at q
    exact ⟨_, rfl, q⟩
  · rw [decide_eq_false h]
    rw [if_neg h] at q
    exact ⟨_, rfl, m, C, dx, _, r, rfl, hm, T.cl, T.nR, hl, q⟩
theorem ok_result (F : FM K "_result" "TextMap._result" s_result f fd) (T : TMc K C) (GU : FnOk P w K mg base CX0 1 fU dU ["self", "value"] (spUsual C)) (bU : Binds K dU ["self", "value"] []) (mU : Meth K C "_usual" fU) : FnOk P w K mg base CX0 2 f fd ["self", "value"] (spResult C) := by
  refine F.ok sc_result (fun vs H Q E h => ?_) (fun cdv A outer s H vs Q E hr h => ?_)
  · obtain ⟨m, kvs, r, z, rfl, _⟩ := h
    rfl
  obtain ⟨m, kvs, r, z, rfl, ⟨dx, d, hm, hd⟩, q⟩ := h
  have hu := hr.units
  have hu1 : A.units + 3 + 1 < cLine := by have h : A.units + 3 + 64 < cLine := hu; omega
  refine ⟨_, PSs.nox (pss_one (ps_ret (pe_dget2 hu1 (pe_fld (pv 0) rfl) (pv 1) (pe_meth (pv 0) T.cl mU GU hr bU .nil pass0 (pa_cons (pv 1) pa_nil)) (by constructor <;> rfl)))), ?_⟩
  refine ⟨_, rfl, m, C, dx, _, .ref d, rfl, hm, T.cl, T.nE, rfl, ?_⟩
  refine ⟨d, rfl, .inl ⟨kvs, .inl hd⟩, ?_⟩
  refine ⟨_, rfl, _, rfl, m, dx, _, rfl, hm, rfl, _, rfl, m, dx, _, r, z, rfl, hm, rfl, ?_⟩
  refine ⟨_, DGet.k (k := Sum.inr z) hd, ?_⟩
  unfold atV at q
  cases e : valV kvs (Sum.inr z) with
  | some v =>
    rw [e] at q
    exact q
  | none =>
    rw [e] at q
    exact q
end
end C12

end PH12
section PI12
set_option maxHeartbeats 4000000
namespace L2
open PySem
/-- a dict comprehension over a walk: Pv by the turn and the heap (the new dict at D within) -/
theorem dc_it {J : It} {n : Nat} {G : Hp → Prop} {Y : Nat → Hp → V → Hp → Prop} (w : Walk J n G Y) {g : TG} {tt : TT} {tk tv : TE} {vs : List Nat} {σ : St} {H1 : Hp} {D : Addr} {Qd : Hp → Prop} (Pv : Nat → Hp → Prop) (h0 : Pv 0 (upd H1 D (.dK []))) (hG : ∀ i H, i ≤ n → Pv i H → G H)
    (hs : ∀ i x H H', i < n → Pv i H → Y i H x H' → g x (wipe σ vs) H' fun σ2 H2 => wipe σ2 vs = wipe σ vs ∧ tt σ2 H2 fun b H3 =>
      if b = true then tk σ2 H3 fun y H4 => tv σ2 H4 fun z H5 => ∃ kvs k, y = kV k ∧ H5 D = some (.dK kvs) ∧ kvs.length < sizeLine ∧ Pv (i + 1) (upd H5 D (.dK (putK kvs k z))) else Pv (i + 1) H3) (hd : ∀ H, Pv n H → Qd H) :
    ∃ W : Nat → Nat → Hp → Prop, (∃ m, W 0 m (upd H1 D (.dK []))) ∧ ∀ i m H, W i m H →
      (J.stop i H ∧ Qd H) ∨ (J.go i H ∧ ∃ Nx : Hp → Prop, (∀ H', Nx H' → ∃ m', m' < m ∧ W (i + 1) m' H') ∧ ∀ x H', J.yld i H x H' → g x (wipe σ vs) H' fun σ2 H2 => wipe σ2 vs = wipe σ vs ∧ tt σ2 H2 fun b H3 =>
        if b = true then tk σ2 H3 fun y H4 => tv σ2 H4 fun z H5 => ∃ kvs k, y = kV k ∧ H5 D = some (.dK kvs) ∧ kvs.length < sizeLine ∧ Nx (upd H5 D (.dK (putK kvs k z))) else Nx H3) := by
  refine ⟨fun i m H => m = n - i ∧ i ≤ n ∧ Pv i H, ⟨n, by simp, Nat.zero_le _, h0⟩, ?_⟩
  rintro i m H ⟨rfl, hi, p⟩
  have q := hG i H hi p
  by_cases hlt : i < n
  · exact .inr ⟨w.goes i H hlt q, Pv (i + 1), fun H' p' => ⟨n - (i + 1), by omega, rfl, hlt, p'⟩, fun x H' y => hs i x H H' hlt p (w.yields i H x H' hlt q y)⟩
  · have e : i = n := by omega
    subst e
    exact .inl ⟨w.stops H q, hd H p⟩
end L2
namespace C12
open PySem L2
theorem put_new {kvs : List (Key × V)} {k : Key} {v : V} (h : k ∉ kvs.map (·.1)) : putK kvs k v = kvs ++ [(k, v)] := by
  unfold putK
  rw [if_neg]
  intro e
  obtain ⟨q, hq, eq⟩ := List.any_eq_true.mp e
  exact h (List.mem_map.mpr ⟨q, hq, of_decide_eq_true eq⟩)
theorem take_put {kvs : List (Key × V)} {i : Nat} {k : Key} {v : V} (nd : (kvs.map (·.1)).Nodup) (e : kvs[i]? = some (k, v)) : putK (kvs.take i) k v = kvs.take (i + 1) := by
  have s : kvs.take (i + 1) = kvs.take i ++ [(k, v)] := by rw [List.take_succ, e]; rfl
  rw [put_new, s]
  intro h
  have n2 : ((kvs.take (i + 1)).map (·.1)).Nodup := by
    rw [List.map_take]
    exact nd.sublist (List.take_sublist _ _)
  rw [s, List.map_append] at n2
  exact (List.nodup_append.mp n2).2.2 k h k (by simp) rfl
theorem get_at {kvs : List (Key × V)} {i : Nat} {k : Key} {v : V} (nd : (kvs.map (·.1)).Nodup) (e : kvs[i]? = some (k, v)) : valV kvs k = some v := by
  induction kvs generalizing i with
  | nil => cases e
  | cons q r ih =>
    cases i with
    | zero =>
      cases (show q = (k, v) from Option.some.inj e)
      exact valV_pos rfl
    | succ i =>
      have e' : r[i]? = some (k, v) := e
      have hk : k ∈ r.map (·.1) := List.mem_map.mpr ⟨_, List.mem_of_getElem? e', rfl⟩
      have nn := List.nodup_cons.mp (show (q.1 :: r.map (·.1)).Nodup from nd)
      rw [valV_neg (fun z => nn.1 (by rw [z]; exact hk))]
      exact ih nn.2 e'
abbrev s_exceptions : Stmt := inCls (top 15) 5
def spExceptions (C : Addr) : Sp := fun vs H Q _ => ∃ (m : Addr) (kvs : List (Key × V)) (r : V), vs = [.ref m] ∧ TMap C H m kvs r ∧ (kvs.map (·.1)).Nodup ∧ kvs.length ≤ 1000 ∧ ∀ D H', H D = none → Same H H' → H' D = some (.dK kvs) → Q (.ref D) H'
theorem sc_exceptions : FnScope ["self", "old"] ["self"] (defScope s_exceptions) := ⟨rfl, rfl, rfl, by decide +kernel, rfl, by decide +kernel, by decide +kernel⟩
section
variable {P : Program} {w : World} {K : PySem.W.Frag} {mg : Str → Option Value} {base : Heap} {f C : Addr} {fd : FuncData}
theorem ok_exceptions (F : FM K "exceptions" "TextMap.exceptions" s_exceptions f fd) (T : TMc K C) : FnOk P w K mg base CX0 1 f fd ["self"] (spExceptions C) := by
  refine F.ok sc_exceptions (fun vs H Q E h => ?_) (fun cdv A outer s H vs Q E hr h => ?_)
  · obtain ⟨m, kvs, r, rfl, _⟩ := h
    rfl
  obtain ⟨m, kvs, r, rfl, ⟨dx, d, hm, hd⟩, nd, hl, q⟩ := h
  have hu := hr.units
  have hu1 : A.units + 3 + 1 < cLine := by have h : A.units + 3 + 64 < cLine := hu; omega
  refine ⟨_, PSs.nox (pss_one (ps_ret (pe_lock (pe_dc (own := [("old", 1)]) (g := gName 1) (tt := tYes) (tk := tVar 1) (tv := tDGet (tFld K (tVar 0) "_exceptions") (tVar 1)) rfl sc_exceptions.nd (pi_keys (pe_fld (pv 0) rfl)) (blkOk_by (N := ["self", "old"]) (sc := defScope s_exceptions) (by decide +kernel)) (fun _ _ _ _ _ => pg_name (i := 1) sc_exceptions.nd rfl (Or.inl rfl)) (fun _ _ _ _ _ => pts_nil)
      (fun _ _ _ _ _ => by exact (pv 1)) (fun _ _ _ _ _ => by exact (pe_dget hu1 (pe_fld (pv 0) rfl) (pv 1) (fun _ _ => rfl))))))), ?_⟩
  have ne : m ≠ d := fun e => by
    rw [e, hd] at hm
    cases hm
  refine ⟨d, _, hd, trivial, fun od => ?_⟩
  have hm1 : (upd H d (.frz od (.dK kvs))) m = some (.ins C dx [("_rest", r), ("_exceptions", .ref d)]) := by rw [upd_ne ne]; exact hm
  refine ⟨_, rfl, m, C, dx, _, .ref d, rfl, hm1, T.cl, T.nE, rfl, d, od, rfl, .inl ⟨kvs, upd_same, fun D hD => ?_⟩⟩
  have nD : D ≠ d := fun e => by
    rw [e, upd_same] at hD
    cases hD
  have hD0 : H D = none := by rw [← hD, upd_ne nD]
  refine dc_it (walk_keys (kvs := kvs)) (fun i H' => Same (upd H d (.frz od (.dK kvs))) H' ∧ H' D = some (.dK (kvs.take i))) ⟨same_upd hD, upd_same⟩ (fun i H' _ ⟨z, _⟩ => z _ _ upd_same) (fun i x H1 H2 hi ⟨z, hD1⟩ y => ?_) fun H1 ⟨z, hD1⟩ => ?_
  · obtain ⟨rfl, k, v, e, rfl⟩ := y
    refine ⟨rfl, ?_⟩
    simp only [tYes, ↓reduceIte]
    refine ⟨_, rfl, _, rfl, m, C, dx, _, .ref d, rfl, z _ _ hm1, T.cl, T.nE, rfl, _, rfl, d, v, rfl, ?_, kvs.take i, k, rfl, hD1, ?_, same_over z hD, ?_⟩
    · exact .inl ⟨kvs, k, .inr ⟨_, z _ _ upd_same⟩, rfl, (get_at nd e).symm⟩
    · rw [List.length_take]
      exact Nat.lt_of_le_of_lt (show min i kvs.length ≤ 1000 by omega) (by decide)
    · rw [upd_same, take_put nd e]
  · refine ⟨z _ _ upd_same, q D _ hD0 (fun b o e => ?_) ?_⟩
    · by_cases h : b = d
      · rw [h, hd] at e
        rw [h, upd_same]
        exact e
      · rw [upd_ne h]
        exact z b o (by rw [upd_ne h]; exact e)
    · rw [upd_ne nD, hD1, List.take_length]
end
end C12

end PI12
section PE7
set_option maxHeartbeats 4000000
/-! Raising an exception of an own class over any of the bases, and what its suite asks of it. -/
namespace L2
open PySem PySem.Spec PyProof.Rows
/-- C(e, ..), made to be raised -/
def tXr (C : Addr) (n : Nat) (sp : Sp) (gV : List V → List V → List V) (t : TA) : St → Hp → XK → Prop := fun σ H Q => t σ H fun vs H1 => vs.length = n ∧ ∀ a, H1 a = none → sp (gV (.ref a :: vs) []) (upd H1 a (exo a C none))
  (fun v H2 => v = .non ∧ ∃ (d : Addr) (fs : List (Str × V)), H2 a = some (exo a C (some d)) ∧ H2 d = some (exd d fs) ∧ H1 d = none ∧ Q (.ref C) (some d) (upd (del H2 a) d (.xd fs))) E0
section
variable {X : Cx} {CX : CXT} {k n : Nat} {fI C : Addr} {fd : FuncData} {ps : List Str} {sp : Sp} {x : Str} {p pos : Pos} {e : Expr} {es : List Expr} {t : TA} {g : List Value → List Value → List Value} {gV : List V → List V → List V}
theorem pmk_xe (T : XC X.K C) (iC : PySem.W.findIn X.K (.ref C) "__init__" = some (some (.ref fI))) (tI : PySem.W.typeIn X.K (.ref fI) = some (.type "function"))
    (F : FnOk X.prog X.w X.K X.mg X.base CX k fI fd ps sp) (hr : Room (k + 1) X.A) (hb : KBn X.K fd ps (n + 1) [] g gV) (hx : Passes CX X E0) (hn : n ≤ 1000) (hg : Gl X x) (hm : X.mg x = some (.ref C)) (ha : PA X (e :: es) t)
    (hdb : (x == ("__debug__" : Str)) = false := by decide) (he : starEach (e :: es) X.env = (false, eval e X.env) :: starEach es X.env := by rfl) (hpl : (backTo pos (starEach es X.env)).any (·.1) = false := by rfl) :
    PMk X (.Call (.Name x p) (e :: es) [] pos) (tXr C n sp gV t) := by
  intro pins s σ H Q I h
  obtain ⟨B, newId, initId, tl, nm, q, N, bs, bm, sn, sub, ab, col, dd, k0, k1, k2, k3, k5, BX, hC, hbm⟩ := T.cls
  refine wpAny_Call_Name_kw (ld_glob I hg hm ?_ hdb)
  refine PySem.W.callWith_K (h₀ := X.base) I.ok.mod.kin T.kC (thn (ha.run pos pins s σ H _ I h) fun us s1 ⟨vs, H1, I1, r1, q1⟩ => ⟨I1.kIn, ?_⟩) he hpl
  obtain ⟨l1, q2⟩ := q1
  show wpAny _ _ (call (.ref C) us) _ _ _
  obtain ⟨hp, gs, dr, tk', os⟩ := s1
  have hsz : hp.objs.size ≤ hp.objs.size + 1 := Nat.le_succ _
  have hn1 : H1 (hp.objs.size + 1) = none := I1.hok.fresh hsz
  have hq := q2 (hp.objs.size + 1) hn1
  have kk : ∀ b o, hp.get? b = some o → ((hp.push (PySem.W.kdv_tup us)).push (PySem.HandSPX.excO C hp.objs.size)).get? b = some o := fun b o e => Heap.get?_push_of_some _ (Heap.get?_push_of_some _ e)
  have hget : ((hp.push (PySem.W.kdv_tup us)).push (PySem.HandSPX.excO C hp.objs.size)).get? (hp.objs.size + 1) = some (PySem.HandSPX.excO C hp.objs.size) := by heap_get
  have I2 : Inv X pins σ (upd H1 (hp.objs.size + 1) (exo (hp.objs.size + 1) C none)) ⟨(hp.push (PySem.W.kdv_tup us)).push (PySem.HandSPX.excO C hp.objs.size), gs, dr, tk', os⟩ :=
    I1.laid (t' := tk') (a := hp.objs.size + 1) (o := exo (hp.objs.size + 1) C none) (h' := (hp.push (PySem.W.kdv_tup us)).push (PySem.HandSPX.excO C hp.objs.size)) kk hsz (exo_ok hget)
  have r3 : Vals (V.ref (hp.objs.size + 1) :: vs) (Value.ref (hp.objs.size + 1) :: us) := .cons rfl r1
  have r2 := hb.rel (zs := []) (ws := []) r3 .nil
  have e1 : (Value.ref (hp.objs.size + 1) :: us).length = n + 1 := r3.length.symm.trans (congrArg Nat.succ l1)
  have hus : us.length ≤ sizeLine := by
    rw [← r1.length, l1]
    exact Nat.le_trans hn (by decide)
  refine wpAny_call (PySem.EXV.call_kw BX.F (fun Y => PySem.W.excTail_contains Y bm hbm) (I1.kIn _ _ hC) (PySem.W.looks_findIn I1.kIn iC) (fun self => PySem.W.bind_fn I1.kIn self tI) hus
    (codeAny_mono (F.run _ X.stack _ _ ⟨Value.ref (hp.objs.size + 1) :: us, []⟩ (g (Value.ref (hp.objs.size + 1) :: us) []) _ _ E0 (hr.make C us []) (I2.env0.make C us []) (hb.to _ (Value.ref (hp.objs.size + 1) :: us) [] I2.kIn e1 rfl) r2 hq) fun r s' hq' => ?_))
  cases r with
  | error er => exact hx pins σ _ _ er s' I2 hq'
  | ok fl =>
    cases fl with
    | ret u =>
      obtain ⟨v, H2, os2, bare2, un2, hok2, rv, ev, d, fs, ea, ed, hd1, q3⟩ := hq'
      subst ev
      obtain ⟨h2, g2, d2, t2, os'⟩ := s'
      exact ⟨rv, mk_end (raises_own T.exC T.tyC) I1 hsz kk un2 hok2 os2 bare2 ea ed hd1 q3⟩
    | next => exact False.elim hq'
    | brk => exact False.elim hq'
    | cont => exact False.elim hq'
end
theorem XC.xf {K : PySem.W.Frag} {C : Addr} (T : XC K C) : XfC K C := ⟨T.ga, T.gg, T.exC, T.hd⟩
/-- isinstance(e, c), e the exception that the suite holds, its dict at d -/
def rIsF (K : PySem.W.Frag) (a : Addr) (cls : Value) (d : Option Addr) : List V → Hp → VK → Prop := fun xs H Q => ∃ (C dd : Addr) (fs : List (Str × V)) (c : V) (u : Value) (b : Bool), xs = [.ref a, c] ∧ ClsV c u ∧ XC K C ∧ cls = .ref C ∧ d = some dd ∧ H dd = some (.xd fs) ∧ PySem.W.kitOne K (.ref C) u = some b ∧ Q (.bl b) H
theorem call_isF {X : Cx} {a : Addr} {cls : Value} {d : Option Addr} {oe : Obj} {pn : List (Addr × Obj)} (hz : Zc cls d oe) (hf : ∃ vs, oe.data = .fields vs) : CallR (X.suite a ((a, oe) :: pn)) (.builtin "isinstance") (rIsF X.K a cls d) := by
  intro pins s σ H xs us Q I r h
  obtain ⟨C, dd, fs, c, u, b, rfl, k, T, ec, ed, ea, e, q⟩ := h
  obtain ⟨u1, u2, rfl, r1, r2⟩ := vals2 r
  have e2 := k.eq r2
  subst e2
  cases (show u1 = Value.ref a from r1)
  subst ec
  subst ed
  obtain ⟨hget, _⟩ := I.pin (a, oe) (List.mem_append.mpr (.inl List.mem_cons_self))
  obtain ⟨vs, hv⟩ := hf
  have hx : ObjOk X.prog X.w H s.heap dd (.xd fs) := I.hok dd _ ea
  obtain ⟨mA, ⟨od, es, ep, e1, hds, hre⟩, rel⟩ := hx
  have J : PySem.W.InstAt s.heap a oe C (some od) := ⟨hget, hz.1, by unfold PySem.W.notCls; rw [hv] <;> rfl, by rw [hz.2]; exact e1⟩
  exact PySem.W.kia_one (PySem.W.kitx_exc (od := some od) T.isCls T.ga T.gg T.exC T.ha T.hn T.ht T.hm) I.kIn J e (fun z => nomatch z) fun tk => ⟨.bl b, H, I.tok tk, rfl, q⟩
theorem takes_no {X : Cx} : Takes X (fun _ _ _ _ => False) := fun u s' h => by
  obtain ⟨_, _, _, _, _, _, _, _, _, _, _, _, _, _, _, _, w⟩ := h
  exact w.elim
end L2

end PE7
section PJ12
set_option maxHeartbeats 4000000
namespace C12
open PySem L2
/-! ### TextMap(exceptions, rest) of what is allowed -/
abbrev s_init : Stmt := inCls (top 15) 1
abbrev s_initIM : Stmt := inCls (top 4) 0
theorem boot_sorted : bootBuiltins "sorted" = some (.builtin "sorted") := by decide +kernel
/-- a rest: None or a word -/
def RestOk (r : V) : Prop := r = .non ∨ ∃ z : Str, r = .str z ∧ wordB z 12 = true
/-- the exceptions that are kept of kvs: ex, sorted -/
def NormOf (kvs : List (Key × V)) (r : V) (ex : List (Key × V)) : Prop := ∃ (ks ys : List Str), kvs.map (·.1) = ks.map Sum.inr ∧ ys.Perm ks ∧ PyProof.Rows.sortedS ys = true ∧
  ex = (ys.filter fun k => !decide (atV kvs .non k = orV r k)).map fun k => (Sum.inr k, atV kvs .non k)
def spInitT (C : Addr) : Sp := fun vs H Q _ => ∃ (m dx : Addr) (e r : V) (kvs : List (Key × V)), vs = [.ref m, e, r] ∧ H m = some (.ins C dx []) ∧ Tab 60 kvs ∧ RestOk r ∧ ((e = .non ∧ kvs = []) ∨ ∃ g, e = .ref g ∧ H g = some (.dK kvs)) ∧
  ∀ H' ex d, NormOf kvs r ex → H d = none → H' m = some (.ins C dx [("_rest", r), ("_exceptions", .ref d)]) → H' d = some (.dK ex) → Bt m H H' → Q .non H'
abbrev nInit : List Str := ["self", "exceptions", "rest", "given", "old", "new"]
theorem sc_init : FnScope nInit ["self", "exceptions", "rest"] (defScope s_init) := ⟨rfl, rfl, rfl, by decide +kernel, rfl, by decide +kernel, by decide +kernel⟩
theorem seq_made {te : TE} {u : TS} {D : Ends} {σ : St} {σ2 : Addr → St} {H : Hp} {i : Nat} {kvs : List (Key × V)} (h1 : ∀ Q : VK, (∀ g H1, Same H H1 → H1 g = some (.dK kvs) → Q (.ref g) H1) → te σ H Q) (hs : ∀ g, σ.set i (some (.ref g)) = σ2 g) (h2 : ∀ g H1, Same H H1 → H1 g = some (.dK kvs) → u D (σ2 g) H1) :
    tSeq (tAsg te (gName i)) u D σ H := h1 _ fun g H1 s hg => by
  have z := h2 g H1 s hg
  rw [← hs g] at z
  exact z
theorem if_non {c : TT} {t v : TS} {D : Ends} {σ : St} {H : Hp} (h : ∀ Q : Bool → Hp → Prop, (∀ H1, Same H H1 → Q false H1) → c σ H Q) (q : ∀ H1, Same H H1 → v D σ H1) : tSeq (tIfS c t tNext) v D σ H :=
  h _ fun H1 s => show (if false = true then _ else _) from by rw [if_neg (by decide)]; exact q H1 s
theorem asStr_str {K : PySem.W.Frag} {H : Hp} (z : Str) : AsStr K H (.str z) := ⟨.type "str", .base (.str z), kit_ty (show kitB "str" "str" = some true by decide +kernel)⟩
theorem word_len {z : Str} (h : wordB z 12 = true) : z.length ≤ sizeLine := Nat.le_trans (word_asc (m := 12) h).1 (by decide)
/-- is_value(name, 'text') of a word -/
theorem word_at {K : PySem.W.Frag} {E : XK} {σ : St} {H : Hp} {i : Nat} {z : Str} (e : σ[i]? = some (some (.str z))) (hw : wordB z 12 = true) : ∀ Q : Bool → Hp → Prop, (∀ H1, Same H H1 → Q true H1) → tB (tCall (spIsValue K) [] E (tCons (tVar i) (tCons (tC (.str "text")) tNil))) σ H Q := fun Q q =>
  ⟨_, e, .str z, rfl, asStr_str z, fun y h => by cases h; exact word_len hw, fun H1 s => ⟨isWd (.str z) 12, rfl, by rw [show isWd (.str z) 12 = true from hw]; exact q H1 s⟩⟩
theorem tab_keys {n : Nat} {kvs : List (Key × V)} (t : Tab n kvs) : ∃ ks : List Str, kvs.map (·.1) = ks.map Sum.inr := by
  have h := t.each
  clear t
  induction kvs with
  | nil => exact ⟨[], rfl⟩
  | cons q r ih =>
    obtain ⟨ks, e⟩ := ih fun x hx => h x (List.mem_cons_of_mem _ hx)
    obtain ⟨a, b, rfl, _⟩ := h q List.mem_cons_self
    exact ⟨a :: ks, by rw [List.map_cons, List.map_cons, e]⟩
theorem orV_str {r : V} (h : RestOk r) (k : Str) : ∃ y : Str, orV r k = .str y := by
  rcases h with rfl | ⟨z, rfl, _⟩
  · exact ⟨k, if_pos rfl⟩
  · exact ⟨z, if_neg (fun e => nomatch e)⟩
theorem tor {t u : TT} {σ : St} {H : Hp} {Q : Bool → Hp → Prop} (ht : ∀ Q : Bool → Hp → Prop, (∀ H1, Same H H1 → Q false H1) → t σ H Q) (hu : ∀ H1, Same H H1 → u σ H1 Q) : tOr t u σ H Q :=
  ht _ fun H1 s => show (if false = true then _ else _) from by rw [if_neg (by decide)]; exact hu H1 s
theorem if_no {c : TT} {t u : TS} {D : Ends} {σ : St} {H : Hp} (h : ∀ Q : Bool → Hp → Prop, (∀ H1, Same H H1 → Q false H1) → c σ H Q) (q : ∀ H1, Same H H1 → u D σ H1) : tIfS c t u D σ H :=
  h _ fun H1 s => show (if false = true then _ else _) from by rw [if_neg (by decide)]; exact q H1 s
structure TI12 (mg : Str → Option Value) : Prop where
  isi : mg "isinstance" = none
  dict : mg "dict" = none
  sorted : mg "sorted" = none
section
variable {P : Program} {w : World} {K : PySem.W.Frag} {mg : Str → Option Value} {base : Heap} {f fV fU fI C IM : Addr} {fd dV dU dI : FuncData}
theorem ok_init (F : FunD K "__init__" "TextMap.__init__" (defArgs s_init) (defBody s_init) (defScope s_init) [.non, .non] [] f fd) (T : TI12 mg) (TC : TMc K C) (IV : Kn P w K mg base 2 "is_value" fV dV ["value", "kind"] (spIsValue K))
    (GU : FnOk P w K mg base CX0 1 fU dU ["self", "value"] (spUsual C)) (bU : Binds K dU ["self", "value"] []) (mU : Meth K C "_usual" fU)
    (X0 : XC K IM) (iIM : PySem.W.findIn K (.ref IM) "__init__" = some (some (.ref fI))) (tIM : PySem.W.typeIn K (.ref fI) = some (.type "function")) (mIM : mg "InvalidMap" = some (.ref IM)) {spI : Sp} (GI : FnOk P w K mg base CX0 1 fI dI ["self", "position"] spI) (bI : KBn K dI ["self", "position"] 2 [] (fun us _ => us) (fun us _ => us)) :
    FnOk P w K mg base CX0 3 f fd ["self", "exceptions", "rest"] (spInitT C) := by
  refine F.ok sc_init (fun vs H Q E h => ?_) (fun cdv A outer s H vs Q E hr h => ?_)
  · obtain ⟨m, dx, e, r, kvs, rfl, _⟩ := h
    rfl
  obtain ⟨m, dx, e, r, kvs, rfl, hm, tab, hrest, he, q⟩ := h
  have hu := hr.units
  have hu1 : A.units + 3 + 1 < cLine := by have h : A.units + 3 + 64 < cLine := hu; omega
  have hr2 : Room 2 _ := hr
  refine ⟨_, PSs.nox (pss_cons (ps_set (i := 3) sc_init.nd rfl (Or.inr rfl) (pe_ifExp (pt_cmp (pc_isN (pv 1))) pe_dnewK (pv 1)))
    (pss_cons (ps_if (PW.pt (pw_or (pt_not (pt_val (pe_callB call_isi (by rfl) T.isi boot_isi (pa_cons (pv 3) (pa_cons (pe_bltn (v := .ty "dict") (by rfl) T.dict (by decide +kernel) rfl) pa_nil))))) (pw_or1 (pt_not (PW.pt (pw_or (pt_cmp (pc_isN (pv 2))) (pw_or1 (pt_val (pe_call IV.f hr rfl IV.m IV.k IV.b .nil pass0 (pa_cons (pv 2) (pa_cons pe_str pa_nil)))))))))))
      (pss_one (ps_raise rfl takes_no (pmk_xe X0 iIM tIM GI hr2 bI pass0 (by decide) rfl mIM (pa_cons (pe_un un_neg pe_int) pa_nil)))) pss_nil)
    (pss_cons (ps_lock (ps_for .never (by rfl) (pi_items (pv 3)) (pg_tup (by rfl) (pgs_cons (pg_name (i := 4) sc_init.nd rfl (Or.inl rfl)) (pgs_cons (pg_name (i := 5) sc_init.nd rfl (Or.inl rfl)) pgs_nil)))
      (pss_one (ps_if (PW.pt (pw_or (pt_not (pt_val (pe_call IV.f hr rfl IV.m IV.k IV.b .nil pass0 (pa_cons (pv 4) (pa_cons pe_str pa_nil))))) (pw_or1 (pt_not (pt_val (pe_call IV.f hr rfl IV.m IV.k IV.b .nil pass0 (pa_cons (pv 5) (pa_cons pe_str pa_nil))))))))
        (pss_one (ps_raise rfl takes_no (pmk_xe X0 iIM tIM GI hr2 bI pass0 (by decide) rfl mIM (pa_cons (pe_un un_neg pe_int) pa_nil)))) pss_nil))))
    (pss_cons (ps_fld (pv 0) (pv 2) rfl)
    (pss_one (ps_fld (pv 0) (pe_dc (own := [("old", 4)]) (g := gName 4) (tk := tVar 4) (tv := tDGet (tVar 3) (tVar 4)) rfl sc_init.nd (pi_list (pe_callB (call_sortedD rfl) (by rfl) T.sorted boot_sorted (pa_cons (pv 3) pa_nil))) (blkOk_by (N := nInit) (sc := defScope s_init) (by decide +kernel)) (fun _ _ _ _ _ => pg_name (i := 4) sc_init.nd rfl (Or.inl rfl))
      (fun _ _ _ _ _ => pts_one (pt_cmpR op_ne (pe_dget hu1 (pv 3) (pv 4) (fun _ _ => rfl)) (pe_meth (pv 0) TC.cl mU GU (hr.mono (by decide)) bU .nil pass0 (pa_cons (pv 4) pa_nil)) (nomark _)))
      (fun _ _ _ _ _ => by exact (pv 4)) (fun _ _ _ _ _ => by exact (pe_dget hu1 (pv 3) (pv 4) (fun _ _ => rfl)))) rfl)))))), ?_⟩
  refine seq_made (kvs := kvs) (σ2 := fun g => [some (.ref m), some e, some r, some (.ref g), none, none]) (fun Q' k => ?_) (fun _ => rfl) (fun g H1 s1 hg => ?_)
  · rcases he with ⟨rfl, rfl⟩ | ⟨g, rfl, hg⟩
    · exact ⟨_, rfl, _, rfl, fun p hp => k p _ (same_upd hp) upd_same⟩
    · exact ⟨_, rfl, _, rfl, _, rfl, k g H (Same.refl H) hg⟩
  have hm1 := s1 _ _ hm
  have nmg : m ≠ g := fun e => by
    rw [e, hg] at hm1
    cases hm1
  refine if_non (fun Q0 q0 => ?_) fun H2 s2 => ?_
  · refine tor (fun Q1 q1 => ⟨_, rfl, .ref g, .ty "dict", .type "dict", _, true, rfl, .ty _, .base (.dK hg), kit_ty (by decide +kernel), true, rfl, q1 H1 (Same.refl H1)⟩) fun H3 s3 => ?_
    rcases hrest with rfl | ⟨z, rfl, hz⟩
    · exact ⟨_, rfl, _, rfl, q0 H3 s3⟩
    · exact ⟨_, rfl, _, rfl, word_at rfl hz _ fun H4 s4 => q0 H4 (s3.trans s4)⟩
  have hg2 := s2 _ _ hg
  have hm2 := s2 _ _ hm1
  refine ⟨g, _, hg2, trivial, fun od => ⟨_, rfl, g, od, kvs, rfl, upd_same, ?_⟩⟩
  refine for_it walk_items (fun i σ' H' => (∃ x4 x5 : Option V, σ' = [some (.ref m), some e, some r, some (.ref g), x4, x5]) ∧ Same (upd H2 g (.frz od (.dK kvs))) H') ⟨⟨none, none, rfl⟩, Same.refl _⟩ (fun i σ' H' _ ⟨_, z⟩ => z _ _ upd_same) (fun i x σ' H' H'' hi ⟨⟨x4, x5, e0⟩, z⟩ y => ?_) (fun σ' H' ⟨⟨x4, x5, e0⟩, z⟩ => ?_)
  · subst e0
    obtain ⟨T, kx, v, rfl, nT, rfl, e1, e2⟩ := y
    have ei : kvs[i]? = some (kvs[i]'hi) := List.getElem?_eq_getElem hi
    obtain ⟨a, b, eab, wa, wb⟩ := tab.each _ (List.getElem_mem hi)
    replace e1 : kvs[i]?.map (fun kv => kV kv.1) = some kx := e1
    replace e2 : kvs[i]?.map Prod.snd = some v := e2
    rw [ei, eab] at e1 e2
    cases e1
    cases e2
    refine ⟨T, _, rfl, SqT.of upd_same, rfl, _, _, rfl, _, _, rfl, rfl, ?_⟩
    refine if_no (fun Q0 q0 => tor (fun Q1 q1 => word_at rfl wa _ fun H4 s4 => q1 H4 s4) fun H4 s4 => word_at rfl wb _ fun H5 s5 => q0 H5 (s4.trans s5)) fun H5 s5 => ?_
    exact ⟨⟨_, _, rfl⟩, (z.trans (same_upd nT)).trans s5⟩
  subst e0
  have s3 : Same H2 (upd H' g (.dK kvs)) := fun b o e => by
    by_cases h : b = g
    · rw [h, hg2] at e
      rw [h, upd_same]
      exact e
    · rw [upd_ne h]
      exact z b o (by rw [upd_ne h]; exact e)
  refine ⟨z _ _ upd_same, ?_⟩
  generalize upd H' g (.dK kvs) = H3 at s3
  have hm3 := s3 _ _ hm2
  have hg3 := s3 _ _ hg2
  refine ⟨_, rfl, _, rfl, m, C, dx, _, rfl, hm3, TC.cl, TC.nR, by decide, ?_⟩
  have hg4 : (upd H3 m (.ins C dx (putF "_rest" r []))) g = some (.dK kvs) := by rw [upd_ne (Ne.symm nmg)]; exact hg3
  generalize hH4 : upd H3 m (.ins C dx (putF "_rest" r [])) = H4 at hg4 ⊢
  have hm4 : H4 m = some (.ins C dx [("_rest", r)]) := by rw [← hH4, upd_same]; rfl
  obtain ⟨ks, hks⟩ := tab_keys tab
  have lks : ks.length ≤ 60 := by
    have := congrArg List.length hks
    rw [List.length_map, List.length_map] at this
    have := tab.len
    omega
  refine ⟨_, rfl, g, kvs, ks, rfl, .inl hg4, hks, by omega, fun ys p hperm hsort hp => ⟨p, rfl, ⟨_, SqL.of upd_same⟩, fun D hD => ?_⟩⟩
  have ksn : ks.Nodup := by
    have n := tab.nd
    rw [hks] at n
    exact List.Pairwise.imp (fun h e => h (congrArg Sum.inr e)) (List.pairwise_map.mp n)
  have ysn : ys.Nodup := hperm.nodup_iff.mpr ksn
  have lys : ys.length = ks.length := hperm.length_eq
  have nmD : m ≠ D := fun h => by
    rw [← h, upd_ne (ne_of_none hm4 hp), hm4] at hD
    cases hD
  have hm5 : (upd H4 p (.lst (ys.map V.str))) m = some (.ins C dx [("_rest", r)]) := by rw [upd_ne (ne_of_none hm4 hp)]; exact hm4
  have hg5 : (upd H4 p (.lst (ys.map V.str))) g = some (.dK kvs) := by rw [upd_ne (ne_of_none hg4 hp)]; exact hg4
  have hp5 : (upd H4 p (.lst (ys.map V.str))) p = some (.lst (ys.map V.str)) := upd_same
  have s45 : Same H4 (upd H4 p (.lst (ys.map V.str))) := same_upd hp
  generalize upd H4 p (.lst (ys.map V.str)) = H5 at *
  refine dc_it (walk_list (xs := ys.map V.str)) (fun i H' => Same H5 H' ∧ H' D = some (.dK (((ys.take i).filter fun k => !decide (atV kvs .non k = orV r k)).map fun k => (Sum.inr k, atV kvs .non k)))) ⟨same_upd hD, upd_same⟩ (fun i H' _ ⟨z, _⟩ => SqL.of (z _ _ hp5)) (fun i x H6 H7 hi ⟨z6, hD6⟩ y => ?_) fun H6 ⟨z6, hD6⟩ => ?_
  · obtain ⟨rfl, hx⟩ := y
    rw [List.length_map] at hi
    have ek : ys[i]? = some (ys[i]'hi) := List.getElem?_eq_getElem hi
    rw [List.getElem?_map, ek] at hx
    generalize ys[i]'hi = k at ek hx
    cases (show V.str k = x from Option.some.inj hx)
    have hmem : (Sum.inr k : Key) ∈ kvs.map (·.1) := by
      rw [hks]
      exact List.mem_map.mpr ⟨k, hperm.mem_iff.mp (List.mem_of_getElem? ek), rfl⟩
    obtain ⟨q1, hq1, eq1⟩ := List.mem_map.mp hmem
    obtain ⟨j, hj⟩ := List.getElem?_of_mem hq1
    obtain ⟨a, b, eab, wa, wb⟩ := tab.each _ hq1
    subst eab
    have ea : a = k := Sum.inr.inj (show (Sum.inr a : Key) = Sum.inr k from eq1)
    subst ea
    have hv : valV kvs (Sum.inr a) = some (.str b) := get_at tab.nd hj
    have av : atV kvs .non a = .str b := by
      unfold atV
      rw [hv]
    have tk : ys.take (i + 1) = ys.take i ++ [a] := by rw [List.take_succ, ek]; rfl
    have hm6 := z6 _ _ hm5
    have hg6 := z6 _ _ hg5
    have dg : DGet H7 g (.str a) (some (.str b)) := hv ▸ DGet.k (k := Sum.inr a) hg6
    obtain ⟨y, ey⟩ := orV_str hrest a
    have nin : (Sum.inr a : Key) ∉ (((ys.take i).filter fun k => !decide (atV kvs .non k = orV r k)).map fun k => ((Sum.inr k : Key), atV kvs .non k)).map (·.1) := fun h => by
      obtain ⟨w1, h1, e1⟩ := List.mem_map.mp h
      obtain ⟨w2, h2, e2⟩ := List.mem_map.mp h1
      subst e2
      have e3 : w2 = a := Sum.inr.inj e1
      subst e3
      have n2 : (ys.take (i + 1)).Nodup := ysn.sublist (List.take_sublist _ _)
      rw [tk] at n2
      exact (List.nodup_append.mp n2).2.2 w2 (List.mem_filter.mp h2).1 w2 (by simp) rfl
    refine ⟨rfl, ?_⟩
    refine ⟨_, rfl, _, rfl, g, _, rfl, dg, _, rfl, m, dx, _, rfl, hm6, rfl, _, rfl, m, dx, _, r, a, rfl, hm6, rfl, by rw [ey]; rfl, _, rfl, ?_⟩
    refine ite2 (fun h => ?_) (fun h => ?_)
    · refine ⟨_, rfl, _, rfl, _, rfl, g, _, rfl, dg, _, Sum.inr a, rfl, hD6, ?_, same_over z6 hD, ?_⟩
      · rw [List.length_map]
        have l1 := List.length_filter_le (fun k => !decide (atV kvs .non k = orV r k)) (ys.take i)
        have l2 : (ys.take i).length ≤ ys.length := by rw [List.length_take]; exact Nat.min_le_right _ _
        exact Nat.lt_of_le_of_lt (show _ ≤ 60 by omega) (by decide)
      · rw [upd_same, put_new nin, tk, List.filter_append, List.filter_cons, List.filter_nil, av, if_pos h, List.map_append, List.map_cons, List.map_nil, av]
    · refine ⟨z6, ?_⟩
      rw [hD6, tk, List.filter_append, List.filter_cons, List.filter_nil, av, if_neg h, List.append_nil]
  · refine ⟨_, rfl, m, C, dx, _, rfl, z6 _ _ hm5, TC.cl, TC.nE, by show 1 < 1000; decide, ?_⟩
    rw [List.length_map, List.take_of_length_le (Nat.le_refl _)] at hD6
    have old : ∀ b o, b ≠ m → H b = some o → H5 b = some o := fun b o nb eb => s45 _ _ (by
      rw [← hH4, upd_ne nb]
      exact s3 _ _ (s2 _ _ (s1 _ _ eb)))
    have dn : H D = none := by
      cases z : H D with
      | none => rfl
      | some o =>
        have z5 := old D o (Ne.symm nmD) z
        rw [hD] at z5
        cases z5
    refine q _ _ D ⟨ks, ys, hks, hperm, hsort, rfl⟩ dn upd_same (by rw [upd_ne (Ne.symm nmD)]; exact hD6) fun b o nb eb => ?_
    rw [upd_ne nb]
    exact z6 _ _ (old b o nb eb)
end
end C12

end PJ12
section PL12
set_option maxHeartbeats 4000000
namespace C12
open PySem L2
/-! ### what the kept exceptions say -/
theorem valV_words (f : Str → V) (z : Str) : ∀ l : List Str, valV (l.map fun k => ((Sum.inr k : Key), f k)) (Sum.inr z) = if z ∈ l then some (f z) else none
  | [] => by rw [if_neg List.not_mem_nil]; rfl
  | k :: l => by
    rw [List.map_cons]
    by_cases h : k = z
    · subst h
      rw [valV_pos rfl, if_pos List.mem_cons_self]
    · rw [valV_neg (fun e => h (Sum.inr.inj e)), valV_words f z l]
      by_cases h2 : z ∈ l
      · rw [if_pos h2, if_pos (List.mem_cons_of_mem _ h2)]
      · rw [if_neg h2, if_neg]
        intro h3
        rcases List.mem_cons.mp h3 with e | e
        · exact h e.symm
        · exact h2 e
theorem valV_key {kvs : List (Key × V)} {k : Key} : (valV kvs k).isSome = true ↔ k ∈ kvs.map (·.1) := by
  induction kvs with
  | nil => exact ⟨fun h => (nomatch (show false = true from h)), fun h => absurd h List.not_mem_nil⟩
  | cons q r ih =>
    by_cases h : q.1 = k
    · rw [valV_pos h]
      exact ⟨fun _ => by rw [List.map_cons, h]; exact List.mem_cons_self, fun _ => rfl⟩
    · rw [valV_neg h, ih, List.map_cons]
      exact ⟨fun z => List.mem_cons_of_mem _ z, fun z => (List.mem_cons.mp z).resolve_left (Ne.symm h)⟩
theorem atV_of {kvs : List (Key × V)} {r : V} {z : Str} {o : Option V} (h : valV kvs (Sum.inr z) = o) : atV kvs r z = o.getD (orV r z) := by
  subst h
  unfold atV
  cases valV kvs (Sum.inr z) <;> rfl
/-- the kept exceptions and the rest say what the given ones and the rest say -/
theorem norm_at {kvs ex : List (Key × V)} {r : V} (h : NormOf kvs r ex) (z : Str) : atV ex r z = atV kvs r z := by
  obtain ⟨ks, ys, hks, hp, hs, rfl⟩ := h
  have hz : (valV kvs (Sum.inr z)).isSome = true ↔ z ∈ ys := by
    rw [valV_key, hks, hp.mem_iff]
    exact ⟨fun h => by
      obtain ⟨w, hw, e⟩ := List.mem_map.mp h
      exact Sum.inr.inj e ▸ hw, fun h => List.mem_map.mpr ⟨z, h, rfl⟩⟩
  have e1 : atV ((ys.filter fun k => !decide (atV kvs .non k = orV r k)).map fun k => ((Sum.inr k : Key), atV kvs .non k)) r z = (if z ∈ ys.filter (fun k => !decide (atV kvs .non k = orV r k)) then some (atV kvs .non z) else none).getD (orV r z) := atV_of (valV_words _ _ _)
  rw [e1]
  cases e : valV kvs (Sum.inr z) with
  | none =>
    have nz : z ∉ ys := fun h => by
      have := hz.mpr h
      rw [e] at this
      cases this
    rw [if_neg (fun h => nz (List.mem_filter.mp h).1)]
    show orV r z = atV kvs r z
    unfold atV
    rw [e]
  | some v =>
    have mz : z ∈ ys := hz.mp (by rw [e]; rfl)
    have a1 : atV kvs .non z = v := by unfold atV; rw [e]
    have a2 : atV kvs r z = v := by unfold atV; rw [e]
    rw [a2]
    by_cases h : v = orV r z
    · rw [if_neg (fun hm => by
        have := (List.mem_filter.mp hm).2
        rw [a1, decide_eq_true h] at this
        cases this)]
      exact h.symm
    · rw [if_pos (List.mem_filter.mpr ⟨mz, by rw [a1, decide_eq_false h]; rfl⟩)]
      exact a1
abbrev s_rest : Stmt := inCls (top 15) 4
theorem sc_rest : FnScope ["self"] ["self"] (defScope s_rest) := ⟨rfl, rfl, rfl, by decide +kernel, rfl, by decide +kernel, by decide +kernel⟩
def spRest (C : Addr) : Sp := fun vs H Q _ => ∃ (m : Addr) (kvs : List (Key × V)) (r : V), vs = [.ref m] ∧ TMap C H m kvs r ∧ Q r H
section
variable {P : Program} {w : World} {K : PySem.W.Frag} {mg : Str → Option Value} {base : Heap} {f C : Addr} {fd : FuncData}
theorem ok_rest (F : FM K "rest" "TextMap.rest" s_rest f fd) (T : TMc K C) : FnOk P w K mg base CX0 1 f fd ["self"] (spRest C) := by
  refine F.ok sc_rest (fun vs H Q E h => ?_) (fun cdv A outer s H vs Q E hr h => ?_)
  · obtain ⟨m, kvs, r, rfl, _⟩ := h
    rfl
  obtain ⟨m, kvs, r, rfl, ⟨dx, d, hm, hd⟩, q⟩ := h
  exact ⟨_, PSs.nox (pss_one (ps_ret (pe_fld (pv 0) rfl))), _, rfl, m, C, dx, _, r, rfl, hm, T.cl, T.nR, rfl, q⟩
end
end C12

end PL12
section PP12
set_option maxHeartbeats 4000000
/-! == of two pairs (dict of flat values, flat value), both answers. -/
namespace PySem.SeqAt
open AutoSeq1 (wpAny_loadPart')
open MeetsSeq MeetsSeq2 MeetsSeq3 SeqRoads2
/-- two tuples, item by item, within one model -/
theorem pairs_eqIn {prog : Program} {w : World} (l b : Addr) (us vs : Array Value) (n n2 : Nat) (dd dd2 : Option Addr) (sl sl2 : Array (Option Value)) (e : Nat → Bool) :
    MeetsIn prog w (Builtin.«tuple.__eq__» ⟨[.ref l, .ref b], []⟩) (fun A R s => s.heap.get? l = some { cls := .type "tuple", dict := dd, data := .seq us n, slots := sl } ∧ s.heap.get? b = some { cls := .type "tuple", dict := dd2, data := .seq vs n2, slots := sl2 } ∧
      (∀ j (h1 : j < us.size) (h2 : j < vs.size), EqP prog w A.in1 s us[j] vs[j] (e j)) ∧ R (.ok (.ret (.bool ((List.range (min us.size vs.size)).all e && us.size == vs.size)))) s) := by
  intro A R s h
  obtain ⟨hp, g, d, tk, os⟩ := s
  obtain ⟨hl, hb, he, h⟩ := h
  have f2 := AutoSeq1.sub_tuple_tuple
  have hZ : (us.toList.zip vs.toList).length = min us.size vs.size := by simp
  wp_walk using wpAny_loadPart' hl, wpAny_loadPart' hb, wpAny_forIn_list _ (fun rest b s' => b.1 = none ∧ s' = ⟨hp, g, d, tk, os⟩ ∧ ∃ i, rest = (us.toList.zip vs.toList).drop i ∧ R (.ok (.ret (.bool (((List.range (min us.size vs.size)).drop i).all e && us.size == vs.size)))) ⟨hp, g, d, tk, os⟩) _
  case turn =>
    rintro ⟨y, x⟩ rest b s' ⟨hb', rfl, i, hz, hR⟩
    have hlt : i < (us.toList.zip vs.toList).length := by
      by_cases c : i < (us.toList.zip vs.toList).length
      · exact c
      · rw [List.drop_of_length_le (Nat.le_of_not_lt c)] at hz
        cases hz
    have hm : i < min us.size vs.size := hZ ▸ hlt
    have h1 : i < us.size := Nat.lt_of_lt_of_le hm (Nat.min_le_left _ _)
    have h2 : i < vs.size := Nat.lt_of_lt_of_le hm (Nat.min_le_right _ _)
    rw [List.drop_eq_getElem_cons hlt] at hz
    injection hz with hyx hrest
    have hy : y = us[i] := by
      have := congrArg Prod.fst hyx
      simpa using this
    have hx : x = vs[i] := by
      have := congrArg Prod.snd hyx
      simpa using this
    subst hy hx
    have hd : (List.range (min us.size vs.size)).drop i = i :: (List.range (min us.size vs.size)).drop (i + 1) := by simp [List.drop_eq_getElem_cons, hm]
    rw [hd, List.all_cons] at hR
    refine wpAny_bind (he i h1 h2 _ _ ?_)
    cases hy : e i with
    | true =>
      rw [hy] at hR
      wp_walk
      exact ⟨rfl, rfl, i + 1, hrest, by simpa using hR⟩
    | false =>
      rw [hy] at hR
      wp_walk
      simpa using hR
  case fin =>
    rintro ⟨b1, b2⟩ s' ⟨hb', rfl, i, hz, hR⟩
    simp only at hb'
    subst hb'
    have hge : min us.size vs.size ≤ i := by
      by_cases c : i < (us.toList.zip vs.toList).length
      · rw [List.drop_eq_getElem_cons c] at hz
        cases hz
      · exact hZ ▸ Nat.le_of_not_lt c
    rw [List.drop_of_length_le (by simpa using hge)] at hR
    wp_walk
    simpa [Builtin.Tuple.tupleCompareSizes] using hR
  case h => exact ⟨rfl, rfl, 0, rfl, by simpa using h⟩
theorem rcP_pairs {prog : Program} {w : World} {A : Around} {s : Shared} {l b : Addr} {us vs : Array Value} {e : Nat → Bool} (hl : s.heap.IsTuple l us) (hb : s.heap.IsTuple b vs) (hu : A.units < cLine)
    (he : ∀ j (h1 : j < us.size) (h2 : j < vs.size), EqP prog w A.in1 s us[j] vs[j] (e j)) (E Q : Value → Shared → Prop) (h : Q (.bool ((List.range (min us.size vs.size)).all e && us.size == vs.size)) s) : wpAny (model prog w) A (richCompare .Eq (.ref l) (.ref b)) Q E s := by
  obtain ⟨⟨cls, dd, data, sl⟩, ho, hc, n, hd⟩ := id hl
  obtain ⟨⟨cls2, dd2, data2, sl2⟩, ho2, hc2, n2, hd2⟩ := id hb
  simp only at hc hd hc2 hd2
  subst hc hd hc2 hd2
  exact wpAny_richCompare_same_room (op := .Eq) ⟨_, ho, rfl⟩ ⟨_, ho2, rfl⟩ F.slot_tuple_eq (call_meetsIn F.slot_tuple_eq ⟨_, ho, rfl⟩ F.entry_tuple_eq (F.args_tuple_eq_2 _ _) (pairs_eqIn l b us vs n n2 dd dd2 sl sl2 e) ⟨ho, ho2, he, show Value.bool ((List.range (min us.size vs.size)).all e && us.size == vs.size) ≠ Value.notImplemented ∧ Q (.bool ((List.range (min us.size vs.size)).all e && us.size == vs.size)) s from ⟨(fun x => nomatch x), h⟩⟩) hu
end PySem.SeqAt
namespace L2
open PySem PySem.Spec PyProof.Rows
/-- whether the dict ls has each pair of another one -/
def hitB (ls : List (Key × V)) : List (Key × V) → Bool
  | [] => true
  | (k, v) :: r => match valV ls k with
    | none => false
    | some y => eqV v y && hitB ls r
def eqDk (ks ls : List (Key × V)) : Bool := decide (ks.length = ls.length) && hitB ls ks
theorem hits_both {P : Program} {w : World} {A : Around} {s : Shared} {ls : List (Key × V)} {vb : List (Key × Value)} (rb : KV ls vb) (fb : ∀ q ∈ ls, flatV q.2 = true) {ks : List (Key × V)} {va : List (Key × Value)} (ra : KV ks va) : (∀ q ∈ ks, flatV q.2 = true) → PySem.W.KeqHitsP P w A s vb va (hitB ls ks) := by
  unfold KV at ra
  induction ra with
  | nil => intro _; exact .nil
  | @cons p q ps qs h t k =>
    intro hp
    obtain ⟨h1, h2⟩ := h
    obtain ⟨k1, v1⟩ := p
    obtain ⟨key, v⟩ := q
    have h1' : k1 = key := h1
    subst h1'
    have rr := rb.val k1
    show PySem.W.KeqHitsP P w A s vb ((k1, v) :: qs) (hitB ls ((k1, v1) :: ps))
    cases e : valV ls k1 with
    | none =>
      rw [e] at rr
      have z : valueAt vb k1 = none := by
        cases q0 : valueAt vb k1 with
        | none => rfl
        | some y =>
          rw [q0] at rr
          exact (show False from rr).elim
      have eh : hitB ls ((k1, v1) :: ps) = false := by
        unfold hitB
        rw [e]
      rw [eh]
      exact .miss z
    | some y =>
      rw [e] at rr
      obtain ⟨u, hy, ry⟩ := rr.some_of
      have eh : hitB ls ((k1, v1) :: ps) = (eqV v1 y && hitB ls ps) := by
        rw [hitB]
        rw [e]
      rw [eh]
      have fy : flatV y = true := by
        unfold valV at e
        cases hf : ls.find? fun kv => decide (kv.1 = k1) with
        | none =>
          rw [hf] at e
          cases e
        | some z =>
          rw [hf] at e
          cases e
          exact fb z (List.mem_of_find?_eq_some hf)
      exact .hit hy ((eqAt_V h2 ry (hp _ List.mem_cons_self) fy).eqP) (k fun q hq => hp q (List.mem_cons_of_mem _ hq))
theorem hitB_self {ls : List (Key × V)} (nd : (ls.map (·.1)).Nodup) (hs : ∀ q ∈ ls, ∃ z : Str, q.2 = .str z) : ∀ ks : List (Key × V), (∀ q ∈ ks, q ∈ ls) → hitB ls ks = true
  | [], _ => rfl
  | (k, v) :: r, h => by
    have hm := h _ List.mem_cons_self
    obtain ⟨i, hi⟩ := List.getElem?_of_mem hm
    have e : valV ls k = some v := C12.get_at nd hi
    rw [hitB]
    rw [e]
    obtain ⟨z, ez⟩ := hs _ hm
    have ez' : v = .str z := ez
    subst ez'
    show ((z == z) && hitB ls r) = true
    rw [beq_self_eq_true, Bool.true_and]
    exact hitB_self nd hs r fun q hq => h q (List.mem_cons_of_mem _ hq)
/-- (d, v) == (e, u): dicts of texts -/
def rEqTD (K : PySem.W.Frag) : R2 := fun x y H Q => ∃ (t1 t2 d1 d2 : Addr) (r1 r2 : V) (k1 k2 : List (Key × V)), x = .ref t1 ∧ y = .ref t2 ∧ SqT K H t1 [.ref d1, r1] ∧ SqT K H t2 [.ref d2, r2] ∧ H d1 = some (.dK k1) ∧ H d2 = some (.dK k2) ∧
  (∀ q ∈ k1, ∃ z : Str, q.2 = .str z) ∧ (∀ q ∈ k2, ∃ z : Str, q.2 = .str z) ∧ (k1.map (·.1)).Nodup ∧ flatV r1 = true ∧ flatV r2 = true ∧ Q (.bl (eqDk k1 k2 && eqV r1 r2)) H
theorem op_eqTD {X : Cx} (hu : X.A.units + 64 < cLine) : OpR X (compareOp .Eq) (rEqTD X.K) := by
  intro pins s σ H x y v u Q I rx ry h
  obtain ⟨t1, t2, d1, d2, r1, r2, k1, k2, rfl, rfl, h1, h2, e1, e2, s1, s2, nd, f1, f2, q⟩ := h
  cases (show v = Value.ref t1 from rx)
  cases (show u = Value.ref t2 from ry)
  obtain ⟨us, ru, iu, _⟩ := I.tuple h1
  obtain ⟨vs, rv, iv, _⟩ := I.tuple h2
  have fl : ∀ {ks : List (Key × V)}, (∀ q ∈ ks, ∃ z : Str, q.2 = .str z) → ∀ q ∈ ks, flatV q.2 = true := fun hh p hp => by
    obtain ⟨z, e⟩ := hh p hp
    rw [e] <;> rfl
  cases ru with
  | cons a1 ru =>
    cases ru with
    | cons b1 ru =>
      cases ru
      cases rv with
      | cons a2 rv =>
        cases rv with
        | cons b2 rv =>
          cases rv
          cases (show _ = Value.ref d1 from a1)
          cases (show _ = Value.ref d2 from a2)
          have he0 : SeqAt.EqP X.prog X.w X.A.in1 s (.ref d1) (.ref d2) (eqDk k1 k2) := by
            by_cases e : d1 = d2
            · subst e
              rw [e1] at e2
              cases e2
              have z : eqDk k1 k1 = true := by
                unfold eqDk
                rw [decide_eq_true rfl, Bool.true_and]
                exact hitB_self nd s1 k1 fun _ h => h
              rw [z]
              exact (SeqAt.EqAt.same _).eqP
            · refine SeqAt.eqP_refs e fun E Q q => ?_
              obtain ⟨_, ya, va, ra, da⟩ := (show ObjOk X.prog X.w H s.heap d1 (.dK k1) from I.hok d1 _ e1)
              obtain ⟨_, yb, vb, rb, db⟩ := (show ObjOk X.prog X.w H s.heap d2 (.dK k2) from I.hok d2 _ e2)
              refine PySem.W.rcP_dicts (knd := mixKind X.prog X.w) ya yb da db (by show X.A.units + 1 < cLine; omega) (fun _ => hits_both rb (fl s2) ra (fl s1)) E Q ?_
              have e3 : (va.length == vb.length) = decide (k1.length = k2.length) := by
                rw [← ra.length, ← rb.length]
                by_cases c : k1.length = k2.length
                · rw [decide_eq_true c, c, beq_self_eq_true]
                · rw [decide_eq_false c]
                  exact beq_eq_false_iff_ne.mpr c
              rw [e3]
              exact q
          have he1 := (eqAt_V (A := X.A.in1) (s := s) b1 b2 f1 f2).eqP (prog := X.prog) (w := X.w)
          refine SeqAt.rcP_pairs (e := fun j => if j = 0 then eqDk k1 k2 else eqV r1 r2) iu iv (by omega) (fun j g1 g2 => ?_) _ _ ?_
          · match j, g1, g2 with
            | 0, _, _ => exact he0
            | 1, _, _ => exact he1
            | j + 2, g1, _ => exact absurd g1 (by simp)
          · refine ⟨.bl _, H, I, ?_, q⟩
            show Value.bool _ = Value.bool (eqDk k1 k2 && eqV r1 r2)
            congr 1
            show ((List.range (min 2 2)).all (fun j => if j = 0 then eqDk k1 k2 else eqV r1 r2) && (2 == 2)) = (eqDk k1 k2 && eqV r1 r2)
            simp [List.range, List.range.loop]
end L2

end PP12
section PQ12
set_option maxHeartbeats 4000000
/-! a == b and a != b by an own __eq__, both answers; repr(a) by an own __repr__. -/
namespace PySem.W
open PySem PySem.Calls PyProof.Rows Builtin
section
variable {prog : Program} {w : World} {A : Around} {E : Value → Shared → Prop} {s : Shared} {K : Frag} {x C f : Addr} {ox : Obj} {od : Option Obj} {b tb : Value}
/-- a != b where the class has an own __eq__ alone -/
theorem cmp_notEq {Q : Value → Shared → Prop} (hu : A.units + 1 < cLine) (X : K.In s.heap) (I : InstAt s.heap x ox C od) (hb : Looks (model prog w) s.heap (typeOf b) tb) (hn : notFirst K C tb = true) (hne : findIn K (.ref C) "__ne__" = some (some (.builtin "object.__ne__")))
    (hob : mroIn K C (.type "object") = some true) (hs : findIn K (.ref C) "__eq__" = some (some (.ref f))) (hf : isFn K (.ref f) = true) (h : wpAny (model prog w) A.in1 (call (.ref f) [.ref x, b]) (fun v s' => ∃ k, v = .bool k ∧ Q (.bool (!k)) s') E s) :
    wpAny (model prog w) A (richCompare .NotEq (.ref x) b) Q E s := by
  have run : wpAny (model prog w) A (call (.builtin "object.__ne__") [.ref x, b]) (fun v s' => ∃ k, v = .bool k ∧ Q (.bool k) s') E s := by
    refine wpAny_call (codeAny_call_builtin PySem.F.cmp_object.ne.plain PySem.F.cmpEntry_ne (check_slot PySem.F.cmpKind_ne PySem.F.cmpSplit_ne (I.type.andThen (looks_mroIn X hob)) (PySem.F.cmpArgs_ne _ _) ?_))
    unfold Builtin.«object.__ne__»
    refine wpAny_bind (m := slotArgs "__ne__" 1 _) (wpAny_pure ?_)
    refine wpAny_bind (m := cRoomFor _ _) (wpAny_cRoomFor (show A.in1.units < cLine from hu) ?_)
    refine wpAny_bind (m := callSpecialIfBound? (.ref x) "__eq__" _) (ifBound_K X I hs hf (wpAny_mono h (fun v s' hv => ?_) fun _ _ e => e))
    obtain ⟨k, rfl, q⟩ := hv
    exact wpAny_bind (wpAny_truthy_bool (wpAny_pure ⟨!k, rfl, q⟩))
  have one : wpAny (model prog w) A (tryCompare (.ref x) "__ne__" b) (fun r s' => ∃ k, r = some (.bool k) ∧ Q (.bool k) s') E s := by
    unfold tryCompare
    refine wpAny_bind ?_
    simp only [callSpecialIfBound?, bindSpecialIfBound?]
    refine wpAny_holding (wpAny_bind (wpAny_bind (wpAny_bind (I.type.here ((looks_findIn X hne).here ?_)))))
    refine wpAny_bind (wpAny_askSetting (wpAny_ite ?_))
    have fin : ∀ Q2 : Option Value → Shared → Prop, (∀ s' k, Q (.bool k) s' → Q2 (some (.bool k)) s') → wpAny (model prog w) A (call (.builtin "object.__ne__") ([.ref x] ++ [b]) >>= fun v => pure (some v)) Q2 E s := fun Q2 q2 => by
      refine wpAny_bind (wpAny_mono run (fun v s' hv => ?_) fun _ _ e => e)
      obtain ⟨k, rfl, q⟩ := hv
      exact wpAny_pure (q2 s' k q)
    split
    · exact wpAny_bind ((Looks.of_pure (PySem.F.cmp_object.ne.bind _)).here (wpAny_pure (by exact fin _ fun s' k q => wpAny_pure ⟨k, rfl, q⟩)))
    · exact wpAny_tryCatch (wpAny_bind ((Looks.of_pure (PySem.F.cmp_object.ne.bind _)).here (wpAny_pure (by exact fin _ fun s' k q => wpAny_pure ⟨k, rfl, q⟩))))
  unfold richCompare
  simp only [oneThing_ref]
  refine wpAny_holding (wpAny_bind (wpAny_cRoomFor (Nat.lt_of_succ_lt hu) ?_))
  refine wpAny_bind (I.type.here (wpAny_bind (hb.here ?_)))
  split
  · rename_i q
    have e : subIn K tb (.ref C) = some false := by
      rcases Bool.or_eq_true_iff.mp hn with e | e
      · rw [beq_iff_eq.mp e] at q
        simp at q
      · exact beq_iff_eq.mp e
    refine wpAny_bind ((looks_subIn X e).here ?_)
    simp only [Bool.false_eq_true, if_false]
    refine wpAny_bind (wpAny_mono one (fun r s' z => ?_) fun _ _ e => e)
    obtain ⟨v, rfl, hq⟩ := z
    exact wpAny_pure hq
  · refine wpAny_bind (wpAny_pure ?_)
    simp only [Bool.false_eq_true, if_false]
    refine wpAny_bind (wpAny_mono one (fun r s' z => ?_) fun _ _ e => e)
    obtain ⟨v, rfl, hq⟩ := z
    exact wpAny_pure hq
end
end PySem.W

end PQ12
section PR12
set_option maxHeartbeats 4000000
namespace L2
open PySem PySem.Spec PyProof.Rows
/-- what the written part says of a class with an own __eq__ at f -/
structure EqO (K : PySem.W.Frag) (C f : Addr) : Prop where
  eq : PySem.W.findIn K (.ref C) "__eq__" = some (some (.ref f))
  fn : PySem.W.isFn K (.ref f) = true
  ne : PySem.W.findIn K (.ref C) "__ne__" = some (some (.builtin "object.__ne__"))
  ob : PySem.W.mroIn K C (.type "object") = some true
/-- the other side of a comparison: an instance, a dict -/
def OthV (K : PySem.W.Frag) (C : Addr) (H : Hp) (y : V) : Prop := ∃ b, y = .ref b ∧ ((∃ C' dy gs, H b = some (.ins C' dy gs) ∧ PySem.W.notFirst K C (.ref C') = true) ∨ ∃ kvs, H b = some (.dK kvs) ∧ PySem.W.notFirst K C (.type "dict") = true)
section
variable {X : Cx} {pins : List (Addr × Obj)} {σ : St} {H : Hp} {s : Shared} {C f : Addr} {fd : FuncData} {ps : List Str} {sp : Sp} {k : Nat} {u : Value} {y : V}
theorem OthV.looks (I : Inv X pins σ H s) (h : OthV X.K C H y) (r : RelV y u) : ∃ tb, PySem.W.Looks (model X.prog X.w) s.heap (typeOf u) tb ∧ PySem.W.notFirst X.K C tb = true := by
  obtain ⟨b, rfl, h⟩ := h
  cases (show u = Value.ref b from r)
  rcases h with ⟨C', dy, gs, e, n⟩ | ⟨kvs, e, n⟩
  · obtain ⟨mA, J, _⟩ := ins_get I.hok e
    obtain ⟨od, J, _⟩ := J.look
    exact ⟨_, J.type, n⟩
  · obtain ⟨_, ns, vs, kv, o, es, ep, e1, ex, _⟩ := (show ObjOk X.prog X.w H s.heap b (.dK kvs) from I.hok b _ e)
    exact ⟨_, fun A Q E s' kp q => wpAny_typeOf ⟨o, kp _ _ e1, ex.1⟩ q, n⟩
/-- the own method's run, somewhere below the body -/
theorem own_run {A : Around} {E : Value → Shared → Prop} {Q : VK} {us : List Value} {vs : List V} (F : FnOk X.prog X.w X.K X.mg X.base CX0 k f fd ps sp) (hb : Binds X.K fd ps []) (hr : Room k A) (fr : A.frames = X.A.frames) (I : Inv X pins σ H s) (r : Vals vs us) (h : sp vs H Q E0) :
    wpAny (model X.prog X.w) A (call (.ref f) us) (EP X pins σ Q) E s := by
  have e0 : Env0 X.prog X.w X.K X.mg X.base A X.stack s H := by
    have e := I.env0
    exact ⟨by rw [fr]; exact e.frames, e.mod, e.bs, e.bsz, e.funs, e.frf, e.hok, e.bare⟩
  have hl : us.length = ps.length := r.length.symm.trans (F.len _ _ _ _ h)
  refine wpAny_call (codeAny_mono (F.run A X.stack s H ⟨us, []⟩ us vs Q E0 hr e0 (by
    have z := hb s us I.kIn (by simpa using hl)
    simpa using z) r h) fun r s' hq => ?_)
  cases r with
  | error e => exact (show False from hq).elim
  | ok fl =>
    cases fl with
    | ret w => exact I.after hq
    | next => exact False.elim hq
    | brk => exact False.elim hq
    | cont => exact False.elim hq
/-- .. where the guards are told -/
theorem own_runG {A : Around} {E : Value → Shared → Prop} {Q : VK} {us : List Value} {vs : List V} (F : FnG X.prog X.w X.K X.mg X.base CX0 k f fd ps sp) (hG : A.guards = some []) (hb : Binds X.K fd ps []) (hr : Room k A) (fr : A.frames = X.A.frames) (I : Inv X pins σ H s) (r : Vals vs us) (h : sp vs H Q E0) :
    wpAny (model X.prog X.w) A (call (.ref f) us) (EP X pins σ Q) E s := by
  have e0 : Env0 X.prog X.w X.K X.mg X.base A X.stack s H := by
    have e := I.env0
    exact ⟨by rw [fr]; exact e.frames, e.mod, e.bs, e.bsz, e.funs, e.frf, e.hok, e.bare⟩
  have hl : us.length = ps.length := r.length.symm.trans (F.len _ _ _ _ h)
  refine wpAny_call (codeAny_mono (F.run A X.stack s H ⟨us, []⟩ us vs Q E0 hG hr e0 (by
    have z := hb s us I.kIn (by simpa using hl)
    simpa using z) r h) fun r s' hq => ?_)
  cases r with
  | error e => exact (show False from hq).elim
  | ok fl =>
    cases fl with
    | ret w => exact I.after hq
    | next => exact False.elim hq
    | brk => exact False.elim hq
    | cont => exact False.elim hq
end
/-- a == b, a != b by the own __eq__ of a's class -/
def rEqO (K : PySem.W.Frag) (C : Addr) (sp : Sp) (neg : Bool) : R2 := fun x y H Q => ∃ a dx fs, x = .ref a ∧ H a = some (.ins C dx fs) ∧ OthV K C H y ∧ sp [.ref a, y] H (fun v H' => ∃ k, v = .bl k ∧ Q (.bl (if neg = true then !k else k)) H') E0
section
variable {X : Cx} {C f : Addr} {fd : FuncData} {ps : List Str} {sp : Sp} {k : Nat}
theorem frames_in1 {A : Around} : A.in1.frames = A.frames := by rfl
theorem guards_in1 {A : Around} (h : A.guards = some []) : A.in1.guards = some [] := by
  have e : A.in1.guards = A.guards := by rfl
  rw [e, h]
theorem op_eqO (T : EqO X.K C f) (F : FnOk X.prog X.w X.K X.mg X.base CX0 k f fd ps sp) (hb : Binds X.K fd ps []) (hr : Room k X.A) : OpR X (compareOp .Eq) (rEqO X.K C sp false) := by
  intro pins s σ H x y v u Q I rx ry h
  obtain ⟨a, dx, fs, rfl, ea, oy, q⟩ := h
  cases (show v = Value.ref a from rx)
  obtain ⟨mA, J, _⟩ := ins_get I.hok ea
  obtain ⟨od, J, _⟩ := J.look
  obtain ⟨tb, hl, hn⟩ := oy.looks I ry
  obtain ⟨m, hF⟩ := I.fr
  refine PySem.W.cmp_K (op := .Eq) hr.units0 hF I.ok.mod.kin J hl hn T.eq T.fn ?_
  refine wpAny_mono (own_run (vs := [.ref a, y]) F hb hr rfl I (.cons rfl (.cons ry .nil)) q) (fun r s' hq => ?_) fun _ _ e => e
  obtain ⟨z, H', I', rz, kk, ez, q2⟩ := hq
  subst ez
  cases (show r = Value.bool kk from rz)
  exact ⟨.bl kk, H', I', rfl, q2⟩
theorem op_neO (T : EqO X.K C f) (F : FnOk X.prog X.w X.K X.mg X.base CX0 k f fd ps sp) (hb : Binds X.K fd ps []) (hr : Room (k + 1) X.A) : OpR X (compareOp .NotEq) (rEqO X.K C sp true) := by
  intro pins s σ H x y v u Q I rx ry h
  obtain ⟨a, dx, fs, rfl, ea, oy, q⟩ := h
  cases (show v = Value.ref a from rx)
  obtain ⟨mA, J, _⟩ := ins_get I.hok ea
  obtain ⟨od, J, _⟩ := J.look
  obtain ⟨tb, hl, hn⟩ := oy.looks I ry
  refine PySem.W.cmp_notEq (hr.in1.units0) I.kIn J hl hn T.ne T.ob T.eq T.fn ?_
  refine wpAny_mono (own_run (vs := [.ref a, y]) F hb hr.in1 frames_in1 I (.cons rfl (.cons ry .nil)) q) (fun r s' hq => ?_) fun _ _ e => e
  obtain ⟨z, H', I', rz, kk, ez, q2⟩ := hq
  subst ez
  cases (show r = Value.bool kk from rz)
  exact ⟨kk, rfl, .bl (!kk), H', I', rfl, q2⟩
/-- repr(a) by the own __repr__ of a's class -/
def rReprO (C : Addr) (sp : Sp) : List V → Hp → VK → Prop := fun xs H Q => ∃ a dx fs, xs = [.ref a] ∧ H a = some (.ins C dx fs) ∧ sp [.ref a] H (fun v H' => ∃ z : Str, v = .str z ∧ Q (.str z) H') E0
theorem call_reprO (hs : PySem.W.findIn X.K (.ref C) "__repr__" = some (some (.ref f))) (hf : PySem.W.isFn X.K (.ref f) = true) (F : FnG X.prog X.w X.K X.mg X.base CX0 k f fd ps sp) (hG : X.A.guards = some []) (hb : Binds X.K fd ps []) (hr : Room (k + 1) X.A) :
    CallR X (.builtin "repr") (rReprO C sp) := by
  intro pins s σ H xs us Q I r h
  obtain ⟨a, dx, fs, rfl, ea, q⟩ := h
  rw [Vals.ref1 r]
  obtain ⟨mA, J, _⟩ := ins_get I.hok ea
  obtain ⟨od, J, _⟩ := J.look
  obtain ⟨m, hF⟩ := I.fr
  refine PySem.W.repr_K (hr.in1.units0) hF I.ok.mod.kin J hs hf ?_
  refine wpAny_mono (own_runG (vs := [.ref a]) F (guards_in1 hG) hb hr.in1 frames_in1 I (.cons rfl .nil) q) (fun r s' hq => ?_) fun _ _ e => e
  obtain ⟨z, H', I', rz, zz, ez, q2⟩ := hq
  subst ez
  obtain ⟨t, ez⟩ := (show ∃ t, r = Value.str zz t from rz)
  subst ez
  exact ⟨.str zz, H', I', ⟨t, rfl⟩, q2⟩
end
/-- {x!r}: data -/
def tFmtD (te : TE) : TE := fun σ H Q => te σ H fun x H1 => ∃ d : PyData, Rp H1 x d ∧ d.showable = true ∧ d.shown.length ≤ sizeLine ∧ d.depth ≤ 60 ∧ Q (.str d.shown) H1
theorem pe_fmtD {X : Cx} {e : Expr} {te : TE} {pos : Pos} (hg : X.A.guards = some []) (hu : X.A.units + 64 < cLine) (hK : noMods X.K = true) (he : PE X e te) : PE X (.FormattedValue e 114 none pos) (tFmtD te) := by
  refine ⟨fun pins s σ H Q I h => ?_⟩
  refine wpAny_FormattedValue_repr (thn (he.run pins s σ H _ I h) fun v s1 hv => ?_)
  obtain ⟨x, H1, I1, r1, d, hr, hs, hl, hd, q⟩ := hv
  have fin : ∀ (s2 : Shared) (tk : Nat), Inv X pins σ H1 s2 → wpAny (model X.prog X.w) X.A (formatField (.str d.shown tk) Str.empty) (EP X pins σ Q) X.xe s2 := fun s2 tk I2 => wpAny_formatField_str ⟨.str d.shown, H1, I2, ⟨_, rfl⟩, q⟩ ⟨.str d.shown, H1, I2.tok _, ⟨_, rfl⟩, q⟩ hl
  cases hr with
  | non =>
    cases (show v = Value.none from r1)
    exact pyReprObj_none (fin _ _ (I1.tok _))
  | bl b =>
    cases (show v = Value.bool b from r1)
    exact pyReprObj_bool (fin _ _ (I1.tok _))
  | int i =>
    obtain ⟨t, z⟩ := (show ∃ t, v = Value.int i t from r1)
    cases z
    exact pyReprObj_int (by simpa [PyData.showable] using hs) (fin _ _ (I1.tok _))
  | str x =>
    obtain ⟨t, z⟩ := (show ∃ t, v = Value.str x t from r1)
    cases z
    exact pyReprObj_str (fin _ _ (I1.tok _)) hl
  | lst h k =>
    obtain ⟨as, w, no⟩ := Rp.reads I1 (noMods_ok I1 hK) (.lst h k) r1
    cases (show v = Value.ref _ from r1)
    exact pyReprObj_of_reads w hs (fun _ => no) hg (by omega) (fun _ _ e => e) (fun h' t tk kp => fin _ _ (I1.kept (t' := tk) kp)) hl
  | tup h k =>
    obtain ⟨as, w, no⟩ := Rp.reads I1 (noMods_ok I1 hK) (.tup h k) r1
    cases (show v = Value.ref _ from r1)
    exact pyReprObj_of_reads w hs (fun _ => no) hg (by omega) (fun _ _ e => e) (fun h' t tk kp => fin _ _ (I1.kept (t' := tk) kp)) hl
  | dic h k =>
    obtain ⟨as, w, no⟩ := Rp.reads I1 (noMods_ok I1 hK) (.dic h k) r1
    cases (show v = Value.ref _ from r1)
    exact pyReprObj_of_reads w hs (fun _ => no) hg (by omega) (fun _ _ e => e) (fun h' t tk kp => fin _ _ (I1.kept (t' := tk) kp)) hl
end L2

end PR12
section PS12
set_option maxHeartbeats 4000000
namespace L2
open PySem PySem.Spec PyProof.Rows
/-- C(..), C in the i-th slot -/
def tMakeL (i : Nat) (C : Addr) (sp : Sp) (dvs : List V) (E : XK) (t : TA) : TE := fun σ H Q => σ[i]? = some (some (.ref C)) ∧ tMake C sp dvs E t σ H Q
section
variable {X : Cx} {CX : CXT} {k i : Nat} {f C p g : Addr} {mc : Value} {fd : FuncData} {ps : List Str} {sp : Sp} {dvs : List V} {ds : List Value} {E : XK} {x m : Str} {pp pos apos : Pos} {e o : Expr} {es : List Expr} {t : TA} {ta : TE} {pl : Sem Bool}
theorem pe_makeL (M : Mk X.K C f) (F : FnOk X.prog X.w X.K X.mg X.base CX k f fd ps sp) (hr : Room (k + 1) X.A) (hN : X.N[i]? = some x) (hv : Vis X.env.scope x) (hb : Binds X.K fd ps ds) (hd : Vals dvs ds) (hx : Passes CX X E) (ha : PA X (e :: es) t)
    (hdb : (x == ("__debug__" : Str)) = false := by decide) (hcd : (x == ("__classdict__" : Str)) = false := by decide) (he : starEach (e :: es) X.env = (false, eval e X.env) :: starEach es X.env := by rfl) (hpl : (backTo pos (starEach es X.env)).any (·.1) = false := by rfl) :
    PE X (.Call (.Name x pp) (e :: es) [] pos) (tMakeL i C sp dvs E t) := by
  refine ⟨fun pins s σ H Q I h => ?_⟩
  obtain ⟨hs, ht⟩ := h
  refine wpAny_Call_Name_kw (thn ((pe_var (pos := pp) hN hv hdb hcd).run pins s σ H (fun v H1 => v = .ref C ∧ H1 = H) I ⟨.ref C, hs, rfl, rfl⟩) fun u s1 ⟨v, H1, I1, r1, q1⟩ => ?_)
  obtain ⟨rfl, rfl⟩ := q1
  cases r1
  exact PySem.W.callWith_K (h₀ := X.base) I.ok.mod.kin M.kp (thn (ha.run pos pins s1 σ _ _ I1 ht) fun us s2 ⟨vs, H2, I2, r, q⟩ => ⟨I2.kIn, run_make M F hr hb hd hx I2 r q⟩) he hpl
theorem pe_makeL0 (M : Mk X.K C f) (F : FnOk X.prog X.w X.K X.mg X.base CX k f fd ps sp) (hr : Room (k + 1) X.A) (hN : X.N[i]? = some x) (hv : Vis X.env.scope x) (hb : Binds X.K fd ps ds) (hd : Vals dvs ds) (hx : Passes CX X E)
    (hdb : (x == ("__debug__" : Str)) = false := by decide) (hcd : (x == ("__classdict__" : Str)) = false := by decide) : PE X (.Call (.Name x pp) [] [] pos) (tMakeL i C sp dvs E tNil) := by
  refine ⟨fun pins s σ H Q I h => ?_⟩
  obtain ⟨hs, ht⟩ := h
  refine wpAny_Call_Name_kw (thn ((pe_var (pos := pp) hN hv hdb hcd).run pins s σ H (fun v H1 => v = .ref C ∧ H1 = H) I ⟨.ref C, hs, rfl, rfl⟩) fun u s1 ⟨v, H1, I1, r1, q1⟩ => ?_)
  obtain ⟨rfl, rfl⟩ := q1
  cases r1
  exact PySem.W.callWith_K0 I1.kIn M.kp (run_make (us := []) M F hr hb hd hx I1 .nil ht)
/-- C.m(), m a classmethod -/
theorem pe_cmeth0 (he : PE X o ta) (r : ClX.CRead X.K C mc) (c : ClX.CMet X.K C mc m p g) (F : FnR X.prog X.w X.K X.mg X.base CX k g sp) (hr : Room k X.A) (hx : Passes CX X E)
    (ht : eval (.Call (.Attribute o m apos) [] [] pos) X.env = (eval o X.env >>= fun ov => standAt apos.atName >>= fun _ => holding [ov] (getMethod ov m pl) >>= fun q => callWith pos q.1 q.2 (backTo pos (starEach [] X.env)) (backToKw pos (keywordEach [] X.env))) := by rfl) :
    PE X (.Call (.Attribute o m apos) [] [] pos) (ClX.tCMeth C sp E ta tNil) := by
  refine ⟨fun pins s σ H Q I h => ?_⟩
  refine PySem.W.methodCall_KW (pl := pl) (thn (he.run pins s σ H _ I h) fun u s1 ⟨y, H1, I1, rx, ex, q⟩ => ?_) ht
  subst ex
  obtain rfl : u = Value.ref C := rx
  refine ClX.getmethcm_ok I1 r c fun s2 I2 => ?_
  exact PySem.W.callWith_M0 (K := X.K) (first := []) ⟨ClX.pin_at I2, I2.kIn⟩ c.fi (ClX.run_cm (us := []) (vs := []) F hr hx I2 .nil q)
end
end L2

end PS12
section PT12
set_option maxHeartbeats 4000000
namespace C12
open PySem L2
/-! ### what the written part says of the classes -/
structure TcO (K : PySem.W.Frag) (C CM : Addr) (kd : Str) : Prop where
  cl : Cls K C
  ha : PySem.W.findIn K (.ref C) "__class__" = some (some (.builtin "object.__class__"))
  hn : PySem.W.specialIn K (.builtin "object.__class__") "__get__" = some (some (.builtin "getset_descriptor.__get__"))
  htk : PySem.W.takesIn K (.builtin "object.__class__") = some true
  hm : PySem.W.mroIn K C (.type "object") = some true
  kit : PySem.W.kitOne K (.ref C) (.ref CM) = some true
  knd : ∃ u, Con K C "KIND" (.str kd) u
theorem TcO.ty {K : PySem.W.Frag} {C CM : Addr} {kd : Str} (T : TcO K C CM kd) {H : Hp} {a dx : Addr} {fs : List (Str × V)} (e : H a = some (.ins C dx fs)) : TyX K H (.ref a) (.ref C) := .base (.ins e T.cl T.ha T.hn T.htk T.hm)
abbrev s_same : Stmt := inCls (top 15) 2
abbrev s_constant : Stmt := inCls (top 15) 3
abbrev s_repr : Stmt := inCls (top 15) 7
abbrev s_content : Stmt := match top 15 with
  | .ClassDef _ _ _ body .. => body.getLastD (.Pass ⟨0, 0, 0, 0⟩)
  | _ => .Pass ⟨0, 0, 0, 0⟩
abbrev s_kind : Stmt := inCls (top 13) 1
abbrev s_mat : Stmt := inCls (top 13) 2
abbrev s_meq : Stmt := inCls (top 13) 8
def Txt (ex : List (Key × V)) : Prop := ∀ q ∈ ex, ∃ z : Str, q.2 = .str z
def spContent (C : Addr) : Sp := fun vs H Q _ => ∃ (m dx d : Addr) (r : V), vs = [.ref m] ∧ H m = some (.ins C dx [("_rest", r), ("_exceptions", .ref d)]) ∧ ∀ t H', Same H H' → H' t = some (.tup [.ref d, r]) → Q (.ref t) H'
def spEq (C CN : Addr) : Sp := fun vs H Q _ => ∃ (m : Addr) (ex : List (Key × V)) (r y : V), vs = [.ref m, y] ∧ TMap C H m ex r ∧
  ((∃ (m2 : Addr) (ex2 : List (Key × V)) (r2 : V), y = .ref m2 ∧ TMap C H m2 ex2 r2 ∧ Txt ex ∧ Txt ex2 ∧ (ex.map (·.1)).Nodup ∧ flatV r = true ∧ flatV r2 = true ∧ ∀ H', Same H H' → Q (.bl (eqDk ex ex2 && eqV r r2)) H') ∨
    (∃ (b : Addr) (kvs : List (Key × V)), y = .ref b ∧ H b = some (.dK kvs) ∧ Q (.bl false) H) ∨ ∃ (b dx : Addr) (fs : List (Str × V)), y = .ref b ∧ H b = some (.ins CN dx fs) ∧ fs.lookup ("KIND" : Str) = none ∧ Q (.bl false) H)
theorem sc_content : FnScope ["self"] ["self"] (defScope s_content) := ⟨rfl, rfl, rfl, by decide +kernel, rfl, by decide +kernel, by decide +kernel⟩
theorem sc_meq : FnScope ["self", "other"] ["self", "other"] (defScope s_meq) := ⟨rfl, rfl, rfl, by decide +kernel, rfl, by decide +kernel, by decide +kernel⟩
theorem sc_kind : FnScope ["self"] ["self"] (defScope s_kind) := ⟨rfl, rfl, rfl, by decide +kernel, rfl, by decide +kernel, by decide +kernel⟩
theorem sc_mat : FnScope ["self", "value"] ["self", "value"] (defScope s_mat) := ⟨rfl, rfl, rfl, by decide +kernel, rfl, by decide +kernel, by decide +kernel⟩
theorem sc_same : FnScope ["cls"] ["cls"] (defScope s_same) := ⟨rfl, rfl, rfl, by decide +kernel, rfl, by decide +kernel, by decide +kernel⟩
theorem sc_constant : FnScope ["cls", "value"] ["cls", "value"] (defScope s_constant) := ⟨rfl, rfl, rfl, by decide +kernel, rfl, by decide +kernel, by decide +kernel⟩
theorem sc_repr : FnScope ["self"] ["self"] (defScope s_repr) := ⟨rfl, rfl, rfl, by decide +kernel, rfl, by decide +kernel, by decide +kernel⟩
section
variable {P : Program} {w : World} {K : PySem.W.Frag} {mg : Str → Option Value} {base : Heap} {f fC C CN CM : Addr} {fd dC : FuncData}
theorem ok_content (F : FM K "_content" "TextMap._content" s_content f fd) (T : TMc K C) : FnOk P w K mg base CX0 1 f fd ["self"] (spContent C) := by
  refine F.ok sc_content (fun vs H Q E h => ?_) (fun cdv A outer s H vs Q E hr h => ?_)
  · obtain ⟨m, dx, d, r, rfl, _⟩ := h
    rfl
  obtain ⟨m, dx, d, r, rfl, hm, q⟩ := h
  refine ⟨_, PSs.nox (pss_one (ps_ret (pe_tup (pa_cons (pe_fld (pv 0) rfl) (pa_cons (pe_fld (pv 0) rfl) pa_nil))))), ?_⟩
  exact ⟨_, rfl, m, C, dx, _, .ref d, rfl, hm, T.cl, T.nE, rfl, _, rfl, m, C, dx, _, r, rfl, hm, T.cl, T.nR, rfl, by show 2 ≤ sizeLine; decide, fun p hp => q p _ (same_upd hp) upd_same⟩
theorem ok_meq (F : FM K "__eq__" "Map.__eq__" s_meq f fd) (T : TMc K C) (O : TcO K C CM "text") (N : TcO K CN CM "number") (kd : PySem.W.kitOne K (.type "dict") (.ref CM) = some false) (ti : mg "isinstance" = none) (tM : mg "Map" = some (.ref CM))
    (GC : FnOk P w K mg base CX0 1 fC dC ["self"] (spContent C)) (bC : Binds K dC ["self"] []) (mC : Meth K C "_content" fC) : FnOk P w K mg base CX0 2 f fd ["self", "other"] (spEq C CN) := by
  refine F.ok sc_meq (fun vs H Q E h => ?_) (fun cdv A outer s H vs Q E hr h => ?_)
  · obtain ⟨m, ex, r, y, rfl, _⟩ := h
    rfl
  obtain ⟨m, ex, r, y, rfl, ⟨dx, d, hm, hd⟩, h⟩ := h
  have hu := hr.units
  have hu64 : A.units + 3 + 64 < cLine := hu
  obtain ⟨u1, k1⟩ := O.knd
  obtain ⟨u2, k2⟩ := N.knd
  refine ⟨_, PSs.nox (pss_one (ps_ret (pe_and (pe_callB call_isi (by rfl) ti boot_isi (pa_cons (pv 1) (pa_cons (pe_glob (v := .ref CM) rfl tM rfl) pa_nil))) (pe_and (pe_cmpR op_eq (pe_con (pv 0) rfl) (pe_con (pv 1) rfl) (nomark _))
    (pe_one (pe_cmpR (op_eqTD (by exact hu)) (pe_meth0 (pv 0) T.cl mC GC hr bC .nil pass0) (pe_meth0 (pv 1) T.cl mC GC hr bC .nil pass0) (nomark _))))))), ?_⟩
  rcases h with ⟨m2, ex2, r2, rfl, ⟨dy, d2, hm2, hd2⟩, t1, t2, nd, f1, f2, q⟩ | ⟨b, kvs, rfl, hb, q⟩ | ⟨b, dy, fs, rfl, hb, hl, q⟩
  · refine ⟨_, rfl, .ref m2, .ref CM, .ref C, _, _, rfl, .own _, O.ty hm2, O.kit, true, rfl, ?_⟩
    refine (show (if true = true then _ else _) from ?_)
    rw [if_pos rfl]
    refine ⟨_, rfl, m, C, dx, _, _, u1, rfl, hm, T.cl, k1, rfl, _, rfl, m2, C, dy, _, _, u1, rfl, hm2, T.cl, k1, rfl, rfl, true, ?_, ?_⟩
    · show V.bl (decide (V.str "text" = V.str "text")) = V.bl true
      rw [decide_eq_true rfl]
    refine (show (if true = true then _ else _) from ?_)
    rw [if_pos rfl]
    refine ⟨_, rfl, m, dx, _, rfl, hm, rfl, m, dx, d, r, rfl, hm, fun p1 H1 s1 e1 => ?_⟩
    refine ⟨_, rfl, m2, dy, _, rfl, s1 _ _ hm2, rfl, m2, dy, d2, r2, rfl, s1 _ _ hm2, fun p2 H2 s2 e2 => ?_⟩
    exact ⟨p1, p2, d, d2, r, r2, ex, ex2, rfl, rfl, SqT.of (s2 _ _ e1), SqT.of e2, s2 _ _ (s1 _ _ hd), s2 _ _ (s1 _ _ hd2), t1, t2, nd, f1, f2, q H2 (s1.trans s2)⟩
  · refine ⟨_, rfl, .ref b, .ref CM, .type "dict", _, _, rfl, .own _, .base (.dK hb), kd, false, rfl, ?_⟩
    refine (show (if false = true then _ else _) from ?_)
    rw [if_neg (by decide)]
    exact q
  · refine ⟨_, rfl, .ref b, .ref CM, .ref CN, _, _, rfl, .own _, N.ty hb, N.kit, true, rfl, ?_⟩
    refine (show (if true = true then _ else _) from ?_)
    rw [if_pos rfl]
    refine ⟨_, rfl, m, C, dx, _, _, u1, rfl, hm, T.cl, k1, rfl, _, rfl, b, CN, dy, _, _, u2, rfl, hb, N.cl, k2, hl, rfl, false, ?_, ?_⟩
    · show V.bl (decide (V.str "text" = V.str "number")) = V.bl false
      rw [decide_eq_false (by decide +kernel)]
    refine (show (if false = true then _ else _) from ?_)
    rw [if_neg (by decide)]
    exact q
def spKind (C : Addr) : Sp := fun vs H Q _ => ∃ (m dx : Addr) (fs : List (Str × V)), vs = [.ref m] ∧ H m = some (.ins C dx fs) ∧ fs.lookup ("KIND" : Str) = none ∧ Q (.str "text") H
theorem ok_kind (F : FM K "kind" "Map.kind" s_kind f fd) (O : TcO K C CM "text") : FnOk P w K mg base CX0 1 f fd ["self"] (spKind C) := by
  refine F.ok sc_kind (fun vs H Q E h => ?_) (fun cdv A outer s H vs Q E hr h => ?_)
  · obtain ⟨m, dx, fs, rfl, _⟩ := h
    rfl
  obtain ⟨m, dx, fs, rfl, hm, hl, q⟩ := h
  obtain ⟨u1, k1⟩ := O.knd
  exact ⟨_, PSs.nox (pss_one (ps_ret (pe_con (pv 0) rfl))), _, rfl, m, C, dx, _, _, u1, rfl, hm, O.cl, k1, hl, q⟩
end
end C12

end PT12
section PU12
set_option maxHeartbeats 4000000
/-! The mathematics of kept exceptions: sorted, unique, equal just where they say the same. -/
namespace C12
open PySem PySem.Spec L2 PyProof.Rows
def leS (a b : Str) : Prop := a.cps.toList ≤ b.cps.toList
theorem str_ext {a b : Str} (h : a.cps.toList = b.cps.toList) : a = b := by
  obtain ⟨⟨a⟩⟩ := a
  obtain ⟨⟨b⟩⟩ := b
  exact congrArg (fun l : List Nat => (⟨⟨l⟩⟩ : Str)) h
theorem leS_anti {a b : Str} (h : leS a b) (g : leS b a) : a = b := str_ext (List.le_antisymm h g)
theorem rising_pw : ∀ (l : List Str) (p : Str), risingS p l = true → (p :: l).Pairwise leS
  | [], p, _ => List.pairwise_singleton _ _
  | x :: r, p, h => by
    obtain ⟨h1, h2⟩ := Bool.and_eq_true_iff.mp (show (!ltCps x.cps.toList p.cps.toList && risingS x r) = true from h)
    have ih := rising_pw r x h2
    have px : leS p x := by
      rw [ltCps_eq] at h1
      have n : ¬ x.cps.toList < p.cps.toList := of_decide_eq_false (by simpa using h1)
      exact List.not_lt.mp n
    refine List.pairwise_cons.mpr ⟨fun y hy => ?_, ih⟩
    rcases List.mem_cons.mp hy with e | hy
    · rw [e]
      exact px
    · exact List.le_trans px (List.rel_of_pairwise_cons ih hy)
theorem sorted_pw : ∀ {l : List Str}, sortedS l = true → l.Pairwise leS
  | [], _ => List.Pairwise.nil
  | x :: r, h => rising_pw r x h
theorem pw_uniq : ∀ {l m : List Str}, l.Pairwise leS → m.Pairwise leS → l.Perm m → l = m
  | [], m, _, _, p => (List.Perm.nil_eq p)
  | a :: l, [], _, _, p => (List.Perm.nil_eq p.symm).symm
  | a :: l, b :: m, hl, hm, p => by
    have e : a = b := by
      rcases List.mem_cons.mp (p.mem_iff.mp List.mem_cons_self) with e | h1
      · exact e
      · rcases List.mem_cons.mp (p.mem_iff.mpr List.mem_cons_self) with e | h2
        · exact e.symm
        · exact leS_anti (List.rel_of_pairwise_cons hl h2) (List.rel_of_pairwise_cons hm h1)
    subst e
    rw [pw_uniq (List.pairwise_cons.mp hl).2 (List.pairwise_cons.mp hm).2 (List.Perm.cons_inv p)]
theorem sub_perm : ∀ {l m : List Str}, l.Nodup → (∀ x ∈ l, x ∈ m) → l.length = m.length → l.Perm m
  | [], m, _, _, e => by
    rw [List.length_eq_zero_iff.mp (show m.length = 0 from e.symm)]
  | a :: l, m, nd, h, e => by
    obtain ⟨n1, n2⟩ := List.nodup_cons.mp nd
    have ha := h a List.mem_cons_self
    have pm := List.perm_cons_erase ha
    refine (List.Perm.cons a (sub_perm n2 (fun x hx => ?_) ?_)).trans pm.symm
    · have ne : x ≠ a := fun z => n1 (z ▸ hx)
      exact (List.mem_erase_of_ne ne).mpr (h x (List.mem_cons_of_mem _ hx))
    · have q := pm.length_eq
      rw [List.length_cons] at q e
      omega
theorem mem_perm : ∀ {l m : List Str}, l.Nodup → m.Nodup → (∀ x, x ∈ l ↔ x ∈ m) → l.Perm m := fun {l m} nl nm h => by
  have le1 : ∀ {l m : List Str}, l.Nodup → (∀ x ∈ l, x ∈ m) → l.length ≤ m.length := fun {l} => by
    induction l with
    | nil => intro m _ _; exact Nat.zero_le _
    | cons a l ih =>
      intro m nd h
      obtain ⟨n1, n2⟩ := List.nodup_cons.mp nd
      have pm := List.perm_cons_erase (h a List.mem_cons_self)
      have z := ih (m := m.erase a) n2 fun x hx => (List.mem_erase_of_ne (show x ≠ a from fun z => n1 (z ▸ hx))).mpr (h x (List.mem_cons_of_mem _ hx))
      have q := pm.length_eq
      rw [List.length_cons] at q ⊢
      omega
  exact sub_perm nl (fun x hx => (h x).1 hx) (Nat.le_antisymm (le1 nl fun x hx => (h x).1 hx) (le1 nm fun x hx => (h x).2 hx))
/-- kept exceptions: sorted words that are taken to words -/
def NL (ex : List (Key × V)) : Prop := ∃ (ks : List Str) (f : Str → Str), ex = ks.map (fun k => ((Sum.inr k : Key), V.str (f k))) ∧ sortedS ks = true ∧ ks.Nodup ∧ (∀ k ∈ ks, wordB k 12 = true ∧ wordB (f k) 12 = true) ∧ ks.length ≤ 60
theorem NL.nil : NL [] := ⟨[], fun k => k, rfl, rfl, List.nodup_nil, fun k h => absurd h List.not_mem_nil, Nat.zero_le _⟩
theorem NL.txt {ex : List (Key × V)} (h : NL ex) : Txt ex := by
  obtain ⟨ks, f, rfl, _⟩ := h
  intro q hq
  obtain ⟨k, hk, rfl⟩ := List.mem_map.mp hq
  exact ⟨f k, rfl⟩
theorem keys_map {ks : List Str} {f : Str → V} : (ks.map (fun k => ((Sum.inr k : Key), f k))).map (·.1) = ks.map Sum.inr := by
  rw [List.map_map] <;> rfl
theorem nodup_inr {ks : List Str} (h : ks.Nodup) : (ks.map (Sum.inr : Str → Key)).Nodup := List.pairwise_map.mpr (List.Pairwise.imp (fun n e => n (Sum.inr.inj e)) h)
theorem NL.nd {ex : List (Key × V)} (h : NL ex) : (ex.map (·.1)).Nodup := by
  obtain ⟨ks, f, rfl, _, nd, _⟩ := h
  rw [keys_map]
  exact nodup_inr nd
theorem NL.tab {ex : List (Key × V)} (h : NL ex) : Tab 60 ex := by
  have nd := h.nd
  obtain ⟨ks, f, rfl, _, _, hw, hl⟩ := h
  refine ⟨fun q hq => ?_, nd, by rw [List.length_map]; exact hl⟩
  obtain ⟨k, hk, rfl⟩ := List.mem_map.mp hq
  exact ⟨k, f k, rfl, hw k hk⟩
theorem Tab.mono {n m : Nat} {kvs : List (Key × V)} (t : Tab n kvs) (h : n ≤ m) : Tab m kvs := ⟨t.each, t.nd, Nat.le_trans t.len h⟩
theorem tab_key {n : Nat} {kvs : List (Key × V)} (t : Tab n kvs) {k : Str} (h : (Sum.inr k : Key) ∈ kvs.map (·.1)) : ∃ z : Str, wordB k 12 = true ∧ wordB z 12 = true ∧ valV kvs (Sum.inr k) = some (.str z) := by
  obtain ⟨q, hq, e⟩ := List.mem_map.mp h
  obtain ⟨i, hi⟩ := List.getElem?_of_mem hq
  obtain ⟨a, b, rfl, wa, wb⟩ := t.each q hq
  have ea : a = k := Sum.inr.inj e
  subst ea
  exact ⟨b, wa, wb, get_at t.nd hi⟩
theorem norm_NL {n : Nat} {kvs ex : List (Key × V)} {r : V} (t : Tab n kvs) (hn : n ≤ 60) (h : NormOf kvs r ex) : NL ex := by
  obtain ⟨ks, ys, hks, hp, hs, rfl⟩ := h
  have key : ∀ {k : Str}, k ∈ ys → (Sum.inr k : Key) ∈ kvs.map (·.1) := fun {k} hk => by
    rw [hks]
    exact List.mem_map.mpr ⟨k, hp.mem_iff.mp hk, rfl⟩
  have nk : ks.Nodup := by
    have z := t.nd
    rw [hks] at z
    exact List.Pairwise.imp (fun h e => h (congrArg Sum.inr e)) (List.pairwise_map.mp z)
  have ny : ys.Nodup := hp.nodup_iff.mpr nk
  refine ⟨ys.filter fun k => !decide (atV kvs .non k = orV r k), fun k => match atV kvs .non k with | .str z => z | _ => Str.empty, ?_, ?_, ny.sublist List.filter_sublist, fun k hk => ?_, ?_⟩
  · refine List.map_congr_left fun k hk => ?_
    obtain ⟨z, _, _, e⟩ := tab_key t (key (List.mem_filter.mp hk).1)
    have a : atV kvs .non k = .str z := by unfold atV; rw [e]
    show _ = ((Sum.inr k : Key), V.str (match atV kvs .non k with | .str z => z | _ => Str.empty))
    rw [a]
  · have pw := (sorted_pw hs).sublist (List.filter_sublist (p := fun k => !decide (atV kvs .non k = orV r k)) (l := ys))
    refine sortedS_of_pairwise _ (pw.imp fun {a b} h => ?_)
    rw [ltCps_eq]
    exact decide_eq_false (List.not_lt.mpr h)
  · obtain ⟨z, w1, w2, e⟩ := tab_key t (key (List.mem_filter.mp hk).1)
    have a : atV kvs .non k = .str z := by unfold atV; rw [e]
    refine ⟨w1, ?_⟩
    show wordB (match atV kvs .non k with | .str z => z | _ => Str.empty) 12 = true
    rw [a]
    exact w2
  · have l1 := List.length_filter_le (fun k => !decide (atV kvs .non k = orV r k)) ys
    have l2 := hp.length_eq
    have l3 := congrArg List.length hks
    rw [List.length_map, List.length_map] at l3
    have := t.len
    omega
theorem hit_all {ls : List (Key × V)} : ∀ {ks : List (Key × V)}, hitB ls ks = true → ∀ q ∈ ks, ∃ y, valV ls q.1 = some y ∧ eqV q.2 y = true
  | [], _, q, hq => absurd hq List.not_mem_nil
  | (k, v) :: r, h, q, hq => by
    rw [hitB] at h
    cases e : valV ls k with
    | none =>
      rw [e] at h
      cases h
    | some y =>
      rw [e] at h
      obtain ⟨h1, h2⟩ := Bool.and_eq_true_iff.mp (show (eqV v y && hitB ls r) = true from h)
      rcases List.mem_cons.mp hq with rfl | hq
      · exact ⟨y, e, h1⟩
      · exact hit_all h2 q hq
theorem eq_norm {ex ey : List (Key × V)} (h : NL ex) (g : NL ey) : eqDk ex ey = decide (ex = ey) := by
  by_cases e : ex = ey
  · subst e
    unfold eqDk
    rw [decide_eq_true rfl, decide_eq_true rfl, Bool.true_and]
    exact hitB_self h.nd h.txt ex fun _ z => z
  · rw [decide_eq_false e]
    cases q : eqDk ex ey with
    | false => rfl
    | true =>
      exfalso
      obtain ⟨q1, q2⟩ := Bool.and_eq_true_iff.mp (show (decide (ex.length = ey.length) && hitB ey ex) = true from q)
      have len := of_decide_eq_true q1
      obtain ⟨ks, f, rfl, s1, n1, w1, _⟩ := h
      obtain ⟨ls, g2, rfl, s2, n2, w2, _⟩ := g
      rw [List.length_map, List.length_map] at len
      have hit : ∀ k ∈ ks, k ∈ ls ∧ f k = g2 k := fun k hk => by
        obtain ⟨y, e1, e2⟩ := hit_all q2 _ (List.mem_map.mpr ⟨k, hk, rfl⟩)
        have v := valV_words (fun k => V.str (g2 k)) k ls
        rw [e1] at v
        by_cases hm : k ∈ ls
        · rw [if_pos hm] at v
          cases v
          exact ⟨hm, eq_of_beq (show (f k == g2 k) = true from e2)⟩
        · rw [if_neg hm] at v
          cases v
      have pm := sub_perm n1 (fun x hx => (hit x hx).1) len
      have ee := pw_uniq (sorted_pw s1) (sorted_pw s2) pm
      subst ee
      exact e (List.map_congr_left fun k hk => by rw [(hit k hk).2])
/-- normal exceptions that say the same are the same -/
theorem norm_alike {n m : Nat} {k1 k2 ex ey : List (Key × V)} {r : V} (t1 : Tab n k1) (t2 : Tab m k2) (h1 : NormOf k1 r ex) (h2 : NormOf k2 r ey) (same : ∀ z : Str, (Sum.inr z : Key) ∈ k1.map (·.1) ∨ (Sum.inr z : Key) ∈ k2.map (·.1) → atV k1 r z = atV k2 r z) : ex = ey := by
  have out : ∀ {k : List (Key × V)} {z : Str}, (Sum.inr z : Key) ∉ k.map (·.1) → atV k r z = orV r z := fun {k z} hn => by
    have e : valV k (Sum.inr z) = none := by
      cases q : valV k (Sum.inr z) with
      | none => rfl
      | some v => exact absurd (valV_key.mp (by rw [q]; rfl)) hn
    exact atV_of e
  have all : ∀ z, atV k1 r z = atV k2 r z := fun z => by
    by_cases c1 : (Sum.inr z : Key) ∈ k1.map (·.1)
    · exact same z (.inl c1)
    · by_cases c2 : (Sum.inr z : Key) ∈ k2.map (·.1)
      · exact same z (.inr c2)
      · rw [out c1, out c2]
  have own : ∀ {n : Nat} {k : List (Key × V)} {z : Str}, Tab n k → (Sum.inr z : Key) ∈ k.map (·.1) → atV k .non z = atV k r z := fun {n k z} t hz => by
    obtain ⟨y, _, _, e⟩ := tab_key t hz
    rw [atV_of e, atV_of e] <;> rfl
  obtain ⟨ks, ys, e1, p1, s1, rfl⟩ := h1
  obtain ⟨ls, zs, e2, p2, s2, rfl⟩ := h2
  have nk : ∀ {n : Nat} {k : List (Key × V)} {ks ys : List Str}, Tab n k → k.map (·.1) = ks.map Sum.inr → ys.Perm ks → ys.Nodup := fun t e p => by
    have z := t.nd
    rw [e] at z
    exact p.nodup_iff.mpr (List.Pairwise.imp (fun h e => h (congrArg Sum.inr e)) (List.pairwise_map.mp z))
  have mk : ∀ {k : List (Key × V)} {ks ys : List Str} {z : Str}, k.map (·.1) = ks.map Sum.inr → ys.Perm ks → (z ∈ ys ↔ (Sum.inr z : Key) ∈ k.map (·.1)) := fun {k ks ys z} e p => by
    rw [e, p.mem_iff]
    exact ⟨fun h => List.mem_map.mpr ⟨z, h, rfl⟩, fun h => by
      obtain ⟨w, hw, q⟩ := List.mem_map.mp h
      exact Sum.inr.inj q ▸ hw⟩
  have mf : ∀ {n : Nat} {k : List (Key × V)} {ks ys : List Str} {z : Str}, Tab n k → k.map (·.1) = ks.map Sum.inr → ys.Perm ks → (z ∈ ys.filter (fun q => !decide (atV k .non q = orV r q)) ↔ atV k r z ≠ orV r z) := fun {n k ks ys z} t e p => by
    rw [List.mem_filter, mk e p]
    constructor
    · rintro ⟨h, q⟩ c
      rw [own t h, c, decide_eq_true rfl] at q
      cases q
    · intro c
      have h : (Sum.inr z : Key) ∈ k.map (·.1) := by
        by_cases hh : (Sum.inr z : Key) ∈ k.map (·.1)
        · exact hh
        · exact absurd (out hh) c
      exact ⟨h, by rw [own t h, decide_eq_false c]; rfl⟩
  have pm : (ys.filter fun q => !decide (atV k1 .non q = orV r q)).Perm (zs.filter fun q => !decide (atV k2 .non q = orV r q)) :=
    mem_perm ((nk t1 e1 p1).sublist List.filter_sublist) ((nk t2 e2 p2).sublist List.filter_sublist) fun x => by rw [mf t1 e1 p1, mf t2 e2 p2, all x]
  have ee := pw_uniq ((sorted_pw s1).sublist List.filter_sublist) ((sorted_pw s2).sublist List.filter_sublist) pm
  rw [← ee]
  refine List.map_congr_left fun k hk => ?_
  have h1 : (Sum.inr k : Key) ∈ k1.map (·.1) := (mk e1 p1).1 (List.mem_filter.mp hk).1
  have h2 : (Sum.inr k : Key) ∈ k2.map (·.1) := (mk e2 p2).1 (List.mem_filter.mp (ee ▸ hk)).1
  rw [own t1 h1, own t2 h2, all k]
theorem norm_uniq {n : Nat} {k ex ey : List (Key × V)} {r : V} (t : Tab n k) (h1 : NormOf k r ex) (h2 : NormOf k r ey) : ex = ey := norm_alike t t h1 h2 fun _ _ => rfl
/-- normal exceptions, kept again -/
theorem norm_again {n : Nat} {k ex ey : List (Key × V)} {r : V} (t : Tab n k) (hn : n ≤ 60) (h1 : NormOf k r ex) (h2 : NormOf ex r ey) : ey = ex := norm_alike (norm_NL t hn h1).tab t h2 h1 fun z _ => norm_at h1 z
theorem eqV_rest {r1 r2 : V} (h1 : RestOk r1) (h2 : RestOk r2) : eqV r1 r2 = decide (r1 = r2) := by
  rcases h1 with rfl | ⟨a, rfl, _⟩
  · rcases h2 with rfl | ⟨b, rfl, _⟩
    · exact (decide_eq_true rfl).symm
    · exact (decide_eq_false (fun e => nomatch e)).symm
  · rcases h2 with rfl | ⟨b, rfl, _⟩
    · exact (decide_eq_false (fun e => nomatch e)).symm
    · show (a == b) = _
      by_cases e : a = b
      · subst e
        rw [beq_self_eq_true, decide_eq_true rfl]
      · rw [decide_eq_false fun z => e (V.str.inj z)]
        exact beq_eq_false_iff_ne.mpr e
theorem flat_rest {r : V} (h : RestOk r) : flatV r = true := by
  rcases h with rfl | ⟨a, rfl, _⟩ <;> rfl
end C12

end PU12
section PV12
set_option maxHeartbeats 4000000
namespace C12
open PySem L2
/-! ### InvalidValue(value); at of a word, and of anything else -/
abbrev s_initIV : Stmt := inCls (top 3) 0
def spXI (K : PySem.W.Frag) (f : Str) : Sp := fun vs H Q _ => ∃ (a C : Addr) (y : V), vs = [.ref a, y] ∧ XC K C ∧ PySem.W.findIn K (.ref C) f = some none ∧ H a = some (exo a C none) ∧ ∀ dx, H dx = none → dx ≠ a → Q .non (upd (upd H dx (exd dx [(f, y)])) a (exo a C (some dx)))
theorem sc_initIV : FnScope ["self", "value"] ["self", "value"] (defScope s_initIV) := ⟨rfl, rfl, rfl, by decide +kernel, rfl, by decide +kernel, by decide +kernel⟩
theorem sc_initIM : FnScope ["self", "position"] ["self", "position"] (defScope s_initIM) := ⟨rfl, rfl, rfl, by decide +kernel, rfl, by decide +kernel, by decide +kernel⟩
/-- what is known of the exception classes -/
structure XcO (P : Program) (w : World) (K : PySem.W.Frag) (mg : Str → Option Value) (base : Heap) (C fI : Addr) (dI : FuncData) (xn f : Str) : Prop where
  x : XC K C
  i : PySem.W.findIn K (.ref C) "__init__" = some (some (.ref fI))
  t : PySem.W.typeIn K (.ref fI) = some (.type "function")
  m : mg xn = some (.ref C)
  no : PySem.W.findIn K (.ref C) f = some none
  g : FnOk P w K mg base CX0 1 fI dI ["self", f] (spXI K f)
  b : KBn K dI ["self", f] 2 [] (fun us _ => us) (fun us _ => us)
theorem xraise {K : PySem.W.Frag} {σ : St} {H : Hp} {i : Nat} {C : Addr} {f : Str} {y : V} (T : XC K C) (no : PySem.W.findIn K (.ref C) f = some none) (h : σ[i]? = some (some y)) {Q : XK} (q : ∀ dx H2, Same H H2 → H2 dx = some (.xd [(f, y)]) → Q (.ref C) (some dx) H2) :
    tXr C 1 (spXI K f) (fun us _ => us) (tCons (tVar i) tNil) σ H Q :=
  ⟨y, h, rfl, fun a ha => ⟨a, C, y, rfl, T, no, upd_same, fun dx hd ne => by
    have hx : H dx = none := by rw [← hd, upd_ne ne]
    refine ⟨rfl, dx, _, upd_same, by rw [upd_ne ne, upd_same], hx, q dx _ (fun b o e => ?_) upd_same⟩
    have hb : b ≠ a := ne_of_none e ha
    have hc : b ≠ dx := ne_of_none e hx
    rw [upd_ne hc, del_ne hb, upd_ne hb, upd_ne hc, upd_ne hb]
    exact e⟩⟩
def spAtW (C : Addr) : Sp := fun vs H Q _ => ∃ (m : Addr) (ex : List (Key × V)) (r : V) (z : Str), vs = [.ref m, .str z] ∧ TMap C H m ex r ∧ wordB z 12 = true ∧ ∀ H', Same H H' → Q (atV ex r z) H'
def spAtX (K : PySem.W.Frag) (C CI : Addr) : Sp := fun vs H _ E => ∃ (m : Addr) (ex : List (Key × V)) (r x : V), vs = [.ref m, x] ∧ TMap C H m ex r ∧ AsStr K H x ∧ (∀ z, x = .str z → z.length ≤ sizeLine) ∧ isWd x 12 = false ∧ ∀ d H', Same H H' → H' d = some (.xd [("value", x)]) → E (.ref CI) (some d) H'
section
variable {P : Program} {w : World} {K : PySem.W.Frag} {mg : Str → Option Value} {base : Heap} {f fV fR fI fS C CM CI : Addr} {fd dV dR dI dS : FuncData}
theorem ok_initIV (F : FM K "__init__" "InvalidValue.__init__" s_initIV f fd) : FnOk P w K mg base CX0 1 f fd ["self", "value"] (spXI K "value") := by
  refine F.ok sc_initIV (fun vs H Q E h => ?_) (fun cdv A outer s H vs Q E hr h => ?_)
  · obtain ⟨a, C, y, rfl, _⟩ := h
    rfl
  obtain ⟨a, C, y, rfl, T, no, e, q⟩ := h
  exact ⟨_, PSs.nox (pss_one (ps_xst (pv 0) (pv 1))), _, rfl, _, rfl, a, C, rfl, T, no, .inl ⟨e, q⟩⟩
theorem ok_initIM (F : FM K "__init__" "InvalidMap.__init__" s_initIM f fd) : FnOk P w K mg base CX0 1 f fd ["self", "position"] (spXI K "position") := by
  refine F.ok sc_initIM (fun vs H Q E h => ?_) (fun cdv A outer s H vs Q E hr h => ?_)
  · obtain ⟨a, C, y, rfl, _⟩ := h
    rfl
  obtain ⟨a, C, y, rfl, T, no, e, q⟩ := h
  exact ⟨_, PSs.nox (pss_one (ps_xst (pv 0) (pv 1))), _, rfl, _, rfl, a, C, rfl, T, no, .inl ⟨e, q⟩⟩
theorem ok_at_w (F : FM K "at" "Map.at" s_mat f fd) (T : TMc K C) (O : TcO K C CM "text") (IV : Kn P w K mg base 2 "is_value" fV dV ["value", "kind"] (spIsValue K)) (GR : FnOk P w K mg base CX0 2 fR dR ["self", "value"] (spResult C)) (bR : Binds K dR ["self", "value"] []) (mR : Meth K C "_result" fR)
    (XI : XcO P w K mg base CI fI dI "InvalidValue" "value") : FnOk P w K mg base CX0 3 f fd ["self", "value"] (spAtW C) := by
  refine F.ok sc_mat (fun vs H Q E h => ?_) (fun cdv A outer s H vs Q E hr h => ?_)
  · obtain ⟨m, ex, r, z, rfl, _⟩ := h
    rfl
  obtain ⟨m, ex, r, z, rfl, tm, hz, q⟩ := h
  have hr2 : Room 2 _ := hr
  obtain ⟨u1, k1⟩ := O.knd
  refine ⟨_, PSs.nox (pss_cons (ps_if (pt_not (pt_val (pe_call IV.f hr rfl IV.m IV.k IV.b .nil pass0 (pa_cons (pv 1) (pa_cons (pe_con (pv 0) rfl) pa_nil))))) (pss_one (ps_raise rfl takes_no (pmk_xe XI.x XI.i XI.t XI.g hr2 XI.b pass0 (by decide) rfl XI.m (pa_cons (pv 1) pa_nil)))) pss_nil)
    (pss_one (ps_ret (pe_meth (pv 0) T.cl mR GR hr bR .nil pass0 (pa_cons (pv 1) pa_nil))))), ?_⟩
  obtain ⟨dx, d, hm, hd⟩ := tm
  refine ⟨_, rfl, _, rfl, m, C, dx, _, _, u1, rfl, hm, T.cl, k1, rfl, .str z, rfl, asStr_str z, fun y h => by cases h; exact word_len hz, fun H1 s1 => ⟨isWd (.str z) 12, rfl, ?_⟩⟩
  rw [show isWd (.str z) 12 = true from hz]
  refine (show (if (!true) = true then _ else _) from ?_)
  rw [if_neg (by decide)]
  exact ⟨_, rfl, m, dx, _, rfl, s1 _ _ hm, rfl, _, rfl, m, ex, r, z, rfl, ⟨dx, d, s1 _ _ hm, s1 _ _ hd⟩, q H1 s1⟩
theorem ok_at_x (F : FM K "at" "Map.at" s_mat f fd) (T : TMc K C) (O : TcO K C CM "text") (IV : Kn P w K mg base 2 "is_value" fV dV ["value", "kind"] (spIsValue K)) (GR : FnOk P w K mg base CX0 2 fR dR ["self", "value"] (spResult C)) (bR : Binds K dR ["self", "value"] []) (mR : Meth K C "_result" fR)
    (XI : XcO P w K mg base CI fI dI "InvalidValue" "value") : FnOk P w K mg base (L2.CX P w) 3 f fd ["self", "value"] (spAtX K C CI) := by
  refine F.ok sc_mat (fun vs H Q E h => ?_) (fun cdv A outer s H vs Q E hr h => ?_)
  · obtain ⟨m, ex, r, x, rfl, _⟩ := h
    rfl
  obtain ⟨m, ex, r, x, rfl, ⟨dx, d, hm, hd⟩, ax, lx, nx, q⟩ := h
  have hr2 : Room 2 _ := hr
  obtain ⟨u1, k1⟩ := O.knd
  refine ⟨_, pss_cons (ps_if (pt_not (pt_val (pe_call IV.f hr rfl IV.m IV.k IV.b .nil pass0 (pa_cons (pv 1) (pa_cons (pe_con (pv 0) rfl) pa_nil))))) (pss_one (ps_raise rfl (takes_of rfl rfl rfl rfl) (pmk_xe XI.x XI.i XI.t XI.g hr2 XI.b pass0 (by decide) rfl XI.m (pa_cons (pv 1) pa_nil)))) pss_nil)
    (pss_one (ps_ret (pe_meth (pv 0) T.cl mR GR hr bR .nil pass0 (pa_cons (pv 1) pa_nil)))), ?_⟩
  refine ⟨_, rfl, _, rfl, m, C, dx, _, _, u1, rfl, hm, T.cl, k1, rfl, x, rfl, ax, lx, fun H1 s1 => ⟨isWd x 12, rfl, ?_⟩⟩
  rw [nx]
  refine (show (if (!false) = true then _ else _) from ?_)
  rw [if_pos (by decide)]
  exact xraise XI.x XI.no rfl fun d H2 s2 e2 => q d H2 (s1.trans s2) e2
/-! ### TextMap.same(), TextMap.constant_map(value) -/
def spSame (C : Addr) : Sp := fun vs H Q _ => vs = [.ref C] ∧ ∀ m H', TMap C H' m [] .non → Same H H' → Q (.ref m) H'
def spConst (C : Addr) : Sp := fun vs H Q _ => ∃ z : Str, vs = [.ref C, .str z] ∧ wordB z 12 = true ∧ ∀ m H', TMap C H' m [] (.str z) → Same H H' → Q (.ref m) H'
theorem norm_nil {r : V} {ex : List (Key × V)} (h : NormOf [] r ex) : ex = [] := by
  obtain ⟨ks, ys, e, p, s, rfl⟩ := h
  have : ks = [] := by
    cases ks with
    | nil => rfl
    | cons a l => cases e
  subst this
  have : ys = [] := (List.Perm.nil_eq p.symm).symm
  subst this
  rfl
theorem made_same {H H' : Hp} {m dx : Addr} {o : HO} {H0 : Hp} (hx : H m = none) (hd : H dx = none) (ne : dx ≠ m) (e : H0 = upd (upd H dx (.own m)) m o) (b : Bt m H0 H') : Same H H' := fun c u z => by
  subst e
  have n1 : c ≠ m := ne_of_none z hx
  have n2 : c ≠ dx := ne_of_none z hd
  exact b c u n1 (by rw [upd_ne n1, upd_ne n2]; exact z)
structure MkT (P : Program) (w : World) (K : PySem.W.Frag) (mg : Str → Option Value) (base : Heap) (C fI : Addr) (dI : FuncData) : Prop where
  mkC : Mk K C fI
  g : FnOk P w K mg base CX0 3 fI dI ["self", "exceptions", "rest"] (spInitT C)
  b : Binds K dI ["self", "exceptions", "rest"] []
  b2 : ∃ ds, Vals [V.non, V.non] ds ∧ Binds K dI ["self", "exceptions", "rest"] ds
  m : mg "TextMap" = some (.ref C)
theorem ok_same (F : FM K "same" "TextMap.same" s_same f fd) (T : MkT P w K mg base C fI dI) : FnOk P w K mg base CX0 5 f fd ["cls"] (spSame C) := by
  refine F.ok sc_same (fun vs H Q E h => ?_) (fun cdv A outer s H vs Q E hr h => ?_)
  · obtain ⟨rfl, _⟩ := h
    rfl
  obtain ⟨rfl, q⟩ := h
  obtain ⟨ds, hd, hb⟩ := T.b2
  refine ⟨_, PSs.nox (pss_one (ps_ret (pe_makeL0 (i := 0) T.mkC T.g hr rfl (.inl rfl) hb hd pass0))), ?_⟩
  refine ⟨rfl, fun m dx hm hdx ne => ⟨m, dx, .non, .non, [], rfl, upd_same, Tab.nil.mono (by decide), .inl rfl, .inl ⟨rfl, rfl⟩, fun H' ex d hn _ e1 e2 hB => ?_⟩⟩
  have z := norm_nil hn
  subst z
  exact ⟨rfl, q m H' ⟨dx, d, e1, e2⟩ (made_same hm hdx ne rfl hB)⟩
theorem ok_constant (F : FM K "constant_map" "TextMap.constant_map" s_constant f fd) (T : MkT P w K mg base C fI dI) (IV : Kn P w K mg base 2 "is_value" fV dV ["value", "kind"] (spIsValue K)) (XI : XcO P w K mg base CI fS dS "InvalidValue" "value") : FnOk P w K mg base CX0 5 f fd ["cls", "value"] (spConst C) := by
  refine F.ok sc_constant (fun vs H Q E h => ?_) (fun cdv A outer s H vs Q E hr h => ?_)
  · obtain ⟨z, rfl, _⟩ := h
    rfl
  obtain ⟨z, rfl, hz, q⟩ := h
  refine ⟨_, PSs.nox (pss_cons (ps_if (pt_not (pt_val (pe_call IV.f (hr.mono (by decide)) rfl IV.m IV.k IV.b .nil pass0 (pa_cons (pv 1) (pa_cons pe_str pa_nil))))) (pss_one (ps_raise rfl takes_no (pmk_xe XI.x XI.i XI.t XI.g (hr.mono (by decide)) XI.b pass0 (by decide) rfl XI.m (pa_cons (pv 1) pa_nil)))) pss_nil)
    (pss_one (ps_ret (pe_makeL (i := 0) T.mkC T.g hr rfl (.inl rfl) T.b .nil pass0 (pa_cons pe_dnewK (pa_cons (pv 1) pa_nil)))))), ?_⟩
  refine word_at rfl hz _ fun H1 s1 => ?_
  refine (show (if (!true) = true then _ else _) from ?_)
  rw [if_neg (by decide)]
  refine ⟨rfl, fun g hg => ⟨_, rfl, fun m dx hm hdx ne => ?_⟩⟩
  have ng : g ≠ m := fun e => by
    rw [← e, upd_same] at hm
    cases hm
  have ng2 : g ≠ dx := fun e => by
    rw [← e, upd_same] at hdx
    cases hdx
  refine ⟨m, dx, .ref g, .str z, [], rfl, upd_same, Tab.nil.mono (by decide), .inr ⟨z, rfl, hz⟩, .inr ⟨g, rfl, by rw [upd_ne ng, upd_ne ng2, upd_same]⟩, fun H' ex d hn _ e1 e2 hB => ?_⟩
  have e := norm_nil hn
  subst e
  exact ⟨rfl, q m H' ⟨dx, d, e1, e2⟩ ((s1.trans (same_upd hg)).trans (made_same hm hdx ne rfl hB))⟩
end
end C12

end PV12
section PW12
set_option maxHeartbeats 4000000
namespace C12
open PySem PySem.Spec L2 PyProof.Rows
/-! ### repr of exceptions and rest, of a map -/
def vD : V → PyData
  | .str z => .str z
  | _ => .none
def exL (ex : List (Key × V)) : List (PyData × PyData) := ex.map fun q => (kD q.1, vD q.2)
theorem exL_rp {H : Hp} : ∀ {ex : List (Key × V)}, Txt ex → RpKv H ex (exL ex)
  | [], _ => .nil
  | (k, v) :: r, h => by
    obtain ⟨z, e⟩ := h (k, v) List.mem_cons_self
    have e' : v = .str z := e
    subst e'
    exact .cons (.str z) (exL_rp fun q hq => h q (List.mem_cons_of_mem _ hq))
theorem ex_rp {H : Hp} {d : Addr} {ex : List (Key × V)} (h : Txt ex) (e : H d = some (.dK ex)) : Rp H (.ref d) (.dict (exL ex)) := .dic e (exL_rp h)
theorem rest_rp {H : Hp} {r : V} (h : RestOk r) : Rp H r (vD r) := by
  rcases h with rfl | ⟨z, rfl, _⟩
  · exact .non
  · exact .str z
theorem word_chars {z : Str} (h : wordB z 12 = true) : z.length ≤ 12 ∧ ∀ c ∈ z.cps.toList, c < 16 ^ 8 := ⟨(word_asc (m := 12) h).1, fun c hc => Nat.lt_trans ((word_asc (m := 12) h).2 c hc) (by decide)⟩
theorem word_shown {z : Str} (h : wordB z 12 = true) : (PyData.str z).shown.length ≤ 122 := by
  obtain ⟨l, c⟩ := word_chars h
  have := PySem.StrLaws.reprText_len z c
  show (reprText z).length ≤ 122
  omega
theorem rest_shown {r : V} (h : RestOk r) : (vD r).shown.length ≤ 122 := by
  rcases h with rfl | ⟨z, rfl, hz⟩
  · show (PyData.none).shown.length ≤ 122
    decide +kernel
  · exact word_shown hz
theorem piled_le : ∀ {ts : List Str} {b : Nat}, (∀ t ∈ ts, t.length ≤ b) → piled ts ≤ ts.length * (b + 2)
  | [], b, _ => by simp [piled]
  | t :: ts, b, h => by
    have h1 := h t List.mem_cons_self
    have h2 := piled_le (ts := ts) fun u hu => h u (List.mem_cons_of_mem _ hu)
    rw [piled_cons, List.length_cons, Nat.succ_mul]
    omega
theorem shownKv_each : ∀ {ex : List (Key × V)}, (∀ q ∈ ex, ∃ a b : Str, q = (Sum.inr a, V.str b) ∧ wordB a 12 = true ∧ wordB b 12 = true) → ∀ t ∈ PyData.shownKv (exL ex), t.length ≤ 246
  | [], _, t, ht => absurd ht List.not_mem_nil
  | q :: r, h, t, ht => by
    obtain ⟨a, b, rfl, wa, wb⟩ := h q List.mem_cons_self
    have ht' : t ∈ (PyData.shown (.str a) ++ ": " ++ PyData.shown (.str b)) :: PyData.shownKv (exL r) := ht
    rcases List.mem_cons.mp ht' with rfl | ht'
    · have h1 := word_shown wa
      have h2 := word_shown wb
      rw [strLen_append, strLen_append]
      have e : (": " : Str).length = 2 := by decide +kernel
      omega
    · exact shownKv_each (fun q hq => h q (List.mem_cons_of_mem _ hq)) t ht'
theorem shownKv_len : ∀ (l : List (PyData × PyData)), (PyData.shownKv l).length = l.length
  | [] => rfl
  | (k, v) :: r => by
    show (PyData.shownKv r).length + 1 = r.length + 1
    rw [shownKv_len r]
theorem ex_shown {ex : List (Key × V)} (t : Tab 60 ex) : (PyData.dict (exL ex)).shown.length ≤ 15000 := by
  have h := shownKv_each t.each
  have hl : (PyData.shownKv (exL ex)).length ≤ 60 := by
    rw [shownKv_len]
    unfold exL
    rw [List.length_map]
    exact t.len
  show (dictText (PyData.shownKv (exL ex))).length ≤ 15000
  generalize PyData.shownKv (exL ex) = ts at h hl
  unfold dictText
  rw [strLen_append, strLen_append]
  have e1 : ("{" : Str).length = 1 := by decide +kernel
  have e2 : ("}" : Str).length = 1 := by decide +kernel
  have p := piled_le h
  have p2 : ts.length * (246 + 2) ≤ 60 * 248 := Nat.mul_le_mul_right _ hl
  by_cases c : ts = []
  · subst c
    have e3 : (Str.join ", " ([] : List Str)).length = 0 := by decide +kernel
    omega
  · have q := join_length_add ts c
    omega
theorem ex_showable : ∀ {ex : List (Key × V)}, (∀ q ∈ ex, ∃ a b : Str, q = (Sum.inr a, V.str b) ∧ wordB a 12 = true ∧ wordB b 12 = true) → PyData.showableKv (exL ex) = true
  | [], _ => rfl
  | q :: r, h => by
    obtain ⟨a, b, rfl, _, _⟩ := h q List.mem_cons_self
    show (true && true && PyData.showableKv (exL r)) = true
    rw [ex_showable fun q hq => h q (List.mem_cons_of_mem _ hq)] <;> rfl
theorem rest_showable {r : V} (h : RestOk r) : (vD r).showable = true := by
  rcases h with rfl | ⟨z, rfl, _⟩ <;> rfl
theorem ex_depth : ∀ {ex : List (Key × V)}, (∀ q ∈ ex, ∃ a b : Str, q = (Sum.inr a, V.str b) ∧ wordB a 12 = true ∧ wordB b 12 = true) → PyData.depthKv (exL ex) ≤ 2
  | [], _ => by decide
  | q :: r, h => by
    obtain ⟨a, b, rfl, _, _⟩ := h q List.mem_cons_self
    have ih := ex_depth fun q hq => h q (List.mem_cons_of_mem _ hq)
    show max (max (PyData.depth (.str a)) (PyData.depth (.str b))) (PyData.depthKv (exL r)) ≤ 2
    have d1 : PyData.depth (.str a) ≤ 2 := by first | decide | (show 1 ≤ 2; decide) | (show 0 ≤ 2; decide)
    have d2 : PyData.depth (.str b) ≤ 2 := by first | decide | (show 1 ≤ 2; decide) | (show 0 ≤ 2; decide)
    omega
/-- what repr tells of a map -/
def tmText (ex : List (Key × V)) (r : V) : Str := Str.empty ++ "TextMap(" ++ (PyData.dict (exL ex)).shown ++ ", " ++ (vD r).shown ++ ")"
def spReprT (C : Addr) : Sp := fun vs H Q _ => ∃ (m : Addr) (ex : List (Key × V)) (r : V), vs = [.ref m] ∧ TMap C H m ex r ∧ Tab 60 ex ∧ RestOk r ∧ Q (.str (tmText ex r)) H
theorem ex_ok {ex : List (Key × V)} (t : Tab 60 ex) : (PyData.dict (exL ex)).showable = true ∧ (PyData.dict (exL ex)).shown.length ≤ sizeLine ∧ (PyData.dict (exL ex)).depth ≤ 60 := by
  refine ⟨ex_showable t.each, Nat.le_trans (ex_shown t) (by decide), ?_⟩
  have h := ex_depth t.each
  show PyData.depthKv (exL ex) + 1 ≤ 60
  omega
theorem rest_ok {r : V} (h : RestOk r) : (vD r).showable = true ∧ (vD r).shown.length ≤ sizeLine ∧ (vD r).depth ≤ 60 := by
  refine ⟨rest_showable h, Nat.le_trans (rest_shown h) (by decide), ?_⟩
  rcases h with rfl | ⟨z, rfl, _⟩
  · decide
  · show PyData.depth (.str z) ≤ 60
    first
      | decide
      | (show 1 ≤ 60; decide)
      | (show 0 ≤ 60; decide)
theorem tab_txt {n : Nat} {ex : List (Key × V)} (t : Tab n ex) : Txt ex := fun q hq => by
  obtain ⟨a, b, rfl, _, _⟩ := t.each q hq
  exact ⟨b, rfl⟩
theorem pre_len : (Str.empty ++ "TextMap(" : Str).length = 8 := by decide +kernel
section
variable {P : Program} {w : World} {K : PySem.W.Frag} {mg : Str → Option Value} {base : Heap} {f C : Addr} {fd : FuncData}
theorem ok_repr (F : FM K "__repr__" "TextMap.__repr__" s_repr f fd) (T : TMc K C) (hK : noMods K = true) : FnG P w K mg base CX0 1 f fd ["self"] (spReprT C) := by
  refine F.okG sc_repr (fun vs H Q E h => ?_) (fun cdv A outer s H vs Q E hg hr h => ?_)
  · obtain ⟨m, ex, r, rfl, _⟩ := h
    rfl
  obtain ⟨m, ex, r, rfl, ⟨dx, d, hm, hd⟩, tb, ro, q⟩ := h
  have hG := deeper_guards (env := PyProof.Rows.envOfC "TextMap.__repr__" (defScope s_repr) s.heap.objs.size f cdv) hg
  have hu := hr.units
  refine ⟨_, PSs.nox (pss_one (ps_ret (pe_joined (.cons pe_str (.cons (pe_fmtD (by exact hG) (by exact hu) (by exact hK) (pe_fld (pv 0) rfl)) (.cons pe_str (.cons (pe_fmtD (by exact hG) (by exact hu) (by exact hK) (pe_fld (pv 0) rfl)) (.cons pe_str .nil)))))))), ?_⟩
  obtain ⟨a1, a2, a3⟩ := ex_ok tb
  obtain ⟨b1, b2, b3⟩ := rest_ok ro
  have l1 := ex_shown tb
  have l2 := rest_shown ro
  have e1 : (Str.empty ++ "TextMap(" : Str).length = 8 := pre_len
  have e2 : (", " : Str).length = 2 := by decide +kernel
  have e3 : (")" : Str).length = 1 := by decide +kernel
  have big : 20000 ≤ sizeLine := by decide
  refine ⟨_, rfl, by rw [e1]; exact Nat.le_trans (by decide) big, _, rfl, m, C, dx, _, .ref d, rfl, hm, T.cl, T.nE, rfl, _, ex_rp (tab_txt tb) hd, a1, a2, a3, _, rfl, ?_, _, rfl, ?_, _, rfl, m, C, dx, _, r, rfl, hm, T.cl, T.nR, rfl, _, rest_rp ro, b1, b2, b3, _, rfl, ?_, _, rfl, ?_, q⟩
  · rw [strLen_append, e1]
    omega
  · rw [strLen_append, strLen_append, e1, e2]
    omega
  · rw [strLen_append, strLen_append, strLen_append, e1, e2]
    omega
  · rw [strLen_append, strLen_append, strLen_append, strLen_append, e1, e2, e3]
    omega
end
end C12

end PW12
section PX12
set_option maxHeartbeats 4000000
namespace L2
open PySem PySem.Spec PyProof.Rows
/-- what is never reached -/
def tNevE : TE := fun _ _ _ => False
def tNevT : TT := fun _ _ _ => False
theorem pe_nev {X : Cx} {e : Expr} : PE X e tNevE := ⟨fun _ _ _ _ _ _ h => (show False from h).elim⟩
theorem pt_nev {X : Cx} {e : Expr} : PT X e tNevT := ⟨fun _ _ _ _ _ _ h => (show False from h).elim⟩
end L2
namespace C12
open PySem L2
/-! ### NumberMap.same() -/
abbrev s_is_stretch : Stmt := top 11
abbrev s_is_piece : Stmt := top 16
abbrev s_pieces : Stmt := top 17
abbrev s_what : Stmt := top 18
abbrev s_described : Stmt := top 19
abbrev s_ninit : Stmt := inCls (top 14) 1
abbrev s_nsame : Stmt := inCls (top 14) 2
/-- at l: the one piece that takes each integer to itself -/
def Pcs (H : Hp) (l : Addr) : Prop := ∃ t, H l = some (.lst [.ref t]) ∧ H t = some (.tup [.non, .non, .non])
theorem Pcs.same {H H' : Hp} {l : Addr} (s : Same H H') (h : Pcs H l) : Pcs H' l := by
  obtain ⟨t, a, b⟩ := h
  exact ⟨t, s _ _ a, s _ _ b⟩
def spStretch : Sp := fun vs H Q _ => vs = [.non, .non] ∧ ∀ H', Same H H' → Q (.bl true) H'
def spPiece : Sp := fun vs H Q _ => ∃ l, vs = [.ref l, .int 0] ∧ Pcs H l ∧ ∀ H', Same H H' → Q (.bl true) H'
def spWhat : Sp := fun vs H Q _ => ∃ l, vs = [.ref l, .int 0, .non] ∧ Pcs H l ∧ ∀ H', Same H H' → Q .non H'
def spDescr : Sp := fun vs H Q _ => ∃ l, vs = [.ref l, .int 0, .non, .non] ∧ Pcs H l ∧ ∀ t H', Same H H' → H' t = some (.tup [.non, .int 0]) → Q (.ref t) H'
def spPieces : Sp := fun vs H Q _ => ∃ l, vs = [.ref l] ∧ Pcs H l ∧ ∀ t H', Same H H' → Q (.ref t) H'
theorem sc_stretch : FnScope ["first", "last"] ["first", "last"] (defScope s_is_stretch) := ⟨rfl, rfl, rfl, by decide +kernel, rfl, by decide +kernel, by decide +kernel⟩
abbrev nPiece : List Str := ["pieces", "position", "piece", "first", "last", "what"]
theorem sc_piece : FnScope nPiece ["pieces", "position"] (defScope s_is_piece) := ⟨rfl, rfl, rfl, by decide +kernel, rfl, by decide +kernel, by decide +kernel⟩
abbrev nPieces : List Str := ["pieces", "found", "start", "at", "what", "last"]
theorem sc_pieces : FnScope nPieces ["pieces"] (defScope s_pieces) := ⟨rfl, rfl, rfl, by decide +kernel, rfl, by decide +kernel, by decide +kernel⟩
abbrev nWhat : List Str := ["pieces", "at", "start", "last", "what", "follower"]
theorem sc_what : FnScope nWhat ["pieces", "at", "start"] (defScope s_what) := ⟨rfl, rfl, rfl, by decide +kernel, rfl, by decide +kernel, by decide +kernel⟩
abbrev nDescr : List Str := ["pieces", "at", "start", "what", "last", "own_what"]
theorem sc_descr : FnScope nDescr ["pieces", "at", "start", "what"] (defScope s_described) := ⟨rfl, rfl, rfl, by decide +kernel, rfl, by decide +kernel, by decide +kernel⟩
theorem sc_ninit : FnScope ["self", "pieces", "position"] ["self", "pieces"] (defScope s_ninit) := ⟨rfl, rfl, rfl, by decide +kernel, rfl, by decide +kernel, by decide +kernel⟩
theorem sc_nsame : FnScope ["cls"] ["cls"] (defScope s_nsame) := ⟨rfl, rfl, rfl, by decide +kernel, rfl, by decide +kernel, by decide +kernel⟩
section
variable {P : Program} {w : World} {K : PySem.W.Frag} {mg : Str → Option Value} {base : Heap} {f C CM CI fI fS fP fW fD fN : Addr} {fd dI dS dP dW dD dN : FuncData}
theorem ok_stretch (F : FD K "is_stretch" s_is_stretch f fd) (T : TW mg) : FnOk P w K mg base CX0 1 f fd ["first", "last"] spStretch := by
  refine F.ok sc_stretch (fun vs H Q E h => ?_) (fun cdv A outer s H vs Q E hr h => ?_)
  · obtain ⟨rfl, _⟩ := h
    rfl
  obtain ⟨rfl, q⟩ := h
  refine ⟨_, PSs.nox (pss_cons (ps_if (pt_cmp (pc_isN (pv 0)) rfl) (pss_one (ps_ret (pe_or (pe_cmp (pc_isN (pv 1)) rfl) pe_nev))) pss_nil) pss_never), ?_⟩
  refine ⟨_, rfl, true, rfl, ?_⟩
  refine (show (if true = true then _ else _) from ?_)
  rw [if_pos rfl]
  refine ⟨_, rfl, true, rfl, ?_⟩
  refine (show (if true = true then _ else _) from ?_)
  rw [if_pos rfl]
  exact q H (Same.refl H)
theorem ok_what (F : FD K "_normal_what" s_what f fd) : FnOk P w K mg base CX0 1 f fd ["pieces", "at", "start"] spWhat := by
  refine F.ok sc_what (fun vs H Q E h => ?_) (fun cdv A outer s H vs Q E hr h => ?_)
  · obtain ⟨l, rfl, _⟩ := h
    rfl
  obtain ⟨l, rfl, ⟨t, hl, ht⟩, q⟩ := h
  refine ⟨_, PSs.nox (pss_cons (ps_par (i := 3) (j := 4) (by rfl) sc_what.nd rfl rfl (by decide) rfl rfl (pa_cons (pe_ix ix_tup (pe_ix ix_list (pv 0) (pv 1) (fun _ _ => rfl)) pe_int (fun _ _ => rfl)) (pa_cons (pe_ix ix_tup (pe_ix ix_list (pv 0) (pv 1) (fun _ _ => rfl)) pe_int (fun _ _ => rfl)) pa_nil)) (by rfl))
    (pss_cons (ps_if (PW.pt (pw_or (pt_cmp (pc_isN (pv 2))) (pw_or1 pt_nev))) (pss_one (ps_ret (pv 4))) pss_nil) pss_never)), ?_⟩
  refine ⟨_, rfl, _, rfl, l, _, _, .ref t, rfl, rfl, SqL.of hl, rfl, t, _, _, .non, rfl, rfl, SqT.of ht, rfl, _, rfl, _, rfl, l, _, _, .ref t, rfl, rfl, SqL.of hl, rfl, t, _, _, .non, rfl, rfl, SqT.of ht, rfl, _, _, rfl, ?_⟩
  refine ⟨_, rfl, _, rfl, ?_⟩
  refine (show (if true = true then _ else _) from ?_)
  rw [if_pos rfl]
  exact ⟨_, rfl, q H (Same.refl H)⟩
theorem ok_described (F : FD K "_described" s_described f fd) : FnOk P w K mg base CX0 1 f fd ["pieces", "at", "start", "what"] spDescr := by
  refine F.ok sc_descr (fun vs H Q E h => ?_) (fun cdv A outer s H vs Q E hr h => ?_)
  · obtain ⟨l, rfl, _⟩ := h
    rfl
  obtain ⟨l, rfl, ⟨t, hl, ht⟩, q⟩ := h
  refine ⟨_, PSs.nox (pss_one (ps_while PassesOwn.never (pt_val pe_bl)
    (pss_cons (ps_par (i := 4) (j := 5) (by rfl) sc_descr.nd rfl rfl (by decide) rfl rfl (pa_cons (pe_ix ix_tup (pe_ix ix_list (pv 0) (pv 1) (fun _ _ => rfl)) pe_int (fun _ _ => rfl)) (pa_cons (pe_ix ix_tup (pe_ix ix_list (pv 0) (pv 1) (fun _ _ => rfl)) pe_int (fun _ _ => rfl)) pa_nil)) (by rfl))
    (pss_cons (ps_if (pt_cmpR op_ne (pv 5) (pv 3) (nomark _)) pss_never pss_nil)
    (pss_cons (ps_if (pt_cmp (pc_isN (pv 4))) (pss_one (ps_ret (pe_tup (pa_cons pe_non (pa_cons (pv 1) pa_nil))))) pss_nil) pss_never))))), ?_⟩
  refine ⟨fun _ σ' H' => σ' = [some (.ref l), some (.int 0), some .non, some .non, none, none] ∧ H' = H, ⟨0, rfl, rfl⟩, ?_⟩
  rintro m σ' H' ⟨rfl, rfl⟩
  refine ⟨true, rfl, ?_⟩
  refine (show (if true = true then _ else _) from ?_)
  rw [if_pos rfl]
  refine ⟨fun _ _ => False, fun _ _ h => h.elim, ?_⟩
  refine ⟨_, rfl, _, rfl, l, _, _, .ref t, rfl, rfl, SqL.of hl, rfl, t, _, _, .non, rfl, rfl, SqT.of ht, rfl, _, rfl, _, rfl, l, _, _, .ref t, rfl, rfl, SqL.of hl, rfl, t, _, _, .non, rfl, rfl, SqT.of ht, rfl, _, _, rfl, ?_⟩
  refine ⟨_, rfl, _, rfl, rfl, false, ?_, ?_⟩
  · show V.bl (!decide (V.non = V.non)) = V.bl false
    rw [decide_eq_true rfl] <;> rfl
  refine (show (if false = true then _ else _) from ?_)
  rw [if_neg (by decide)]
  refine ⟨_, rfl, _, rfl, ?_⟩
  refine (show (if true = true then _ else _) from ?_)
  rw [if_pos rfl]
  exact ⟨_, rfl, by show 2 ≤ sizeLine; decide, fun p hp => q p _ (same_upd hp) upd_same⟩
end
end C12

end PX12
section PY12
set_option maxHeartbeats 4000000
namespace C12
open PySem L2
section
variable {P : Program} {w : World} {K : PySem.W.Frag} {mg : Str → Option Value} {base : Heap} {f C CM CI CN fI fS fP fW fD fN : Addr} {fd dI dS dP dW dD dN : FuncData}
theorem ok_piece (F : FD K "_is_piece" s_is_piece f fd) (T : TW mg) (tt : mg "tuple" = none) (S : Kn P w K mg base 1 "is_stretch" fS dS ["first", "last"] spStretch) : FnOk P w K mg base CX0 2 f fd ["pieces", "position"] spPiece := by
  refine F.ok sc_piece (fun vs H Q E h => ?_) (fun cdv A outer s H vs Q E hr h => ?_)
  · obtain ⟨l, rfl, _⟩ := h
    rfl
  obtain ⟨l, rfl, ⟨t, hl, ht⟩, q⟩ := h
  refine ⟨_, PSs.nox (pss_cons (ps_set (i := 2) sc_piece.nd rfl (Or.inl rfl) (pe_ix ix_list (pv 0) (pv 1) (fun _ _ => rfl)))
    (pss_cons (ps_if (PW.pt (pw_or (pt_not (pt_val (pe_callB call_isi (by rfl) T.isi boot_isi (pa_cons (pv 2) (pa_cons (pe_bltn (v := .ty "tuple") (by rfl) tt (by decide +kernel) rfl) pa_nil))))) (pw_or1 (pt_cmpR op_ne (pe_callB call_len_seq (by rfl) T.len boot_len (pa_cons (pv 2) pa_nil)) pe_int (nomark _))))) pss_never pss_nil)
    (pss_cons (ps_asg (pv 2) (pg_tup (by rfl) (pgs_cons (pg_name (i := 3) sc_piece.nd rfl (Or.inl rfl)) (pgs_cons (pg_name (i := 4) sc_piece.nd rfl (Or.inl rfl)) (pgs_cons (pg_name (i := 5) sc_piece.nd rfl (Or.inl rfl)) pgs_nil)))))
    (pss_cons (ps_if (PW.pt (pw_or (pt_not (pt_val (pe_call S.f hr rfl S.m S.k S.b .nil pass0 (pa_cons (pv 3) (pa_cons (pv 4) pa_nil))))) (pw_or1 (pt_not (PW.pt (pw_or (pt_cmp (pc_isN (pv 5))) (pw_or1 pt_nev))))))) pss_never pss_nil)
    (pss_cons (ps_if (pt_cmpR op_ne (pe_cmp (pc_isN (pv 4)) rfl) (pe_cmpR op_eq (pv 1) (pe_op op_sub (pe_callB call_len_seq (by rfl) T.len boot_len (pa_cons (pv 0) pa_nil)) pe_int) (nomark _)) (nomark _)) pss_never pss_nil)
    (pss_cons (ps_if (pt_cmpR op_eq (pv 1) pe_int (nomark _)) (pss_one (ps_ret (pe_cmp (pc_isN (pv 3)) rfl))) pss_nil) pss_never)))))), ?_⟩
  refine ⟨_, rfl, _, rfl, l, _, _, .ref t, rfl, rfl, SqL.of hl, rfl, ?_⟩
  refine ⟨_, rfl, .ref t, .ty "tuple", .type "tuple", _, true, rfl, .ty _, .base (.tup ht), kit_ty (by decide +kernel), true, rfl, ?_⟩
  refine (show (if (!true) = true then _ else _) from ?_)
  rw [if_neg (by decide)]
  refine ⟨_, rfl, t, _, rfl, .inr (SqT.of ht), rfl, false, ?_, ?_⟩
  · show V.bl (!decide (V.int ((([V.non, V.non, V.non] : List V).length : Nat) : Int) = V.int 3)) = V.bl false
    rw [decide_eq_true (by rfl)] <;> rfl
  refine (show (if false = true then _ else _) from ?_)
  rw [if_neg (by decide)]
  refine ⟨_, rfl, t, _, rfl, SqT.of ht, rfl, _, _, rfl, _, _, rfl, _, _, rfl, rfl, ?_⟩
  refine ⟨_, rfl, _, rfl, rfl, fun H1 s1 => ⟨true, rfl, ?_⟩⟩
  refine (show (if (!true) = true then _ else _) from ?_)
  rw [if_neg (by decide)]
  refine ⟨_, rfl, true, rfl, ?_⟩
  refine (show (if true = true then _ else _) from ?_)
  rw [if_pos rfl]
  refine (show (if (!true) = true then _ else _) from ?_)
  rw [if_neg (by decide)]
  refine ⟨_, rfl, _, rfl, _, rfl, l, _, rfl, .inl (SqL.of (s1 _ _ hl)), _, _, rfl, rfl, rfl, rfl, false, ?_, ?_⟩
  · show V.bl (!decide (V.bl (decide (V.non = V.non)) = V.bl (decide (V.int 0 = V.int (((([V.ref t] : List V).length : Nat) : Int) - 1))))) = V.bl false
    have e1 : decide (V.int 0 = V.int (((([V.ref t] : List V).length : Nat) : Int) - 1)) = true := decide_eq_true (by rfl)
    have e2 : decide (V.non = V.non) = true := decide_eq_true rfl
    rw [e1, e2, decide_eq_true rfl] <;> rfl
  refine (show (if false = true then _ else _) from ?_)
  rw [if_neg (by decide)]
  refine ⟨_, rfl, rfl, true, ?_, ?_⟩
  · show V.bl (decide (V.int 0 = V.int 0)) = V.bl true
    rw [decide_eq_true rfl]
  refine (show (if true = true then _ else _) from ?_)
  rw [if_pos rfl]
  exact ⟨_, rfl, q H1 s1⟩
theorem ok_pieces (F : FD K "_normal_pieces" s_pieces f fd) (tt : mg "tuple" = none) (W : Kn P w K mg base 1 "_normal_what" fW dW ["pieces", "at", "start"] spWhat) (D : Kn P w K mg base 1 "_described" fD dD ["pieces", "at", "start", "what"] spDescr) : FnOk P w K mg base CX0 2 f fd ["pieces"] spPieces := by
  refine F.ok sc_pieces (fun vs H Q E h => ?_) (fun cdv A outer s H vs Q E hr h => ?_)
  · obtain ⟨l, rfl, _⟩ := h
    rfl
  obtain ⟨l, rfl, hp, q⟩ := h
  refine ⟨_, PSs.nox (pss_cons (ps_set (i := 1) sc_pieces.nd rfl (Or.inl rfl) (pe_lst pa_nil))
    (pss_cons (ps_asg (pe_tup (pa_cons pe_non (pa_cons pe_int pa_nil))) (pg_tup (by rfl) (pgs_cons (pg_name (i := 2) sc_pieces.nd rfl (Or.inl rfl)) (pgs_cons (pg_name (i := 3) sc_pieces.nd rfl (Or.inl rfl)) pgs_nil))))
    (pss_one (ps_while PassesOwn.never (pt_val pe_bl)
      (pss_cons (ps_set (i := 4) sc_pieces.nd rfl (Or.inl rfl) (pe_call W.f hr rfl W.m W.k W.b .nil pass0 (pa_cons (pv 0) (pa_cons (pv 3) (pa_cons (pv 2) pa_nil)))))
      (pss_cons (ps_asg (pe_call D.f hr rfl D.m D.k D.b .nil pass0 (pa_cons (pv 0) (pa_cons (pv 3) (pa_cons (pv 2) (pa_cons (pv 4) pa_nil))))) (pg_tup (by rfl) (pgs_cons (pg_name (i := 5) sc_pieces.nd rfl (Or.inl rfl)) (pgs_cons (pg_name (i := 3) sc_pieces.nd rfl (Or.inl rfl)) pgs_nil))))
      (pss_cons (ps_expr (pe_bm PySem.F.plainAttrs_list PySem.F.slot_list_append PySem.F.type_list_append mt_append (pv 1) (pa_cons (pe_tup (pa_cons (pv 2) (pa_cons (pv 5) (pa_cons (pv 4) pa_nil)))) pa_nil)))
      (pss_cons (ps_if (pt_cmp (pc_isN (pv 5))) (pss_one (ps_ret (pe_callTy call_tuple_of (by rfl) tt (by decide +kernel) (pa_cons (pv 1) pa_nil)))) pss_nil) pss_never)))))))), ?_⟩
  refine ⟨Nat.zero_le _, fun g hg => ⟨by show 2 ≤ sizeLine; decide, fun c hc => ⟨c, _, rfl, SqT.of upd_same, rfl, _, _, rfl, _, _, rfl, rfl, ?_⟩⟩⟩
  have sg : Same H (upd (upd H g (.lst [])) c (.tup [.non, .int 0])) := (same_upd hg).trans (same_upd hc)
  have hp1 := hp.same sg
  have hg1 : (upd (upd H g (.lst [])) c (.tup [.non, .int 0])) g = some (.lst []) := by rw [upd_ne (ne_of_none upd_same hc), upd_same]
  generalize upd (upd H g (.lst [])) c (.tup [.non, .int 0]) = H1 at hp1 sg hg1
  refine ⟨fun _ σ' H' => σ' = [some (.ref l), some (.ref g), some .non, some (.int 0), none, none] ∧ H' = H1, ⟨0, rfl, rfl⟩, ?_⟩
  rintro m σ' H' ⟨rfl, rfl⟩
  refine ⟨true, rfl, ?_⟩
  refine (show (if true = true then _ else _) from ?_)
  rw [if_pos rfl]
  refine ⟨fun _ _ => False, fun _ _ h => h.elim, ?_⟩
  refine ⟨_, rfl, _, rfl, _, rfl, l, rfl, hp1, fun H2 s2 => ?_⟩
  refine ⟨_, rfl, _, rfl, _, rfl, _, rfl, l, rfl, hp1.same s2, fun t H3 s3 e3 => ?_⟩
  refine ⟨t, _, rfl, SqT.of e3, rfl, _, _, rfl, _, _, rfl, rfl, ?_⟩
  have hg3 := s3 _ _ (s2 _ _ hg1)
  refine ⟨_, rfl, .inl ⟨rfl, _, SqL.of hg3⟩, _, rfl, _, rfl, _, rfl, by show 3 ≤ sizeLine; decide, fun p hp' => ?_⟩
  have hg4 : (upd H3 p (.tup [.non, .non, .non])) g = some (.lst []) := by rw [upd_ne (ne_of_none hg3 hp')]; exact hg3
  refine ⟨g, _, _, rfl, rfl, hg4, by show 0 < sizeLine; decide, ?_⟩
  refine ⟨_, rfl, _, rfl, ?_⟩
  refine (show (if true = true then _ else _) from ?_)
  rw [if_pos rfl]
  refine ⟨_, rfl, g, _, rfl, .inl ⟨SqL.of upd_same, fun u hu => q u _ ?_⟩⟩
  have s4 : Same H (upd (upd H3 p (.tup [.non, .non, .non])) g (.lst [.ref p])) := same_over ((sg.trans (s2.trans s3)).trans (same_upd hp')) hg
  exact s4.trans (same_upd hu)
def spNInit (C : Addr) : Sp := fun vs H Q _ => ∃ (m dx l : Addr), vs = [.ref m, .ref l] ∧ H m = some (.ins C dx []) ∧ Pcs H l ∧ ∀ H' u, H' m = some (.ins C dx [("_pieces", u)]) → Bt m H H' → Q .non H'
structure NMc (K : PySem.W.Frag) (C : Addr) : Prop where
  cl : Cls K C
  nP : NoAttr K C "_pieces"
theorem ok_ninit (F : FM K "__init__" "NumberMap.__init__" s_ninit f fd) (T : TW mg) (tt : mg "tuple" = none) (tl : mg "list" = none) (tr : mg "range" = none) (N : NMc K C) (IP : Kn P w K mg base 2 "_is_piece" fP dP ["pieces", "position"] spPiece) (NP : Kn P w K mg base 2 "_normal_pieces" fN dN ["pieces"] spPieces) (XI : XcO P w K mg base CI fI dI "InvalidMap" "position") :
    FnOk P w K mg base CX0 3 f fd ["self", "pieces"] (spNInit C) := by
  refine F.ok sc_ninit (fun vs H Q E h => ?_) (fun cdv A outer s H vs Q E hr h => ?_)
  · obtain ⟨m, dx, l, rfl, _⟩ := h
    rfl
  obtain ⟨m, dx, l, rfl, hm, hp, q⟩ := h
  have hr2 : Room 2 _ := hr
  refine ⟨_, PSs.nox (pss_cons (ps_if (PW.pt (pw_or (pt_not (pt_val (pe_callB call_isiT (by rfl) T.isi boot_isi (pa_cons (pv 1) (pa_cons (pe_tup (pa_cons (pe_bltn (v := .ty "list") (by rfl) tl (by decide +kernel) rfl) (pa_cons (pe_bltn (v := .ty "tuple") (by rfl) tt (by decide +kernel) rfl) pa_nil))) pa_nil))))) (pw_or1 (pt_cmpR op_eq (pe_callB call_len_seq (by rfl) T.len boot_len (pa_cons (pv 1) pa_nil)) pe_int (nomark _))))) pss_never pss_nil)
    (pss_cons (ps_for .never (by rfl) (pi_range1 rfl tr (pa_cons (pe_callB call_len_seq (by rfl) T.len boot_len (pa_cons (pv 1) pa_nil)) pa_nil)) (pg_name (i := 2) sc_ninit.nd rfl (Or.inl rfl)) (pss_one (ps_if (pt_not (pt_val (pe_call IP.f hr rfl IP.m IP.k IP.b .nil pass0 (pa_cons (pv 1) (pa_cons (pv 2) pa_nil))))) pss_never pss_nil)))
    (pss_one (ps_fld (pv 0) (pe_call NP.f hr rfl NP.m NP.k NP.b .nil pass0 (pa_cons (pv 1) pa_nil)) rfl)))), ?_⟩
  obtain ⟨t, hl, ht⟩ := hp
  refine ⟨_, rfl, by show 2 ≤ sizeLine; decide, fun p hp' => ?_⟩
  have s1 : Same H (upd H p (.tup [.ty "list", .ty "tuple"])) := same_upd hp'
  refine ⟨.ref l, p, _, .type "list", [.type "list", .type "tuple"], true, rfl, upd_same, .cons (.ty _) (.cons (.ty _) .nil), .base (.lst (s1 _ _ hl)), ?_, true, rfl, ?_⟩
  · have e : PySem.W.kitOne K (.type "list") (.type "list") = some true := kit_ty (by decide +kernel)
    show (match PySem.W.kitOne K (.type "list") (.type "list") with | some true => some true | some false => (match PySem.W.kitOne K (.type "list") (.type "tuple") with | some true => some true | some false => some false | none => none) | none => none) = some true
    rw [e]
  refine (show (if (!true) = true then _ else _) from ?_)
  rw [if_neg (by decide)]
  have hl1 := s1 _ _ hl
  have ht1 := s1 _ _ ht
  have hm1 := s1 _ _ hm
  generalize upd H p (.tup [.ty "list", .ty "tuple"]) = H1 at s1 hl1 ht1 hm1
  refine ⟨_, rfl, l, _, rfl, .inl (SqL.of hl1), rfl, false, ?_, ?_⟩
  · show V.bl (decide (V.int ((([V.ref t] : List V).length : Nat) : Int) = V.int 0)) = V.bl false
    rw [decide_eq_false (by intro e; cases e)]
  refine (show (if false = true then _ else _) from ?_)
  rw [if_neg (by decide)]
  refine ⟨_, rfl, l, _, rfl, .inl (SqL.of hl1), _, rfl, (by show -(2 ^ 62) ≤ (1 : Int); decide), (by show (1 : Int) < 2 ^ 62; decide), ?_⟩
  refine for_range (lo := 0) (n := 1) (fun i σ' H' => (∃ x : Option V, σ' = [some (.ref m), some (.ref l), x]) ∧ Same H1 H') ⟨⟨none, rfl⟩, Same.refl _⟩ (fun i σ' H2 hi ⟨⟨x, e⟩, z⟩ => ?_) (fun σ' H2 ⟨⟨x, e⟩, z⟩ => ?_)
  · subst e
    have hi0 : i = 0 := by omega
    subst hi0
    refine ⟨_, rfl, _, rfl, l, rfl, ⟨t, z _ _ hl1, z _ _ ht1⟩, fun H3 s3 => ⟨true, rfl, ?_⟩⟩
    refine (show (if (!true) = true then _ else _) from ?_)
    rw [if_neg (by decide)]
    exact ⟨⟨_, rfl⟩, z.trans s3⟩
  · subst e
    refine ⟨_, rfl, l, rfl, ⟨t, z _ _ hl1, z _ _ ht1⟩, fun u H3 s3 => ?_⟩
    refine ⟨_, rfl, m, C, dx, _, rfl, s3 _ _ (z _ _ hm1), N.cl, N.nP, by decide, ?_⟩
    refine q _ (.ref u) upd_same fun b o nb eb => ?_
    rw [upd_ne nb]
    exact s3 _ _ (z _ _ (s1 _ _ eb))
def spNSame (C : Addr) : Sp := fun vs H Q _ => vs = [.ref C] ∧ ∀ (m dx : Addr) (u : V) H', H' m = some (.ins C dx [("_pieces", u)]) → Same H H' → Q (.ref m) H'
theorem ok_nsame (F : FM K "same" "NumberMap.same" s_nsame f fd) (M : Mk K C fI) (G : FnOk P w K mg base CX0 3 fI dI ["self", "pieces"] (spNInit C)) (b : Binds K dI ["self", "pieces"] []) : FnOk P w K mg base CX0 5 f fd ["cls"] (spNSame C) := by
  refine F.ok sc_nsame (fun vs H Q E h => ?_) (fun cdv A outer s H vs Q E hr h => ?_)
  · obtain ⟨rfl, _⟩ := h
    rfl
  obtain ⟨rfl, q⟩ := h
  refine ⟨_, PSs.nox (pss_one (ps_ret (pe_makeL (i := 0) M G hr rfl (.inl rfl) b .nil pass0 (pa_cons (pe_lst (pa_cons (pe_tup (pa_cons pe_non (pa_cons pe_non (pa_cons pe_non pa_nil)))) pa_nil)) pa_nil)))), ?_⟩
  refine ⟨rfl, by show 3 ≤ sizeLine; decide, fun t ht => ⟨by show 1 ≤ sizeLine; decide, fun l hl => fun m dx hm hdx ne => ?_⟩⟩
  have s1 : Same H (upd (upd H t (.tup [.non, .non, .non])) l (.lst [.ref t])) := (same_upd ht).trans (same_upd hl)
  have tl : t ≠ l := ne_of_none upd_same hl
  have n : ∀ {c : Addr} {o : HO}, (upd (upd H t (.tup [.non, .non, .non])) l (.lst [.ref t])) c = some o → c ≠ m ∧ c ≠ dx := fun {c o} e => ⟨ne_of_none e hm, ne_of_none e hdx⟩
  have et : (upd (upd H t (.tup [.non, .non, .non])) l (.lst [.ref t])) t = some (.tup [.non, .non, .non]) := by rw [upd_ne tl, upd_same]
  have el : (upd (upd H t (.tup [.non, .non, .non])) l (.lst [.ref t])) l = some (.lst [.ref t]) := upd_same
  generalize upd (upd H t (.tup [.non, .non, .non])) l (.lst [.ref t]) = H1 at *
  refine ⟨m, dx, l, rfl, upd_same, ⟨t, by rw [upd_ne (n el).1, upd_ne (n el).2]; exact el, by rw [upd_ne (n et).1, upd_ne (n et).2]; exact et⟩, fun H' u e hB => ?_⟩
  exact ⟨rfl, q m dx u H' e (s1.trans (made_same hm hdx ne rfl hB))⟩
end
end C12

end PY12
section PZ12
set_option maxHeartbeats 4000000
namespace L2
open PySem PySem.Spec PyProof.Rows
section
variable {X : Cx}
/-- d.values() -/
def rValuesD : V → List V → Hp → VK → Prop := fun x vs H Q => ∃ (a : Addr) (kvs : List (Key × V)), x = .ref a ∧ vs = [] ∧ H a = some (.dK kvs) ∧ ∀ p, H p = none → Q (.ref p) (upd H p (viewO "dict_values" p a))
theorem mt_valuesD : MtR X "dict.values" rValuesD := by
  intro pins s σ H x xs v us Q I rx rxs h
  obtain ⟨a, kvs, rfl, rfl, ha, q⟩ := h
  cases rx
  cases rxs
  obtain ⟨z, hd, vs, rel, dd⟩ := dk_of I.hok ha
  refine call_meetsIn PySem.F.slot_dict_values dd.typeIs PySem.F.entry_dict_values (PySem.F.args_dict_values_1 _) (meets_dict_values (mixKind X.prog X.w) a hd) ⟨⟨vs, dd⟩, ?_⟩
  exact ⟨.ref s.heap.objs.size, upd H s.heap.objs.size (viewO "dict_values" s.heap.objs.size a), I.laid (t' := s.toks) (fun b u e => Heap.get?_push_of_some _ e) (Nat.le_refl _) (viewO_ok (Heap.get?_push_size _ rfl)), rfl, q _ (I.hok.fresh (Nat.le_refl _))⟩
theorem vals_snd : ∀ {kvs : List (Key × V)} {vs : List (Key × Value)}, KV kvs vs → Vals (kvs.map (·.2)) (vs.map (·.2)) := fun {kvs vs} r => by
  unfold KV at r
  induction r with
  | nil => exact .nil
  | cons h t ih => exact .cons h.2 ih
/-- list(v), v the values of a dict -/
def rListV : List V → Hp → VK → Prop := fun xs H Q => ∃ (p a : Addr) (kvs : List (Key × V)), xs = [.ref p] ∧ H p = some (viewO "dict_values" p a) ∧ H a = some (.dK kvs) ∧ ∀ q, H q = none → Q (.ref q) (upd H q (.lst (kvs.map (·.2))))
theorem call_listV (hcalm : X.calm = true) : CallR X (.type "list") rListV := by
  intro pins s σ H xs us Q I r q
  obtain ⟨p, a, kvs, ex, hp, hd, q⟩ := q
  subst ex
  obtain ⟨u, eu, rx⟩ := vals1 r
  subst eu
  cases rx
  obtain ⟨z, lo, vs, rel, dd⟩ := dk_of I.hok hd
  obtain ⟨ep, hat⟩ := dd.dictAt
  have hv : s.heap.get? p = some (DSub.viewOb "dict_values" a) := (show ObjOk X.prog X.w H s.heap p (viewO "dict_values" p a) from I.hok p _ hp).1
  have vw : s.heap.IsValuesView p a := ⟨_, hv, rfl, rfl⟩
  refine PySem.W.kdl_call (PySem.W.kdl_values (knd := mixKind X.prog X.w) (kvs := vs) (ep := ep)) (I.ok.hd hcalm) ⟨vw, hat⟩ (by rw [← rel.length]; exact z) fun h' tk acc c' hk hD hacc => ?_
  have e : acc.toList = vs.map (·.2) := by
    apply List.ext_getElem?
    intro i
    rw [List.getElem?_map]
    cases ei : acc.toList[i]? with
    | some y =>
      obtain ⟨k, ek⟩ := hacc.2 i y (by rw [← Array.getElem?_toList]; exact ei)
      rw [ek] <;> rfl
    | none =>
      have l := List.getElem?_eq_none_iff.mp ei
      rw [Array.length_toList, hacc.1] at l
      rw [List.getElem?_eq_none l] <;> rfl
  have hv2 : Vals (kvs.map (·.2)) acc.toList := by
    rw [e]
    exact vals_snd rel
  exact ⟨.ref s.heap.objs.size, upd H s.heap.objs.size (.lst (kvs.map (·.2))), I.laid (t' := tk) hk (Nat.le_refl _) (show ObjOk X.prog X.w _ _ _ (.lst (kvs.map (·.2))) from ⟨by rw [List.length_map]; exact z, acc.toList, c', hv2, by rw [Array.toArray_toList]; exact hD⟩), rfl, q _ (I.hok.fresh (Nat.le_refl _))⟩
end
end L2

end PZ12
section PA13
set_option maxHeartbeats 4000000
namespace C12
open PySem L2
/-! ### the exceptions that the law keeps itself -/
abbrev s_needed : Stmt := top 29
structure TD12 (mg : Str → Option Value) : Prop where
  dict : mg "dict" = none
  list : mg "list" = none
  set : mg "set" = none
  sorted : mg "sorted" = none
theorem paired_snoc {α β : Type} {R : α → β → Prop} {x : α} {y : β} (r : R x y) : ∀ {xs : List α} {ys : List β}, Paired R xs ys → Paired R (xs ++ [x]) (ys ++ [y])
  | [], [], _ => .cons r .nil
  | _ :: _, _ :: _, .cons a t => .cons a (paired_snoc r t)
theorem merge_self : ∀ (ls ks : List (Key × V)), ((ks ++ ls).map (·.1)).Nodup → mergeK ks ls = ks ++ ls
  | [], ks, _ => by rw [List.append_nil]; rfl
  | (k, v) :: r, ks, nd => by
    show mergeK (putK ks k v) r = ks ++ (k, v) :: r
    have hk : k ∉ ks.map (·.1) := fun hm => by
      rw [List.map_append] at nd
      exact (List.nodup_append.mp nd).2.2 k hm k (by simp) rfl
    rw [put_new hk, merge_self r (ks ++ [(k, v)]) (by rw [List.append_assoc]; exact nd), List.append_assoc] <;> rfl
theorem merge_nil {ls : List (Key × V)} (nd : (ls.map (·.1)).Nodup) : mergeK [] ls = ls := merge_self ls [] nd
def spNeeded : Sp := fun vs H Q _ => ∃ (d : Addr) (kvs : List (Key × V)) (r : V), vs = [.ref d, r] ∧ H d = some (.dK kvs) ∧ Tab 60 kvs ∧ RestOk r ∧ ∀ D H' ex, NormOf kvs r ex → H D = none → Same H H' → H' D = some (.dK ex) → Q (.ref D) H'
theorem sc_needed : FnScope ["_law_table_here", "_law_last", "_law_word_here"] ["_law_table_here", "_law_last"] (defScope s_needed) := ⟨rfl, rfl, rfl, by decide +kernel, rfl, by decide +kernel, by decide +kernel⟩
section
variable {P : Program} {w : World} {K : PySem.W.Frag} {mg : Str → Option Value} {base : Heap} {f : Addr} {fd : FuncData}
theorem ok_needed (F : FD K "_law_needed" s_needed f fd) (T : TD12 mg) : FnOk P w K mg base CX0 1 f fd ["_law_table_here", "_law_last"] spNeeded := by
  refine F.ok sc_needed (fun vs H Q E h => ?_) (fun cdv A outer s H vs Q E hr h => ?_)
  · obtain ⟨d, kvs, r, rfl, _⟩ := h
    rfl
  obtain ⟨d, kvs, r, rfl, hd, tab, hrest, q⟩ := h
  have hu := hr.units
  have hu1 : A.units + 3 + 1 < cLine := by have h : A.units + 3 + 64 < cLine := hu; omega
  refine ⟨_, PSs.nox (pss_one (ps_ret (pe_callTy (call_dictP rfl) (by rfl) T.dict (by decide +kernel) (pa_cons (pe_lc (own := [("_law_word_here", 2)]) (g := gName 2) (te := tTup (tCons (tVar 2) (tCons (tDGet (tVar 0) (tVar 2)) tNil))) rfl sc_needed.nd (pi_list (pe_callB (call_sortedD rfl) (by rfl) T.sorted boot_sorted (pa_cons (pv 0) pa_nil)))
      (blkOk_by (N := ["_law_table_here", "_law_last", "_law_word_here"]) (sc := defScope s_needed) (by decide +kernel)) (fun _ _ _ _ _ => pg_name (i := 2) sc_needed.nd rfl (Or.inl rfl)) (fun _ _ _ _ _ => pts_one (pt_cmpR op_ne (pe_dget hu1 (pv 0) (pv 2) (fun _ _ => rfl)) (pe_ifExp (pt_cmp (pc_isN (pv 1))) (pv 2) (pv 1)) (nomark _)))
      (fun _ _ _ _ _ => by exact (pe_tup (pa_cons (pv 2) (pa_cons (pe_dget hu1 (pv 0) (pv 2) (fun _ _ => rfl)) pa_nil))))) pa_nil)))), ?_⟩
  obtain ⟨ks, hks⟩ := tab_keys tab
  have lks : ks.length ≤ 60 := by
    have := congrArg List.length hks
    rw [List.length_map, List.length_map] at this
    have := tab.len
    omega
  refine ⟨_, rfl, d, kvs, ks, rfl, .inl hd, hks, by omega, fun ys p hperm hsort hp => ⟨p, rfl, ⟨_, SqL.of upd_same⟩, fun D hD => ?_⟩⟩
  have ksn : ks.Nodup := by
    have n := tab.nd
    rw [hks] at n
    exact List.Pairwise.imp (fun h e => h (congrArg Sum.inr e)) (List.pairwise_map.mp n)
  have ysn : ys.Nodup := hperm.nodup_iff.mpr ksn
  have lys : ys.length = ks.length := hperm.length_eq
  have s1 : Same H (upd H p (.lst (ys.map V.str))) := same_upd hp
  have hd1 := s1 _ _ hd
  have hp1 : (upd H p (.lst (ys.map V.str))) p = some (.lst (ys.map V.str)) := upd_same
  have hDn : H D = none := Same.free s1 hD
  generalize upd H p (.lst (ys.map V.str)) = H1 at *
  -- so far: a list at D of new pairs
  refine lc_list (xs := ys.map V.str) (fun i H' => Same H1 H' ∧ ∃ ts : List Addr, H' D = some (.lst (ts.map V.ref)) ∧ Paired (fun t (kv : Key × V) => H' t = some (.tup [kV kv.1, kv.2])) ts (((ys.take i).filter fun k => !decide (atV kvs .non k = orV r k)).map fun k => (Sum.inr k, atV kvs .non k))) ⟨same_upd hD, [], upd_same, .nil⟩ (fun i H' _ ⟨z, _⟩ => SqL.of (z _ _ hp1)) (fun i x H6 hx ⟨z6, ts, hD6, pr⟩ => ?_) fun H6 ⟨z6, ts, hD6, pr⟩ => ?_
  · have hi : i < ys.length := by
      have := (List.getElem?_eq_some_iff.mp hx).1
      rwa [List.length_map] at this
    have ek : ys[i]? = some (ys[i]'hi) := List.getElem?_eq_getElem hi
    rw [List.getElem?_map, ek] at hx
    generalize ys[i]'hi = k at ek hx
    cases (show V.str k = x from Option.some.inj hx)
    have hmem : (Sum.inr k : Key) ∈ kvs.map (·.1) := by
      rw [hks]
      exact List.mem_map.mpr ⟨k, hperm.mem_iff.mp (List.mem_of_getElem? ek), rfl⟩
    obtain ⟨b, wk, wb, hv⟩ := tab_key tab hmem
    have av : atV kvs .non k = .str b := by unfold atV; rw [hv]
    have tk : ys.take (i + 1) = ys.take i ++ [k] := by rw [List.take_succ, ek]; rfl
    have hd6 := z6 _ _ hd1
    have dg : DGet H6 d (.str k) (some (.str b)) := hv ▸ DGet.k (k := Sum.inr k) hd6
    obtain ⟨y, ey⟩ := orV_str hrest k
    have lts : ts.length ≤ 60 := by
      rw [pr.length, List.length_map]
      have l1 := List.length_filter_le (fun k => !decide (atV kvs .non k = orV r k)) (ys.take i)
      have l2 : (ys.take i).length ≤ ys.length := by rw [List.length_take]; exact Nat.min_le_right _ _
      omega
    refine ⟨rfl, ?_⟩
    have test : ∀ Q' : Bool → Hp → Prop, Q' (!decide (V.str b = orV r k)) H6 → tTest (tOp rNe (tDGet (tVar 0) (tVar 2)) (tIf (tB (tIsN (tVar 1))) (tVar 2) (tVar 1))) [some (.ref d), some r, some (.str k)] H6 Q' := fun Q' q' => by
      refine ⟨_, rfl, _, rfl, d, _, rfl, dg, _, rfl, _, rfl, ?_⟩
      by_cases hn : r = .non
      · subst hn
        refine (show (if decide (V.non = V.non) = true then _ else _) from ?_)
        rw [decide_eq_true rfl, if_pos rfl]
        exact ⟨_, rfl, rfl, _, rfl, q'⟩
      · refine (show (if decide (r = V.non) = true then _ else _) from ?_)
        rw [decide_eq_false hn, if_neg (by decide)]
        have er : orV r k = r := if_neg hn
        rw [er] at q' ey
        refine ⟨_, rfl, by rw [ey] <;> rfl, _, rfl, q'⟩
    refine test _ ?_
    cases hc : !decide (V.str b = orV r k) with
    | true =>
      rw [if_pos rfl]
      refine ⟨_, rfl, _, rfl, _, rfl, d, _, rfl, dg, by show 2 ≤ sizeLine; decide, fun t ht => ?_⟩
      have s7 : Same H6 (upd H6 t (.tup [.str k, .str b])) := same_upd ht
      have nt : t ≠ D := fun e => by
        rw [e, hD6] at ht
        cases ht
      refine ⟨_, s7 _ _ hD6, by rw [List.length_map]; exact Nat.lt_of_le_of_lt lts (by decide), same_over (z6.trans s7) hD, ts ++ [t], by rw [upd_same, List.map_append]; rfl, ?_⟩
      have keep : ∀ c xs, H6 c = some (HO.tup xs) → (upd (upd H6 t (.tup [.str k, .str b])) D (.lst (ts.map V.ref ++ [.ref t]))) c = some (HO.tup xs) := fun c xs e => by
        have nc : c ≠ D := fun z => by
          rw [z, hD6] at e
          cases e
        rw [upd_ne nc]
        exact s7 _ _ e
      rw [tk, List.filter_append, List.filter_cons, List.filter_nil, av, if_pos hc, List.map_append, List.map_cons, List.map_nil, av]
      refine paired_snoc ?_ (pr.mono fun c kv e => keep c _ e)
      rw [upd_ne nt, upd_same]
      rfl
    | false =>
      rw [if_neg (by decide)]
      refine ⟨z6, ts, hD6, ?_⟩
      rw [tk, List.filter_append, List.filter_cons, List.filter_nil, av, if_neg (by rw [hc]; decide), List.append_nil]
      exact pr
  · rw [List.length_map, List.take_of_length_le (Nat.le_refl _)] at pr
    have hnorm : NormOf kvs r ((ys.filter fun k => !decide (atV kvs .non k = orV r k)).map fun k => (Sum.inr k, atV kvs .non k)) := ⟨ks, ys, hks, hperm, hsort, rfl⟩
    refine ⟨D, ts, _, rfl, SqL.of hD6, pr.mono fun c kv e => SqT.of e, fun u hu => ?_⟩
    rw [merge_nil (norm_NL tab (Nat.le_refl _) hnorm).nd]
    have hu0 : H u = none := Same.free (s1.trans z6) hu
    exact q u _ _ hnorm hu0 ((s1.trans z6).trans (same_upd hu)) upd_same
end
end C12

end PA13
section PB13
set_option maxHeartbeats 4000000
namespace C12
open PySem L2
/-! ### the words that the law asks, and what a map says of them -/
abbrev s_words : Stmt := top 30
abbrev s_agrees : Stmt := top 31
def spWords : Sp := fun vs H Q _ => ∃ (T L : Addr) (ts : List (Addr × List (Key × V))) (rs : List V), vs = [.ref T, .ref L] ∧ H T = some (.lst (ts.map fun p => V.ref p.1)) ∧ (∀ p ∈ ts, H p.1 = some (.dK p.2) ∧ Tab 8 p.2) ∧ H L = some (.lst rs) ∧ (∀ r ∈ rs, RestOk r) ∧ ts.length ≤ 2 ∧ rs.length ≤ 2 ∧
  ∀ p (ys : List Str) H', Same H H' → H' p = some (.lst (ys.map V.str)) → (∀ y ∈ ys, wordB y 12 = true) → (∀ q ∈ ts, ∀ z : Str, (Sum.inr z : Key) ∈ q.2.map (·.1) → z ∈ ys) → ys.length ≤ 60 → Q (.ref p) H'
abbrev nWords : List Str := ["_law_tables", "_law_lasts", "_law_found", "_law_last", "_law_table_here"]
theorem sc_words : FnScope nWords ["_law_tables", "_law_lasts"] (defScope s_words) := ⟨rfl, rfl, rfl, by decide +kernel, rfl, by decide +kernel, by decide +kernel⟩
abbrev six : List Str := ["a", "b", "c", "ab", "zzzzzzzzzzzz", "abcdefghijkl"]
theorem six_ok : ∀ z ∈ six, wordB z 12 = true := by decide +kernel
/-- the words among some rests -/
def restWords : List V → List Str
  | [] => []
  | .str z :: r => z :: restWords r
  | _ :: r => restWords r
theorem restWords_snoc : ∀ (l : List V) (x : V), restWords (l ++ [x]) = restWords l ++ (match x with | .str z => [z] | _ => [])
  | [], x => by cases x <;> rfl
  | y :: l, x => by
    have ih := restWords_snoc l x
    cases y <;> simp only [List.cons_append, restWords, ih] <;> rfl
theorem restWords_ok : ∀ {l : List V}, (∀ r ∈ l, RestOk r) → ∀ z ∈ restWords l, wordB z 12 = true
  | [], _, z, hz => absurd hz List.not_mem_nil
  | y :: l, h, z, hz => by
    rcases h y List.mem_cons_self with rfl | ⟨x, rfl, hx⟩
    · exact restWords_ok (fun r hr => h r (List.mem_cons_of_mem _ hr)) z hz
    · rcases List.mem_cons.mp (show z ∈ x :: restWords l from hz) with e | hz
      · rw [e]
        exact hx
      · exact restWords_ok (fun r hr => h r (List.mem_cons_of_mem _ hr)) z hz
theorem restWords_len : ∀ (l : List V), (restWords l).length ≤ l.length
  | [] => Nat.le_refl _
  | y :: l => by
    have ih := restWords_len l
    cases y <;> simp only [restWords, List.length_cons] <;> omega
/-- the texts of a table: its keys, then its values -/
theorem tab_texts {n : Nat} {kvs : List (Key × V)} (t : Tab n kvs) : ∃ ks us : List Str, (kvs.map fun kv => kV kv.1) = ks.map V.str ∧ kvs.map (·.2) = us.map V.str ∧ (∀ z ∈ ks, wordB z 12 = true) ∧ (∀ z ∈ us, wordB z 12 = true) ∧ (∀ z : Str, (Sum.inr z : Key) ∈ kvs.map (·.1) → z ∈ ks) ∧ ks.length ≤ n ∧ us.length ≤ n := by
  obtain ⟨ks, e⟩ : ∃ ks : List (Str × Str), kvs = ks.map (fun p => ((Sum.inr p.1 : Key), V.str p.2)) ∧ ∀ p ∈ ks, wordB p.1 12 = true ∧ wordB p.2 12 = true := by
    have h := t.each
    clear t
    induction kvs with
    | nil => exact ⟨[], rfl, fun p h => absurd h List.not_mem_nil⟩
    | cons q r ih =>
      obtain ⟨ks, e1, e2⟩ := ih fun x hx => h x (List.mem_cons_of_mem _ hx)
      obtain ⟨a, b, rfl, wa, wb⟩ := h q List.mem_cons_self
      exact ⟨(a, b) :: ks, by rw [List.map_cons, e1], fun p hp => by
        rcases List.mem_cons.mp hp with rfl | hp
        · exact ⟨wa, wb⟩
        · exact e2 p hp⟩
  obtain ⟨e1, e2⟩ := e
  have l := t.len
  rw [e1, List.length_map] at l
  refine ⟨ks.map (·.1), ks.map (·.2), ?_, ?_, fun z hz => ?_, fun z hz => ?_, fun z hz => ?_, by rw [List.length_map]; exact l, by rw [List.length_map]; exact l⟩
  · rw [e1, List.map_map, List.map_map] <;> rfl
  · rw [e1, List.map_map, List.map_map] <;> rfl
  · obtain ⟨p, hp, rfl⟩ := List.mem_map.mp hz
    exact (e2 p hp).1
  · obtain ⟨p, hp, rfl⟩ := List.mem_map.mp hz
    exact (e2 p hp).2
  · rw [e1, List.map_map] at hz
    obtain ⟨p, hp, e⟩ := List.mem_map.mp hz
    exact List.mem_map.mpr ⟨p, hp, Sum.inr.inj e⟩
section
variable {P : Program} {w : World} {K : PySem.W.Frag} {mg : Str → Option Value} {base : Heap} {f fW fA fT : Addr} {fd dW dA dT : FuncData}
theorem ok_words (F : FD K "_law_words" s_words f fd) (T : TD12 mg) : FnOk P w K mg base CX0 1 f fd ["_law_tables", "_law_lasts"] spWords := by
  refine F.ok sc_words (fun vs H Q E h => ?_) (fun cdv A outer s H vs Q E hr h => ?_)
  · obtain ⟨T, L, ts, rs, rfl, _⟩ := h
    rfl
  obtain ⟨TT, L, ts, rs, rfl, hT, hts, hL, hrs, nT, nL, q⟩ := h
  refine ⟨_, PSs.nox (pss_cons (ps_set (i := 2) sc_words.nd rfl (Or.inl rfl) (pe_op op_cat (pe_lst (pa_cons pe_str (pa_cons pe_str (pa_cons pe_str (pa_cons pe_str (pa_cons pe_str (pa_cons pe_str pa_nil)))))))
      (pe_lc (own := [("_law_last", 3)]) (g := gName 3) (te := tVar 3) rfl sc_words.nd (pi_list (pv 1)) (blkOk_by (N := nWords) (sc := defScope s_words) (by decide +kernel)) (fun _ _ _ _ _ => pg_name (i := 3) sc_words.nd rfl (Or.inl rfl)) (fun _ _ _ _ _ => pts_one (pt_cmp (pc_notN (pv 3)))) (fun _ _ _ _ _ => by exact (pv 3)))))
    (pss_cons (ps_for .never (by rfl) (pi_list (pv 0)) (pg_name (i := 4) sc_words.nd rfl (Or.inl rfl))
      (pss_one (ps_set (i := 2) sc_words.nd rfl (Or.inl rfl) (pe_op op_cat (pe_op op_cat (pv 2) (pe_callTy (call_listD rfl) (by rfl) T.list (by decide +kernel) (pa_cons (pv 4) pa_nil))) (pe_callTy (call_listV rfl) (by rfl) T.list (by decide +kernel) (pa_cons (pe_bm0 PySem.F.plainAttrs_dict PySem.F.slot_dict_values PySem.F.type_dict_values mt_valuesD (pv 4)) pa_nil))))))
    (pss_one (ps_ret (pe_callB (cr_sortedTx rfl) (by rfl) T.sorted boot_sorted (pa_cons (pe_callTy (cr_setTx rfl) (by rfl) T.set (by decide +kernel) (pa_cons (pv 2) pa_nil)) pa_nil)))))), ?_⟩
  refine ⟨by show 6 ≤ sizeLine; decide, fun p hp => ⟨_, rfl, L, rfl, ⟨rs, SqL.of (same_upd hp _ _ hL)⟩, fun D hD => ?_⟩⟩
  have s1 : Same H (upd H p (.lst (six.map V.str))) := same_upd hp
  have hp1 : (upd H p (.lst (six.map V.str))) p = some (.lst (six.map V.str)) := upd_same
  have hD0 : H D = none := Same.free s1 hD
  have eq6 : (HO.lst [V.str "a", V.str "b", V.str "c", V.str "ab", V.str "zzzzzzzzzzzz", V.str "abcdefghijkl"]) = HO.lst (six.map V.str) := rfl
  rw [eq6] at hD ⊢
  generalize upd H p (.lst (six.map V.str)) = H1 at s1 hp1 hD ⊢
  have hL1 := s1 _ _ hL
  have hT1 := s1 _ _ hT
  refine lc_list (xs := rs) (fun i H' => Same H1 H' ∧ H' D = some (.lst ((restWords (rs.take i)).map V.str))) ⟨same_upd hD, upd_same⟩ (fun i H' _ ⟨z, _⟩ => SqL.of (z _ _ hL1)) (fun i x H6 hx ⟨z6, hD6⟩ => ?_) fun H6 ⟨z6, hD6⟩ => ?_
  · have tk : rs.take (i + 1) = rs.take i ++ [x] := by rw [List.take_succ, hx]; rfl
    have ho := hrs x (List.mem_of_getElem? hx)
    refine ⟨rfl, _, rfl, _, rfl, ?_⟩
    rcases ho with rfl | ⟨z, rfl, hz⟩
    · rw [show (!decide (V.non = V.non)) = false by rw [decide_eq_true rfl]; rfl, if_neg (by decide)]
      refine ⟨z6, ?_⟩
      rw [hD6, tk, restWords_snoc]
      simp
    · rw [show (!decide (V.str z = V.non)) = true by rw [decide_eq_false (fun e => nomatch e)]; rfl, if_pos rfl]
      refine ⟨_, rfl, _, hD6, ?_, same_over z6 hD, ?_⟩
      · have l1 := restWords_len (rs.take i)
        have l2 : (rs.take i).length ≤ rs.length := by rw [List.length_take]; exact Nat.min_le_right _ _
        rw [List.length_map]
        exact Nat.lt_of_le_of_lt (show _ ≤ 2 by omega) (by decide)
      · rw [upd_same, tk, restWords_snoc, List.map_append] <;> rfl
  · rw [List.take_length] at hD6
    refine ⟨p, D, _, _, rfl, rfl, z6 _ _ hp1, hD6, ?_, fun g hg => ?_⟩
    · have l1 := restWords_len rs
      rw [List.length_map, List.length_map]
      exact Nat.le_trans (show _ ≤ 8 by show 6 + _ ≤ 8; omega) (by decide)
    have s7 : Same H (upd H6 g (.lst (six.map V.str ++ (restWords rs).map V.str))) := (s1.trans z6).trans (same_upd hg)
    have hT7 := s7 _ _ hT
    refine ⟨_, rfl, TT, rfl, ⟨_, SqL.of hT7⟩, ?_⟩
    refine for_list (xs := ts.map fun p => V.ref p.1) (fun i σ' H' => Same H H' ∧ ∃ (g : Addr) (x3 x4 : Option V) (ws : List Str), σ' = [some (.ref TT), some (.ref L), some (.ref g), x3, x4] ∧ H' g = some (.lst (ws.map V.str)) ∧ (∀ z ∈ ws, wordB z 12 = true) ∧ (∀ q ∈ ts.take i, ∀ z : Str, (Sum.inr z : Key) ∈ q.2.map (·.1) → z ∈ ws) ∧ ws.length ≤ 8 + 16 * i)
      ⟨s7, g, none, none, six ++ restWords rs, rfl, by rw [upd_same, List.map_append], fun z hz => ?_, fun q hq => absurd hq (by simp), ?_⟩ (fun i σ' H' _ ⟨z, _⟩ => SqL.of (z _ _ hT)) (fun i x σ' H' hx ⟨z, g', x3, x4, ws, e0, hg', hw, hk, hl⟩ => ?_) (fun σ' H' ⟨z, g', x3, x4, ws, e0, hg', hw, hk, hl⟩ => ?_)
    · rcases List.mem_append.mp hz with h | h
      · exact six_ok z h
      · exact restWords_ok hrs z h
    · have l1 := restWords_len rs
      rw [List.length_append]
      show 6 + _ ≤ _
      omega
    · subst e0
      rw [List.getElem?_map] at hx
      cases ei : ts[i]? with
      | none =>
        rw [ei] at hx
        cases hx
      | some tq =>
        rw [ei] at hx
        cases (show V.ref tq.1 = x from Option.some.inj hx)
        have hi : i < ts.length := (List.getElem?_eq_some_iff.mp ei).1
        have htk : ts.take (i + 1) = ts.take i ++ [tq] := by rw [List.take_succ, ei]; rfl
        obtain ⟨hq1, hq2⟩ := hts tq (List.mem_of_getElem? ei)
        obtain ⟨ks, us, ek, eu, wk, wu, hmem, lk, lu⟩ := tab_texts hq2
        have hd' := z _ _ hq1
        refine ⟨_, rfl, _, rfl, tq.1, tq.2, rfl, .inl hd', fun p1 hp1' => ?_⟩
        have z1 := same_upd (o := HO.lst (tq.2.map fun kv => kV kv.1)) hp1'
        refine ⟨g', p1, _, _, rfl, rfl, z1 _ _ hg', upd_same, ?_, fun p2 hp2 => ?_⟩
        · rw [List.length_map, ek, List.length_map]
          exact Nat.le_trans (show _ ≤ 100 by omega) (by decide)
        have z2 := z1.trans (same_upd (o := HO.lst (ws.map V.str ++ tq.2.map fun kv => kV kv.1)) hp2)
        refine ⟨_, rfl, .inr (.inr (.inl ⟨rfl, .inl ⟨_, z2 _ _ hd'⟩⟩)), tq.1, tq.2, rfl, rfl, z2 _ _ hd', fun p3 hp3 => ?_⟩
        have z3 := z2.trans (same_upd (o := viewO "dict_values" p3 tq.1) hp3)
        refine ⟨p3, tq.1, tq.2, rfl, upd_same, z3 _ _ hd', fun p4 hp4 => ?_⟩
        have z4 := z3.trans (same_upd (o := HO.lst (tq.2.map (·.2))) hp4)
        have n32 : p2 ≠ p3 := ne_of_none upd_same hp3
        have n42 : p2 ≠ p4 := ne_of_none (by rw [upd_ne n32]; exact upd_same) hp4
        refine ⟨p2, p4, _, _, rfl, rfl, by rw [upd_ne n42, upd_ne n32, upd_same], upd_same, ?_, fun p5 hp5 => ?_⟩
        · rw [List.length_append, List.length_map, ek, List.length_map, eu, List.length_map]
          exact Nat.le_trans (show _ ≤ 100 by omega) (by decide)
        have z5 := z4.trans (same_upd (o := HO.lst (ws.map V.str ++ (tq.2.map fun kv => kV kv.1) ++ tq.2.map (·.2))) hp5)
        refine ⟨z.trans z5, p5, _, _, ws ++ ks ++ us, rfl, ?_, fun y hy => ?_, fun q2 hq2' y hy => ?_, ?_⟩
        · rw [upd_same, ek, eu, List.map_append, List.map_append]
        · rcases List.mem_append.mp hy with h | h
          · rcases List.mem_append.mp h with h | h
            · exact hw y h
            · exact wk y h
          · exact wu y h
        · rw [htk] at hq2'
          rcases List.mem_append.mp hq2' with h | h
          · exact List.mem_append_left _ (List.mem_append_left _ (hk q2 h y hy))
          · rw [List.mem_singleton.mp h] at hy
            exact List.mem_append_left _ (List.mem_append_right _ (hmem y hy))
        · rw [List.length_append, List.length_append]
          omega
    · subst e0
      rw [List.length_map] at hk hl
      rw [List.take_length] at hk
      refine ⟨_, rfl, g', ws, rfl, SqL.of hg', by omega, fun a ha => ?_⟩
      refine ⟨a, ws, rfl, upd_same, by omega, fun ys p hs nd hm hle hp => ?_⟩
      exact q p ys _ ((z.trans (same_upd ha)).trans (same_upd hp)) upd_same (fun y hy => hw y ((hm y).1 hy)) (fun q2 h2 y hy => (hm y).2 (hk q2 h2 y hy)) (by omega)
end
end C12

end PB13
section PC13
set_option maxHeartbeats 4000000
namespace C12
open PySem L2
def spAgrees (C : Addr) : Sp := fun vs H Q _ => ∃ (m d : Addr) (ex kvs : List (Key × V)) (r : V), vs = [.ref m, .ref d, r] ∧ TMap C H m ex r ∧ H d = some (.dK kvs) ∧ Tab 8 kvs ∧ RestOk r ∧ (∀ z, atV ex r z = atV kvs r z) ∧ ∀ H', Same H H' → Q (.bl true) H'
abbrev nAgrees : List Str := ["_law_mapping", "_law_table_here", "_law_last", "_law_words_here", "_law_word_here"]
theorem sc_agrees : FnScope nAgrees ["_law_mapping", "_law_table_here", "_law_last"] (defScope s_agrees) := ⟨rfl, rfl, rfl, by decide +kernel, rfl, by decide +kernel, by decide +kernel⟩
theorem atV_str {n : Nat} {kvs : List (Key × V)} {r : V} (t : Tab n kvs) (h : RestOk r) (z : Str) : ∃ y : Str, atV kvs r z = .str y := by
  cases e : valV kvs (Sum.inr z) with
  | none =>
    obtain ⟨y, ey⟩ := orV_str h z
    exact ⟨y, by rw [atV_of e]; exact ey⟩
  | some v =>
    obtain ⟨y, _, _, ey⟩ := tab_key t (valV_key.mp (by rw [e]; rfl))
    exact ⟨y, by rw [atV_of ey]; rfl⟩
theorem cutV_mem {xs : List V} {lo hi : Option Int} {x : V} (h : x ∈ cutV xs lo hi) : x ∈ xs := by
  unfold cutV at h
  exact List.mem_of_mem_drop (List.mem_of_mem_take h)
section
variable {P : Program} {w : World} {K : PySem.W.Frag} {mg : Str → Option Value} {base : Heap} {f C fW fA fT : Addr} {fd dW dA dT : FuncData}
theorem ok_agrees (F : FD K "_law_agrees" s_agrees f fd) (T : TMc K C) (ta : mg "all" = none) (W : Kn P w K mg base 1 "_law_words" fW dW ["_law_tables", "_law_lasts"] spWords) (GA : FnOk P w K mg base CX0 3 fA dA ["self", "value"] (spAtW C)) (bA : Binds K dA ["self", "value"] []) (mA : Meth K C "at" fA)
    (AT : Kn P w K mg base 1 "_law_at" fT dT ["_law_table_here", "_law_last", "_law_word_here"] spAt) : FnOk P w K mg base CX0 4 f fd ["_law_mapping", "_law_table_here", "_law_last"] (spAgrees C) := by
  refine F.ok sc_agrees (fun vs H Q E h => ?_) (fun cdv A outer s H vs Q E hr h => ?_)
  · obtain ⟨m, d, ex, kvs, r, rfl, _⟩ := h
    rfl
  obtain ⟨m, d, ex, kvs, r, rfl, tm, hd, tab, ro, hat, q⟩ := h
  refine ⟨_, PSs.nox (pss_cons (ps_set (i := 3) sc_agrees.nd rfl (Or.inl rfl) (pe_call W.f (hr.mono (by decide)) rfl W.m W.k W.b .nil pass0 (pa_cons (pe_lst (pa_cons (pv 1) pa_nil)) (pa_cons (pe_lst (pa_cons (pv 2) pa_nil)) pa_nil))))
    (pss_one (ps_ret (pe_callB (cr_all rfl) (by rfl) ta boot_all (pa_cons (pe_lc (own := [("_law_word_here", 4)]) (g := gName 4) (tt := tYes) (te := tOp rEq (tMeth C "at" (spAtW C) [] E0 (tVar 0) (tCons (tVar 4) tNil)) (tCall spAt [] E0 (tCons (tVar 1) (tCons (tVar 2) (tCons (tVar 4) tNil))))) rfl sc_agrees.nd (pi_list (pe_op op_cat (pv 3) (pe_slice sl_list (pv 3) po_none (po_some pe_int))))
      (blkOk_by (N := nAgrees) (sc := defScope s_agrees) (by decide +kernel)) (fun _ _ _ _ _ => pg_name (i := 4) sc_agrees.nd rfl (Or.inl rfl)) (fun _ _ _ _ _ => pts_nil)
      (fun _ _ _ _ _ => by exact (pe_cmpR op_eq (pe_meth (pv 0) T.cl mA GA hr bA .nil pass0 (pa_cons (pv 4) pa_nil)) (pe_call AT.f (hr.mono (by decide)) rfl AT.m AT.k AT.b .nil pass0 (pa_cons (pv 1) (pa_cons (pv 2) (pa_cons (pv 4) pa_nil)))) (nomark _)))) pa_nil))))), ?_⟩
  refine ⟨_, rfl, by show 1 ≤ sizeLine; decide, fun p1 hp1 => ⟨_, rfl, by show 1 ≤ sizeLine; decide, fun p2 hp2 => ?_⟩⟩
  have z1 := same_upd (o := HO.lst [V.ref d]) hp1
  have z2 := z1.trans (same_upd (o := HO.lst [r]) hp2)
  have n12 : p1 ≠ p2 := ne_of_none upd_same hp2
  refine ⟨p1, p2, [(d, kvs)], [r], rfl, by rw [upd_ne n12, upd_same]; rfl, fun q hq => ?_, upd_same, fun u hu => by rw [List.mem_singleton.mp hu]; exact ro, (by show 1 ≤ 2; decide), (by show 1 ≤ 2; decide), fun g ys H3 s3 hg hw _ hl => ?_⟩
  · rw [List.mem_singleton.mp hq]
    exact ⟨z2 _ _ hd, tab⟩
  have z3 := z2.trans s3
  refine ⟨_, rfl, _, rfl, 2, rfl, g, _, rfl, SqL.of hg, fun p4 hp4 => ?_⟩
  have z4 := z3.trans (same_upd (o := HO.lst (cutV (ys.map V.str) none (some 2))) hp4)
  have hg4 := (same_upd (o := HO.lst (cutV (ys.map V.str) none (some 2))) hp4) _ _ hg
  refine ⟨g, p4, _, _, rfl, rfl, hg4, upd_same, ?_, fun p5 hp5 => ?_⟩
  · have l := cutV_length (ys.map V.str) none (some 2)
    rw [List.length_map] at l ⊢
    exact Nat.le_trans (show _ ≤ 120 by omega) (by decide)
  have z5 := z4.trans (same_upd (o := HO.lst (ys.map V.str ++ cutV (ys.map V.str) none (some 2))) hp5)
  have h5 : (upd (upd H3 p4 (.lst (cutV (ys.map V.str) none (some 2)))) p5 (.lst (ys.map V.str ++ cutV (ys.map V.str) none (some 2)))) p5 = some (.lst (ys.map V.str ++ cutV (ys.map V.str) none (some 2))) := upd_same
  generalize upd (upd H3 p4 (.lst (cutV (ys.map V.str) none (some 2)))) p5 (.lst (ys.map V.str ++ cutV (ys.map V.str) none (some 2))) = H5 at z5 h5 ⊢
  have hmem : ∀ x ∈ ys.map V.str ++ cutV (ys.map V.str) none (some 2), ∃ z : Str, x = .str z ∧ wordB z 12 = true := fun x hx => by
    have hx' : x ∈ ys.map V.str := by
      rcases List.mem_append.mp hx with h | h
      · exact h
      · exact cutV_mem h
    obtain ⟨z, hz, rfl⟩ := List.mem_map.mp hx'
    exact ⟨z, rfl, hw z hz⟩
  have hlen : (ys.map V.str ++ cutV (ys.map V.str) none (some 2)).length ≤ 120 := by
    have l := cutV_length (ys.map V.str) none (some 2)
    rw [List.length_append]
    rw [List.length_map] at l ⊢
    omega
  generalize ys.map V.str ++ cutV (ys.map V.str) none (some 2) = xs at h5 hmem hlen
  refine ⟨p5, rfl, ⟨_, SqL.of h5⟩, fun D hD => ?_⟩
  refine lc_list (xs := xs) (fun i H' => Same H5 H' ∧ H' D = some (.lst (List.replicate i (V.bl true)))) ⟨same_upd hD, upd_same⟩ (fun i H' _ ⟨z, _⟩ => SqL.of (z _ _ h5)) (fun i x H6 hx ⟨z6, hD6⟩ => ?_) fun H6 ⟨z6, hD6⟩ => ?_
  · obtain ⟨z, rfl, hz⟩ := hmem x (List.mem_of_getElem? hx)
    have il : i < xs.length := (List.getElem?_eq_some_iff.mp hx).1
    obtain ⟨dx, e, hm, he⟩ := tm
    have hm6 := z6 _ _ (z5 _ _ hm)
    have he6 := z6 _ _ (z5 _ _ he)
    obtain ⟨y, ey⟩ := atV_str tab ro z
    refine ⟨rfl, ?_⟩
    simp only [tYes, ↓reduceIte]
    refine ⟨_, rfl, m, dx, _, rfl, hm6, rfl, _, rfl, m, ex, r, z, rfl, ⟨dx, e, hm6, he6⟩, hz, fun H7 s7 => ?_⟩
    have z7 := z6.trans s7
    refine ⟨_, rfl, _, rfl, _, rfl, d, kvs, r, z, rfl, z7 _ _ (z5 _ _ hd), ?_⟩
    rw [hat z, ey]
    refine ⟨rfl, _, s7 _ _ hD6, ?_, same_over z7 hD, ?_⟩
    · rw [List.length_replicate]
      exact Nat.lt_of_lt_of_le il (Nat.le_trans hlen (by decide))
    · rw [upd_same, decide_eq_true rfl, List.replicate_succ']
  · refine ⟨D, List.replicate xs.length true, rfl, SqL.of (by rw [hD6, List.map_replicate]), ?_⟩
    rw [all_true]
    exact q H6 (z5.trans z6)
end
end C12

end PC13
section PD13
set_option maxHeartbeats 4000000
namespace C12
open PySem PySem.Spec L2 PyProof.Rows
/-! ### lists of words as data -/
theorem word_ok {z : Str} (h : wordB z 12 = true) : PyData.strOk z = true := by
  unfold PyData.strOk
  rw [← Array.all_toList, List.all_eq_true]
  intro c hc
  have := (word_asc (m := 12) h).2 c hc
  exact decide_eq_true (by omega)
theorem canLay_strs : ∀ {ks : List Str}, (∀ k ∈ ks, wordB k 12 = true) → PyData.canLayAll0 (ks.map PyData.str) = true
  | [], _ => rfl
  | k :: r, h => by
    show (PyData.strOk k && PyData.canLayAll0 (r.map PyData.str)) = true
    rw [word_ok (h k List.mem_cons_self), canLay_strs fun x hx => h x (List.mem_cons_of_mem _ hx)] <;> rfl
theorem depth_strs : ∀ ks : List Str, PyData.depthAll (ks.map PyData.str) ≤ 1
  | [] => by simp [PyData.depthAll]
  | k :: r => by
    have := depth_strs r
    simp only [List.map_cons, PyData.depthAll, PyData.depth]
    omega
theorem shaped_strs {ks : List Str} (h : ∀ k ∈ ks, wordB k 12 = true) : SeqAt.shaped (.list (ks.map PyData.str)) = true := by
  have h1 := depth_strs ks
  have h2 : PyData.depth (.list (ks.map PyData.str)) ≤ 64 := by
    simp only [PyData.depth]
    omega
  show (PyData.canLayAll0 (ks.map PyData.str) && decide (PyData.depth (.list (ks.map PyData.str)) ≤ 64)) = true
  rw [canLay_strs h, decide_eq_true h2] <;> rfl
theorem eqv_strs : ∀ (ks ls : List Str), PyData.eqvAll (ks.map PyData.str) (ls.map PyData.str) = decide (ks = ls)
  | [], [] => rfl
  | [], _ :: _ => by
    rw [decide_eq_false (fun e => nomatch e)] <;> rfl
  | _ :: _, [] => by
    rw [decide_eq_false (fun e => nomatch e)] <;> rfl
  | k :: ks, l :: ls => by
    show ((k == l) && PyData.eqvAll (ks.map PyData.str) (ls.map PyData.str)) = _
    rw [eqv_strs ks ls]
    by_cases e : k = l
    · subst e
      rw [beq_self_eq_true, Bool.true_and]
      by_cases g : ks = ls
      · subst g
        rw [decide_eq_true rfl, decide_eq_true rfl]
      · rw [decide_eq_false g, decide_eq_false fun z => g (List.cons.inj z).2]
    · rw [beq_eq_false_iff_ne.mpr e, Bool.false_and, decide_eq_false fun z => e (List.cons.inj z).1]
theorem dp_strs {K : PySem.W.Frag} {H : Hp} : ∀ ks : List Str, DpAll K H (ks.map V.str) (ks.map PyData.str)
  | [] => .nil
  | k :: r => .cons (.str k) (dp_strs r)
theorem dp_words {K : PySem.W.Frag} {H : Hp} {l : Addr} {ks : List Str} (h : H l = some (.lst (ks.map V.str))) : Dp K H (.ref l) (.list (ks.map PyData.str)) := .lst (SqL.of h) (dp_strs ks)
theorem scal_rest {r : V} (h : RestOk r) : scal r r = true := by
  rcases h with rfl | ⟨z, rfl, _⟩ <;> rfl
/-- what is known of the map's own ==, repr, properties -/
structure EqF (P : Program) (w : World) (K : PySem.W.Frag) (mg : Str → Option Value) (base : Heap) (C CN fE : Addr) (dE : FuncData) : Prop where
  o : EqO K C fE
  g : FnOk P w K mg base CX0 2 fE dE ["self", "other"] (spEq C CN)
  b : Binds K dE ["self", "other"] []
structure ReF (P : Program) (w : World) (K : PySem.W.Frag) (mg : Str → Option Value) (base : Heap) (C fR : Addr) (dR : FuncData) : Prop where
  s : PySem.W.findIn K (.ref C) "__repr__" = some (some (.ref fR))
  fn : PySem.W.isFn K (.ref fR) = true
  g : FnG P w K mg base CX0 1 fR dR ["self"] (spReprT C)
  b : Binds K dR ["self"] []
structure PrF (P : Program) (w : World) (K : PySem.W.Frag) (mg : Str → Option Value) (base : Heap) (C p fP : Addr) (dP : FuncData) (nm : Str) (sp : Sp) : Prop where
  p : PropOf K C nm p fP
  g : FnOk P w K mg base CX0 1 fP dP ["self"] sp
  b : Binds K dP ["self"] []
theorem notFirst_self {K : PySem.W.Frag} {C : Addr} : PySem.W.notFirst K C (.ref C) = true := by simp [PySem.W.notFirst]
abbrev s_told : Stmt := top 32
def spTold (C : Addr) : Sp := fun vs H Q _ => ∃ (m d : Addr) (ex kvs : List (Key × V)) (r : V), vs = [.ref m, .ref d, r] ∧ TMap C H m ex r ∧ H d = some (.dK kvs) ∧ Tab 8 kvs ∧ RestOk r ∧ NormOf kvs r ex ∧ ∀ H', Same H H' → Q (.bl true) H'
abbrev nTold : List Str := ["_law_mapping", "_law_table_here", "_law_last", "_law_due", "_law_told", "_law_fewer"]
theorem sc_told : FnScope nTold ["_law_mapping", "_law_table_here", "_law_last"] (defScope s_told) := ⟨rfl, rfl, rfl, by decide +kernel, rfl, by decide +kernel, by decide +kernel⟩
theorem boot_repr : bootBuiltins "repr" = some (.builtin "repr") := by decide +kernel
theorem flat_same {ex : List (Key × V)} (h : NL ex) : ∀ p ∈ ex, valV ex p.1 = some p.2 ∧ flatB p.2 = true := fun p hp => by
  obtain ⟨i, hi⟩ := List.getElem?_of_mem hp
  refine ⟨get_at h.nd hi, ?_⟩
  obtain ⟨z, e⟩ := h.txt p hp
  rw [e] <;> rfl
section
variable {P : Program} {w : World} {K : PySem.W.Frag} {mg : Str → Option Value} {base : Heap} {f C CN fN fX fE fR fI p1 g1 p2 g2 : Addr} {fd dN dX dE dR dI e1 e2 : FuncData}
set_option maxHeartbeats 8000000 in
theorem ok_told (F : FD K "_law_told_right" s_told f fd) (T : TMc K C) (D : TD12 mg) (ti : mg "isinstance" = none) (tr : mg "repr" = none) (hK : noMods K = true) (N : Kn P w K mg base 1 "_law_needed" fN dN ["_law_table_here", "_law_last"] spNeeded)
    (GX : FnOk P w K mg base CX0 1 fX dX ["self"] (spExceptions C)) (bX : Binds K dX ["self"] []) (mX : Meth K C "exceptions" fX) (EF : EqF P w K mg base C CN fE dE) (RF : ReF P w K mg base C fR dR) (PR : PrF P w K mg base C p1 g1 e1 "rest" (spRest C)) (PK : PrF P w K mg base C p2 g2 e2 "kind" (spKind C)) (MT : MkT P w K mg base C fI dI) :
    FnG P w K mg base CX0 5 f fd ["_law_mapping", "_law_table_here", "_law_last"] (spTold C) := by
  refine F.okG sc_told (fun vs H Q E h => ?_) (fun cdv A outer s H vs Q E hg hr h => ?_)
  · obtain ⟨m, d, ex, kvs, r, rfl, _⟩ := h
    rfl
  obtain ⟨m, d, ex, kvs, r, rfl, tm, hd, tab8, ro, hnorm, q⟩ := h
  have hG := deeper_guards (env := PyProof.Rows.envOfC "_law_told_right" (defScope s_told) s.heap.objs.size f cdv) hg
  have hu := hr.units
  have hu1 : A.units + 3 + 1 < cLine := by have h : A.units + 3 + 64 < cLine := hu; omega
  have hu0 : A.units + 3 < cLine := by omega
  refine ⟨_, PSs.nox (pss_cons (ps_par (i := 3) (j := 4) (by rfl) sc_told.nd rfl rfl (by decide) rfl rfl (pa_cons (pe_call N.f (hr.mono (by decide)) rfl N.m N.k N.b .nil pass0 (pa_cons (pv 1) (pa_cons (pv 2) pa_nil))) (pa_cons (pe_meth0 (pv 0) T.cl mX GX (hr.mono (by decide)) bX .nil pass0) pa_nil)) (by rfl))
    (pss_cons (ps_if (PW.pt (pw_or (pt_not (pt_val (pe_callB call_isi (by rfl) ti boot_isi (pa_cons (pv 4) (pa_cons (pe_bltn (v := .ty "dict") (by rfl) D.dict (by decide +kernel) rfl) pa_nil))))) (pw_or (pt_cmpR (op_ne_dictA (by exact hu0)) (pv 4) (pv 3) (nomark _)) (pw_or1 (pt_cmpR (op_neD (by exact hu)) (pe_callTy (call_listD rfl) (by rfl) D.list (by decide +kernel) (pa_cons (pv 4) pa_nil)) (pe_callTy (call_listD rfl) (by rfl) D.list (by decide +kernel) (pa_cons (pv 3) pa_nil)) (nomark _)))))) pss_never pss_nil)
    (pss_cons (ps_if (PW.pt (pw_or (pt_cmpR op_ne (pe_prop (pv 0) T.cl PR.p PR.g (hr.mono (by decide)) PR.b .nil pass0 (by rfl)) (pv 2) (nomark _)) (pw_or1 (pt_cmpR op_ne (pe_prop (pv 0) T.cl PK.p PK.g (hr.mono (by decide)) PK.b .nil pass0 (by rfl)) pe_str (nomark _))))) pss_never pss_nil)
    (pss_cons (ps_if (pt_cmpR op_ne (pe_callB (call_reprO RF.s RF.fn RF.g (by exact hG) RF.b (hr.mono (by decide))) (by rfl) tr boot_repr (pa_cons (pv 0) pa_nil)) (pe_op op_add_str (pe_op op_add_str (pe_op op_add_str (pe_op op_add_str pe_str (pe_callB (call_reprD (by exact hG) (by exact hu) (by exact hK)) (by rfl) tr boot_repr (pa_cons (pv 3) pa_nil))) pe_str) (pe_callB (call_reprD (by exact hG) (by exact hu) (by exact hK)) (by rfl) tr boot_repr (pa_cons (pv 2) pa_nil))) pe_str) (nomark _)) pss_never pss_nil)
    (pss_cons (ps_dput hu1 (pv 4) pe_str pe_str rfl)
    (pss_cons (ps_set (i := 5) sc_told.nd rfl (Or.inl rfl) (pe_make MT.mkC MT.g hr rfl MT.m MT.b .nil pass0 (pa_cons (pv 3) (pa_cons (pv 2) pa_nil))))
    (pss_cons (ps_if (PW.pt (pw_or (pt_cmpR (op_ne_dictA (by exact hu0)) (pe_meth0 (pv 0) T.cl mX GX (hr.mono (by decide)) bX .nil pass0) (pv 3) (nomark _)) (pw_or1 (pt_cmpR (op_neO EF.o EF.g EF.b (hr.mono (by decide))) (pv 5) (pv 0) (nomark _))))) pss_never pss_nil)
    (pss_one (ps_ret (pe_and (pe_not (pe_cmpR (op_neO EF.o EF.g EF.b (hr.mono (by decide))) (pv 5) (pv 0) (nomark _))) (pe_one (pe_cmpR op_eq (pe_callB (call_reprO RF.s RF.fn RF.g (by exact hG) RF.b (hr.mono (by decide))) (by rfl) tr boot_repr (pa_cons (pv 5) pa_nil)) (pe_callB (call_reprO RF.s RF.fn RF.g (by exact hG) RF.b (hr.mono (by decide))) (by rfl) tr boot_repr (pa_cons (pv 0) pa_nil)) (nomark _))))))))))))), ?_⟩
  have tab := tab8.mono (show 8 ≤ 60 by decide)
  have nl := norm_NL tab (Nat.le_refl _) hnorm
  obtain ⟨dx, de, hm, he⟩ := tm
  have len1 := nl.tab.len
  refine ⟨_, rfl, _, rfl, d, kvs, r, rfl, hd, tab, ro, fun u H1 ex1 hn1 hu0' s1 hdue => ?_⟩
  have e1 : ex1 = ex := norm_uniq tab hn1 hnorm
  subst e1
  refine ⟨_, rfl, m, dx, _, rfl, s1 _ _ hm, rfl, m, ex1, r, rfl, ⟨dx, de, s1 _ _ hm, s1 _ _ he⟩, nl.nd, Nat.le_trans len1 (by decide), fun t H2 ht2 s2 htold => ?_⟩
  have z2 := s1.trans s2
  refine ⟨_, _, rfl, ?_⟩
  refine ⟨_, rfl, .ref t, .ty "dict", .type "dict", _, true, rfl, .ty _, .base (.dK htold), kit_ty (by decide +kernel), true, rfl, ?_⟩
  refine (show (if (!true) = true then _ else _) from ?_)
  rw [if_neg (by decide)]
  have hdue2 := s2 _ _ hdue
  refine ⟨_, rfl, _, rfl, t, u, ex1, ex1, rfl, rfl, htold, hdue2, rfl, flat_same nl, false, rfl, ?_⟩
  refine (show (if false = true then _ else _) from ?_)
  rw [if_neg (by decide)]
  obtain ⟨ks, us, ek, eu, wk, wu, _, lk, lu⟩ := tab_texts nl.tab
  refine ⟨_, rfl, t, ex1, rfl, .inl htold, fun c1 hc1 => ?_⟩
  have y1 := same_upd (o := HO.lst (ex1.map fun kv => kV kv.1)) hc1
  refine ⟨_, rfl, u, ex1, rfl, .inl (y1 _ _ hdue2), fun c2 hc2 => ?_⟩
  have y2 := y1.trans (same_upd (o := HO.lst (ex1.map fun kv => kV kv.1)) hc2)
  have n12 : c1 ≠ c2 := ne_of_none upd_same hc2
  refine ⟨_, _, dp_words (ks := ks) (by rw [upd_ne n12, upd_same, ek]), dp_words (ks := ks) (by rw [upd_same, ek]), shaped_strs wk, shaped_strs wk, false, ?_, ?_⟩
  · show V.bl (!PyData.eqvAll (ks.map PyData.str) (ks.map PyData.str)) = V.bl false
    rw [eqv_strs, decide_eq_true rfl] <;> rfl
  refine (show (if false = true then _ else _) from ?_)
  rw [if_neg (by decide)]
  have z4 := z2.trans y2
  have hm4 := z4 _ _ hm
  have he4 := z4 _ _ he
  have hdue4 := y2 _ _ hdue2
  have htold4 := y2 _ _ htold
  have ht0 : H t = none := Same.free s1 ht2
  have ntu : t ≠ u := fun e => by
    rw [e, hdue] at ht2
    cases ht2
  generalize upd (upd H2 c1 (.lst (ex1.map fun kv => kV kv.1))) c2 (.lst (ex1.map fun kv => kV kv.1)) = H4 at z4 hm4 he4 hdue4 htold4 ⊢
  refine ⟨_, rfl, m, dx, _, rfl, hm4, m, ex1, r, rfl, ⟨dx, de, hm4, he4⟩, _, rfl, scal_rest ro, false, ?_, ?_⟩
  · show V.bl (!decide (r = r)) = V.bl false
    rw [decide_eq_true rfl] <;> rfl
  refine (show (if false = true then _ else _) from ?_)
  rw [if_neg (by decide)]
  refine ⟨_, rfl, m, dx, _, rfl, hm4, m, dx, _, rfl, hm4, rfl, rfl, false, ?_, ?_⟩
  · show V.bl (!decide (V.str "text" = V.str "text")) = V.bl false
    rw [decide_eq_true rfl] <;> rfl
  refine (show (if false = true then _ else _) from ?_)
  rw [if_neg (by decide)]
  obtain ⟨a1, a2, a3⟩ := ex_ok nl.tab
  obtain ⟨b1, b2, b3⟩ := rest_ok ro
  have l1 := ex_shown nl.tab
  have l2 := rest_shown ro
  have f1 : ("TextMap(" : Str).length = 8 := by decide +kernel
  have f2 : (", " : Str).length = 2 := by decide +kernel
  have f3 : (")" : Str).length = 1 := by decide +kernel
  have big : 20000 ≤ sizeLine := by decide
  have txt : tmText ex1 r = "TextMap(" ++ (PyData.dict (exL ex1)).shown ++ ", " ++ (vD r).shown ++ ")" := by
    unfold tmText
    rw [PySem.Str.empty_append]
  refine ⟨_, rfl, m, dx, _, rfl, hm4, m, ex1, r, rfl, ⟨dx, de, hm4, he4⟩, nl.tab, ro, _, rfl, ?_⟩
  refine ⟨_, rfl, _, _, rfl, ex_rp nl.txt hdue4, a1, a2, a3, _, _, rfl, rfl, ?_, _, _, rfl, rfl, ?_, _, rfl, _, _, rfl, rest_rp ro, b1, b2, b3, _, _, rfl, rfl, ?_, _, _, rfl, rfl, ?_, rfl, false, ?_, ?_⟩
  · rw [f1]
    omega
  · rw [strLen_append, f1, f2]
    omega
  · rw [strLen_append, strLen_append, f1, f2]
    omega
  · rw [strLen_append, strLen_append, strLen_append, f1, f2, f3]
    omega
  · show V.bl (!decide (V.str (tmText ex1 r) = V.str ("TextMap(" ++ (PyData.dict (exL ex1)).shown ++ ", " ++ (vD r).shown ++ ")"))) = V.bl false
    rw [txt, decide_eq_true rfl] <;> rfl
  refine (show (if false = true then _ else _) from ?_)
  rw [if_neg (by decide)]
  -- told["qq"] = "a"
  refine ⟨_, rfl, t, _, rfl, DPut.k (k := Sum.inr ("qq" : Str)) htold4 (Nat.lt_of_le_of_lt len1 (by decide)), ?_⟩
  have ntm : m ≠ t := fun e => by
    rw [e, htold4] at hm4
    cases hm4
  have nte : de ≠ t := ne_of_none he ht0
  have ntd : u ≠ t := Ne.symm ntu
  have z5 : Same H (upd H4 t (.dK (putK ex1 (Sum.inr ("qq" : Str)) (V.str "a")))) := same_over z4 ht0
  have hm5 : (upd H4 t (.dK (putK ex1 (Sum.inr ("qq" : Str)) (V.str "a")))) m = some (.ins C dx [("_rest", r), ("_exceptions", .ref de)]) := by rw [upd_ne ntm]; exact hm4
  have he5 : (upd H4 t (.dK (putK ex1 (Sum.inr ("qq" : Str)) (V.str "a")))) de = some (.dK ex1) := by rw [upd_ne nte]; exact he4
  have hdue5 : (upd H4 t (.dK (putK ex1 (Sum.inr ("qq" : Str)) (V.str "a")))) u = some (.dK ex1) := by rw [upd_ne ntd]; exact hdue4
  generalize upd H4 t (.dK (putK ex1 (Sum.inr ("qq" : Str)) (V.str "a"))) = H5 at z5 hm5 he5 hdue5 ⊢
  refine ⟨_, rfl, _, rfl, fun n ny hn hny ne => ?_⟩
  refine ⟨n, ny, .ref u, r, ex1, rfl, upd_same, nl.tab, ro, .inr ⟨u, rfl, ?_⟩, fun H6 ex6 dd hn6 hdd hm6n he6n hB => ⟨rfl, ?_⟩⟩
  · rw [upd_ne (ne_of_none hdue5 hn), upd_ne (ne_of_none hdue5 hny)]
    exact hdue5
  have e6 : ex6 = ex1 := norm_again tab (Nat.le_refl _) hnorm hn6
  subst e6
  have s6 : Same H5 H6 := made_same hn hny ne rfl hB
  have z6 := z5.trans s6
  have tn : TMap C H6 n ex6 r := ⟨ny, dd, hm6n, he6n⟩
  refine ⟨_, rfl, m, dx, _, rfl, s6 _ _ hm5, rfl, m, ex6, r, rfl, ⟨dx, de, s6 _ _ hm5, s6 _ _ he5⟩, nl.nd, Nat.le_trans len1 (by decide), fun t2 H7 ht2' s7 htold2 => ?_⟩
  have z7 := z6.trans s7
  refine ⟨_, rfl, t2, u, ex6, ex6, rfl, rfl, htold2, s7 _ _ (s6 _ _ hdue5), rfl, flat_same nl, false, rfl, ?_⟩
  refine (show (if false = true then _ else _) from ?_)
  rw [if_neg (by decide)]
  have hm7 := s7 _ _ (s6 _ _ hm5)
  have tm7 : TMap C H7 m ex6 r := ⟨dx, de, hm7, s7 _ _ (s6 _ _ he5)⟩
  have tn7 := tn.same s7
  have eqs : (eqDk ex6 ex6 && eqV r r) = true := by
    rw [eq_norm nl nl, decide_eq_true rfl, eqV_rest ro ro, decide_eq_true rfl] <;> rfl
  refine ⟨_, rfl, _, rfl, n, ny, _, rfl, s7 _ _ hm6n, ⟨m, rfl, .inl ⟨C, dx, _, hm7, notFirst_self⟩⟩, n, ex6, r, .ref m, rfl, tn7, .inl ⟨m, ex6, r, rfl, tm7, nl.txt, nl.txt, nl.nd, flat_rest ro, flat_rest ro, fun H8 s8 => ⟨_, rfl, false, ?_, ?_⟩⟩⟩
  · show V.bl (!(eqDk ex6 ex6 && eqV r r)) = V.bl false
    rw [eqs] <;> rfl
  refine (show (if false = true then _ else _) from ?_)
  rw [if_neg (by decide)]
  refine ⟨_, rfl, _, rfl, n, ny, _, rfl, s8 _ _ (s7 _ _ hm6n), ⟨m, rfl, .inl ⟨C, dx, _, s8 _ _ hm7, notFirst_self⟩⟩, n, ex6, r, .ref m, rfl, tn7.same s8, .inl ⟨m, ex6, r, rfl, tm7.same s8, nl.txt, nl.txt, nl.nd, flat_rest ro, flat_rest ro, fun H9 s9 => ⟨_, rfl, false, ?_, true, rfl, ?_⟩⟩⟩
  · show V.bl (!(eqDk ex6 ex6 && eqV r r)) = V.bl false
    rw [eqs] <;> rfl
  refine (show (if true = true then _ else _) from ?_)
  rw [if_pos rfl]
  have z9 := z7.trans (s8.trans s9)
  refine ⟨_, rfl, n, ny, _, rfl, s9 _ _ (s8 _ _ (s7 _ _ hm6n)), n, ex6, r, rfl, (tn7.same s8).same s9, nl.tab, ro, _, rfl, _, rfl, m, dx, _, rfl, s9 _ _ (s8 _ _ hm7), m, ex6, r, rfl, (tm7.same s8).same s9, nl.tab, ro, _, rfl, rfl, ?_⟩
  rw [decide_eq_true rfl]
  exact q _ z9
end
end C12

end PD13
section PE13
set_option maxHeartbeats 4000000
namespace C12
open PySem PySem.Spec L2 PyProof.Rows
/-! ### two maps are equal just where they agree at all words and have one rest -/
def atS (k : List (Key × V)) (r : V) (z : Str) : Str := match atV k r z with
  | .str y => y
  | _ => Str.empty
theorem atS_eq {n : Nat} {k : List (Key × V)} {r : V} (t : Tab n k) (h : RestOk r) (z : Str) : atV k r z = .str (atS k r z) := by
  obtain ⟨y, e⟩ := atV_str t h z
  unfold atS
  rw [e]
theorem atS_word {n : Nat} {k : List (Key × V)} {r : V} (t : Tab n k) (h : RestOk r) {z : Str} (hz : wordB z 12 = true) : wordB (atS k r z) 12 = true := by
  have e := atS_eq t h z
  cases q : valV k (Sum.inr z) with
  | some v =>
    obtain ⟨y, _, wy, ey⟩ := tab_key t (valV_key.mp (by rw [q]; rfl))
    rw [atV_of ey] at e
    cases e
    show wordB (atS k r z) 12 = true
    unfold atS
    rw [atV_of ey]
    exact wy
  | none =>
    unfold atS
    rw [atV_of q]
    rcases h with rfl | ⟨a, rfl, wa⟩
    · exact hz
    · exact wa
theorem atS_words {n : Nat} {k : List (Key × V)} {r : V} (t : Tab n k) (h : RestOk r) {ys : List Str} (hw : ∀ y ∈ ys, wordB y 12 = true) : ∀ y ∈ ys.map (atS k r), wordB y 12 = true := fun y hy => by
  obtain ⟨z, hz, rfl⟩ := List.mem_map.mp hy
  exact atS_word t h (hw z hz)
/-- the law's comparison and the maps' say the same -/
theorem eq_says {k1 k2 ex ey : List (Key × V)} {r1 r2 : V} {ys : List Str} (t1 : Tab 60 k1) (t2 : Tab 60 k2) (h1 : RestOk r1) (h2 : RestOk r2) (n1 : NormOf k1 r1 ex) (n2 : NormOf k2 r2 ey)
    (m1 : ∀ z : Str, (Sum.inr z : Key) ∈ k1.map (·.1) → z ∈ ys) (m2 : ∀ z : Str, (Sum.inr z : Key) ∈ k2.map (·.1) → z ∈ ys) : (eqDk ex ey && eqV r1 r2) = (decide (r1 = r2) && decide (ys.map (atS k1 r1) = ys.map (atS k2 r2))) := by
  rw [eq_norm (norm_NL t1 (Nat.le_refl _) n1) (norm_NL t2 (Nat.le_refl _) n2), eqV_rest h1 h2]
  by_cases e : r1 = r2
  · subst e
    rw [decide_eq_true rfl, Bool.and_true, Bool.true_and]
    by_cases g : ex = ey
    · subst g
      rw [decide_eq_true rfl, decide_eq_true]
      refine List.map_congr_left fun z _ => ?_
      unfold atS
      rw [← norm_at n1 z, ← norm_at n2 z]
    · rw [decide_eq_false g, decide_eq_false]
      intro c
      refine g (norm_alike t1 t2 n1 n2 fun z hz => ?_)
      have hy : z ∈ ys := hz.elim (m1 z) (m2 z)
      rw [atS_eq t1 h1, atS_eq t2 h1, List.map_inj_left.mp c z hy]
  · rw [decide_eq_false e, Bool.and_false, Bool.false_and]
theorem and_bl {ta tb : TE} {σ : L2.St} {H : Hp} {Q : VK} {b1 b2 : Bool} (h1 : ∀ Q : VK, Q (.bl b1) H → ta σ H Q) (h2 : ∀ Q : VK, Q (.bl b2) H → tb σ H Q) (q : Q (.bl (b1 && b2)) H) : tAndV ta tb σ H Q := by
  refine h1 _ ⟨b1, rfl, ?_⟩
  cases b1 with
  | true =>
    rw [if_pos rfl]
    exact h2 _ q
  | false =>
    rw [if_neg (by decide)]
    exact q
theorem scal_rests {r1 r2 : V} (h1 : RestOk r1) (h2 : RestOk r2) : scal r1 r2 = true := by
  rcases h1 with rfl | ⟨a, rfl, _⟩ <;> rcases h2 with rfl | ⟨b, rfl, _⟩ <;> rfl
abbrev s_two : Stmt := top 33
def spTwo : Sp := fun vs H Q _ => ∃ (t1 t2 d1 d2 : Addr) (k1 k2 : List (Key × V)) (r1 r2 : V), vs = [.ref t1, .ref t2] ∧ H t1 = some (.tup [.ref d1, r1]) ∧ H t2 = some (.tup [.ref d2, r2]) ∧ H d1 = some (.dK k1) ∧ H d2 = some (.dK k2) ∧ Tab 8 k1 ∧ Tab 8 k2 ∧ RestOk r1 ∧ RestOk r2 ∧ ∀ H', Same H H' → Q (.bl true) H'
abbrev nTwo : List Str := ["_law_one", "_law_other_here", "_law_words_here", "_law_found", "_law_beside", "_law_are_alike", "_law_first", "_law_second", "_law_word_here"]
theorem sc_two : FnScope nTwo ["_law_one", "_law_other_here"] (defScope s_two) := ⟨rfl, rfl, rfl, by decide +kernel, rfl, by decide +kernel, by decide +kernel⟩
section
variable {P : Program} {w : World} {K : PySem.W.Frag} {mg : Str → Option Value} {base : Heap} {f C CN fW fT fE fI : Addr} {fd dW dT dE dI : FuncData}
set_option maxHeartbeats 8000000 in
theorem ok_two (F : FD K "_law_two_right" s_two f fd) (W : Kn P w K mg base 1 "_law_words" fW dW ["_law_tables", "_law_lasts"] spWords) (AT : Kn P w K mg base 1 "_law_at" fT dT ["_law_table_here", "_law_last", "_law_word_here"] spAt) (EF : EqF P w K mg base C CN fE dE) (MT : MkT P w K mg base C fI dI) :
    FnOk P w K mg base CX0 5 f fd ["_law_one", "_law_other_here"] spTwo := by
  refine F.ok sc_two (fun vs H Q E h => ?_) (fun cdv A outer s H vs Q E hr h => ?_)
  · obtain ⟨t1, t2, d1, d2, k1, k2, r1, r2, rfl, _⟩ := h
    rfl
  obtain ⟨t1, t2, d1, d2, k1, k2, r1, r2, rfl, ht1, ht2, hd1, hd2, tb1, tb2, ro1, ro2, q⟩ := h
  have hu := hr.units
  refine ⟨_, PSs.nox (pss_cons (ps_set (i := 2) sc_two.nd rfl (Or.inl rfl) (pe_call W.f (hr.mono (by decide)) rfl W.m W.k W.b .nil pass0 (pa_cons (pe_lst (pa_cons (pe_ix ix_tup (pv 0) pe_int (fun _ _ => rfl)) (pa_cons (pe_ix ix_tup (pv 1) pe_int (fun _ _ => rfl)) pa_nil))) (pa_cons (pe_lst (pa_cons (pe_ix ix_tup (pv 0) pe_int (fun _ _ => rfl)) (pa_cons (pe_ix ix_tup (pv 1) pe_int (fun _ _ => rfl)) pa_nil))) pa_nil))))
    (pss_cons (ps_setLc (i := 3) (own := [("_law_word_here", 8)]) (g := gName 8) (tt := tYes) (te := tCall spAt [] E0 (tCons (tOp (rIxT K) (tVar 0) (tC (.int 0))) (tCons (tOp (rIxT K) (tVar 0) (tC (.int 1))) (tCons (tVar 8) tNil)))) rfl sc_two.nd rfl rfl (sw_true rfl rfl rfl (by decide +kernel)) (pi_list (pv 2))
      (blkOk_by (N := nTwo) (sc := defScope s_two) (by decide +kernel)) (fun _ _ _ _ _ => pg_name (i := 8) sc_two.nd rfl (Or.inl rfl)) (fun _ _ _ _ _ => pts_nil)
      (fun _ _ _ _ _ => by exact (pe_call AT.f (hr.mono (by decide)) rfl AT.m AT.k AT.b .nil pass0 (pa_cons (pe_ix ix_tup (pv 0) pe_int (fun _ _ => rfl)) (pa_cons (pe_ix ix_tup (pv 0) pe_int (fun _ _ => rfl)) (pa_cons (pv 8) pa_nil))))))
    (pss_cons (ps_setLc (i := 4) (own := [("_law_word_here", 8)]) (g := gName 8) (tt := tYes) (te := tCall spAt [] E0 (tCons (tOp (rIxT K) (tVar 1) (tC (.int 0))) (tCons (tOp (rIxT K) (tVar 1) (tC (.int 1))) (tCons (tVar 8) tNil)))) rfl sc_two.nd rfl rfl (sw_true rfl rfl rfl (by decide +kernel)) (pi_list (pv 2))
      (blkOk_by (N := nTwo) (sc := defScope s_two) (by decide +kernel)) (fun _ _ _ _ _ => pg_name (i := 8) sc_two.nd rfl (Or.inl rfl)) (fun _ _ _ _ _ => pts_nil)
      (fun _ _ _ _ _ => by exact (pe_call AT.f (hr.mono (by decide)) rfl AT.m AT.k AT.b .nil pass0 (pa_cons (pe_ix ix_tup (pv 1) pe_int (fun _ _ => rfl)) (pa_cons (pe_ix ix_tup (pv 1) pe_int (fun _ _ => rfl)) (pa_cons (pv 8) pa_nil))))))
    (pss_cons (ps_set (i := 5) sc_two.nd rfl (Or.inl rfl) (pe_and (pe_cmpR op_eq (pe_ix ix_tup (pv 0) pe_int (fun _ _ => rfl)) (pe_ix ix_tup (pv 1) pe_int (fun _ _ => rfl)) (nomark _)) (pe_one (pe_cmpR (op_eqD (by exact hu)) (pv 3) (pv 4) (nomark _)))))
    (pss_cons (ps_par (i := 6) (j := 7) (by rfl) sc_two.nd rfl rfl (by decide) rfl rfl (pa_cons (pe_make MT.mkC MT.g hr rfl MT.m MT.b .nil pass0 (pa_cons (pe_ix ix_tup (pv 0) pe_int (fun _ _ => rfl)) (pa_cons (pe_ix ix_tup (pv 0) pe_int (fun _ _ => rfl)) pa_nil))) (pa_cons (pe_make MT.mkC MT.g hr rfl MT.m MT.b .nil pass0 (pa_cons (pe_ix ix_tup (pv 1) pe_int (fun _ _ => rfl)) (pa_cons (pe_ix ix_tup (pv 1) pe_int (fun _ _ => rfl)) pa_nil))) pa_nil)) (by rfl))
    (pss_one (ps_ret (pe_and (pe_cmpR op_eq (pe_cmpR (op_eqO EF.o EF.g EF.b (hr.mono (by decide))) (pv 6) (pv 7) (nomark _)) (pv 5) (nomark _)) (pe_one (pe_cmpR op_ne (pe_cmpR (op_neO EF.o EF.g EF.b (hr.mono (by decide))) (pv 7) (pv 6) (nomark _)) (pv 5) (nomark _))))))))))), ?_⟩
  refine ⟨_, rfl, t1, _, _, .ref d1, rfl, rfl, SqT.of ht1, rfl, _, rfl, t2, _, _, .ref d2, rfl, rfl, SqT.of ht2, rfl, by show 2 ≤ sizeLine; decide, fun p1 hp1 => ?_⟩
  have z1 := same_upd (o := HO.lst [V.ref d1, V.ref d2]) hp1
  refine ⟨_, rfl, t1, _, _, r1, rfl, rfl, SqT.of (z1 _ _ ht1), rfl, _, rfl, t2, _, _, r2, rfl, rfl, SqT.of (z1 _ _ ht2), rfl, by show 2 ≤ sizeLine; decide, fun p2 hp2 => ?_⟩
  have z2 := z1.trans (same_upd (o := HO.lst [r1, r2]) hp2)
  have n12 : p1 ≠ p2 := ne_of_none upd_same hp2
  refine ⟨p1, p2, [(d1, k1), (d2, k2)], [r1, r2], rfl, by rw [upd_ne n12, upd_same]; rfl, fun q hq => ?_, upd_same, fun u hu => ?_, (by show 2 ≤ 2; decide), (by show 2 ≤ 2; decide), fun g ys H3 s3 hg hw hk hl => ?_⟩
  · rcases List.mem_cons.mp hq with rfl | hq
    · exact ⟨z2 _ _ hd1, tb1⟩
    · rw [List.mem_singleton.mp hq]
      exact ⟨z2 _ _ hd2, tb2⟩
  · rcases List.mem_cons.mp hu with rfl | hu
    · exact ro1
    · rw [List.mem_singleton.mp hu]
      exact ro2
  have z3 := z2.trans s3
  have m1 := hk (d1, k1) List.mem_cons_self
  have m2 := hk (d2, k2) (List.mem_cons_of_mem _ List.mem_cons_self)
  generalize upd (upd H p1 (HO.lst [V.ref d1, V.ref d2])) p2 (HO.lst [r1, r2]) = H2 at z2 s3
  refine ⟨_, rfl, g, rfl, ⟨_, SqL.of hg⟩, fun D hD => ?_⟩
  refine lc_list (xs := ys.map V.str) (fun i H' => Same H3 H' ∧ H' D = some (.lst (((ys.take i).map (atS k1 r1)).map V.str))) ⟨same_upd hD, upd_same⟩ (fun i H' _ ⟨z, _⟩ => SqL.of (z _ _ hg)) (fun i x H4 hx ⟨z4, hD4⟩ => ?_) fun H4 ⟨z4, hD4⟩ => ?_
  · rw [List.getElem?_map] at hx
    cases ei : ys[i]? with
    | none =>
      rw [ei] at hx
      cases hx
    | some y =>
      rw [ei] at hx
      cases (show V.str y = x from Option.some.inj hx)
      have il : i < ys.length := (List.getElem?_eq_some_iff.mp ei).1
      have tk : ys.take (i + 1) = ys.take i ++ [y] := by rw [List.take_succ, ei]; rfl
      refine ⟨rfl, ?_⟩
      simp only [tYes, ↓reduceIte]
      refine ⟨_, rfl, t1, _, _, .ref d1, rfl, rfl, SqT.of (z4 _ _ (z3 _ _ ht1)), rfl, _, rfl, t1, _, _, r1, rfl, rfl, SqT.of (z4 _ _ (z3 _ _ ht1)), rfl, _, rfl, d1, k1, r1, y, rfl, z4 _ _ (z3 _ _ hd1), ?_⟩
      refine ⟨_, hD4, ?_, same_over z4 hD, ?_⟩
      · rw [List.length_map, List.length_map, List.length_take]
        exact Nat.lt_of_le_of_lt (show _ ≤ 60 by omega) (by decide)
      · rw [upd_same, tk, atS_eq tb1 ro1 y, List.map_append, List.map_append] <;> rfl
  rw [List.length_map, List.take_length] at hD4
  have z5 := z3.trans z4
  refine ⟨_, rfl, g, rfl, ⟨_, SqL.of (z4 _ _ hg)⟩, fun G hG => ?_⟩
  have nDG : D ≠ G := ne_of_none hD4 hG
  refine lc_list (xs := ys.map V.str) (fun i H' => Same H4 H' ∧ H' G = some (.lst (((ys.take i).map (atS k2 r2)).map V.str))) ⟨same_upd hG, upd_same⟩ (fun i H' _ ⟨z, _⟩ => SqL.of (z _ _ (z4 _ _ hg))) (fun i x H6 hx ⟨z6, hD6⟩ => ?_) fun H6 ⟨z6, hG6⟩ => ?_
  · rw [List.getElem?_map] at hx
    cases ei : ys[i]? with
    | none =>
      rw [ei] at hx
      cases hx
    | some y =>
      rw [ei] at hx
      cases (show V.str y = x from Option.some.inj hx)
      have il : i < ys.length := (List.getElem?_eq_some_iff.mp ei).1
      have tk : ys.take (i + 1) = ys.take i ++ [y] := by rw [List.take_succ, ei]; rfl
      refine ⟨rfl, ?_⟩
      simp only [tYes, ↓reduceIte]
      refine ⟨_, rfl, t2, _, _, .ref d2, rfl, rfl, SqT.of (z6 _ _ (z5 _ _ ht2)), rfl, _, rfl, t2, _, _, r2, rfl, rfl, SqT.of (z6 _ _ (z5 _ _ ht2)), rfl, _, rfl, d2, k2, r2, y, rfl, z6 _ _ (z5 _ _ hd2), ?_⟩
      refine ⟨_, hD6, ?_, same_over z6 hG, ?_⟩
      · rw [List.length_map, List.length_map, List.length_take]
        exact Nat.lt_of_le_of_lt (show _ ≤ 60 by omega) (by decide)
      · rw [upd_same, tk, atS_eq tb2 ro2 y, List.map_append, List.map_append] <;> rfl
  rw [List.length_map, List.take_length] at hG6
  have z7 := z5.trans z6
  have hD6 := z6 _ _ hD4
  -- alike, the two maps, what they say
  have tb1' := tb1.mono (show 8 ≤ 60 by decide)
  have tb2' := tb2.mono (show 8 ≤ 60 by decide)
  dsimp only [gName, tSeq, tAsg]
  refine and_bl (b1 := decide (r1 = r2)) (b2 := decide (ys.map (atS k1 r1) = ys.map (atS k2 r2))) (fun Q' q' => ?_) (fun Q' q' => ?_) ?_
  · exact ⟨_, rfl, t1, _, _, r1, rfl, rfl, SqT.of (z7 _ _ ht1), rfl, _, rfl, t2, _, _, r2, rfl, rfl, SqT.of (z7 _ _ ht2), rfl, scal_rests ro1 ro2, q'⟩
  · refine ⟨_, rfl, _, rfl, _, _, dp_words (ks := ys.map (atS k1 r1)) hD6, dp_words (ks := ys.map (atS k2 r2)) hG6, shaped_strs (atS_words tb1 ro1 hw), shaped_strs (atS_words tb2 ro2 hw), ?_⟩
    show Q' (V.bl (PyData.eqvAll ((ys.map (atS k1 r1)).map PyData.str) ((ys.map (atS k2 r2)).map PyData.str))) H6
    rw [eqv_strs]
    exact q'
  generalize hal : (decide (r1 = r2) && decide (ys.map (atS k1 r1) = ys.map (atS k2 r2))) = al
  refine ⟨_, rfl, t1, _, _, .ref d1, rfl, rfl, SqT.of (z7 _ _ ht1), rfl, _, rfl, t1, _, _, r1, rfl, rfl, SqT.of (z7 _ _ ht1), rfl, fun m nx hm hnx ne => ?_⟩
  refine ⟨m, nx, .ref d1, r1, k1, rfl, upd_same, tb1', ro1, .inr ⟨d1, rfl, ?_⟩, fun H8 ex dd hn8 hdd hm8 he8 hB => ⟨rfl, ?_⟩⟩
  · rw [upd_ne (ne_of_none (z7 _ _ hd1) hm), upd_ne (ne_of_none (z7 _ _ hd1) hnx)]
    exact z7 _ _ hd1
  have z8 := made_same hm hnx ne rfl hB
  have z9 := z7.trans z8
  have tm8 : TMap C H8 m ex r1 := ⟨nx, dd, hm8, he8⟩
  refine ⟨_, rfl, t2, _, _, .ref d2, rfl, rfl, SqT.of (z9 _ _ ht2), rfl, _, rfl, t2, _, _, r2, rfl, rfl, SqT.of (z9 _ _ ht2), rfl, fun n ny hn hny ne2 => ?_⟩
  refine ⟨n, ny, .ref d2, r2, k2, rfl, upd_same, tb2', ro2, .inr ⟨d2, rfl, ?_⟩, fun H9 ey de hn9 hde hm9 he9 hB9 => ⟨rfl, ?_⟩⟩
  · rw [upd_ne (ne_of_none (z9 _ _ hd2) hn), upd_ne (ne_of_none (z9 _ _ hd2) hny)]
    exact z9 _ _ hd2
  have z10 := made_same hn hny ne2 rfl hB9
  have tm9 := tm8.same z10
  have tn9 : TMap C H9 n ey r2 := ⟨ny, de, hm9, he9⟩
  have nl1 := norm_NL tb1' (Nat.le_refl _) hn8
  have nl2 := norm_NL tb2' (Nat.le_refl _) hn9
  have says := eq_says tb1' tb2' ro1 ro2 hn8 hn9 m1 m2
  have says2 := eq_says tb2' tb1' ro2 ro1 hn9 hn8 m2 m1
  rw [hal] at says
  have says3 : (eqDk ey ex && eqV r2 r1) = al := by
    rw [says2, ← hal]
    congr 1
    · exact decide_eq_decide.mpr eq_comm
    · exact decide_eq_decide.mpr eq_comm
  refine ⟨_, _, rfl, ?_⟩
  refine ⟨_, rfl, _, rfl, m, nx, _, rfl, z10 _ _ hm8, ⟨n, rfl, .inl ⟨C, ny, _, hm9, notFirst_self⟩⟩, m, ex, r1, .ref n, rfl, tm9, .inl ⟨n, ey, r2, rfl, tn9, nl1.txt, nl2.txt, nl1.nd, flat_rest ro1, flat_rest ro2, fun H10 s10 => ⟨_, rfl, ?_⟩⟩⟩
  rw [says]
  refine ⟨_, rfl, rfl, true, ?_, ?_⟩
  · show V.bl (decide (V.bl al = V.bl al)) = V.bl true
    rw [decide_eq_true rfl]
  refine (show (if true = true then _ else _) from ?_)
  rw [if_pos rfl]
  refine ⟨_, rfl, _, rfl, n, ny, _, rfl, s10 _ _ hm9, ⟨m, rfl, .inl ⟨C, nx, _, s10 _ _ (z10 _ _ hm8), notFirst_self⟩⟩, n, ey, r2, .ref m, rfl, tn9.same s10, .inl ⟨m, ex, r1, rfl, tm9.same s10, nl2.txt, nl1.txt, nl2.nd, flat_rest ro2, flat_rest ro1, fun H11 s11 => ⟨_, rfl, ?_⟩⟩⟩
  rw [says3]
  refine ⟨_, rfl, rfl, ?_⟩
  have e : (!decide (V.bl (!al) = V.bl al)) = true := by cases al <;> rfl
  show Q (V.bl (!decide (V.bl (!al) = V.bl al))) H11
  rw [e]
  exact q _ ((z9.trans z10).trans (s10.trans s11))
end
end C12

end PE13
section PG13
set_option maxHeartbeats 4000000
/-! A def that is called within an except suite, and never raises. -/
namespace L2
open PySem PySem.Spec PyProof.Rows L2H
structure FnW (P : Program) (w : World) (K : PySem.W.Frag) (mg : Str → Option Value) (base : Heap) (k : Nat) (f : Addr) (fd : FuncData) (ps : List Str) (sp : Sp) : Prop where
  len : ∀ vs H Q E, sp vs H Q E → vs.length = ps.length
  run : ∀ (A : Around) (outer : List Env) (s : Shared) (H : Hp) (args : Args) (us : List Value) (vs : List V) (Q : VK) (E : XK) (p : Addr × Obj), A.guards = some [] → RoomH k A → PinOk outer H s p → Env0 P w K mg base A outer s H → BindsTo s fd args (ps.zip us) → Vals vs us → sp vs H Q E →
    codeAny (model P w) A (.call (.ref f) args) (CR CX0 outer P w H s Q E) s
theorem FunD.okW {P : Program} {w : World} {K : PySem.W.Frag} {mg : Str → Option Value} {base : Heap} {k : Nat} {f : Addr} {x qual : Str} {params : Arguments} {body : List Stmt} {scope : Scope} {dvs : List V} {kws : List (Str × V)} {fd : FuncData} {N ps : List Str} {sp : Sp}
    (F : FunD K x qual params body scope dvs kws f fd) (S : FnScope N ps scope) (len : ∀ vs H Q E, sp vs H Q E → vs.length = ps.length)
    (hbody : ∀ (cdv : Value) (A : Around) (outer : List Env) (s : Shared) (H : Hp) (vs : List V) (Q : VK) (E : XK) (p : Addr × Obj), A.guards = some [] → RoomH k (A.deeper (envOfC qual scope s.heap.objs.size f cdv)) → sp vs H Q E →
      ∃ t, PSs (cxH CX0 P w K mg base N qual scope f cdv A outer s H E p) body t ∧ t { nx := fun _ H' => Q .non H', rt := Q } (start N vs) H) : FnW P w K mg base (k + 1) f fd ps sp := by
  obtain ⟨oc, od, dV, kV, doc, pm, an, cdv, ct, osl, rfl, lk, hcd, _, _⟩ := F.ex
  refine ⟨len, fun A outer s H args us vs Q E p hg hr hpin e0 hb r hsp => ?_⟩
  have hl := len _ _ _ _ hsp
  have old : ∀ b o, base.get? b = some o → s.heap.get? b = some o := fun b o e => (e0.bs b o e).1
  have KX : K.In s.heap := e0.mod.kin.keeps old
  have lim : s.heap.NoLimit := e0.mod.nolimit.keeps old
  refine codeAny_call_function hr.depth (KX _ _ lk) rfl S.co S.gen rfl (PySem.W.codeRec_of KX hcd) (hb _ _ _ _ (wpAny_newFunctionEnv_cells S.kind (fun y hy => ?_) fun env he s1 x => ?_))
  · rcases S.par y.1 (List.of_mem_zip (show (y.1, y.2) ∈ ps.zip us from hy)).1 with q | q
    · exact .inl q
    · exact .inr ⟨q, PySem.W.cellsFrom_some _ _ _ (.inl q)⟩
  · subst he
    obtain ⟨t, ht, hq⟩ := hbody cdv A outer s H vs Q E p hg (hr.deeper _) hsp
    refine ⟨lim.keeps x.toInCall.keep, codeAny_func (wpAny_mono (ht.run [] s1 (start N vs) H _ (inv_startH S hpin e0 hl r x) hq) (fun fl s' hs => ?_) fun e s' hs => hs)⟩
    cases fl with
    | ret u =>
      obtain ⟨v, σ', H', J, rv, q⟩ := hs
      exact ⟨v, H', J.os, J.bare, J.base, J.hok, rv, q⟩
    | next =>
      obtain ⟨σ', H', J, q⟩ := hs
      exact ⟨V.non, H', J.os, J.bare, J.base, J.hok, rfl, q⟩
    | brk =>
      obtain ⟨_, _, _, q⟩ := hs
      exact False.elim q
    | cont =>
      obtain ⟨_, _, _, q⟩ := hs
      exact False.elim q
theorem roomH_in1 {k : Nat} {A : Around} (r : RoomH (k + 1) A) : RoomH k A.in1 :=
  ⟨by have := r.dp; show A.depth + 3 * k + 5 < _; omega, by have := r.un; show A.units + 1 + 16 * k + 200 < _; omega⟩
section
variable {X : Cx} {C f : Addr} {fd : FuncData} {ps : List Str} {sp : Sp} {k : Nat}
theorem own_runW {pins : List (Addr × Obj)} {σ : St} {H : Hp} {s : Shared} {A : Around} {E : Value → Shared → Prop} {Q : VK} {us : List Value} {vs : List V} (F : FnW X.prog X.w X.K X.mg X.base k f fd ps sp) (hG : A.guards = some []) (hb : Binds X.K fd ps []) (hr : RoomH k A) (fr : A.frames = X.A.frames) (hc : ∃ p, p ∈ X.pn) (I : Inv X pins σ H s) (r : Vals vs us) (h : sp vs H Q E0) :
    wpAny (model X.prog X.w) A (call (.ref f) us) (EP X pins σ Q) E s := by
  have e0 : Env0 X.prog X.w X.K X.mg X.base A X.stack s H := by
    have e := I.env0
    exact ⟨by rw [fr]; exact e.frames, e.mod, e.bs, e.bsz, e.funs, e.frf, e.hok, e.bare⟩
  obtain ⟨p, hp⟩ := hc
  have P1 := I.pin p (List.mem_append_left _ hp)
  have hpin : PinOk X.stack H s p := ⟨P1.1, P1.2.1, fun hm => (List.mem_cons.mp (I.stkSub p.1 hm)).elim P1.2.2.1 P1.2.2.2.1, P1.2.2.2.2⟩
  have hl : us.length = ps.length := r.length.symm.trans (F.len _ _ _ _ h)
  refine wpAny_call (codeAny_mono (F.run A X.stack s H ⟨us, []⟩ us vs Q E0 p hG hr hpin e0 (by
    have z := hb s us I.kIn (by simpa using hl)
    simpa using z) r h) fun r s' hq => ?_)
  cases r with
  | error e => exact (show False from hq).elim
  | ok fl =>
    cases fl with
    | ret w => exact I.after hq
    | next => exact False.elim hq
    | brk => exact False.elim hq
    | cont => exact False.elim hq
theorem call_reprW (hs : PySem.W.findIn X.K (.ref C) "__repr__" = some (some (.ref f))) (hf : PySem.W.isFn X.K (.ref f) = true) (F : FnW X.prog X.w X.K X.mg X.base k f fd ps sp) (hc : ∃ p, p ∈ X.pn) (hG : X.A.guards = some []) (hb : Binds X.K fd ps []) (hr : RoomH (k + 1) X.A) :
    CallR X (.builtin "repr") (rReprO C sp) := by
  intro pins s σ H xs us Q I r h
  obtain ⟨a, dx, fs, rfl, ea, q⟩ := h
  rw [Vals.ref1 r]
  obtain ⟨mA, J, _⟩ := ins_get I.hok ea
  obtain ⟨od, J, _⟩ := J.look
  obtain ⟨m, hF⟩ := I.fr
  refine PySem.W.repr_K (by have := (roomH_in1 hr).un; omega) hF I.ok.mod.kin J hs hf ?_
  refine wpAny_mono (own_runW (vs := [.ref a]) F (guards_in1 hG) hb (roomH_in1 hr) frames_in1 hc I (.cons rfl .nil) q) (fun r s' hq => ?_) fun _ _ e => e
  obtain ⟨z, H', I', rz, zz, ez, q2⟩ := hq
  subst ez
  obtain ⟨t, ez⟩ := (show ∃ t, r = Value.str zz t from rz)
  subst ez
  exact ⟨.str zz, H', I', ⟨t, rfl⟩, q2⟩
end
end L2
namespace C12
open PySem L2 L2H
section
variable {P : Program} {w : World} {K : PySem.W.Frag} {mg : Str → Option Value} {base : Heap} {f C : Addr} {fd : FuncData}
theorem ok_reprW (F : FM K "__repr__" "TextMap.__repr__" s_repr f fd) (T : TMc K C) (hK : noMods K = true) : FnW P w K mg base 1 f fd ["self"] (spReprT C) := by
  refine F.okW sc_repr (fun vs H Q E h => ?_) (fun cdv A outer s H vs Q E p hg hr h => ?_)
  · obtain ⟨m, ex, r, rfl, _⟩ := h
    rfl
  obtain ⟨m, ex, r, rfl, ⟨dx, d, hm, hd⟩, tb, ro, q⟩ := h
  have hG := deeper_guards (env := PyProof.Rows.envOfC "TextMap.__repr__" (defScope s_repr) s.heap.objs.size f cdv) hg
  have hu : (A.deeper (PyProof.Rows.envOfC "TextMap.__repr__" (defScope s_repr) s.heap.objs.size f cdv)).units + 64 < cLine := by
    have := hr.un
    omega
  refine ⟨_, PSs.nox (pss_one (ps_ret (pe_joined (.cons pe_str (.cons (pe_fmtD (by exact hG) (by exact hu) (by exact hK) (pe_fld (pv 0) rfl)) (.cons pe_str (.cons (pe_fmtD (by exact hG) (by exact hu) (by exact hK) (pe_fld (pv 0) rfl)) (.cons pe_str .nil)))))))), ?_⟩
  obtain ⟨a1, a2, a3⟩ := ex_ok tb
  obtain ⟨b1, b2, b3⟩ := rest_ok ro
  have l1 := ex_shown tb
  have l2 := rest_shown ro
  have e1 : (Str.empty ++ "TextMap(" : Str).length = 8 := pre_len
  have e2 : (", " : Str).length = 2 := by decide +kernel
  have e3 : (")" : Str).length = 1 := by decide +kernel
  have big : 20000 ≤ sizeLine := by decide
  refine ⟨_, rfl, by rw [e1]; exact Nat.le_trans (by decide) big, _, rfl, m, C, dx, _, .ref d, rfl, hm, T.cl, T.nE, rfl, _, ex_rp (tab_txt tb) hd, a1, a2, a3, _, rfl, ?_, _, rfl, ?_, _, rfl, m, C, dx, _, r, rfl, hm, T.cl, T.nR, rfl, _, rest_rp ro, b1, b2, b3, _, rfl, ?_, _, rfl, ?_, q⟩
  · rw [strLen_append, e1]
    omega
  · rw [strLen_append, strLen_append, e1, e2]
    omega
  · rw [strLen_append, strLen_append, strLen_append, e1, e2]
    omega
  · rw [strLen_append, strLen_append, strLen_append, strLen_append, e1, e2, e3]
    omega
end
end C12

end PG13
section PF13
set_option maxHeartbeats 4000000
namespace L2
open PySem PySem.Spec PyProof.Rows
/-- o.m(..) that may raise, at these slots -/
def tMethW (C : Addr) (m : Str) (sp : Sp) (E : St → XK) (ta : TE) (t : TA) : TE := fun σ H Q => ta σ H fun x H1 => ∃ a dx fs, x = .ref a ∧ H1 a = some (.ins C dx fs) ∧ fs.lookup m = none ∧ t σ H1 fun vs H2 => sp (.ref a :: vs) H2 Q (E σ)
theorem pe_methW {X : Cx} {CX : CXT} {k : Nat} {C f : Addr} {fd : FuncData} {ps : List Str} {sp : Sp} {E : St → XK} {m : Str} {pos apos : Pos} {e o : Expr} {es : List Expr} {ta : TE} {t : TA} {pl : Sem Bool}
    (he : PE X o ta) (c : Cls X.K C) (hm : Meth X.K C m f) (F : FnOk X.prog X.w X.K X.mg X.base CX k f fd ps sp) (hr : Room k X.A) (hb : Binds X.K fd ps []) (hx : ∀ σ, PassesAt CX X σ (E σ)) (ha : PA X (e :: es) t)
    (hst : starEach (e :: es) X.env = (false, eval e X.env) :: starEach es X.env := by rfl) (hpl : (backTo pos (starEach es X.env)).any (·.1) = false := by rfl)
    (ht : eval (.Call (.Attribute o m apos) (e :: es) [] pos) X.env = (do
      let ov ← eval o X.env
      standAt apos.atName
      let (f, first) ← holding [ov] (getMethod ov m pl)
      callWith pos f first (backTo pos (starEach (e :: es) X.env)) (backToKw pos (keywordEach [] X.env))) := by rfl) :
    PE X (.Call (.Attribute o m apos) (e :: es) [] pos) (tMethW C m sp E ta t) := by
  refine ⟨fun pins s σ H Q I h => ?_⟩
  refine PySem.W.methodCall_KW (pl := pl) (thn (he.run pins s σ H _ I h) fun u s1 ⟨x, H1, I1, rx, a, dx, fs, ex, ea, l, q⟩ => ?_) ht
  subst ex
  obtain rfl : u = Value.ref a := rx
  refine getmeth_ok I1 ea c hm l ?_
  refine PySem.W.callWith_K (first := [.ref a]) (h₀ := X.base) I.ok.mod.kin hm.kp (thn (ha.run pos pins s1 σ H1 _ I1 q) fun us s2 ⟨vs, H2, I2, r, q2⟩ => ⟨I2.kIn, ?_⟩) hst hpl
  exact run_fnS (us := .ref a :: us) (vs := .ref a :: vs) F hr hb (hx σ) I2 (.cons rfl r) q2
end L2
namespace C12
open PySem PySem.Spec L2 L2H PyProof.Rows
/-! ### a value that is no text is refused -/
theorem eq_selfS {H : Hp} {Q : VK} (x : Str) (q : Q (.bl true) H) : rEq (.str x) (.str x) H Q := ⟨rfl, by rw [decide_eq_true rfl]; exact q⟩
abbrev s_refused : Stmt := top 34
def RpOk (H : Hp) (x : V) : Prop := ∃ d : PyData, Rp H x d ∧ d.showable = true ∧ d.shown.length ≤ sizeLine ∧ d.depth ≤ 60
theorem RpOk.same {H H' : Hp} {x : V} (s : Same H H') (h : RpOk H x) : RpOk H' x := by
  obtain ⟨d, r, q⟩ := h
  exact ⟨d, r.same s, q⟩
def spRefused (K : PySem.W.Frag) (C : Addr) : Sp := fun vs H Q _ => ∃ (m : Addr) (ex : List (Key × V)) (r x : V), vs = [.ref m, x] ∧ TMap C H m ex r ∧ Tab 60 ex ∧ RestOk r ∧ AsStr K H x ∧ (∀ z, x = .str z → z.length ≤ sizeLine) ∧ isWd x 12 = false ∧ (RpOk H x ∨ x = .ref m) ∧ ∀ H', Same H H' → Q (.bl true) H'
abbrev nRefused : List Str := ["_law_mapping", "_law_thing", "e"]
theorem sc_refused : FnScope nRefused ["_law_mapping", "_law_thing"] (defScope s_refused) := ⟨rfl, rfl, rfl, by decide +kernel, rfl, by decide +kernel, by decide +kernel⟩
section
variable {P : Program} {w : World} {K : PySem.W.Frag} {mg : Str → Option Value} {base : Heap} {f C CI fS fA fR : Addr} {fd dS dA dR : FuncData}
theorem ok_refused (F : FD K "_law_refused" s_refused f fd) (T : TMc K C) (tr : mg "repr" = none) (hK : noMods K = true) (GX : FnOk P w K mg base (L2.CX P w) 3 fA dA ["self", "value"] (spAtX K C CI)) (bA : Binds K dA ["self", "value"] []) (mA : Meth K C "at" fA) (XI : XcO P w K mg base CI fS dS "InvalidValue" "value")
    (RW : FnW P w K mg base 1 fR dR ["self"] (spReprT C)) (hexm : PySem.W.exmOne K (.ref CI) (.ref CI) = some true) (RF : ReF P w K mg base C fR dR) : FnG P w K mg base CX0 4 f fd ["_law_mapping", "_law_thing"] (spRefused K C) := by
  refine F.okG sc_refused (fun vs H Q E h => ?_) (fun cdv A outer s H vs Q E hg hr h => ?_)
  · obtain ⟨m, ex, r, x, rfl, _⟩ := h
    rfl
  obtain ⟨m, ex, r, x, rfl, tm, tb, ro, ax, lx, nx, hx, q⟩ := h
  have hG := deeper_guards (env := PyProof.Rows.envOfC "_law_refused" (defScope s_refused) s.heap.objs.size f cdv) hg
  have hu := hr.units
  have rH := roomH_of (hr.mono (show 2 ≤ 3 by decide))
  rcases hx with hx | rfl
  · refine ⟨_, pss_cons (ps_try_as (i := 2) (n := "e") (c := .ref CI) (tb := fun W => tSeq (tDrop (tMethW C "at" (spAtX K C CI) (WE W) (tVar 0) (tCons (tVar 1) tNil))) tNext) (ts := fun a cls d => tRet (tOp rEq (tCB rRepr (tCons (tXf a cls d CI "value" (tVar 2)) tNil)) (tCB rRepr (tCons (tVar 1) tNil)))) rfl rfl sc_refused.nd rfl (by rfl) ⟨by rfl, by decide, Or.inl XI.m⟩ takes_no
        (fun W pn xe tk ho => pss_one (ps_expr (pe_methW (pv 0) T.cl mA GX hr bA (fun σ => passAt tk σ) (pa_cons (pv 1) pa_nil))))
        (fun a oe cls d pn hz hf => pss_one (ps_ret (pe_cmpR op_eq (pe_callB (call_reprD (by exact hG) (by exact hu) (by exact hK)) (by rfl) tr boot_repr (pa_cons (pe_xf XI.x.xf XI.no hz hf (pv 2)) pa_nil)) (pe_callB (call_reprD (by exact hG) (by exact hu) (by exact hK)) (by rfl) tr boot_repr (pa_cons (pv 1) pa_nil)) (nomark _)))))
      (pss_one (ps_ret pe_bl)), ?_⟩
    obtain ⟨dx, dd, hm, hd⟩ := tm
    refine ⟨_, rfl, m, dx, _, rfl, hm, rfl, _, rfl, m, ex, r, x, rfl, ⟨dx, dd, hm, hd⟩, ax, lx, nx, fun d2 H2 s2 x2 => ?_⟩
    refine ⟨true, hexm, fun _ a2 n2 => ?_, fun z => nomatch z⟩
    obtain ⟨dt, h1, h2, h3, h4⟩ := hx.same s2
    exact ⟨_, rfl, rfl, rfl, d2, _, x, rfl, x2, rfl, x, dt, rfl, h1, h2, h3, h4, _, rfl, x, dt, rfl, h1, h2, h3, h4, eq_selfS _ (q _ s2)⟩
  · refine ⟨_, pss_cons (ps_try_as (i := 2) (n := "e") (c := .ref CI) (tb := fun W => tSeq (tDrop (tMethW C "at" (spAtX K C CI) (WE W) (tVar 0) (tCons (tVar 1) tNil))) tNext) (ts := fun a cls d => tRet (tOp rEq (tCB (rReprO C (spReprT C)) (tCons (tXf a cls d CI "value" (tVar 2)) tNil)) (tCB (rReprO C (spReprT C)) (tCons (tVar 1) tNil)))) rfl rfl sc_refused.nd rfl (by rfl) ⟨by rfl, by decide, Or.inl XI.m⟩ takes_no
        (fun W pn xe tk ho => pss_one (ps_expr (pe_methW (pv 0) T.cl mA GX hr bA (fun σ => passAt tk σ) (pa_cons (pv 1) pa_nil))))
        (fun a oe cls d pn hz hf => pss_one (ps_ret (pe_cmpR op_eq (pe_callB (call_reprW RF.s RF.fn RW ⟨_, List.mem_cons_self⟩ (by exact hG) RF.b (by exact RoomH.mk rH.dp rH.un)) (by rfl) tr boot_repr (pa_cons (pe_xf XI.x.xf XI.no hz hf (pv 2)) pa_nil)) (pe_callB (call_reprW RF.s RF.fn RW ⟨_, List.mem_cons_self⟩ (by exact hG) RF.b (by exact RoomH.mk rH.dp rH.un)) (by rfl) tr boot_repr (pa_cons (pv 1) pa_nil)) (nomark _)))))
      (pss_one (ps_ret pe_bl)), ?_⟩
    obtain ⟨dx, dd, hm, hd⟩ := tm
    refine ⟨_, rfl, m, dx, _, rfl, hm, rfl, _, rfl, m, ex, r, .ref m, rfl, ⟨dx, dd, hm, hd⟩, ax, lx, nx, fun d2 H2 s2 x2 => ?_⟩
    refine ⟨true, hexm, fun _ a2 n2 => ?_, fun z => nomatch z⟩
    have tm2 : TMap C H2 m ex r := ⟨dx, dd, s2 _ _ hm, s2 _ _ hd⟩
    exact ⟨_, rfl, rfl, rfl, d2, _, .ref m, rfl, x2, rfl, m, dx, _, rfl, s2 _ _ hm, m, ex, r, rfl, tm2, tb, ro, _, rfl, _, rfl, m, dx, _, rfl, s2 _ _ hm, m, ex, r, rfl, tm2, tb, ro, _, rfl, eq_selfS _ (q _ s2)⟩
end
end C12

end PF13
section PH13
set_option maxHeartbeats 4000000
namespace C12
open PySem PySem.Spec L2 PyProof.Rows
/-! ### another map: a table and a rest -/
abbrev s_other : Stmt := top 35
def spOther : Sp := fun vs H Q _ => ∃ (p d : Addr) (k : List (Key × V)) (r : V), vs = [.ref p, .ref d, r] ∧ PotAt H p ∧ H d = some (.dK k) ∧ Tab 7 k ∧ RestOk r ∧ ∀ (t d2 : Addr) (k2 : List (Key × V)) (r2 : V) (H' : Hp), H' t = some (.tup [.ref d2, r2]) → H' d2 = some (.dK k2) → Tab 8 k2 → RestOk r2 → Bt p H H' → PotAt H' p → Q (.ref t) H'
abbrev nOther : List Str := ["_law_pot_here", "_law_table_here", "_law_last", "_law_near"]
theorem sc_other : FnScope nOther ["_law_pot_here", "_law_table_here", "_law_last"] (defScope s_other) := ⟨rfl, rfl, rfl, by decide +kernel, rfl, by decide +kernel, by decide +kernel⟩
theorem ne_pot {H : Hp} {p d : Addr} {k : List (Key × V)} (h : PotAt H p) (e : H d = some (.dK k)) : d ≠ p := fun z => by
  obtain ⟨x, y, q, _⟩ := h
  rw [z, q] at e
  cases e
section
variable {P : Program} {w : World} {K : PySem.W.Frag} {mg : Str → Option Value} {base : Heap} {f fD fW fP fT : Addr} {fd dD dW dP dT : FuncData}
set_option maxHeartbeats 8000000 in
theorem ok_other (F : FD K "_law_other" s_other f fd) (T : TD12 mg) (D : Kn P w K mg base 1 "_law_draw" fD dD ["_law_pot_here", "_law_many"] spDraw) (W : Kn P w K mg base 3 "_law_word" fW dW ["_law_pot_here"] spWord) (PK : Kn P w K mg base 2 "_law_pick" fP dP ["_law_pot_here", "_law_some"] (spPick K))
    (TB : Kn P w K mg base 4 "_law_table" fT dT ["_law_pot_here"] spTable) : FnOk P w K mg base CX0 5 f fd ["_law_pot_here", "_law_table_here", "_law_last"] spOther := by
  refine F.ok sc_other (fun vs H Q E h => ?_) (fun cdv A outer s H vs Q E hr h => ?_)
  · obtain ⟨p, d, k, r, rfl, _⟩ := h
    rfl
  obtain ⟨p, d, k, r, rfl, hP, hd, tb, ro, q⟩ := h
  have hu := hr.units
  have hu1 : A.units + 3 + 1 < cLine := by have h : A.units + 3 + 64 < cLine := hu; omega
  refine ⟨_, PSs.nox (pss_cons (ps_if (pt_cmpR op_eq (pe_call D.f (hr.mono (by decide)) rfl D.m D.k D.b .nil pass0 (pa_cons (pv 0) (pa_cons pe_int pa_nil))) pe_int (nomark _))
      (pss_one (ps_ret (pe_tup (pa_cons (pe_call TB.f hr rfl TB.m TB.k TB.b .nil pass0 (pa_cons (pv 0) pa_nil)) (pa_cons (pe_call PK.f (hr.mono (by decide)) rfl PK.m PK.k PK.b .nil pass0 (pa_cons (pv 0) (pa_cons (pe_lst (pa_cons pe_non (pa_cons (pe_call W.f (hr.mono (by decide)) rfl W.m W.k W.b .nil pass0 (pa_cons (pv 0) pa_nil)) pa_nil))) pa_nil))) pa_nil))))) pss_nil)
    (pss_cons (ps_set (i := 3) sc_other.nd rfl (Or.inl rfl) (pe_callTy call_dictD (by rfl) T.dict (by decide +kernel) (pa_cons (pv 1) pa_nil)))
    (pss_cons (ps_dput hu1 (pv 3) (pe_call W.f (hr.mono (by decide)) rfl W.m W.k W.b .nil pass0 (pa_cons (pv 0) pa_nil)) (pe_call W.f (hr.mono (by decide)) rfl W.m W.k W.b .nil pass0 (pa_cons (pv 0) pa_nil)) rfl)
    (pss_one (ps_ret (pe_tup (pa_cons (pv 3) (pa_cons (pe_call PK.f (hr.mono (by decide)) rfl PK.m PK.k PK.b .nil pass0 (pa_cons (pv 0) (pa_cons (pe_lst (pa_cons (pv 2) (pa_cons (pv 2) (pa_cons pe_non (pa_cons (pe_call W.f (hr.mono (by decide)) rfl W.m W.k W.b .nil pass0 (pa_cons (pv 0) pa_nil)) pa_nil))))) pa_nil))) pa_nil)))))))), ?_⟩
  refine ⟨_, rfl, p, 2, rfl, hP, by decide, by decide, fun n H1 n0 n1 b1 hP1 => ⟨rfl, _, rfl, ?_⟩⟩
  refine ite2 (fun h => ?_) (fun h => ?_)
  · refine ⟨_, rfl, p, rfl, hP1, fun d2 k2 H2 tb2 hn2 hd2 b2 hP2 => ?_⟩
    refine ⟨_, rfl, _, rfl, p, rfl, hP2, fun z H3 wz b3 hP3 => ⟨by show 2 ≤ sizeLine; decide, fun l hl => ?_⟩⟩
    have nl := pot_ne hP3 hl
    refine ⟨p, l, _, rfl, hP3.bt (same_upd hl), nl, upd_same, by show 0 < 2; decide, by show 2 ≤ 1000; decide, fun i v H4 hi b4 hP4 => ?_⟩
    refine ⟨by show 2 ≤ sizeLine; decide, fun t ht => ?_⟩
    have b5 : Bt p H H4 := (b1.trans (b2.trans b3)).trans ((Same.bt (same_upd hl)).trans b4)
    have hdd : H4 d2 = some (.dK k2) := b4 _ _ (ne_pot hP2 hd2) ((same_upd hl) _ _ (b3 _ _ (ne_pot hP2 hd2) hd2))
    refine q t d2 k2 v _ upd_same ((same_upd ht) _ _ hdd) (tb2.mono (by decide)) ?_ (b5.trans (Same.bt (same_upd ht))) (hP4.bt (same_upd ht))
    rcases List.mem_cons.mp (List.mem_of_getElem? hi) with e | e
    · exact .inl e
    · exact .inr ⟨z, List.mem_singleton.mp e, wz⟩
  · refine ⟨_, rfl, d, k, rfl, .inl (b1 _ _ (ne_pot hP hd) hd), fun g hg => ?_⟩
    have ng := pot_ne hP1 hg
    have s1 := same_upd (o := HO.dK k) hg
    refine ⟨_, rfl, p, rfl, hP1.bt s1, fun zb H3 wb b3 hP3 => ⟨_, rfl, _, rfl, p, rfl, hP3, fun za H4 wa b4 hP4 => ?_⟩⟩
    have hg4 := b4 _ _ ng (b3 _ _ ng upd_same)
    refine ⟨g, _, rfl, DPut.k (k := Sum.inr za) hg4 (Nat.lt_of_le_of_lt tb.len (by decide)), ?_⟩
    have tb2 := tb.put wa wb
    have bb : Bt p H (upd H4 g (.dK (putK k (Sum.inr za) (.str zb)))) := fun c o nc e => by
      have e1 := b1 c o nc e
      have n : c ≠ g := ne_of_none e1 hg
      rw [upd_ne n]
      exact b4 _ _ nc (b3 _ _ nc (s1 _ _ e1))
    have hP5 : PotAt (upd H4 g (.dK (putK k (Sum.inr za) (.str zb)))) p := by
      obtain ⟨x, y, z, r⟩ := hP4
      exact ⟨x, y, by rw [upd_ne (Ne.symm ng)]; exact z, r⟩
    have hg5 : (upd H4 g (.dK (putK k (Sum.inr za) (.str zb)))) g = some (.dK (putK k (Sum.inr za) (.str zb))) := upd_same
    generalize upd H4 g (.dK (putK k (Sum.inr za) (.str zb))) = H5 at bb hP5 hg5 ⊢
    refine ⟨_, rfl, _, rfl, _, rfl, _, rfl, _, rfl, p, rfl, hP5, fun z H6 wz b6 hP6 => ⟨by show 4 ≤ sizeLine; decide, fun l hl => ?_⟩⟩
    have nl := pot_ne hP6 hl
    refine ⟨p, l, _, rfl, hP6.bt (same_upd hl), nl, upd_same, by show 0 < 4; decide, by show 4 ≤ 1000; decide, fun i v H7 hi b7 hP7 => ?_⟩
    refine ⟨by show 2 ≤ sizeLine; decide, fun t ht => ?_⟩
    have b8 : Bt p H H7 := (bb.trans b6).trans ((Same.bt (same_upd hl)).trans b7)
    have hdd : H7 g = some (.dK (putK k (Sum.inr za) (.str zb))) := b7 _ _ ng ((same_upd hl) _ _ (b6 _ _ ng hg5))
    refine q t g _ v _ upd_same ((same_upd ht) _ _ hdd) tb2 ?_ (b8.trans (Same.bt (same_upd ht))) (hP7.bt (same_upd ht))
    have mem := List.mem_of_getElem? hi
    simp only [List.mem_cons, List.not_mem_nil, or_false] at mem
    rcases mem with e | e | e | e
    · rw [e]
      exact ro
    · rw [e]
      exact ro
    · exact .inl e
    · exact .inr ⟨z, e, wz⟩
end
end C12

end PH13
section PI13
set_option maxHeartbeats 4000000
namespace C12
open PySem PySem.Spec L2 PyProof.Rows
/-! ### all of it, once -/
abbrev s_right : Stmt := top 36
abbrev nRight : List Str := ["_law_pot_here", "_law_table_here", "_law_last", "_law_word_here", "_law_handed", "_law_mapping", "_law_own", "_law_odd", "_law_one"]
theorem sc_right : FnScope nRight ["_law_pot_here"] (defScope s_right) := ⟨rfl, rfl, rfl, by decide +kernel, rfl, by decide +kernel, by decide +kernel⟩
/-- a classmethod of a class -/
structure CMk (P : Program) (w : World) (K : PySem.W.Frag) (mg : Str → Option Value) (base : Heap) (C : Addr) (mc : Value) (x : Str) (p f : Addr) (d : FuncData) (ps : List Str) (sp : Sp) : Prop where
  r : ClX.CRead K C mc
  c : ClX.CMet K C mc x p f
  g : FnOk P w K mg base CX0 5 f d ps sp
  b : Binds K d ps []
theorem flat_tab {n : Nat} {kvs : List (Key × V)} (t : Tab n kvs) : ∀ p ∈ kvs, valV kvs p.1 = some p.2 ∧ flatB p.2 = true := fun p hp => by
  obtain ⟨i, hi⟩ := List.getElem?_of_mem hp
  refine ⟨get_at t.nd hi, ?_⟩
  obtain ⟨a, b, rfl, _, _⟩ := t.each p hp
  rfl
def OddOk (K : PySem.W.Frag) (H : Hp) (m : Addr) (x : V) : Prop := AsStr K H x ∧ (∀ z, x = .str z → z.length ≤ sizeLine) ∧ isWd x 12 = false ∧ (RpOk H x ∨ x = .ref m)
theorem odd_str {K : PySem.W.Frag} {H : Hp} {m : Addr} {z : Str} (h1 : decide (z.length ≤ 100) = true) (h2 : wordB z 12 = false) (h3 : decide ((PyData.str z).shown.length ≤ 100) = true) : OddOk K H m (.str z) := by
  have l1 := of_decide_eq_true h1
  have l3 := of_decide_eq_true h3
  have big : 100 ≤ sizeLine := by decide
  refine ⟨asStr_str z, fun y e => ?_, h2, .inl ⟨.str z, .str z, rfl, Nat.le_trans l3 big, ?_⟩⟩
  · cases e
    exact Nat.le_trans l1 big
  · show PyData.depth (.str z) ≤ 60
    first
      | decide
      | (show 1 ≤ 60; decide)
      | (show 0 ≤ 60; decide)
theorem odd_all {K : PySem.W.Frag} {H : Hp} {C CM m t l g dx : Addr} {fs : List (Str × V)} {x : V} (O : TcO K C CM "text") (kst : PySem.W.kitOne K (.ref C) (.type "str") = some false) (hm : H m = some (.ins C dx fs)) (ht : H t = some (.tup [.str "a"])) (hl : H l = some (.lst [.str "a"])) (hg : H g = some (.dK [(Sum.inr "a", .str "a")]))
    (h : x ∈ [V.bl true, .non, .int 0, .str "", .str "A", .str "a b", .str "abcdefghijklm", .ref t, .ref l, .ref g, .ref m]) : OddOk K H m x := by
  have big : 100 ≤ sizeLine := by decide
  have no : ∀ {a : Addr}, ∀ z : Str, V.ref a = .str z → z.length ≤ sizeLine := fun z e => nomatch e
  simp only [List.mem_cons, List.not_mem_nil, or_false] at h
  rcases h with rfl | rfl | rfl | rfl | rfl | rfl | rfl | rfl | rfl | rfl | rfl
  · exact ⟨⟨_, .base (.bl true), kit_ty (show kitB "bool" "str" = some false by decide +kernel)⟩, (fun z e => nomatch e), rfl, .inl ⟨_, .bl true, rfl, Nat.le_trans (show _ ≤ 100 by decide +kernel) big, by decide⟩⟩
  · exact ⟨⟨_, .base .non, kit_ty (show kitB "NoneType" "str" = some false by decide +kernel)⟩, (fun z e => nomatch e), rfl, .inl ⟨_, .non, rfl, Nat.le_trans (show _ ≤ 100 by decide +kernel) big, by decide⟩⟩
  · exact ⟨⟨_, .base (.int 0), kit_ty (show kitB "int" "str" = some false by decide +kernel)⟩, (fun z e => nomatch e), rfl, .inl ⟨_, .int 0, by decide +kernel, Nat.le_trans (show _ ≤ 100 by decide +kernel) big, by decide⟩⟩
  · exact odd_str (by decide +kernel) (by decide +kernel) (by decide +kernel)
  · exact odd_str (by decide +kernel) (by decide +kernel) (by decide +kernel)
  · exact odd_str (by decide +kernel) (by decide +kernel) (by decide +kernel)
  · exact odd_str (by decide +kernel) (by decide +kernel) (by decide +kernel)
  · exact ⟨⟨_, .base (.tup ht), kit_ty (show kitB "tuple" "str" = some false by decide +kernel)⟩, no, rfl, .inl ⟨.tuple [.str "a"], .tup ht (.cons (.str "a") .nil), by decide +kernel, Nat.le_trans (show _ ≤ 100 by decide +kernel) big, by decide +kernel⟩⟩
  · exact ⟨⟨_, .base (.lst hl), kit_ty (show kitB "list" "str" = some false by decide +kernel)⟩, no, rfl, .inl ⟨.list [.str "a"], .lst hl (.cons (.str "a") .nil), by decide +kernel, Nat.le_trans (show _ ≤ 100 by decide +kernel) big, by decide +kernel⟩⟩
  · exact ⟨⟨_, .base (.dK hg), kit_ty (show kitB "dict" "str" = some false by decide +kernel)⟩, no, rfl, .inl ⟨.dict [(.str "a", .str "a")], .dic hg (.cons (.str "a") .nil), by decide +kernel, Nat.le_trans (show _ ≤ 100 by decide +kernel) big, by decide +kernel⟩⟩
  · exact ⟨⟨_, O.ty hm, kst⟩, no, rfl, .inr rfl⟩
section
variable {P : Program} {w : World} {K : PySem.W.Frag} {mg : Str → Option Value} {base : Heap} {f C CN CM fD fW fP fT fA fL f2 fO fR fE fI p1 p2 p3 m1 m2 m3 : Addr} {fd dD dW dP dT dA dL d2 dO dR dE dI e1 e2 e3 : FuncData} {mc mn : Value}
set_option maxHeartbeats 16000000 in
theorem ok_right (F : FD K "_law_right" s_right f fd) (T : TMc K C) (O : TcO K C CM "text") (TD : TD12 mg) (D : Kn P w K mg base 1 "_law_draw" fD dD ["_law_pot_here", "_law_many"] spDraw) (W : Kn P w K mg base 3 "_law_word" fW dW ["_law_pot_here"] spWord)
    (PK : Kn P w K mg base 2 "_law_pick" fP dP ["_law_pot_here", "_law_some"] (spPick K)) (TB : Kn P w K mg base 4 "_law_table" fT dT ["_law_pot_here"] spTable) (AG : Kn P w K mg base 4 "_law_agrees" fA dA ["_law_mapping", "_law_table_here", "_law_last"] (spAgrees C))
    (TL : KnG P w K mg base 5 "_law_told_right" fL dL ["_law_mapping", "_law_table_here", "_law_last"] (spTold C)) (TT : Kn P w K mg base 5 "_law_two_right" f2 d2 ["_law_one", "_law_other_here"] spTwo) (OT : Kn P w K mg base 5 "_law_other" fO dO ["_law_pot_here", "_law_table_here", "_law_last"] spOther)
    (RE : KnG P w K mg base 4 "_law_refused" fR dR ["_law_mapping", "_law_thing"] (spRefused K C)) (EF : EqF P w K mg base C CN fE dE) (MT : MkT P w K mg base C fI dI) (CS : CMk P w K mg base C mc "same" p1 m1 e1 ["cls"] (spSame C)) (CC : CMk P w K mg base C mc "constant_map" p2 m2 e2 ["cls", "value"] (spConst C))
    (CNS : CMk P w K mg base CN mn "same" p3 m3 e3 ["cls"] (spNSame CN)) (mN : mg "NumberMap" = some (.ref CN)) (nf1 : PySem.W.notFirst K C (.type "dict") = true) (nf2 : PySem.W.notFirst K C (.ref CN) = true) (kst : PySem.W.kitOne K (.ref C) (.type "str") = some false) :
    FnG P w K mg base CX0 6 f fd ["_law_pot_here"] spRight := by
  refine F.okG sc_right (fun vs H Q E h => ?_) (fun cdv A outer s H vs Q E hg hr h => ?_)
  · obtain ⟨p, rfl, _⟩ := h
    rfl
  obtain ⟨p, rfl, hP, q⟩ := h
  have hG := deeper_guards (env := PyProof.Rows.envOfC "_law_right" (defScope s_right) s.heap.objs.size f cdv) hg
  have hu := hr.units
  have hu1 : A.units + 3 + 1 < cLine := by have h : A.units + 3 + 64 < cLine := hu; omega
  have hu0 : A.units + 3 < cLine := by omega
  obtain ⟨ds0, hds0, hb0⟩ := MT.b2
  have gS := CS.g.raw CS.b .nil
  have gC := CC.g.raw CC.b .nil
  have gN := CNS.g.raw CNS.b .nil
  refine ⟨_, PSs.nox (pss_cons (ps_par (i := 1) (j := 2) (by rfl) sc_right.nd rfl rfl (by decide) rfl rfl (pa_cons (pe_call TB.f (hr.mono (by decide)) rfl TB.m TB.k TB.b .nil pass0 (pa_cons (pv 0) pa_nil)) (pa_cons (pe_call PK.f (hr.mono (by decide)) rfl PK.m PK.k PK.b .nil pass0 (pa_cons (pv 0) (pa_cons (pe_lst (pa_cons pe_non (pa_cons pe_non (pa_cons (pe_call W.f (hr.mono (by decide)) rfl W.m W.k W.b .nil pass0 (pa_cons (pv 0) pa_nil)) pa_nil)))) pa_nil))) pa_nil)) (by rfl))
    (pss_cons (ps_for .never (by rfl) (pi_list (pe_lc (own := [("_law_one", 8)]) (g := gName 8) (te := tVar 8) rfl sc_right.nd (pi_list (pe_lst (pa_cons pe_str (pa_cons pe_str pa_nil)))) (blkOk_by (N := nRight) (sc := defScope s_right) (by decide +kernel)) (fun _ _ _ _ _ => pg_name (i := 8) sc_right.nd rfl (Or.inl rfl)) (fun _ _ _ _ _ => pts_one (pt_cmpR op_eq (pe_call D.f (hr.mono (by decide)) rfl D.m D.k D.b .nil pass0 (pa_cons (pv 0) (pa_cons pe_int pa_nil))) pe_int (nomark _))) (fun _ _ _ _ _ => by exact (pv 8)))) (pg_name (i := 3) sc_right.nd rfl (Or.inl rfl))
      (pss_one (ps_dput hu1 (pv 1) (pv 3) (pe_ifExp (pt_cmp (pc_isN (pv 2))) (pv 3) (pv 2)) rfl)))
    (pss_cons (ps_set (i := 4) sc_right.nd rfl (Or.inl rfl) (pe_callTy call_dictD (by rfl) TD.dict (by decide +kernel) (pa_cons (pv 1) pa_nil)))
    (pss_cons (ps_set (i := 5) sc_right.nd rfl (Or.inl rfl) (pe_make MT.mkC MT.g (hr.mono (by decide)) rfl MT.m MT.b .nil pass0 (pa_cons (pv 4) (pa_cons (pv 2) pa_nil))))
    (pss_cons (ps_if (PW.pt (pw_or (pt_cmpR (op_ne_dictA (by exact hu0)) (pv 4) (pv 1) (nomark _)) (pw_or1 (pt_not (pt_val (pe_call AG.f (hr.mono (by decide)) rfl AG.m AG.k AG.b .nil pass0 (pa_cons (pv 5) (pa_cons (pv 1) (pa_cons (pv 2) pa_nil))))))))) pss_never pss_nil)
    (pss_cons (ps_dput hu1 (pv 4) pe_str pe_str rfl)
    (pss_cons (ps_if (PW.pt (pw_or (pt_not (pt_val (pe_call AG.f (hr.mono (by decide)) rfl AG.m AG.k AG.b .nil pass0 (pa_cons (pv 5) (pa_cons (pv 1) (pa_cons (pv 2) pa_nil)))))) (pw_or1 (pt_not (pt_val (pe_callG TL.f (by exact hG) (hr.mono (by decide)) rfl TL.m TL.k TL.b .nil pass0 (pa_cons (pv 5) (pa_cons (pv 1) (pa_cons (pv 2) pa_nil))))))))) pss_never pss_nil)
    (pss_cons (ps_set (i := 6) sc_right.nd rfl (Or.inl rfl) (pe_tup (pa_cons (pv 1) (pa_cons (pv 2) pa_nil))))
    (pss_cons (ps_if (PW.pt (pw_or (pt_not (pt_val (pe_call TT.f hr rfl TT.m TT.k TT.b .nil pass0 (pa_cons (pv 6) (pa_cons (pe_call OT.f hr rfl OT.m OT.k OT.b .nil pass0 (pa_cons (pv 0) (pa_cons (pv 1) (pa_cons (pv 2) pa_nil)))) pa_nil))))) (pw_or1 (pt_not (pt_val (pe_call TT.f hr rfl TT.m TT.k TT.b .nil pass0 (pa_cons (pv 6) (pa_cons (pv 6) pa_nil)))))))) pss_never pss_nil)
    (pss_cons (ps_set (i := 3) sc_right.nd rfl (Or.inl rfl) (pe_call W.f (hr.mono (by decide)) rfl W.m W.k W.b .nil pass0 (pa_cons (pv 0) pa_nil)))
    (pss_cons (ps_if (PW.pt (pw_or (pt_not (pt_val (pe_call AG.f (hr.mono (by decide)) rfl AG.m AG.k AG.b .nil pass0 (pa_cons (pe_cmeth0 (pe_glob (v := .ref C) rfl MT.m rfl) CS.r CS.c gS hr pass0) (pa_cons pe_dnewK (pa_cons pe_non pa_nil)))))) (pw_or1 (pt_not (pt_val (pe_call AG.f (hr.mono (by decide)) rfl AG.m AG.k AG.b .nil pass0 (pa_cons (ClX.pe_cmeth (pe_glob (v := .ref C) rfl MT.m rfl) CC.r CC.c gC hr pass0 (pa_cons (pv 3) pa_nil)) (pa_cons pe_dnewK (pa_cons (pv 3) pa_nil))))))))) pss_never pss_nil)
    (pss_cons (ps_if (PW.pt (pw_or (pt_cmpR (op_neO EF.o EF.g EF.b (hr.mono (by decide))) (pe_cmeth0 (pe_glob (v := .ref C) rfl MT.m rfl) CS.r CS.c gS hr pass0) (pe_make0 MT.mkC MT.g (hr.mono (by decide)) rfl MT.m hb0 hds0 pass0) (nomark _)) (pw_or1 (pt_cmpR (op_neO EF.o EF.g EF.b (hr.mono (by decide))) (ClX.pe_cmeth (pe_glob (v := .ref C) rfl MT.m rfl) CC.r CC.c gC hr pass0 (pa_cons (pv 3) pa_nil)) (pe_make MT.mkC MT.g (hr.mono (by decide)) rfl MT.m MT.b .nil pass0 (pa_cons pe_non (pa_cons (pv 3) pa_nil))) (nomark _))))) pss_never pss_nil)
    (pss_cons (ps_set (i := 7) sc_right.nd rfl (Or.inl rfl) (pe_call PK.f (hr.mono (by decide)) rfl PK.m PK.k PK.b .nil pass0 (pa_cons (pv 0) (pa_cons (pe_lst (pa_cons pe_bl (pa_cons pe_non (pa_cons pe_int (pa_cons pe_str (pa_cons pe_str (pa_cons pe_str (pa_cons pe_str (pa_cons (pe_tup (pa_cons pe_str pa_nil)) (pa_cons (pe_lst (pa_cons pe_str pa_nil)) (pa_cons (pe_disp (pps_cons pe_str pe_str pps_nil) rfl rfl (by simp) (by decide)) (pa_cons (pv 5) pa_nil)))))))))))) pa_nil))))
    (pss_one (ps_ret (pe_and (pe_callG RE.f (by exact hG) (hr.mono (by decide)) rfl RE.m RE.k RE.b .nil pass0 (pa_cons (pv 5) (pa_cons (pv 7) pa_nil))) (pe_and (pe_cmpR (op_neO EF.o EF.g EF.b (hr.mono (by decide))) (pv 5) (pv 1) (nomark _)) (pe_one (pe_cmpR (op_neO EF.o EF.g EF.b (hr.mono (by decide))) (pv 5) (pe_cmeth0 (pe_glob (v := .ref CN) rfl mN rfl) CNS.r CNS.c gN hr pass0) (nomark _)))))))))))))))))))), ?_⟩
  -- the table, the rest
  refine ⟨_, rfl, p, rfl, hP, fun d k0 H1 tb0 hn1 hd1 b1 hP1 => ?_⟩
  refine ⟨_, rfl, _, rfl, p, rfl, hP1, fun z H2 wz b2 hP2 => ⟨by show 3 ≤ sizeLine; decide, fun l hl => ?_⟩⟩
  refine ⟨p, l, _, rfl, hP2.bt (same_upd hl), pot_ne hP2 hl, upd_same, by show 0 < 3; decide, by show 3 ≤ 1000; decide, fun i r H3 hi b3 hP3 => ⟨_, _, rfl, ?_⟩⟩
  have nd := ne_pot hP1 hd1
  have c3 : Bt p H H3 := (b1.trans b2).trans ((Same.bt (same_upd hl)).trans b3)
  have hd3 := b3 _ _ nd ((same_upd hl) _ _ (b2 _ _ nd hd1))
  have ro : RestOk r := by
    have mem := List.mem_of_getElem? hi
    simp only [List.mem_cons, List.not_mem_nil, or_false] at mem
    rcases mem with e | e | e
    · exact .inl e
    · exact .inl e
    · exact .inr ⟨z, e, wz⟩
  clear hi b3 b2 b1 hP1 hP2 hd1 hl
  -- the words that are said by the rest
  refine ⟨by show 2 ≤ sizeLine; decide, fun g0 hg0 => ⟨g0, rfl, ⟨_, SqL.of upd_same⟩, fun D0 hD0 => ?_⟩⟩
  have c4 : Bt p H3 (upd H3 g0 (.lst [.str "a", .str "zz"])) := Same.bt (same_upd hg0)
  have hP4 : PotAt (upd H3 g0 (.lst [.str "a", .str "zz"])) p := hP3.bt (same_upd hg0)
  have ng0 := pot_ne hP3 hg0
  have hg4 : (upd H3 g0 (.lst [.str "a", .str "zz"])) g0 = some (.lst [.str "a", .str "zz"]) := upd_same
  have hd4 := c4 _ _ nd hd3
  generalize upd H3 g0 (.lst [.str "a", .str "zz"]) = H4 at c4 hP4 hg4 hd4 hD0 ⊢
  have nD0 := pot_ne hP4 hD0
  refine lc_list (xs := [.str "a", .str "zz"]) (fun i H' => Bt p H4 H' ∧ PotAt H' p ∧ ∃ ws : List Str, H' D0 = some (.lst (ws.map V.str)) ∧ (∀ y ∈ ws, wordB y 12 = true) ∧ ws.length ≤ i) ⟨Same.bt (same_upd hD0), hP4.bt (same_upd hD0), [], upd_same, fun y h => absurd h List.not_mem_nil, Nat.le_refl _⟩
    (fun i H' _ ⟨z, _⟩ => SqL.of (z _ _ ng0 hg4)) (fun i x H5 hx ⟨c5, hP5, ws, hD5, hw, hl⟩ => ?_) fun H5 ⟨c5, hP5, ws, hD5, hw, hl⟩ => ?_
  · have ew : ∃ y : Str, x = .str y ∧ wordB y 12 = true := by
      have mem := List.mem_of_getElem? hx
      simp only [List.mem_cons, List.not_mem_nil, or_false] at mem
      rcases mem with e | e
      · exact ⟨"a", e, by decide +kernel⟩
      · exact ⟨"zz", e, by decide +kernel⟩
    obtain ⟨y, rfl, wy⟩ := ew
    have hi2 : i < 2 := (List.getElem?_eq_some_iff.mp hx).1
    refine ⟨rfl, _, rfl, p, 4, rfl, hP5, by decide, by decide, fun n H6 n0 n1 b6 hP6 => ⟨rfl, _, rfl, ?_⟩⟩
    have hD6 := b6 _ _ nD0 hD5
    refine ite2 (fun h => ?_) (fun h => ?_)
    · refine ⟨_, rfl, _, hD6, ?_, ?_⟩
      · rw [List.length_map]
        exact Nat.lt_of_le_of_lt (show _ ≤ 2 by omega) (by decide)
      refine ⟨fun c o nc e => ?_, ?_, ws ++ [y], by rw [upd_same, List.map_append]; rfl, fun u hu => ?_, by rw [List.length_append, List.length_singleton]; omega⟩
      · have n : c ≠ D0 := ne_of_none e hD0
        rw [upd_ne n]
        exact b6 _ _ nc (c5 _ _ nc e)
      · obtain ⟨a, b, e, r⟩ := hP6
        exact ⟨a, b, by rw [upd_ne (Ne.symm nD0)]; exact e, r⟩
      · rcases List.mem_append.mp hu with h | h
        · exact hw u h
        · rw [List.mem_singleton.mp h]
          exact wy
    · exact ⟨c5.trans b6, hP6, ws, hD6, hw, by omega⟩
  have hl2 : ws.length ≤ 2 := hl
  have c5' : Bt p H H5 := c3.trans (c4.trans c5)
  have hd5 := c5 _ _ nd hd4
  refine ⟨D0, rfl, ⟨_, SqL.of hD5⟩, ?_⟩
  refine for_list (xs := ws.map V.str) (fun i σ' H' => Bt p H H' ∧ PotAt H' p ∧ H' D0 = some (.lst (ws.map V.str)) ∧ ∃ (x : Option V) (kvs : List (Key × V)), σ' = [some (.ref p), some (.ref d), some r, x, none, none, none, none, none] ∧ Tab (5 + i) kvs ∧ H' d = some (.dK kvs))
    ⟨c5', hP5, hD5, none, k0, rfl, tb0, hd5⟩ (fun i σ' H' _ ⟨_, _, e, _⟩ => SqL.of e) (fun i x σ' H6 hx ⟨c6, hP6, hD6, x3, kvs, eσ, tb, hd6⟩ => ?_) (fun σ' H6 ⟨c6, hP6, hD6, x3, kvs, eσ, tb, hd6⟩ => ?_)
  · subst eσ
    have ew : ∃ y : Str, x = .str y ∧ wordB y 12 = true := by
      obtain ⟨y, hy, e⟩ := List.mem_map.mp (List.mem_of_getElem? hx)
      exact ⟨y, e.symm, hw y hy⟩
    obtain ⟨y, rfl, wy⟩ := ew
    have hi2 : i < ws.length := by
      have := (List.getElem?_eq_some_iff.mp hx).1
      rwa [List.length_map] at this
    have fin : ∀ u : Str, wordB u 12 = true → Bt p H (upd H6 d (.dK (putK kvs (Sum.inr y) (.str u)))) ∧ PotAt (upd H6 d (.dK (putK kvs (Sum.inr y) (.str u)))) p ∧ (upd H6 d (.dK (putK kvs (Sum.inr y) (.str u)))) D0 = some (.lst (ws.map V.str)) ∧ Tab (5 + (i + 1)) (putK kvs (Sum.inr y) (.str u)) := fun u wu => by
      refine ⟨fun c o nc e => ?_, ?_, ?_, tb.put wy wu⟩
      · rw [upd_ne (ne_of_none e hn1)]
        exact c6 _ _ nc e
      · obtain ⟨a, b, e, r⟩ := hP6
        exact ⟨a, b, by rw [upd_ne (Ne.symm nd)]; exact e, r⟩
      · have n : D0 ≠ d := fun z => by
          rw [z, hd6] at hD6
          cases hD6
        rw [upd_ne n]
        exact hD6
    have len : kvs.length < sizeLine := Nat.lt_of_le_of_lt tb.len (Nat.lt_of_le_of_lt (show 5 + i ≤ 7 by omega) (by decide))
    refine ⟨_, rfl, _, rfl, ?_⟩
    by_cases hr0 : r = .non
    · rw [decide_eq_true hr0]
      obtain ⟨a1, a2, a3, a4⟩ := fin y wy
      exact ⟨_, rfl, _, rfl, _, rfl, d, _, rfl, DPut.k (k := Sum.inr y) hd6 len, a1, a2, a3, _, _, rfl, a4, upd_same⟩
    · rw [decide_eq_false hr0]
      obtain ⟨u, eu, wu⟩ : ∃ u : Str, r = .str u ∧ wordB u 12 = true := ro.elim (fun e => absurd e hr0) id
      obtain ⟨a1, a2, a3, a4⟩ := fin u wu
      exact ⟨_, rfl, _, rfl, _, rfl, d, _, rfl, DPut.k (k := Sum.inr y) hd6 len, by rw [eu]; exact a1, by rw [eu]; exact a2, by rw [eu]; exact a3, _, _, rfl, a4, by rw [eu]; exact upd_same⟩
  subst eσ
  rw [List.length_map] at tb
  have tb7 : Tab 7 kvs := tb.mono (by omega)
  have tb8 := tb7.mono (show 7 ≤ 8 by decide)
  have tb60 := tb7.mono (show 7 ≤ 60 by decide)
  clear hd5 hd4 hd3 hP3 hP4 hP5 hD5 hD6 hD0 c3 c4 c5 c5' hg4 hw hl hl2 tb0 tb
  -- a copy is handed over
  refine ⟨_, rfl, d, kvs, rfl, .inl hd6, fun g hg => ?_⟩
  have s7 := same_upd (o := HO.dK kvs) hg
  have hg7 : (upd H6 g (.dK kvs)) g = some (.dK kvs) := upd_same
  have hg0' : H g = none := c6.free (pot_ne hP6 hg) hg
  have ngd : d ≠ g := ne_of_none hd6 hg
  refine ⟨_, rfl, _, rfl, fun m mx hm hmx ne => ?_⟩
  refine ⟨m, mx, .ref g, r, kvs, rfl, upd_same, tb60, ro, .inr ⟨g, rfl, ?_⟩, fun H8 ex dd hn hdd hme hee hB => ⟨rfl, ?_⟩⟩
  · rw [upd_ne (ne_of_none hg7 hm), upd_ne (ne_of_none hg7 hmx)]
    exact hg7
  have s8 := made_same hm hmx ne rfl hB
  have ndd : dd ≠ g := fun e => by
    rw [e, upd_ne (ne_of_none hg7 hm), upd_ne (ne_of_none hg7 hmx), hg7] at hdd
    cases hdd
  have nmg : m ≠ g := fun e => by
    rw [e, hg7] at hm
    cases hm
  have nl := norm_NL tb60 (Nat.le_refl _) hn
  have hat := norm_at hn
  have hd8 := s8 _ _ (s7 _ _ hd6)
  have hg8 := s8 _ _ hg7
  have hP8 : PotAt H8 p := (hP6.bt s7).bt s8
  have c8 : Bt p H H8 := c6.trans (Same.bt (s7.trans s8))
  clear hdd hm hmx ne hB
  refine ⟨_, rfl, _, rfl, g, d, kvs, kvs, rfl, rfl, hg8, hd8, rfl, flat_tab tb7, false, rfl, ?_⟩
  refine (show (if false = true then _ else _) from ?_)
  rw [if_neg (by decide)]
  refine ⟨_, rfl, _, rfl, _, rfl, m, d, ex, kvs, r, rfl, ⟨mx, dd, hme, hee⟩, hd8, tb8, ro, hat, fun H9 s9 => ⟨true, rfl, ?_⟩⟩
  refine (show (if (!true) = true then _ else _) from ?_)
  rw [if_neg (by decide)]
  have hg9 := s9 _ _ hg8
  have hd9 := s9 _ _ hd8
  have hm9 := s9 _ _ hme
  have he9 := s9 _ _ hee
  have hP9 := hP8.bt s9
  have c9 := c8.trans (Same.bt s9)
  have ngp : g ≠ p := ne_pot hP9 hg9
  refine ⟨_, rfl, g, _, rfl, DPut.k (k := Sum.inr ("zz" : Str)) hg9 (Nat.lt_of_le_of_lt tb7.len (by decide)), ?_⟩
  have c10 : Bt p H (upd H9 g (.dK (putK kvs (Sum.inr ("zz" : Str)) (V.str "changed")))) := fun c o nc e => by
    rw [upd_ne (ne_of_none e hg0')]
    exact c9 _ _ nc e
  have hP10 : PotAt (upd H9 g (.dK (putK kvs (Sum.inr ("zz" : Str)) (V.str "changed")))) p := by
    obtain ⟨a, b, e, r⟩ := hP9
    exact ⟨a, b, by rw [upd_ne (Ne.symm ngp)]; exact e, r⟩
  have hd10 : (upd H9 g (.dK (putK kvs (Sum.inr ("zz" : Str)) (V.str "changed")))) d = some (.dK kvs) := by rw [upd_ne ngd]; exact hd9
  have hm10 : (upd H9 g (.dK (putK kvs (Sum.inr ("zz" : Str)) (V.str "changed")))) m = some (.ins C mx [("_rest", r), ("_exceptions", .ref dd)]) := by rw [upd_ne nmg]; exact hm9
  have he10 : (upd H9 g (.dK (putK kvs (Sum.inr ("zz" : Str)) (V.str "changed")))) dd = some (.dK ex) := by rw [upd_ne ndd]; exact he9
  generalize upd H9 g (.dK (putK kvs (Sum.inr ("zz" : Str)) (V.str "changed"))) = H10 at c10 hP10 hd10 hm10 he10 ⊢
  clear hg9 hd9 hm9 he9 hP9 c9 hg8 hd8 hP8 c8 hme hee hd6 hP6 c6 s7 s8 s9 hg hg7
  refine ⟨_, rfl, _, rfl, _, rfl, m, d, ex, kvs, r, rfl, ⟨mx, dd, hm10, he10⟩, hd10, tb8, ro, hat, fun H11 s11 => ⟨true, rfl, ?_⟩⟩
  refine (show (if (!true) = true then _ else _) from ?_)
  rw [if_neg (by decide)]
  refine ⟨_, rfl, _, rfl, _, rfl, m, d, ex, kvs, r, rfl, ⟨mx, dd, s11 _ _ hm10, s11 _ _ he10⟩, s11 _ _ hd10, tb8, ro, hn, fun H12 s12 => ⟨true, rfl, ?_⟩⟩
  refine (show (if (!true) = true then _ else _) from ?_)
  rw [if_neg (by decide)]
  have t12 := Same.trans s11 s12
  -- two maps beside
  refine ⟨_, rfl, _, rfl, by show 2 ≤ sizeLine; decide, fun t ht => ?_⟩
  have t13 := t12.trans (same_upd (o := HO.tup [V.ref d, r]) ht)
  have ht13 : (upd H12 t (.tup [V.ref d, r])) t = some (.tup [V.ref d, r]) := upd_same
  have hd13 := t13 _ _ hd10
  have hm13 := t13 _ _ hm10
  have he13 := t13 _ _ he10
  have hP13 := hP10.bt t13
  have c13 := c10.trans (Same.bt t13)
  clear t13 t12 s11 s12 ht c10 hP10 hd10 hm10 he10
  generalize upd H12 t (.tup [V.ref d, r]) = H13 at ht13 hd13 hm13 he13 hP13 c13 ⊢
  refine ⟨_, rfl, _, rfl, _, rfl, _, rfl, p, d, kvs, r, rfl, hP13, hd13, tb7, ro, fun t2 d2 k2 r2 H14 ht2 hd2 tb2 ro2 b14 hP14 => ?_⟩
  have npt : t ≠ p := fun e => by
    obtain ⟨a, b, z, _⟩ := hP13
    rw [e, z] at ht13
    cases ht13
  have npm : m ≠ p := fun e => by
    obtain ⟨a, b, z, _⟩ := hP13
    rw [e, z] at hm13
    cases hm13
  have npe : dd ≠ p := ne_pot hP13 he13
  have ht14 := b14 _ _ npt ht13
  have hd14 := b14 _ _ nd hd13
  have hm14 := b14 _ _ npm hm13
  have he14 := b14 _ _ npe he13
  have c14 := c13.trans b14
  refine ⟨t, t2, d, d2, kvs, k2, r, r2, rfl, ht14, ht2, hd14, hd2, tb8, tb2, ro, ro2, fun H15 s15 => ⟨true, rfl, ?_⟩⟩
  refine (show (if (!true) = true then _ else _) from ?_)
  rw [if_neg (by decide)]
  refine ⟨_, rfl, _, rfl, t, t, d, d, kvs, kvs, r, r, rfl, s15 _ _ ht14, s15 _ _ ht14, s15 _ _ hd14, s15 _ _ hd14, tb8, tb8, ro, ro, fun H16 s16 => ⟨true, rfl, ?_⟩⟩
  refine (show (if (!true) = true then _ else _) from ?_)
  rw [if_neg (by decide)]
  have t16 := Same.trans s15 s16
  have hd16 := t16 _ _ hd14
  have hm16 := t16 _ _ hm14
  have he16 := t16 _ _ he14
  have hP16 := hP14.bt t16
  have c16 := c14.trans (Same.bt t16)
  clear t16 s15 s16 ht14 hd14 hm14 he14 hP14 c14 ht2 hd2 ht13 hd13 hm13 he13 hP13 c13 b14
  -- a word, its constant map
  refine ⟨_, rfl, p, rfl, hP16, fun wd H17 ww b17 hP17 => ?_⟩
  have hd17 := b17 _ _ nd hd16
  have hm17 := b17 _ _ npm hm16
  have he17 := b17 _ _ npe he16
  have c17 := c16.trans b17
  have wr : RestOk (.str wd) := .inr ⟨wd, rfl, ww⟩
  refine ⟨rfl, rfl, fun m2 H18 tm2 s18 g2 hg2 => ?_⟩
  have u18 := same_upd (o := HO.dK []) hg2
  refine ⟨m2, g2, [], [], .non, rfl, tm2.same u18, upd_same, Tab.nil.mono (by decide), .inl rfl, fun z => rfl, fun H19 s19 => ⟨true, rfl, ?_⟩⟩
  refine (show (if (!true) = true then _ else _) from ?_)
  rw [if_neg (by decide)]
  have t19 := (Same.trans s18 u18).trans s19
  refine ⟨rfl, _, rfl, wd, rfl, ww, fun m3 H20 tm3 s20 g3 hg3 => ?_⟩
  have u20 := same_upd (o := HO.dK []) hg3
  refine ⟨_, rfl, m3, g3, [], [], .str wd, rfl, tm3.same u20, upd_same, Tab.nil.mono (by decide), wr, fun z => rfl, fun H21 s21 => ⟨true, rfl, ?_⟩⟩
  refine (show (if (!true) = true then _ else _) from ?_)
  rw [if_neg (by decide)]
  have t21 := t19.trans ((Same.trans s20 u20).trans s21)
  clear u20 u18 s18 s19 s20 s21 t19 tm2 tm3 hg2 hg3
  have nz : ∀ r1 : V, RestOk r1 → (eqDk [] [] && eqV r1 r1) = true := fun r1 h => by
    rw [eqV_rest h h, decide_eq_true rfl] <;> rfl
  have tx0 : Txt [] := fun q h => absurd h List.not_mem_nil
  -- each by another way
  refine ⟨rfl, rfl, fun m4 H22 tm4 s22 n4 y4 hn4 hy4 ne4 => ?_⟩
  refine ⟨n4, y4, .non, .non, [], rfl, upd_same, Tab.nil.mono (by decide), .inl rfl, .inl ⟨rfl, rfl⟩, fun H23 ex4 d4 hn5 _ e1 e2 hB4 => ⟨rfl, ?_⟩⟩
  have z4 := norm_nil hn5
  subst z4
  have s23 := made_same hn4 hy4 ne4 rfl hB4
  obtain ⟨x4, dx4, hm4, hd4⟩ := tm4
  refine ⟨m4, x4, _, rfl, s23 _ _ hm4, ⟨n4, rfl, .inl ⟨C, y4, _, e1, notFirst_self⟩⟩, m4, [], .non, .ref n4, rfl, ⟨x4, dx4, s23 _ _ hm4, s23 _ _ hd4⟩, .inl ⟨n4, [], .non, rfl, ⟨y4, d4, e1, e2⟩, tx0, tx0, List.nodup_nil, rfl, rfl, fun H24 s24 => ⟨_, rfl, false, ?_, ?_⟩⟩⟩
  · rw [nz _ (.inl rfl)] <;> rfl
  refine (show (if false = true then _ else _) from ?_)
  rw [if_neg (by decide)]
  refine ⟨rfl, _, rfl, wd, rfl, ww, fun m6 H25 tm6 s25 => ?_⟩
  refine ⟨_, rfl, fun n6 y6 hn6 hy6 ne6 => ?_⟩
  refine ⟨n6, y6, .non, .str wd, [], rfl, upd_same, Tab.nil.mono (by decide), wr, .inl ⟨rfl, rfl⟩, fun H26 ex6 d6 hn7 _ e3 e4 hB6 => ⟨rfl, ?_⟩⟩
  have z6 := norm_nil hn7
  subst z6
  have s26 := made_same hn6 hy6 ne6 rfl hB6
  obtain ⟨x6, dx6, hm6, hd6'⟩ := tm6
  refine ⟨m6, x6, _, rfl, s26 _ _ hm6, ⟨n6, rfl, .inl ⟨C, y6, _, e3, notFirst_self⟩⟩, m6, [], .str wd, .ref n6, rfl, ⟨x6, dx6, s26 _ _ hm6, s26 _ _ hd6'⟩, .inl ⟨n6, [], .str wd, rfl, ⟨y6, d6, e3, e4⟩, tx0, tx0, List.nodup_nil, rfl, rfl, fun H27 s27 => ⟨_, rfl, false, ?_, ?_⟩⟩⟩
  · rw [nz _ wr] <;> rfl
  refine (show (if false = true then _ else _) from ?_)
  rw [if_neg (by decide)]
  have t27 : Same H17 H27 := t21.trans ((((Same.trans s22 s23).trans s24).trans s25).trans (Same.trans s26 s27))
  have hP27 := hP17.bt t27
  have c27 := c17.trans (Same.bt t27)
  have hd27 := t27 _ _ hd17
  have hm27 := t27 _ _ hm17
  have he27 := t27 _ _ he17
  clear t27 t21 s22 s23 s24 s25 s26 s27
  -- what is no text
  refine ⟨_, rfl, by show 1 ≤ sizeLine; decide, fun ta hta => ⟨by show 1 ≤ sizeLine; decide, fun la hla ga hga => ⟨upd_same, [(Sum.inr "a", .str "a")], rfl, by decide, ?_⟩⟩⟩
  have v1 := same_upd (o := HO.tup [V.str "a"]) hta
  have v2 := same_upd (o := HO.lst [V.str "a"]) hla
  have eg : upd (upd (upd (upd H27 ta (.tup [V.str "a"])) la (.lst [V.str "a"])) ga (.dK [])) ga (.dK (mergeK [] [((Sum.inr ("a" : Str) : Key), V.str "a")])) = upd (upd (upd H27 ta (.tup [V.str "a"])) la (.lst [V.str "a"])) ga (.dK [((Sum.inr ("a" : Str) : Key), V.str "a")]) := by
    funext c
    by_cases e : c = ga
    · subst e
      rw [upd_same, upd_same] <;> rfl
    · rw [upd_ne e, upd_ne e, upd_ne e]
  rw [eg]
  have v3 := same_upd (o := HO.dK [((Sum.inr ("a" : Str) : Key), V.str "a")]) hga
  have ta3 := v3 _ _ (v2 _ _ (upd_same (H := H27) (a := ta) (o := HO.tup [V.str "a"])))
  have la3 := v3 _ _ (upd_same (H := upd H27 ta (.tup [V.str "a"])) (a := la) (o := HO.lst [V.str "a"]))
  have ga3 := upd_same (H := upd (upd H27 ta (.tup [V.str "a"])) la (.lst [V.str "a"])) (a := ga) (o := HO.dK [((Sum.inr ("a" : Str) : Key), V.str "a")])
  have t3 := (v1.trans v2).trans v3
  generalize upd (upd (upd H27 ta (.tup [V.str "a"])) la (.lst [V.str "a"])) ga (.dK [((Sum.inr ("a" : Str) : Key), V.str "a")]) = H28 at ta3 la3 ga3 t3 ⊢
  refine ⟨_, rfl, by show 11 ≤ sizeLine; decide, fun La hLa => ?_⟩
  have hP28 := hP27.bt t3
  have v4 := same_upd (o := HO.lst [V.bl true, .non, .int 0, .str "", .str "A", .str "a b", .str "abcdefghijklm", .ref ta, .ref la, .ref ga, .ref m]) hLa
  refine ⟨p, La, _, rfl, hP28.bt v4, pot_ne hP28 hLa, upd_same, by show 0 < 11; decide, by show 11 ≤ 1000; decide, fun i x H29 hi b29 hP29 => ?_⟩
  have keep : ∀ c o, c ≠ p → H28 c = some o → H29 c = some o := fun c o nc e => b29 _ _ nc (v4 _ _ e)
  have nref : ∀ c o, H28 c = some o → (∀ a b : Int, o ≠ .lst [.int a, .int b]) → c ≠ p := fun c o e n z => by
    obtain ⟨a, b, e2, _⟩ := hP28
    rw [z, e2] at e
    exact n a b (Option.some.inj e).symm
  have hm29 := keep _ _ npm (t3 _ _ hm27)
  have he29 := keep _ _ npe (t3 _ _ he27)
  have hd29 := keep _ _ nd (t3 _ _ hd27)
  have ta29 := keep _ _ (nref _ _ ta3 fun a b e => nomatch e) ta3
  have la29 := keep _ _ (nref _ _ la3 fun a b e => by cases e) la3
  have ga29 := keep _ _ (nref _ _ ga3 fun a b e => nomatch e) ga3
  have c29 : Bt p H H29 := (c27.trans (Same.bt (Same.trans t3 v4))).trans b29
  obtain ⟨o1, o2, o3, o4⟩ := odd_all (K := K) (C := C) (CM := CM) (x := x) O kst hm29 ta29 la29 ga29 (List.mem_of_getElem? hi)
  refine ⟨_, rfl, _, rfl, m, ex, r, x, rfl, ⟨mx, dd, hm29, he29⟩, nl.tab, ro, o1, o2, o3, o4, fun H30 s30 => ⟨true, rfl, ?_⟩⟩
  refine (show (if true = true then _ else _) from ?_)
  rw [if_pos rfl]
  refine ⟨_, rfl, _, rfl, m, mx, _, rfl, s30 _ _ hm29, ⟨d, rfl, .inr ⟨kvs, s30 _ _ hd29, nf1⟩⟩, m, ex, r, .ref d, rfl, ⟨mx, dd, s30 _ _ hm29, s30 _ _ he29⟩, .inr (.inl ⟨d, kvs, rfl, s30 _ _ hd29, ⟨false, rfl, true, rfl, ?_⟩⟩)⟩
  refine (show (if true = true then _ else _) from ?_)
  rw [if_pos rfl]
  refine ⟨_, rfl, rfl, rfl, fun m5 x5 u5 H31 e5 s31 => ?_⟩
  have s32 := Same.trans s30 s31
  refine ⟨m, mx, _, rfl, s32 _ _ hm29, ⟨m5, rfl, .inl ⟨CN, x5, _, e5, nf2⟩⟩, m, ex, r, .ref m5, rfl, ⟨mx, dd, s32 _ _ hm29, s32 _ _ he29⟩, .inr (.inr ⟨m5, x5, _, rfl, e5, rfl, ⟨false, rfl, ?_⟩⟩)⟩
  exact q _ (c29.trans (Same.bt s32))
end
end C12

end PI13
section PJ13
set_option maxHeartbeats 4000000
namespace C12
open PySem L2
section
variable {P : Program} {w : World} {K : PySem.W.Frag} {mg : Str → Option Value} {base : Heap} {f fPO fRI : Addr} {fd dPO dRI : FuncData}
theorem ok_law7 (F : FD K "law" s_law f fd) (T : TT0 mg) (TA : mg "all" = none) (TM : mg "max" = none) (TN : mg "min" = none) (PO : Kn P w K mg base 1 "_law_pot" fPO dPO ["_law_script", "_law_k"] (spPot K)) (RI : KnG P w K mg base 6 "_law_right" fRI dRI ["_law_pot_here"] spRight) :
    FnG P w K mg base CX0 7 f fd ["_law_script"] (spLaw K) := by
  refine F.okG sc_law (fun vs H Q E h => ?_) (fun cdv A outer s H vs Q E hg hr h => ?_)
  · obtain ⟨a, ns, rfl, _⟩ := h
    rfl
  obtain ⟨a, ns, rfl, hS, hl, q⟩ := h
  have hG := deeper_guards (env := PyProof.Rows.envOfC "law" (defScope s_law) s.heap.objs.size f cdv) hg
  refine ⟨_, PSs.nox (pss_one (ps_ret (pe_callB (cr_all rfl) (by rfl) TA boot_all (pa_cons (pe_lc (own := [("_law_k", 1)]) (g := gName 1) (tt := tYes) rfl sc_law.nd
      (pi_range1 rfl T.rng (pa_cons (pe_callB (call_max2 rfl) (by rfl) TM boot_max (pa_cons pe_int (pa_cons (pe_callB (call_min2 rfl) (by rfl) TN boot_min (pa_cons (pe_callB call_len_seq (by rfl) T.len boot_len (pa_cons (pv 0) pa_nil)) (pa_cons pe_int pa_nil))) pa_nil))) pa_nil))
      (blkOk_by (N := ["_law_script", "_law_k"]) (sc := defScope s_law) (by decide +kernel)) (fun _ _ _ _ _ => pg_name (i := 1) sc_law.nd rfl (Or.inl rfl)) (fun _ _ _ _ _ => pts_nil)
      (fun _ _ _ _ _ => by exact (pe_callG RI.f (by exact hG) hr rfl RI.m RI.k RI.b .nil pass0 (pa_cons (pe_call PO.f (hr.mono (by decide)) rfl PO.m PO.k PO.b .nil pass0 (pa_cons (pv 0) (pa_cons (pv 1) pa_nil))) pa_nil)))) pa_nil)))), ?_⟩
  have hl' : (ns.map V.int).length ≤ 63 := by rw [List.length_map]; exact hl
  refine ⟨_, rfl, a, _, rfl, .inl hS, _, _, rfl, _, _, rfl, ?_⟩
  generalize hm : (if (6 : Int) < (((ns.map V.int).length : Nat) : Int) then (6 : Int) else (((ns.map V.int).length : Nat) : Int)) = m
  have m0 : 0 ≤ m ∧ m ≤ 6 := by
    rw [← hm]
    split <;> omega
  generalize hj : (if m > 1 then m else (1 : Int)) = j
  have j0 : 0 ≤ j ∧ j ≤ 6 := by
    rw [← hj]
    split <;> omega
  refine ⟨_, rfl, by omega, by omega, fun D hD => ?_⟩
  refine lc_range (lo := 0) (n := j.toNat) (fun i H' => Same H H' ∧ H' D = some (.lst (List.replicate i (V.bl true)))) ⟨same_upd hD, upd_same⟩ (fun i H1 hi ⟨s1, hD1⟩ => ?_) fun H1 ⟨s1, hD1⟩ => ?_
  · refine ⟨rfl, ?_⟩
    refine iteT (A := tCall spRight [] E0 (tCons (tCall (spPot K) [] E0 (tCons (tVar 0) (tCons (tVar 1) tNil))) tNil) [some (.ref a), some (.int (0 + (i : Int)))] H1 _) (B := Same H H1 ∧ H1 D = some (.lst (List.replicate (i + 1) (V.bl true)))) ?_
    refine ⟨_, rfl, _, rfl, a, ns, 0 + (i : Int), rfl, s1.seq hS, hl, by omega, by omega, fun p x y hp hx hy hy2 => ⟨p, rfl, ⟨x, y, upd_same, hx, hy, hy2⟩, fun H3 b3 => ?_⟩⟩
    have s3 : Same H1 H3 := fun b o e => by
      have n : b ≠ p := ne_of_none e hp
      exact b3 b o n (by rw [upd_ne n]; exact e)
    refine ⟨_, s3 _ _ hD1, by rw [List.length_replicate]; exact Nat.lt_of_lt_of_le (show i < 6 by omega) (show 6 ≤ sizeLine by decide), same_over (s1.trans s3) hD, ?_⟩
    rw [upd_same, List.replicate_succ']
  · refine ⟨D, List.replicate j.toNat true, rfl, SqL.of (by rw [hD1, List.map_replicate]), ?_⟩
    rw [all_true]
    exact q H1
end
end C12
/-! ### the head's facts: defs that stand anywhere (properties, class methods), one Bool of the written part -/
namespace He
open PySem PySem.Spec PyProof.Rows L2
def asZ (g : Addr → Option Obj) (n : Nat) : List Addr := sysModules :: cStatics :: asD g n
/-- the def in the record of this type that the class has under this name -/
def rcA (K : PySem.W.Frag) (C : Addr) (T : String) (m : Str) : Addr := match PySem.W.recIn K (ma K C m) T with
  | some (.ref g :: _) => g
  | _ => 0
def fnZ (K : PySem.W.Frag) (a : Addr) : FnW := match K.lookup a with
  | some ⟨_, _, .func fd, _⟩ => some (fd.name, fd.qualname, fd.params, fd.body, fd.scope, fd.globals, fd.closure, fd.builtins)
  | _ => none
structure DefZ where
  adr : PySem.W.Frag → Addr
  name : Str
  qual : Str
  params : Arguments
  body : List Stmt
  scope : Scope
  dfl : List Dv := []
def DefZ.val (d : DefZ) : FnW := some (d.name, d.qual, d.params, .stmts d.body, d.scope, mainGlobals, [], builtinsNs)
def DefZ.dvs (K : PySem.W.Frag) (d : DefZ) : List V := d.dfl.map (Dv.v K)
def DefZ.ok (K : PySem.W.Frag) (d : DefZ) : Bool := PySem.W.keepIn K (.ref (d.adr K)) && (match K.lookup (d.adr K) with
  | some ⟨_, _, .func fd, _⟩ => PySem.W.codeIn K fd.code d.qual && dflB K fd.defaults (d.dvs K)
  | _ => false)
theorem DefZ.funD {K : PySem.W.Frag} {d : DefZ} (e : fnZ K (d.adr K) = d.val) (c : d.ok K = true) : ∃ fd, FunD K d.name d.qual d.params d.body d.scope (d.dvs K) [] (d.adr K) fd := by
  obtain ⟨kp, c2⟩ := ba c
  unfold fnZ at e
  cases q : K.lookup (d.adr K) with
  | none =>
    rw [q] at c2
    cases c2
  | some o =>
    obtain ⟨oc, od, dt, osl⟩ := o
    rw [q] at c2 e
    cases dt with
    | func fd =>
      obtain ⟨n1, n2, n3, n4, n5, n6, n7, n8, n9, n10, n11, n12, n13, n14, n15⟩ := fd
      have e2 : (some (n1, n2, n3, n4, n5, n6, n7, n15) : FnW) = some (d.name, d.qual, d.params, .stmts d.body, d.scope, mainGlobals, [], builtinsNs) := e
      simp only [Option.some.injEq, Prod.mk.injEq] at e2
      obtain ⟨h1, h2, h3, h4, h5, h6, h7, h8⟩ := e2
      subst h1 h2 h3 h4 h5 h6 h7 h8
      have c3 : (PySem.W.codeIn K n13 d.qual && dflB K n8 (d.dvs K)) = true := c2
      obtain ⟨k1, k2⟩ := ba c3
      exact ⟨_, ⟨oc, od, n8, n9, n10, n11, n12, n13, n14, osl, rfl, q, k1, dflB_ok k2, .inl rfl⟩, kp⟩
    | _ => cases c2
def obsZ (n : Nat) (fn : List DefZ) (ex : PySem.W.Frag → Bool) (g : Addr → Option Obj) : Bool × List FnW := ((fn.all fun d => d.ok (frG g (asZ g n))) && ex (frG g (asZ g n)), fn.map fun d => fnZ (frG g (asZ g n)) (d.adr (frG g (asZ g n))))
structure SaysZ (fn : List DefZ) (ex : PySem.W.Frag → Bool) (K : PySem.W.Frag) : Prop where
  ok : (fn.all fun d => d.ok K) = true
  more : ex K = true
  fns : fn.map (fun d => fnZ K (d.adr K)) = fn.map DefZ.val
theorem saysZ_of {n : Nat} {fn : List DefZ} {ex : PySem.W.Frag → Bool} {g : Addr → Option Obj} (e : obsZ n fn ex g = (true, fn.map DefZ.val)) : SaysZ fn ex (frG g (asZ g n)) := by
  have e1 : ((fn.all fun d => d.ok (frG g (asZ g n))) && ex (frG g (asZ g n))) = true := congrArg (fun z : Bool × List FnW => z.1) e
  exact ⟨(ba e1).1, (ba e1).2, congrArg (fun z : Bool × List FnW => z.2) e⟩
def hookZ (n : Nat) (fn : List DefZ) (ex : PySem.W.Frag → Bool) : PySem.W.Hook where
  α := Bool × List FnW
  obs := fun s => obsZ n fn ex s.heap.get?
  val := fun _ => (true, fn.map DefZ.val)
  says := fun _ h => ∃ K : PySem.W.Frag, K.In h ∧ SaysZ fn ex K
  of := fun _ _ e => ⟨_, frG_in, saysZ_of e⟩
  keeps := fun _ _ _ ⟨K, hK, c⟩ k => ⟨K, PySem.W.Frag.In.keeps hK k, c⟩
theorem obsZ_eq {n : Nat} {fn : List DefZ} {ex : PySem.W.Frag → Bool} {g : Addr → Option Obj} {s : Shared} (h : ∀ a, g a = s.heap.get? a) : obsZ n fn ex g = (hookZ n fn ex).obs s := by
  have e : g = s.heap.get? := funext h
  rw [e] <;> rfl
theorem SaysZ.def_ {fn : List DefZ} {ex : PySem.W.Frag → Bool} {K : PySem.W.Frag} (c : SaysZ fn ex K) (i : Nat) {d : DefZ} (h : fn[i]? = some d) : ∃ fd, FunD K d.name d.qual d.params d.body d.scope (d.dvs K) [] (d.adr K) fd := by
  have e2 : (fn.map fun d => fnZ K (d.adr K))[i]? = (fn.map DefZ.val)[i]? := by rw [c.fns]
  rw [List.getElem?_map, List.getElem?_map, h] at e2
  exact DefZ.funD (Option.some.inj e2) (List.all_eq_true.mp c.ok d (List.mem_of_getElem? h))
/-! ### a class method, a property -/
def cmB (K : PySem.W.Frag) (C : Addr) (m : Str) : Bool := (match PySem.W.findCls K (.ref C) (.type "type") m with
    | some (.get (.builtin b) (.ref p) .none (.ref C')) => decide (b = "classmethod.__get__") && (decide (p = ma K C m) && decide (C' = C))
    | _ => false) && ((match PySem.W.recIn K (ma K C m) "classmethod" with
    | some (.ref g :: _) => decide (g = rcA K C "classmethod" m)
    | _ => false) && PySem.W.fnIn K (rcA K C "classmethod" m))
theorem cmB_ok {K : PySem.W.Frag} {C : Addr} {m : Str} (h : cmB K C m = true) : ClX.CMet K C (.type "type") m (ma K C m) (rcA K C "classmethod" m) := by
  obtain ⟨h1, h⟩ := ba h
  obtain ⟨h2, h3⟩ := ba h
  refine ⟨?_, ?_, h3⟩
  · split at h1
    · rename_i b p C' e
      obtain ⟨e1, h1⟩ := ba h1
      obtain ⟨e2, e3⟩ := ba h1
      rw [e, of_decide_eq_true e1, of_decide_eq_true e2, of_decide_eq_true e3]
    · cases h1
  · split at h2
    · rename_i g r e
      exact ⟨r, by rw [e, of_decide_eq_true h2]⟩
    · cases h2
def prB (K : PySem.W.Frag) (C : Addr) (m : Str) : Bool := eqO (PySem.W.findIn K (.ref C) m) (some (some (.ref (ma K C m)))) && (eqO (PySem.W.specialIn K (.ref (ma K C m)) "__get__") (some (some (.builtin "property.__get__"))) && (decide (PySem.W.takesIn K (.ref (ma K C m)) = some true) &&
  (match PySem.W.recIn K (ma K C m) "property" with
    | some (.ref g :: _) => decide (g = rcA K C "property" m)
    | _ => false)))
theorem prB_ok {K : PySem.W.Frag} {C : Addr} {m : Str} (h : prB K C m = true) : PropOf K C m (ma K C m) (rcA K C "property" m) := by
  obtain ⟨h1, h⟩ := ba h
  obtain ⟨h2, h⟩ := ba h
  obtain ⟨h3, h4⟩ := ba h
  refine ⟨eqO_ok h1, eqO_ok h2, of_decide_eq_true h3, ?_⟩
  split at h4
  · rename_i g r e
    exact ⟨r, by rw [e, of_decide_eq_true h4]⟩
  · cases h4
def crB (K : PySem.W.Frag) (C : Addr) : Bool := PySem.W.readsIn K C (.type "type") && eqO (PySem.W.specialIn K (.ref C) "__getattribute__") (some (some (.builtin "type.__getattribute__")))
theorem crB_ok {K : PySem.W.Frag} {C : Addr} (h : crB K C = true) : ClX.CRead K C (.type "type") := by
  obtain ⟨h1, h2⟩ := ba h
  exact ⟨h1, eqO_ok h2⟩
end He

end PJ13
section PK13
set_option maxHeartbeats 0
namespace C12
open PySem PySem.Spec PyProof.Rows L2 He
def z0 : DefZ := ⟨fun K => ma K (ga K "InvalidValue") "__init__", "__init__", "InvalidValue.__init__", defArgs s_initIV, defBody s_initIV, defScope s_initIV, []⟩
def z1 : DefZ := ⟨fun K => ma K (ga K "InvalidMap") "__init__", "__init__", "InvalidMap.__init__", defArgs s_initIM, defBody s_initIM, defScope s_initIM, []⟩
def z2 : DefZ := ⟨fun K => ga K "is_number", "is_number", "is_number", defArgs s_is_number, defBody s_is_number, defScope s_is_number, []⟩
def z3 : DefZ := ⟨fun K => ga K "is_word", "is_word", "is_word", defArgs s_is_word, defBody s_is_word, defScope s_is_word, []⟩
def z4 : DefZ := ⟨fun K => ga K "is_kind", "is_kind", "is_kind", defArgs s_is_kind, defBody s_is_kind, defScope s_is_kind, []⟩
def z5 : DefZ := ⟨fun K => ga K "is_value", "is_value", "is_value", defArgs s_is_value, defBody s_is_value, defScope s_is_value, []⟩
def z6 : DefZ := ⟨fun K => ga K "is_stretch", "is_stretch", "is_stretch", defArgs s_is_stretch, defBody s_is_stretch, defScope s_is_stretch, []⟩
def z7 : DefZ := ⟨fun K => rcA K (ga K "TextMap") "property" "kind", "kind", "Map.kind", defArgs s_kind, defBody s_kind, defScope s_kind, []⟩
def z8 : DefZ := ⟨fun K => ma K (ga K "TextMap") "at", "at", "Map.at", defArgs s_mat, defBody s_mat, defScope s_mat, []⟩
def z9 : DefZ := ⟨fun K => ma K (ga K "TextMap") "__eq__", "__eq__", "Map.__eq__", defArgs s_meq, defBody s_meq, defScope s_meq, []⟩
def z10 : DefZ := ⟨fun K => ma K (ga K "NumberMap") "__init__", "__init__", "NumberMap.__init__", defArgs s_ninit, defBody s_ninit, defScope s_ninit, []⟩
def z11 : DefZ := ⟨fun K => rcA K (ga K "NumberMap") "classmethod" "same", "same", "NumberMap.same", defArgs s_nsame, defBody s_nsame, defScope s_nsame, []⟩
def z12 : DefZ := ⟨fun K => ma K (ga K "TextMap") "__init__", "__init__", "TextMap.__init__", defArgs s_init, defBody s_init, defScope s_init, [.non, .non]⟩
def z13 : DefZ := ⟨fun K => rcA K (ga K "TextMap") "classmethod" "same", "same", "TextMap.same", defArgs s_same, defBody s_same, defScope s_same, []⟩
def z14 : DefZ := ⟨fun K => rcA K (ga K "TextMap") "classmethod" "constant_map", "constant_map", "TextMap.constant_map", defArgs s_constant, defBody s_constant, defScope s_constant, []⟩
def z15 : DefZ := ⟨fun K => rcA K (ga K "TextMap") "property" "rest", "rest", "TextMap.rest", defArgs s_rest, defBody s_rest, defScope s_rest, []⟩
def z16 : DefZ := ⟨fun K => ma K (ga K "TextMap") "exceptions", "exceptions", "TextMap.exceptions", defArgs s_exceptions, defBody s_exceptions, defScope s_exceptions, []⟩
def z17 : DefZ := ⟨fun K => ma K (ga K "TextMap") "__repr__", "__repr__", "TextMap.__repr__", defArgs s_repr, defBody s_repr, defScope s_repr, []⟩
def z18 : DefZ := ⟨fun K => ma K (ga K "TextMap") "_usual", "_usual", "TextMap._usual", defArgs s_usual, defBody s_usual, defScope s_usual, []⟩
def z19 : DefZ := ⟨fun K => ma K (ga K "TextMap") "_result", "_result", "TextMap._result", defArgs s_result, defBody s_result, defScope s_result, []⟩
def z20 : DefZ := ⟨fun K => ma K (ga K "TextMap") "_content", "_content", "TextMap._content", defArgs s_content, defBody s_content, defScope s_content, []⟩
def z21 : DefZ := ⟨fun K => ga K "_is_piece", "_is_piece", "_is_piece", defArgs s_is_piece, defBody s_is_piece, defScope s_is_piece, []⟩
def z22 : DefZ := ⟨fun K => ga K "_normal_pieces", "_normal_pieces", "_normal_pieces", defArgs s_pieces, defBody s_pieces, defScope s_pieces, []⟩
def z23 : DefZ := ⟨fun K => ga K "_normal_what", "_normal_what", "_normal_what", defArgs s_what, defBody s_what, defScope s_what, []⟩
def z24 : DefZ := ⟨fun K => ga K "_described", "_described", "_described", defArgs s_described, defBody s_described, defScope s_described, []⟩
def z25 : DefZ := ⟨fun K => ga K "_law_pot", "_law_pot", "_law_pot", defArgs sPot, defBody sPot, defScope sPot, []⟩
def z26 : DefZ := ⟨fun K => ga K "_law_draw", "_law_draw", "_law_draw", defArgs sDraw, defBody sDraw, defScope sDraw, []⟩
def z27 : DefZ := ⟨fun K => ga K "_law_pick", "_law_pick", "_law_pick", defArgs sPick, defBody sPick, defScope sPick, []⟩
def z28 : DefZ := ⟨fun K => ga K "_law_word", "_law_word", "_law_word", defArgs s_word, defBody s_word, defScope s_word, []⟩
def z29 : DefZ := ⟨fun K => ga K "_law_table", "_law_table", "_law_table", defArgs s_table, defBody s_table, defScope s_table, []⟩
def z30 : DefZ := ⟨fun K => ga K "_law_at", "_law_at", "_law_at", defArgs s_at, defBody s_at, defScope s_at, []⟩
def z31 : DefZ := ⟨fun K => ga K "_law_needed", "_law_needed", "_law_needed", defArgs s_needed, defBody s_needed, defScope s_needed, []⟩
def z32 : DefZ := ⟨fun K => ga K "_law_words", "_law_words", "_law_words", defArgs s_words, defBody s_words, defScope s_words, []⟩
def z33 : DefZ := ⟨fun K => ga K "_law_agrees", "_law_agrees", "_law_agrees", defArgs s_agrees, defBody s_agrees, defScope s_agrees, []⟩
def z34 : DefZ := ⟨fun K => ga K "_law_told_right", "_law_told_right", "_law_told_right", defArgs s_told, defBody s_told, defScope s_told, []⟩
def z35 : DefZ := ⟨fun K => ga K "_law_two_right", "_law_two_right", "_law_two_right", defArgs s_two, defBody s_two, defScope s_two, []⟩
def z36 : DefZ := ⟨fun K => ga K "_law_refused", "_law_refused", "_law_refused", defArgs s_refused, defBody s_refused, defScope s_refused, []⟩
def z37 : DefZ := ⟨fun K => ga K "_law_other", "_law_other", "_law_other", defArgs s_other, defBody s_other, defScope s_other, []⟩
def z38 : DefZ := ⟨fun K => ga K "_law_right", "_law_right", "_law_right", defArgs s_right, defBody s_right, defScope s_right, []⟩
def z39 : DefZ := ⟨fun K => ga K "law", "law", "law", defArgs s_law, defBody s_law, defScope s_law, []⟩
def znA : List DefZ := [z0, z1, z2, z3, z4, z5, z6, z7, z8, z9, z10, z11, z12, z13, z14, z15, z16, z17, z18, z19]
def znB : List DefZ := [z20, z21, z22, z23, z24, z25, z26, z27, z28, z29, z30, z31, z32, z33, z34, z35, z36, z37, z38, z39]
def zn : List DefZ := znA ++ znB
def frees : List Str := ["isinstance", "repr", "all", "len", "max", "abs", "int", "divmod", "range", "min", "str", "bool", "dict", "list", "set", "sorted", "tuple"]
def gloA : List Str := ["InvalidValue", "InvalidMap", "Map", "NumberMap", "TextMap", "is_number", "is_word", "is_kind", "is_value", "is_stretch", "_is_piece", "_normal_pieces"]
def gloB : List Str := ["_normal_what", "_described", "_law_pot", "_law_draw", "_law_pick", "_law_word", "_law_table", "_law_at", "_law_needed", "_law_words", "_law_agrees", "_law_told_right", "_law_two_right", "_law_refused", "_law_other", "_law_right", "law"]
def glos : List Str := gloA ++ gloB
abbrev gT (K : PySem.W.Frag) : Addr := ga K "TextMap"
abbrev gN (K : PySem.W.Frag) : Addr := ga K "NumberMap"
abbrev gM (K : PySem.W.Frag) : Addr := ga K "Map"
abbrev gV (K : PySem.W.Frag) : Addr := ga K "InvalidValue"
abbrev gI (K : PySem.W.Frag) : Addr := ga K "InvalidMap"
def fas : List Fa := [.int "TEXT_LENGTH" 12, .cls "TextMap", .cls "NumberMap", .noat "TextMap" "_exceptions", .noat "TextMap" "_rest", .noat "NumberMap" "_pieces", .meth "TextMap" "_usual", .meth "TextMap" "_result", .meth "TextMap" "at", .meth "TextMap" "exceptions", .meth "TextMap" "_content", .mkr "TextMap", .mkr "NumberMap", .exm "InvalidValue" "InvalidValue" true]
def xoB (K : PySem.W.Frag) (C : Addr) (f : Str) : Bool := xcB K C && (eqO (PySem.W.findIn K (.ref C) "__init__") (some (some (.ref (ma K C "__init__")))) && (decide (PySem.W.typeIn K (.ref (ma K C "__init__")) = some (.type "function")) && eqO (PySem.W.findIn K (.ref C) f) (some none)))
def tcB (K : PySem.W.Frag) (C : Str) (kd : Str) : Bool := eqO (PySem.W.findIn K (.ref (ga K C)) "__class__") (some (some (.builtin "object.__class__"))) && (eqO (PySem.W.specialIn K (.builtin "object.__class__") "__get__") (some (some (.builtin "getset_descriptor.__get__"))) && (decide (PySem.W.takesIn K (.builtin "object.__class__") = some true) &&
  (decide (PySem.W.mroIn K (ga K C) (.type "object") = some true) && (decide (PySem.W.kitOne K (.ref (ga K C)) (.ref (gM K)) = some true) && conB K C "KIND" (.str kd)))))
def eqB (K : PySem.W.Frag) (C : Addr) : Bool := eqO (PySem.W.findIn K (.ref C) "__eq__") (some (some (.ref (ma K C "__eq__")))) && (PySem.W.isFn K (.ref (ma K C "__eq__")) && (eqO (PySem.W.findIn K (.ref C) "__ne__") (some (some (.builtin "object.__ne__"))) && (decide (PySem.W.mroIn K C (.type "object") = some true) &&
  (eqO (PySem.W.findIn K (.ref C) "__repr__") (some (some (.ref (ma K C "__repr__")))) && PySem.W.isFn K (.ref (ma K C "__repr__"))))))
def otB (K : PySem.W.Frag) : Bool := decide (PySem.W.kitOne K (.type "dict") (.ref (gM K)) = some false) && (PySem.W.notFirst K (gT K) (.type "dict") && (PySem.W.notFirst K (gT K) (.ref (gN K)) && (decide (PySem.W.kitOne K (.ref (gT K)) (.type "str") = some false) && noMods K)))
def exK (K : PySem.W.Frag) : Bool := (fas.all fun f => f.ok K) && ((frees.all fun x => eqO (PySem.W.nsIn K mainGlobals x) (some none)) && ((glos.all fun x => eqO (PySem.W.nsIn K mainGlobals x) (some (some (.ref (ga K x))))) && (xoB K (gV K) "value" && (xoB K (gI K) "position" && (tcB K "TextMap" "text" && (tcB K "NumberMap" "number" && (eqB K (gT K) &&
  (prB K (gT K) "rest" && (prB K (gT K) "kind" && (crB K (gT K) && (crB K (gN K) && (cmB K (gT K) "same" && (cmB K (gT K) "constant_map" && (cmB K (gN K) "same" && otB K))))))))))))))
abbrev R : PySem.W.OpenRow := PySem.W.OpenLaw.row PySem.Challenge.rw_keptedits_k12_whole_maps_of_texts
abbrev hk : PySem.W.Hook := hookZ 5 zn exK
def ob (s : PySem.W.SharedT) : Bool × List FnW := obsZ 5 zn exK (HandSHeadRun.getT s)
theorem ob_eq (s : PySem.W.SharedT) : ob s = hk.obs s.abs := obsZ_eq (HandSHeadRun.getT_eq s)
def looseA : List Str := ["_wall", "KeptError", "InvalidValue", "InvalidMap", "TEXT_LENGTH", "is_number", "is_word", "is_kind", "is_value", "is_stretch", "Map", "NumberMap", "TextMap", "_is_piece", "_normal_pieces", "_normal_what", "_described", "_taken", "_place_of", "_law_pot"]
def looseB : List Str := ["_law_draw", "_law_pick", "_law_word", "_law_table", "_law_at", "_law_needed", "_law_words", "_law_agrees", "_law_told_right", "_law_two_right", "_law_refused", "_law_other", "_law_right"]
def loose : List Str := looseA ++ looseB
theorem run (w : World) : HandSHeadRun.RunEq R (PySem.W.view R.prog [37]) hk ob 9000 loose w := by
  intro os
  kernel_rfl
end C12

end PK13
section PL13
set_option maxHeartbeats 0
namespace C12
open PySem PySem.Spec PyProof.Rows L2 He
structure Facts (K : PySem.W.Frag) : Prop where
  a : ∀ f, f ∈ fas → f.ok K = true
  f : ∀ x, x ∈ frees → eqO (PySem.W.nsIn K mainGlobals x) (some none) = true
  g : ∀ x, x ∈ glos → eqO (PySem.W.nsIn K mainGlobals x) (some (some (.ref (ga K x)))) = true
  xv : xoB K (gV K) "value" = true
  xi : xoB K (gI K) "position" = true
  tt : tcB K "TextMap" "text" = true
  tn : tcB K "NumberMap" "number" = true
  eq : eqB K (gT K) = true
  pr : prB K (gT K) "rest" = true
  pk : prB K (gT K) "kind" = true
  ct : crB K (gT K) = true
  cn : crB K (gN K) = true
  ms : cmB K (gT K) "same" = true
  mc : cmB K (gT K) "constant_map" = true
  mn : cmB K (gN K) "same" = true
  ot : otB K = true
theorem facts_of {K : PySem.W.Frag} (h : exK K = true) : Facts K := by
  obtain ⟨h_a, h⟩ := ba h
  obtain ⟨h_f, h⟩ := ba h
  obtain ⟨h_g, h⟩ := ba h
  obtain ⟨h_xv, h⟩ := ba h
  obtain ⟨h_xi, h⟩ := ba h
  obtain ⟨h_tt, h⟩ := ba h
  obtain ⟨h_tn, h⟩ := ba h
  obtain ⟨h_eq, h⟩ := ba h
  obtain ⟨h_pr, h⟩ := ba h
  obtain ⟨h_pk, h⟩ := ba h
  obtain ⟨h_ct, h⟩ := ba h
  obtain ⟨h_cn, h⟩ := ba h
  obtain ⟨h_ms, h⟩ := ba h
  obtain ⟨h_mc, h⟩ := ba h
  obtain ⟨h_mn, h⟩ := ba h
  exact ⟨fun x hx => List.all_eq_true.mp h_a x hx, fun x hx => List.all_eq_true.mp h_f x hx, fun x hx => List.all_eq_true.mp h_g x hx, h_xv, h_xi, h_tt, h_tn, h_eq, h_pr, h_pk, h_ct, h_cn, h_ms, h_mc, h_mn, h⟩
section
variable {P : Program} {w : World} {K : PySem.W.Frag} {h base : Heap} {mg : Str → Option Value}
theorem free_at (X : K.In h) (G : h.Ns mainGlobals mg) (c : Facts K) {x : Str} (hx : x ∈ frees) : mg x = none := PySem.W.mg_none_of X G (eqO_ok (c.f x hx))
theorem glo_at (X : K.In h) (G : h.Ns mainGlobals mg) (c : Facts K) {x : Str} (hx : x ∈ glos) : mg x = some (.ref (ga K x)) := PySem.W.mg_of X G (eqO_ok (c.g x hx))
theorem xo_at {C fI : Addr} {dI : FuncData} {xn f : Str} (e : xoB K C f = true) (hf : fI = ma K C "__init__") (hm : mg xn = some (.ref C)) (hg : FnOk P w K mg base CX0 1 fI dI ["self", f] (spXI K f)) (hb : KBn K dI ["self", f] 2 [] (fun us _ => us) (fun us _ => us)) : XcO P w K mg base C fI dI xn f := by
  obtain ⟨h1, e⟩ := ba e
  obtain ⟨h2, e⟩ := ba e
  obtain ⟨h3, h4⟩ := ba e
  subst hf
  exact ⟨xcB_ok h1, eqO_ok h2, of_decide_eq_true h3, hm, eqO_ok h4, hg, hb⟩
theorem tc_at {C kd : Str} (e : tcB K C kd = true) (hc : Cls K (ga K C)) : TcO K (ga K C) (gM K) kd := by
  obtain ⟨h1, e⟩ := ba e
  obtain ⟨h2, e⟩ := ba e
  obtain ⟨h3, e⟩ := ba e
  obtain ⟨h4, e⟩ := ba e
  obtain ⟨h5, h6⟩ := ba e
  exact ⟨hc, eqO_ok h1, eqO_ok h2, of_decide_eq_true h3, of_decide_eq_true h4, of_decide_eq_true h5, conB_ok h6⟩
end
theorem facts {P : Program} {w : World} {K : PySem.W.Frag} {h : Heap} {mg : Str → Option Value} {f : Addr} (X : K.In h) (G : h.Ns mainGlobals mg) (hfa : mg ("law" : Str) = some (.ref f)) (cc : SaysZ zn exK K) :
    ∃ fd : FuncData, (∀ (s : Shared) (v : Value), BindsTo s fd ⟨[v], []⟩ [("_law_script", v)]) ∧ ∀ base : Heap, K.In base → base.Ns mainGlobals mg → FnG P w K mg base CX0 7 f fd ["_law_script"] (spLaw K) := by
  have c := facts_of cc.more
  obtain ⟨d0, D0⟩ := cc.def_ 0 (d := z0) rfl
  obtain ⟨d1, D1⟩ := cc.def_ 1 (d := z1) rfl
  obtain ⟨d2, D2⟩ := cc.def_ 2 (d := z2) rfl
  obtain ⟨d3, D3⟩ := cc.def_ 3 (d := z3) rfl
  obtain ⟨d4, D4⟩ := cc.def_ 4 (d := z4) rfl
  obtain ⟨d5, D5⟩ := cc.def_ 5 (d := z5) rfl
  obtain ⟨d6, D6⟩ := cc.def_ 6 (d := z6) rfl
  obtain ⟨d7, D7⟩ := cc.def_ 7 (d := z7) rfl
  obtain ⟨d8, D8⟩ := cc.def_ 8 (d := z8) rfl
  obtain ⟨d9, D9⟩ := cc.def_ 9 (d := z9) rfl
  obtain ⟨d10, D10⟩ := cc.def_ 10 (d := z10) rfl
  obtain ⟨d11, D11⟩ := cc.def_ 11 (d := z11) rfl
  obtain ⟨d12, D12⟩ := cc.def_ 12 (d := z12) rfl
  obtain ⟨d13, D13⟩ := cc.def_ 13 (d := z13) rfl
  obtain ⟨d14, D14⟩ := cc.def_ 14 (d := z14) rfl
  obtain ⟨d15, D15⟩ := cc.def_ 15 (d := z15) rfl
  obtain ⟨d16, D16⟩ := cc.def_ 16 (d := z16) rfl
  obtain ⟨d17, D17⟩ := cc.def_ 17 (d := z17) rfl
  obtain ⟨d18, D18⟩ := cc.def_ 18 (d := z18) rfl
  obtain ⟨d19, D19⟩ := cc.def_ 19 (d := z19) rfl
  obtain ⟨d20, D20⟩ := cc.def_ 20 (d := z20) rfl
  obtain ⟨d21, D21⟩ := cc.def_ 21 (d := z21) rfl
  obtain ⟨d22, D22⟩ := cc.def_ 22 (d := z22) rfl
  obtain ⟨d23, D23⟩ := cc.def_ 23 (d := z23) rfl
  obtain ⟨d24, D24⟩ := cc.def_ 24 (d := z24) rfl
  obtain ⟨d25, D25⟩ := cc.def_ 25 (d := z25) rfl
  obtain ⟨d26, D26⟩ := cc.def_ 26 (d := z26) rfl
  obtain ⟨d27, D27⟩ := cc.def_ 27 (d := z27) rfl
  obtain ⟨d28, D28⟩ := cc.def_ 28 (d := z28) rfl
  obtain ⟨d29, D29⟩ := cc.def_ 29 (d := z29) rfl
  obtain ⟨d30, D30⟩ := cc.def_ 30 (d := z30) rfl
  obtain ⟨d31, D31⟩ := cc.def_ 31 (d := z31) rfl
  obtain ⟨d32, D32⟩ := cc.def_ 32 (d := z32) rfl
  obtain ⟨d33, D33⟩ := cc.def_ 33 (d := z33) rfl
  obtain ⟨d34, D34⟩ := cc.def_ 34 (d := z34) rfl
  obtain ⟨d35, D35⟩ := cc.def_ 35 (d := z35) rfl
  obtain ⟨d36, D36⟩ := cc.def_ 36 (d := z36) rfl
  obtain ⟨d37, D37⟩ := cc.def_ 37 (d := z37) rfl
  obtain ⟨d38, D38⟩ := cc.def_ 38 (d := z38) rfl
  obtain ⟨d39, D39⟩ := cc.def_ 39 (d := z39) rfl
  have fr : ∀ x, x ∈ frees → mg x = none := fun x hx => free_at X G c hx
  have gl : ∀ x, x ∈ glos → mg x = some (.ref (ga K x)) := fun x hx => glo_at X G c hx
  have fa : ∀ f, f ∈ fas → f.ok K = true := c.a
  have b2 : Binds K d2 ["value"] [] := D2.bindsN fun _ _ _ _ _ _ us hl => match us, hl with | [_], _ => rfl
  have b3 : Binds K d3 ["value", "most"] [] := D3.bindsN fun _ _ _ _ _ _ us hl => match us, hl with | [_, _], _ => rfl
  have b4 : Binds K d4 ["value"] [] := D4.bindsN fun _ _ _ _ _ _ us hl => match us, hl with | [_], _ => rfl
  have b5 : Binds K d5 ["value", "kind"] [] := D5.bindsN fun _ _ _ _ _ _ us hl => match us, hl with | [_, _], _ => rfl
  have b6 : Binds K d6 ["first", "last"] [] := D6.bindsN fun _ _ _ _ _ _ us hl => match us, hl with | [_, _], _ => rfl
  have b7 : Binds K d7 ["self"] [] := D7.bindsN fun _ _ _ _ _ _ us hl => match us, hl with | [_], _ => rfl
  have b8 : Binds K d8 ["self", "value"] [] := D8.bindsN fun _ _ _ _ _ _ us hl => match us, hl with | [_, _], _ => rfl
  have b9 : Binds K d9 ["self", "other"] [] := D9.bindsN fun _ _ _ _ _ _ us hl => match us, hl with | [_, _], _ => rfl
  have b10 : Binds K d10 ["self", "pieces"] [] := D10.bindsN fun _ _ _ _ _ _ us hl => match us, hl with | [_, _], _ => rfl
  have b11 : Binds K d11 ["cls"] [] := D11.bindsN fun _ _ _ _ _ _ us hl => match us, hl with | [_], _ => rfl
  have b13 : Binds K d13 ["cls"] [] := D13.bindsN fun _ _ _ _ _ _ us hl => match us, hl with | [_], _ => rfl
  have b14 : Binds K d14 ["cls", "value"] [] := D14.bindsN fun _ _ _ _ _ _ us hl => match us, hl with | [_, _], _ => rfl
  have b15 : Binds K d15 ["self"] [] := D15.bindsN fun _ _ _ _ _ _ us hl => match us, hl with | [_], _ => rfl
  have b16 : Binds K d16 ["self"] [] := D16.bindsN fun _ _ _ _ _ _ us hl => match us, hl with | [_], _ => rfl
  have b17 : Binds K d17 ["self"] [] := D17.bindsN fun _ _ _ _ _ _ us hl => match us, hl with | [_], _ => rfl
  have b18 : Binds K d18 ["self", "value"] [] := D18.bindsN fun _ _ _ _ _ _ us hl => match us, hl with | [_, _], _ => rfl
  have b19 : Binds K d19 ["self", "value"] [] := D19.bindsN fun _ _ _ _ _ _ us hl => match us, hl with | [_, _], _ => rfl
  have b20 : Binds K d20 ["self"] [] := D20.bindsN fun _ _ _ _ _ _ us hl => match us, hl with | [_], _ => rfl
  have b21 : Binds K d21 ["pieces", "position"] [] := D21.bindsN fun _ _ _ _ _ _ us hl => match us, hl with | [_, _], _ => rfl
  have b22 : Binds K d22 ["pieces"] [] := D22.bindsN fun _ _ _ _ _ _ us hl => match us, hl with | [_], _ => rfl
  have b23 : Binds K d23 ["pieces", "at", "start"] [] := D23.bindsN fun _ _ _ _ _ _ us hl => match us, hl with | [_, _, _], _ => rfl
  have b24 : Binds K d24 ["pieces", "at", "start", "what"] [] := D24.bindsN fun _ _ _ _ _ _ us hl => match us, hl with | [_, _, _, _], _ => rfl
  have b25 : Binds K d25 ["_law_script", "_law_k"] [] := D25.bindsN fun _ _ _ _ _ _ us hl => match us, hl with | [_, _], _ => rfl
  have b26 : Binds K d26 ["_law_pot_here", "_law_many"] [] := D26.bindsN fun _ _ _ _ _ _ us hl => match us, hl with | [_, _], _ => rfl
  have b27 : Binds K d27 ["_law_pot_here", "_law_some"] [] := D27.bindsN fun _ _ _ _ _ _ us hl => match us, hl with | [_, _], _ => rfl
  have b28 : Binds K d28 ["_law_pot_here"] [] := D28.bindsN fun _ _ _ _ _ _ us hl => match us, hl with | [_], _ => rfl
  have b29 : Binds K d29 ["_law_pot_here"] [] := D29.bindsN fun _ _ _ _ _ _ us hl => match us, hl with | [_], _ => rfl
  have b30 : Binds K d30 ["_law_table_here", "_law_last", "_law_word_here"] [] := D30.bindsN fun _ _ _ _ _ _ us hl => match us, hl with | [_, _, _], _ => rfl
  have b31 : Binds K d31 ["_law_table_here", "_law_last"] [] := D31.bindsN fun _ _ _ _ _ _ us hl => match us, hl with | [_, _], _ => rfl
  have b32 : Binds K d32 ["_law_tables", "_law_lasts"] [] := D32.bindsN fun _ _ _ _ _ _ us hl => match us, hl with | [_, _], _ => rfl
  have b33 : Binds K d33 ["_law_mapping", "_law_table_here", "_law_last"] [] := D33.bindsN fun _ _ _ _ _ _ us hl => match us, hl with | [_, _, _], _ => rfl
  have b34 : Binds K d34 ["_law_mapping", "_law_table_here", "_law_last"] [] := D34.bindsN fun _ _ _ _ _ _ us hl => match us, hl with | [_, _, _], _ => rfl
  have b35 : Binds K d35 ["_law_one", "_law_other_here"] [] := D35.bindsN fun _ _ _ _ _ _ us hl => match us, hl with | [_, _], _ => rfl
  have b36 : Binds K d36 ["_law_mapping", "_law_thing"] [] := D36.bindsN fun _ _ _ _ _ _ us hl => match us, hl with | [_, _], _ => rfl
  have b37 : Binds K d37 ["_law_pot_here", "_law_table_here", "_law_last"] [] := D37.bindsN fun _ _ _ _ _ _ us hl => match us, hl with | [_, _, _], _ => rfl
  have b38 : Binds K d38 ["_law_pot_here"] [] := D38.bindsN fun _ _ _ _ _ _ us hl => match us, hl with | [_], _ => rfl
  obtain ⟨e3, v3, bFull⟩ := D12.binds1 (ps := ["self", "exceptions", "rest"]) 3 2 (by simp [DefZ.dvs, z12]) (by simp [DefZ.dvs, z12]) fun T kV doc pm an cdv ct us its hl hi => match us, hl, its, hi with | [_, _, _], _, [_, _], _ => ⟨_, rfl, rfl⟩
  have w3 : e3 = [] := by
    cases v3
    rfl
  subst w3
  have bNone := D12.binds1 (ps := ["self", "exceptions", "rest"]) 1 0 (by simp [DefZ.dvs, z12]) (by simp [DefZ.dvs, z12]) fun T kV doc pm an cdv ct us its hl hi => match us, hl, its, hi with | [_], _, [_, _], _ => ⟨_, rfl, rfl⟩
  have k0 : KBn K d0 ["self", "value"] 2 [] (fun us _ => us) (fun us _ => us) := D0.kbn 2 (fun us _ => us) (fun r _ => r) fun _ _ _ _ _ _ us ws hl hw => match us, hl, ws, hw with | [_, _], _, [], _ => rfl
  have k1 : KBn K d1 ["self", "position"] 2 [] (fun us _ => us) (fun us _ => us) := D1.kbn 2 (fun us _ => us) (fun r _ => r) fun _ _ _ _ _ _ us ws hl hw => match us, hl, ws, hw with | [_, _], _, [], _ => rfl
  have e := hfa.symm.trans (gl "law" (by decide +kernel))
  cases e
  have b := FunD.bindsA (ps := ["_law_script"]) D39 fun _ _ _ _ _ _ us hl => match us, hl with | [_], _ => rfl
  refine ⟨d39, fun s v => b s [v] rfl, fun base _ _ => ?_⟩
  have hT : TMc K (gT K) := ⟨cls_ok (fa _ (by simp [fas] : Fa.cls "TextMap" ∈ fas)), noat_ok (fa _ (by simp [fas] : Fa.noat "TextMap" "_exceptions" ∈ fas)), noat_ok (fa _ (by simp [fas] : Fa.noat "TextMap" "_rest" ∈ fas))⟩
  have hN : NMc K (gN K) := ⟨cls_ok (fa _ (by simp [fas] : Fa.cls "NumberMap" ∈ fas)), noat_ok (fa _ (by simp [fas] : Fa.noat "NumberMap" "_pieces" ∈ fas))⟩
  have oT := tc_at c.tt hT.cl
  have oN := tc_at c.tn hN.cl
  have hlen := int_ok X G (fa _ (by simp [fas] : Fa.int "TEXT_LENGTH" 12 ∈ fas))
  have mU := meth_ok (fa _ (by simp [fas] : Fa.meth "TextMap" "_usual" ∈ fas))
  have mR := meth_ok (fa _ (by simp [fas] : Fa.meth "TextMap" "_result" ∈ fas))
  have mA := meth_ok (fa _ (by simp [fas] : Fa.meth "TextMap" "at" ∈ fas))
  have mE := meth_ok (fa _ (by simp [fas] : Fa.meth "TextMap" "exceptions" ∈ fas))
  have mC := meth_ok (fa _ (by simp [fas] : Fa.meth "TextMap" "_content" ∈ fas))
  have kT := mkr_ok (fa _ (by simp [fas] : Fa.mkr "TextMap" ∈ fas))
  have kN := mkr_ok (fa _ (by simp [fas] : Fa.mkr "NumberMap" ∈ fas))
  have hx := exm_ok (fa _ (by simp [fas] : Fa.exm "InvalidValue" "InvalidValue" true ∈ fas))
  obtain ⟨o1, oo⟩ := ba c.ot
  obtain ⟨o2, oo⟩ := ba oo
  obtain ⟨o3, oo⟩ := ba oo
  obtain ⟨o4, hK⟩ := ba oo
  obtain ⟨q1, qq⟩ := ba c.eq
  obtain ⟨q2, qq⟩ := ba qq
  obtain ⟨q3, qq⟩ := ba qq
  obtain ⟨q4, qq⟩ := ba qq
  obtain ⟨q5, q6⟩ := ba qq
  have TPf : TxtP K mg := ⟨fr _ (by decide +kernel), fr _ (by decide +kernel), fr _ (by decide +kernel), fr _ (by decide +kernel), fr _ (by decide +kernel)⟩
  have TWf : TW mg := ⟨fr _ (by decide +kernel), fr _ (by decide +kernel), fr _ (by decide +kernel)⟩
  have TDf : TD12 mg := ⟨fr _ (by decide +kernel), fr _ (by decide +kernel), fr _ (by decide +kernel), fr _ (by decide +kernel)⟩
  have TIf : TI12 mg := ⟨fr _ (by decide +kernel), fr _ (by decide +kernel), fr _ (by decide +kernel)⟩
  have T0f : TT0 mg := ⟨fr _ (by decide +kernel), trivial, fr _ (by decide +kernel)⟩
  have XV : XcO P w K mg base (gV K) _ d0 "InvalidValue" "value" := xo_at c.xv rfl (gl _ (by decide +kernel)) (ok_initIV D0) k0
  have XM : XcO P w K mg base (gI K) _ d1 "InvalidMap" "position" := xo_at c.xi rfl (gl _ (by decide +kernel)) (ok_initIM D1) k1
  have NU : Kn P w K mg base 1 "is_number" _ d2 _ (spIsNumber K) := ⟨ok_is_number D2 TWf (fr _ (by decide +kernel)) (fr _ (by decide +kernel)), b2, gl _ (by decide +kernel), D2.kp⟩
  have WO : Kn P w K mg base 1 "is_word" _ d3 _ (spIsWord K) := ⟨ok_is_word D3 TWf, b3, gl _ (by decide +kernel), D3.kp⟩
  have KI : Kn P w K mg base 1 "is_kind" _ d4 _ (spIsKind K) := ⟨ok_is_kind D4 TWf, b4, gl _ (by decide +kernel), D4.kp⟩
  have VA : Kn P w K mg base 2 "is_value" _ d5 _ (spIsValue K) := ⟨ok_is_value D5 ⟨NU, WO, KI, kit_ty (show kitB "str" "str" = some true by decide +kernel), hlen⟩, b5, gl _ (by decide +kernel), D5.kp⟩
  have ST : Kn P w K mg base 1 "is_stretch" _ d6 _ spStretch := ⟨ok_stretch D6 TWf, b6, gl _ (by decide +kernel), D6.kp⟩
  have GU := ok_usual (P := P) (w := w) (mg := mg) (base := base) D18 hT
  have GR := ok_result (P := P) (w := w) (mg := mg) (base := base) D19 hT GU b18 mU
  have GE := ok_exceptions (P := P) (w := w) (mg := mg) (base := base) D16 hT
  have GC := ok_content (P := P) (w := w) (mg := mg) (base := base) D20 hT
  have GW := ok_at_w (P := P) (w := w) (mg := mg) (base := base) D8 hT oT VA GR b19 mR XV
  have GX := ok_at_x (P := P) (w := w) (mg := mg) (base := base) D8 hT oT VA GR b19 mR XV
  have MT : MkT P w K mg base (gT K) _ d12 := ⟨kT, ok_init D12 TIf hT VA GU b18 mU XM.x XM.i XM.t XM.m XM.g XM.b, bFull, bNone, gl _ (by decide +kernel)⟩
  have EF : EqF P w K mg base (gT K) (gN K) _ d9 := ⟨⟨eqO_ok q1, q2, eqO_ok q3, of_decide_eq_true q4⟩, ok_meq D9 hT oT oN (of_decide_eq_true o1) (fr _ (by decide +kernel)) (gl _ (by decide +kernel)) GC b20 mC, b9⟩
  have RF : ReF P w K mg base (gT K) _ d17 := ⟨eqO_ok q5, q6, ok_repr D17 hT hK, b17⟩
  have RW := ok_reprW (P := P) (w := w) (mg := mg) (base := base) D17 hT hK
  have PR : PrF P w K mg base (gT K) _ _ d15 "rest" (spRest (gT K)) := ⟨prB_ok c.pr, ok_rest D15 hT, b15⟩
  have PK : PrF P w K mg base (gT K) _ _ d7 "kind" (spKind (gT K)) := ⟨prB_ok c.pk, ok_kind D7 oT, b7⟩
  have CS : CMk P w K mg base (gT K) (.type "type") "same" _ _ d13 ["cls"] (spSame (gT K)) := ⟨crB_ok c.ct, cmB_ok c.ms, ok_same D13 MT, b13⟩
  have CC : CMk P w K mg base (gT K) (.type "type") "constant_map" _ _ d14 ["cls", "value"] (spConst (gT K)) := ⟨crB_ok c.ct, cmB_ok c.mc, ok_constant D14 MT VA XV, b14⟩
  have WH : Kn P w K mg base 1 "_normal_what" _ d23 _ spWhat := ⟨ok_what D23, b23, gl _ (by decide +kernel), D23.kp⟩
  have DE : Kn P w K mg base 1 "_described" _ d24 _ spDescr := ⟨ok_described D24, b24, gl _ (by decide +kernel), D24.kp⟩
  have IP : Kn P w K mg base 2 "_is_piece" _ d21 _ spPiece := ⟨ok_piece D21 TWf (fr _ (by decide +kernel)) ST, b21, gl _ (by decide +kernel), D21.kp⟩
  have NP : Kn P w K mg base 2 "_normal_pieces" _ d22 _ spPieces := ⟨ok_pieces D22 (fr _ (by decide +kernel)) WH DE, b22, gl _ (by decide +kernel), D22.kp⟩
  have NI := ok_ninit (P := P) (w := w) (mg := mg) (base := base) D10 TWf (fr _ (by decide +kernel)) (fr _ (by decide +kernel)) (fr _ (by decide +kernel)) hN IP NP XM
  have CN : CMk P w K mg base (gN K) (.type "type") "same" _ _ d11 ["cls"] (spNSame (gN K)) := ⟨crB_ok c.cn, cmB_ok c.mn, ok_nsame D11 kN NI b10, b11⟩
  have PO : Kn P w K mg base 1 "_law_pot" _ d25 _ (spPot K) := ⟨ok_pot D25 TPf, b25, gl _ (by decide +kernel), D25.kp⟩
  have DR : Kn P w K mg base 1 "_law_draw" _ d26 _ spDraw := ⟨ok_draw D26 TPf, b26, gl _ (by decide +kernel), D26.kp⟩
  have PL : Kn P w K mg base 2 "_law_pick" _ d27 _ (spPick K) := ⟨ok_pick D27 TPf DR.f DR.b DR.m DR.k, b27, gl _ (by decide +kernel), D27.kp⟩
  have PS_ : Kn P w K mg base 2 "_law_pick" _ d27 _ spPickS := ⟨ok_pickS D27 TPf DR, b27, gl _ (by decide +kernel), D27.kp⟩
  have WD : Kn P w K mg base 3 "_law_word" _ d28 _ spWord := ⟨ok_word D28 TPf (fr _ (by decide +kernel)) DR PL PS_, b28, gl _ (by decide +kernel), D28.kp⟩
  have TB : Kn P w K mg base 4 "_law_table" _ d29 _ spTable := ⟨ok_table D29 (fr _ (by decide +kernel)) DR WD, b29, gl _ (by decide +kernel), D29.kp⟩
  have AT : Kn P w K mg base 1 "_law_at" _ d30 _ spAt := ⟨ok_at D30, b30, gl _ (by decide +kernel), D30.kp⟩
  have NE : Kn P w K mg base 1 "_law_needed" _ d31 _ spNeeded := ⟨ok_needed D31 TDf, b31, gl _ (by decide +kernel), D31.kp⟩
  have WS : Kn P w K mg base 1 "_law_words" _ d32 _ spWords := ⟨ok_words D32 TDf, b32, gl _ (by decide +kernel), D32.kp⟩
  have AG : Kn P w K mg base 4 "_law_agrees" _ d33 _ (spAgrees (gT K)) := ⟨ok_agrees D33 hT (fr _ (by decide +kernel)) WS GW b8 mA AT, b33, gl _ (by decide +kernel), D33.kp⟩
  have TL : KnG P w K mg base 5 "_law_told_right" _ d34 _ (spTold (gT K)) := ⟨ok_told D34 hT TDf (fr _ (by decide +kernel)) (fr _ (by decide +kernel)) hK NE GE b16 mE EF RF PR PK MT, b34, gl _ (by decide +kernel), D34.kp⟩
  have TT : Kn P w K mg base 5 "_law_two_right" _ d35 _ spTwo := ⟨ok_two D35 WS AT EF MT, b35, gl _ (by decide +kernel), D35.kp⟩
  have RE : KnG P w K mg base 4 "_law_refused" _ d36 _ (spRefused K (gT K)) := ⟨ok_refused D36 hT (fr _ (by decide +kernel)) hK GX b8 mA XV RW hx RF, b36, gl _ (by decide +kernel), D36.kp⟩
  have OT : Kn P w K mg base 5 "_law_other" _ d37 _ spOther := ⟨ok_other D37 TDf DR WD PL TB, b37, gl _ (by decide +kernel), D37.kp⟩
  have RI : KnG P w K mg base 6 "_law_right" _ d38 _ spRight := ⟨ok_right D38 hT oT TDf DR WD PL TB AG TL TT OT RE EF MT CS CC CN (gl _ (by decide +kernel)) o2 o3 (of_decide_eq_true o4), b38, gl _ (by decide +kernel), D38.kp⟩
  exact ok_law7 D39 T0f (fr _ (by decide +kernel)) (fr _ (by decide +kernel)) (fr _ (by decide +kernel)) PO RI
end C12
open PySem PySem.W PySem.Calls PyProof.Rows
theorem PySem.Challenge.cw_keptedits_k12_whole_maps_of_texts_holds : PySem.Challenge.rw_keptedits_k12_whole_maps_of_texts.Holds := by
  w_on; o_law
  refine HandSHeadRun.head_any (r := OpenLaw.row PySem.Challenge.rw_keptedits_k12_whole_maps_of_texts) (q := view (OpenLaw.row PySem.Challenge.rw_keptedits_k12_whole_maps_of_texts).prog [37]) (H := C12.hk) (ob := C12.ob) (M := 9000) (loose := C12.loose) (d := HandSHeadRun.topDef (OpenLaw.row PySem.Challenge.rw_keptedits_k12_whole_maps_of_texts).prog 37) (kwd := []) C12.ob_eq
    (by kernel_rfl) (fun s => by kernel_rfl) C12.run (by kernel_rfl) (by kernel_rfl) (by kernel_rfl) (by rfl) (by first | assumption | decide +kernel) (by decide +kernel) ⟨rfl, rfl, rfl, rfl, rfl, by decide +kernel⟩ ?hw ?hc
  case hw => w_witness2
  case hc =>
    refine L2.walk_ofG (l := PySem.Challenge.rw_keptedits_k12_whole_maps_of_texts) (n := 63) (k := 7) (x := "_law_script") (CX := fun _ => L2.CX0) rfl (by decide) (by kernel_rfl) ⟨rfl, by decide, by decide⟩ ?F (fun _ _ _ _ _ z => z)
    intro w mg fa h Y G hmg0
    obtain ⟨K, KX, c⟩ := Y
    have hmg : mg ("law" : PySem.Str) = some (.ref fa) := by
      have e : (HandSHeadRun.topDef (OpenLaw.row PySem.Challenge.rw_keptedits_k12_whole_maps_of_texts).prog 37).name = ("law" : PySem.Str) := by kernel_rfl
      rw [← e]
      exact hmg0
    obtain ⟨fd, hb, hF⟩ := C12.facts (P := (PySem.Challenge.rw_keptedits_k12_whole_maps_of_texts).prog) (w := w) KX G hmg c
    exact ⟨K, fd, C12.spLaw K, KX, hb, fun H a ns hl _ hS => ⟨a, ns, rfl, hS, hl, fun _ => rfl⟩, hF⟩

end PL13
