import PyProof.Rows.All
import Wide.All
import OpenK.AllK
import Wide.FinOn
import KE.KStateDown
import Lean
import KE.KIsAll
import KE.KTryMore
import KE.KExcInit
import HandS.ForMost
import HandS.Exc
import HandS.ExcOwn
import HandS.ExcInit
import HandS.ExcIs
import HandS.ExcField
import HandS.IsInst
import HandS.Defaults
import HandS.MakeKw
import KE.KExcIs
import HandS.HeadHook2
import HandS.Walk
import HandS.Iter
import PySem.Challenge.RW_keptedits_k18_whole_sets_as_built
import HandS.Text
import HandS.Steps
import HandS.StrMore
import KE.SortData
import PyProof.Rows.SortWalk
import HandS.SortRule
import HandS.More
import PyProof.StrOps2
import KE.SortKeyHeap
import HandS.SortKw
import KE.DataMinKey
import KE.DataMinMax
import PyProof.Walks
import PyProof.WalksMore
import HandS.Words
import KE.GoesMore
import PyProof.EnumMake
import PyProof.EnumFor
import PyProof.Draws
import HandS.OwnEq
import HandS.Property
import HandS.ClsMeth
import HandS.Star
import KE.KFmtOwn
import HandS.FStr
import HandS.HotCalls
import HandS.DictComp
import PyProof.ReprLen
import HandS.Set
import HandS.SetFor
import HandS.Strs
import PyProof.StrLawsRepr
import HandS.MakeKwOnly
import HandS.NoneIn
import HandS.SortInts
import PyProof.ListStr
import HandS.Head0
import HandS.Head1
import HandS.Head2
import HandS.HeadEnd
import HandS.HeadHook1
import HandS.HeadHook3
set_option Elab.async false
set_option linter.all false
set_option maxRecDepth 100000
section PE1
set_option maxHeartbeats 4000000
/-! Own exception classes over any built-in base, their objects held as values: made by place or by name, their fields, isinstance. -/
namespace PySem
namespace EXV
open PySem.W PySem.Calls PyProof.Rows PySem.HandSPX Builtin Builtin.ObjectAttr

/-- what is asked of the built-in base B -/
structure BaseX (B newId initId : String) (tl : List Value) : Prop where
  F : ExcBaseFacts B newId initId tl
  S : StoreFacts B tl "object.__setattr__" "object"
theorem base_VE : BaseX "ValueError" "ValueError.__new__" "ValueError.__init__" [.type "ValueError", .type "Exception", .type "BaseException", .type "object"] := ⟨F.excBase_ValueError, F.store_ValueError⟩
theorem base_RE : BaseX "RuntimeError" "RuntimeError.__new__" "RuntimeError.__init__" [.type "RuntimeError", .type "Exception", .type "BaseException", .type "object"] := ⟨F.excBase_RuntimeError, F.store_RuntimeError⟩
theorem base_LE : BaseX "LookupError" "LookupError.__new__" "LookupError.__init__" [.type "LookupError", .type "Exception", .type "BaseException", .type "object"] := ⟨F.excBase_LookupError, F.store_LookupError⟩
theorem base_AE : BaseX "ArithmeticError" "ArithmeticError.__new__" "ArithmeticError.__init__" [.type "ArithmeticError", .type "Exception", .type "BaseException", .type "object"] := ⟨F.excBase_ArithmeticError, F.store_ArithmeticError⟩
theorem taker_none {K : W.Frag} {C : Addr} {f : Str} (h : W.findIn K (.ref C) f = some none) : W.takerIn K C f = some none := by
  unfold W.takerIn
  rw [h] <;> rfl
theorem over_of {K : W.Frag} {C : Addr} {cd : ClassData} {bm tl : List Value} (hcd : W.clsIn K C = some cd) (hm : cd.mro = .ref C :: bm) (ht : W.excTail tl bm = true) : W.excOver K C tl = true := by
  unfold W.excOver
  rw [hcd, Option.any_some, hm]
  simp [ht]
section
variable {prog : Program} {w : World} {A : Around} {R : Result → Shared → Prop} {hp : Heap} {g : Array GenState} {d : Drawn} {t : Nat} {os : OsState} {tl : List Value} {B : String}
/-- self.f = v on an exception that has no dict as yet -/
theorem osa_new {K : W.Frag} {name : Str} {tk : Tok} {v : Value} {x C : Addr} {fv : Array Value} {cd : ClassData} {bm : List Value} (SF : StoreFacts B tl "object.__setattr__" "object")
    (X : K.In hp) (hx : hp.get? x = some { cls := .ref C, data := .fields fv }) (hcd : W.clsIn K C = some cd) (hm : cd.mro = .ref C :: bm) (ht : W.excTail tl bm = true) (hh : cd.hasDict = true) (ha : W.findIn K (.ref C) name = some none)
    (hq : ∀ h' tk' dx, (∀ b o, b ≠ x → hp.get? b = some o → h'.get? b = some o) → hp.objs.size ≤ dx → dx ≠ x → h'.get? x = some { cls := .ref C, dict := some dx, data := .fields fv } →
      h'.Ns1 dx (fun y => if y = name then some v else none) → R (.ok (.ret .none)) ⟨h', g, d, tk', os⟩) :
    codeAny (model prog w) A (.call (.builtin "object.__setattr__") ⟨[.ref x, .str name tk, v], []⟩) R ⟨hp, g, d, t, os⟩ := by
  have hxs : x ≠ hp.objs.size := Nat.ne_of_lt (Heap.lt_size hx)
  have hcls : W.Looks (model prog w) hp (classData C) cd := W.looks_clsIn X hcd
  refine osa_openX (s := ⟨hp, g, d, t, os⟩) (ox := { cls := .ref C, data := .fields fv }) (od := none) SF X ⟨hx, rfl, rfl, trivial⟩ (over_of hcd hm ht) (taker_none ha) fun b => ?_
  obtain ⟨nm, bs, mro, ns, qn, hd, sn, sb, ab, col, del⟩ := cd
  dsimp only at hh
  subst hh
  unfold storeInOwnDict ownDictForStores
  repeat (first | with_reducible refine HandSPX.store_in_new ?_ ?_ | with_reducible refine wpAny_loadPart_at hx ?_ | with_reducible refine hcls.at ?_ | wp_step)
  · exact ⟨_, #[], _, (Heap.get?_update_ne _ _ _ _ hxs.symm).trans (Heap.get?_push_at rfl rfl), rfl, fun e he => absurd he (by simp), fun _ => rfl⟩
  · intro h' tk' hn' hs
    have old : ∀ b o, b ≠ x → hp.get? b = some o → h'.get? b = some o := fun b o hb ho =>
      (hs.2 b (Nat.ne_of_lt (Heap.lt_size ho))).trans ((Heap.get?_update_ne _ _ _ _ hb).trans (Heap.get?_push_of_some _ ho))
    exact hq h' tk' hp.objs.size old (Nat.le_refl _) hxs.symm ((hs.2 x hxs).trans (Heap.get?_update_self _ (Heap.get?_push_of_some _ hx) rfl)) hn'
/-- a further field of an exception that has its dict -/
theorem osa_more {K : W.Frag} {name : Str} {tk : Tok} {v : Value} {x C dx : Addr} {fv : Array Value} {cd : ClassData} {bm : List Value} {m0 : Str → Option Value} {nl : List Str} (SF : StoreFacts B tl "object.__setattr__" "object")
    (X : K.In hp) (hx : hp.get? x = some { cls := .ref C, dict := some dx, data := .fields fv }) (hns : hp.Ns1 dx m0) (hw : Within m0 nl) (hz : nl.length ≤ 1000) (hcd : W.clsIn K C = some cd) (hm : cd.mro = .ref C :: bm) (ht : W.excTail tl bm = true) (hh : cd.hasDict = true)
    (ha : W.findIn K (.ref C) name = some none)
    (hq : ∀ h' tk', (∀ b o, b ≠ dx → hp.get? b = some o → h'.get? b = some o) → h'.Ns1 dx (fun y => if y = name then some v else m0 y) → R (.ok (.ret .none)) ⟨h', g, d, tk', os⟩) :
    codeAny (model prog w) A (.call (.builtin "object.__setattr__") ⟨[.ref x, .str name tk, v], []⟩) R ⟨hp, g, d, t, os⟩ := by
  obtain ⟨oD, _, _, hoD, _, _⟩ := hns.count hw
  have hcls : W.Looks (model prog w) hp (classData C) cd := W.looks_clsIn X hcd
  refine osa_openX (s := ⟨hp, g, d, t, os⟩) (ox := { cls := .ref C, dict := some dx, data := .fields fv }) (od := some oD) SF X ⟨hx, rfl, rfl, hoD⟩ (over_of hcd hm ht) (taker_none ha) fun b => ?_
  obtain ⟨nm, bs, mro, ns, qn, hd, sn, sb, ab, col, del⟩ := cd
  dsimp only at hh
  subst hh
  unfold storeInOwnDict ownDictForStores
  repeat (first | with_reducible refine OEX.store_in_old hns hw hz ?_ | with_reducible refine wpAny_loadPart_at hx ?_ | with_reducible refine hcls.at ?_ | wp_step)
  exact fun h' tk' hn' hs => hq h' tk' (fun b o hb ho => (hs.2 b hb).trans ho) hn'
end

/-! ### C(.., k = v): BaseException.__new__, then the own __init__, by names too -/
section
variable {M : Model} {A : Around} {E : Value → Shared → Prop} {h : Heap} {g : Array GenState} {d : Drawn} {t : Nat} {os : OsState}
variable {nm q : Str} {C N : Addr} {bs bm bmB : List Value} {hdct : Bool} {sn : List Str} {sub : List Value} {ab : Bool} {col : Option Bool} {dd : Option Addr} {k0 k1 k2 k3 k5 : Option Value} {B newId initId : String}
theorem check_new_kw (F : ExcBaseFacts B newId initId bmB) (hT : ∀ X : String, bm.contains (.type X) = bmB.contains (.type X)) {rest : List Value} {kw : List (Str × Value)} {Q : Unit → Shared → Prop}
    (hC : h.get? C = some (excClassObj nm q C N bs bm hdct sn sub ab col dd k0 k1 k2 k3 k5 newId)) (hq : Q () ⟨h, g, d, t, os⟩) : wpAny M A (checkBuiltinCall newId ⟨.ref C :: rest, kw⟩) Q E ⟨h, g, d, t, os⟩ := by
  have hcont : (Value.ref C :: bm).contains (.type B) = true := by rw [List.contains_cons, hT, F.hasB, Bool.or_true]
  have hstar := F.noStar
  simp only [checkBuiltinCall, F.newKind, F.newSplit, F.newRow]
  repeat (first | refine wpAny_loadPart_at hC ?_ | (refine wpAny_isSubtype_exc hC ?_; rw [hcont]) | refine wpAny_staticBase_exc hC ?_ | refine wpAny_madeBy_exc hC ?_ | simp only [bne_self_eq_false, Bool.false_eq_true, if_false] | wp_step)
  exact hq
end
section
variable {prog : Program} {w : World} {A : Around} {E : Value → Shared → Prop} {R : Result → Shared → Prop} {h : Heap} {g : Array GenState} {d : Drawn} {t : Nat} {os : OsState}
variable {nm q : Str} {C N : Addr} {bs bm bmB : List Value} {hdct : Bool} {sn : List Str} {sub : List Value} {ab : Bool} {col : Option Bool} {dd : Option Addr} {k0 k1 k2 k3 k5 : Option Value} {B newId initId : String}
theorem new_kw (F : ExcBaseFacts B newId initId bmB) (hT : ∀ X : String, bm.contains (.type X) = bmB.contains (.type X)) {rest : List Value} {kw : List (Str × Value)}
    (hC : h.get? C = some (excClassObj nm q C N bs bm hdct sn sub ab col dd k0 k1 k2 k3 k5 newId))
    (hq : R (.ok (.ret (.ref (h.objs.size + 1)))) ⟨(h.push { cls := .type "tuple", data := .seq rest.toArray }).push
      { cls := .ref C, data := .fields #[.ref h.objs.size, .none, .none, .none, .bool false, .none] }, g, d, t, os⟩) (hrest : rest.length ≤ sizeLine) :
    codeAny (model prog w) A (.builtin newId ⟨.ref C :: rest, kw⟩) R ⟨h, g, d, t, os⟩ := by
  have hends := F.ends
  have hcB : (Value.ref C :: bm).contains (.type B) = true := by rw [List.contains_cons, hT, F.hasB, Bool.or_true]
  have hcA : (Value.ref C :: bm).contains (.type "AttributeError") = false := by rw [List.contains_cons, hT, F.noAttr]; rfl
  have hcN : (Value.ref C :: bm).contains (.type "NameError") = false := by rw [List.contains_cons, hT, F.noName]; rfl
  refine codeAny_builtinAt F.entry ?_
  unfold Builtin.«BaseException.__new__»
  refine wpAt_bind ?_
  show wpAt _ _ _ (stack >>= _) _ _ _
  refine wpAt_bind (wpAt_stack fun p below => wpAt_of_wpAny ?_)
  wp_walk
  refine wpAt_of_wpAny ?_
  rw [F.owner]
  repeat (first | with_reducible refine wpAny_madeHere_exc F.canon hC ?_ | with_reducible refine wpAny_loadPart_at hC ?_ | (with_reducible refine wpAny_isSubtype_exc hC ?_; first | rw [hcB] | rw [hcA] | rw [hcN]) | wp_step)
  show R _ _
  rw [Heap.size_push]
  exact hq
theorem type_call_kw (F : ExcBaseFacts B newId initId bmB) (hT : ∀ X : String, bm.contains (.type X) = bmB.contains (.type X)) {rest : List Value} {kw : List (Str × Value)} {fI : Addr} {Q : Fin → Shared → Prop}
    (hC : h.get? C = some (excClassObj nm q C N bs bm hdct sn sub ab col dd k0 k1 k2 k3 k5 newId))
    (hi : W.Looks (model prog w) h (typeLookup (.ref C) "__init__") (some (.ref fI))) (hb : ∀ self, W.Looks (model prog w) h (bindSpecial (.ref fI) self) (.ref fI, [self])) (hrest : rest.length ≤ sizeLine)
    (hq : codeAny (model prog w) A (.call (.ref fI) ⟨.ref (h.objs.size + 1) :: rest, kw⟩)
      (fun r s' => match r with | .ok (.ret v) => v = .none ∧ Q (.done (.ret (.ref (h.objs.size + 1)))) s' | .ok _ => False | .error e => E e s')
      ⟨(h.push (W.kdv_tup rest)).push (excO C h.objs.size), g, d, t, os⟩) :
    wpAny (model prog w) A (Builtin.«type.__call__» ⟨.ref C :: rest, kw⟩) Q E ⟨h, g, d, t, os⟩ := by
  repeat (first | with_reducible refine wpAny_loadPart_at hC ?_ | with_reducible refine wpAny_madeBy_exc hC ?_ | wp_step)
  refine codeAny_call_builtin_code (Code.quiet_builtin _ F.quiet) (check_new_kw F hT hC ?_)
  refine new_kw F hT hC ?_ hrest
  show wpAny _ _ _ _ _ _
  have k : ∀ b o, h.get? b = some o → ((h.push (W.kdv_tup rest)).push (excO C h.objs.size)).get? b = some o := fun b o e => Heap.get?_push_of_some _ (Heap.get?_push_of_some _ e)
  have hC₁ := k _ _ hC
  have hget : ((h.push (W.kdv_tup rest)).push (excO C h.objs.size)).get? (h.objs.size + 1) = some (excO C h.objs.size) := by heap_get
  have hcC : (Value.ref C :: bm).contains (.ref C) = true := by simp
  have i1 := hi.keeps k
  have b1 := (hb (.ref (h.objs.size + 1))).keeps k
  unfold isInstance
  repeat (first | with_reducible refine wpAny_loadPart_at hget ?_ | (with_reducible refine wpAny_isSubtype_exc hC₁ ?_; rw [hcC]) | wp_step)
  show wpAny _ _ (typeLookup (.ref C) _) _ _ _
  refine i1.at ?_
  refine wpAny_holding (wpAny_bind (b1.at ?_))
  refine wpAny_bind (wpAny_call (codeAny_mono hq fun r s' z => ?_))
  rcases r with e | (v | _ | _ | _) <;> first | exact z | exact z.elim | skip
  obtain ⟨rfl, z⟩ := z
  first
    | exact wpAny_pure (wpAny_pure z)
    | (wp_walk; exact z)
theorem call_kw (F : ExcBaseFacts B newId initId bmB) (hT : ∀ X : String, bm.contains (.type X) = bmB.contains (.type X)) {rest : List Value} {kw : List (Str × Value)} {fI : Addr}
    (hC : h.get? C = some (excClassObj nm q C N bs bm hdct sn sub ab col dd k0 k1 k2 k3 k5 newId))
    (hi : W.Looks (model prog w) h (typeLookup (.ref C) "__init__") (some (.ref fI))) (hb : ∀ self, W.Looks (model prog w) h (bindSpecial (.ref fI) self) (.ref fI, [self])) (hrest : rest.length ≤ sizeLine)
    (hq : codeAny (model prog w) (A.under (.builtin "type.__call__" ⟨.ref C :: rest, kw⟩)) (.call (.ref fI) ⟨.ref (h.objs.size + 1) :: rest, kw⟩) (W.InitBack (h.objs.size + 1) R)
      ⟨(h.push (W.kdv_tup rest)).push (excO C h.objs.size), g, d, t, os⟩) :
    codeAny (model prog w) A (.call (.ref C) ⟨rest, kw⟩) R ⟨h, g, d, t, os⟩ := by
  have f1 := tc_lookup
  have f2 := tc_bind (.ref C)
  have hTy : (⟨h, g, d, t, os⟩ : Shared).TypeIs (.ref C) "type" := ⟨_, hC, rfl⟩
  refine codeAny_of_tree ?_
  show wpAny _ _ (callAny (.ref C) _) _ _ _
  repeat (any_goals (first | assumption | with_reducible refine wpAny_loadPart_at hC ?_ | wp_step))
  refine ⟨rfl, ?_⟩
  refine codeAny_call_builtin_at (Code.quiet_builtin _ (by decide +kernel)) entry_typeCall (wpAny_check_type_call_sub hC (type_call_kw F hT hC hi hb hrest ?_))
  refine codeAny_mono hq fun r s' z => ?_
  rcases r with e | (v | _ | _ | _) <;> exact z
end
end EXV
end PySem

end PE1
section PE2
set_option maxHeartbeats 4000000
namespace L2
open PySem PySem.Spec PyProof.Rows
/-- what the written part says of an own exception class -/
structure XC (K : PySem.W.Frag) (C : Addr) : Prop where
  cls : ∃ B newId initId tl nm q N bs bm sn sub ab col dd k0 k1 k2 k3 k5, PySem.EXV.BaseX B newId initId tl ∧ K.lookup C = some (excClassObj nm q C N bs bm true sn sub ab col dd k0 k1 k2 k3 k5 newId) ∧ PySem.W.excTail tl bm = true
  sa : PySem.W.findIn K (.ref C) "__setattr__" = some (some (.builtin "object.__setattr__"))
  exC : PySem.W.subIn K (.ref C) (.type "BaseException") = some true
  tyC : PySem.W.typeIn K (.ref C) = some (.type "type")
  kC : PySem.W.keepIn K (.ref C) = true
  ga : PySem.W.findIn K (.ref C) "__getattribute__" = some (some (.builtin "BaseException.__getattribute__"))
  gg : PySem.W.findIn K (.ref C) "__getattr__" = some none
  hd : PySem.W.hasDictIn K C = true
  ha : PySem.W.findIn K (.ref C) "__class__" = some (some (.builtin "object.__class__"))
  hn : PySem.W.specialIn K (.builtin "object.__class__") "__get__" = some (some (.builtin "getset_descriptor.__get__"))
  ht : PySem.W.takesIn K (.builtin "object.__class__") = some true
  hm : PySem.W.mroIn K C (.type "object") = some true
def xInit (K : PySem.W.Frag) (C : Addr) : Bool :=
  PySem.W.excInitIn K C [.type "ValueError", .type "Exception", .type "BaseException", .type "object"] "ValueError.__new__" || (PySem.W.excInitIn K C [.type "LookupError", .type "Exception", .type "BaseException", .type "object"] "LookupError.__new__" ||
  (PySem.W.excInitIn K C [.type "RuntimeError", .type "Exception", .type "BaseException", .type "object"] "RuntimeError.__new__" || PySem.W.excInitIn K C [.type "ArithmeticError", .type "Exception", .type "BaseException", .type "object"] "ArithmeticError.__new__"))
def xcB (K : PySem.W.Frag) (C : Addr) : Bool :=
  xInit K C && (decide (PySem.W.findIn K (.ref C) "__setattr__" = some (some (.builtin "object.__setattr__"))) && (decide (PySem.W.subIn K (.ref C) (.type "BaseException") = some true) && (decide (PySem.W.typeIn K (.ref C) = some (.type "type")) &&
  (PySem.W.keepIn K (.ref C) && (decide (PySem.W.findIn K (.ref C) "__getattribute__" = some (some (.builtin "BaseException.__getattribute__"))) && (decide (PySem.W.findIn K (.ref C) "__getattr__" = some none) && (PySem.W.hasDictIn K C &&
  (decide (PySem.W.findIn K (.ref C) "__class__" = some (some (.builtin "object.__class__"))) && (decide (PySem.W.specialIn K (.builtin "object.__class__") "__get__" = some (some (.builtin "getset_descriptor.__get__"))) &&
  (decide (PySem.W.takesIn K (.builtin "object.__class__") = some true) && decide (PySem.W.mroIn K C (.type "object") = some true)))))))))))
theorem xInit_one {K : PySem.W.Frag} {C : Addr} {tl : List Value} {newId : String} (q : PySem.W.excInitIn K C tl newId = true) (hd : PySem.W.hasDictIn K C = true) :
    ∃ nm qn N bs bm sn sub ab col dd k0 k1 k2 k3 k5, K.lookup C = some (excClassObj nm qn C N bs bm true sn sub ab col dd k0 k1 k2 k3 k5 newId) ∧ PySem.W.excTail tl bm = true := by
  unfold PySem.W.excInitIn at q
  unfold PySem.W.hasDictIn PySem.W.clsIn at hd
  split at q
  · rename_i dd cd sl ho
    split at q
    · rename_i C' bm k0 k1 k2 k3 n k5 hm hs
      simp only [Bool.and_eq_true, beq_iff_eq, Bool.not_eq_true'] at q
      obtain ⟨⟨⟨rfl, rfl⟩, hdel⟩, ht⟩ := q
      obtain ⟨nm, bs, mro, ns, qn, hdct, sn, sub, ab, col, del⟩ := cd
      dsimp only at hm hdel
      subst hm hdel
      have hsl : sl = #[k0, k1, k2, k3, some (.builtin n), k5] := by
        obtain ⟨l⟩ := sl
        simp only at hs
        rw [hs]
      subst hsl
      rw [ho] at hd
      have hh : hdct = true := hd
      subst hh
      exact ⟨nm, qn, ns, bs, bm, sn, sub, ab, col, dd, k0, k1, k2, k3, k5, ho, ht⟩
    · cases q
  · cases q
theorem xcB_ok {K : PySem.W.Frag} {C : Addr} (h : xcB K C = true) : XC K C := by
  obtain ⟨h0, h⟩ := Bool.and_eq_true_iff.mp h
  obtain ⟨h1, h⟩ := Bool.and_eq_true_iff.mp h
  obtain ⟨h2, h⟩ := Bool.and_eq_true_iff.mp h
  obtain ⟨h3, h⟩ := Bool.and_eq_true_iff.mp h
  obtain ⟨h4, h⟩ := Bool.and_eq_true_iff.mp h
  obtain ⟨h5, h⟩ := Bool.and_eq_true_iff.mp h
  obtain ⟨h6, h⟩ := Bool.and_eq_true_iff.mp h
  obtain ⟨h7, h⟩ := Bool.and_eq_true_iff.mp h
  obtain ⟨h8, h⟩ := Bool.and_eq_true_iff.mp h
  obtain ⟨h9, h⟩ := Bool.and_eq_true_iff.mp h
  obtain ⟨h10, h11⟩ := Bool.and_eq_true_iff.mp h
  refine ⟨?_, of_decide_eq_true h1, of_decide_eq_true h2, of_decide_eq_true h3, h4, of_decide_eq_true h5, of_decide_eq_true h6, h7, of_decide_eq_true h8, of_decide_eq_true h9, of_decide_eq_true h10, of_decide_eq_true h11⟩
  rcases Bool.or_eq_true_iff.mp h0 with q | q
  · obtain ⟨nm, qn, N, bs, bm, sn, sub, ab, col, dd, k0, k1, k2, k3, k5, e, t⟩ := xInit_one q h7
    exact ⟨_, _, _, _, nm, qn, N, bs, bm, sn, sub, ab, col, dd, k0, k1, k2, k3, k5, PySem.EXV.base_VE, e, t⟩
  · rcases Bool.or_eq_true_iff.mp q with q | q
    · obtain ⟨nm, qn, N, bs, bm, sn, sub, ab, col, dd, k0, k1, k2, k3, k5, e, t⟩ := xInit_one q h7
      exact ⟨_, _, _, _, nm, qn, N, bs, bm, sn, sub, ab, col, dd, k0, k1, k2, k3, k5, PySem.EXV.base_LE, e, t⟩
    · rcases Bool.or_eq_true_iff.mp q with q | q
      · obtain ⟨nm, qn, N, bs, bm, sn, sub, ab, col, dd, k0, k1, k2, k3, k5, e, t⟩ := xInit_one q h7
        exact ⟨_, _, _, _, nm, qn, N, bs, bm, sn, sub, ab, col, dd, k0, k1, k2, k3, k5, PySem.EXV.base_RE, e, t⟩
      · obtain ⟨nm, qn, N, bs, bm, sn, sub, ab, col, dd, k0, k1, k2, k3, k5, e, t⟩ := xInit_one q h7
        exact ⟨_, _, _, _, nm, qn, N, bs, bm, sn, sub, ab, col, dd, k0, k1, k2, k3, k5, PySem.EXV.base_AE, e, t⟩

/-! ### an exception object as a value -/
/-- at a: an exception of the class at C with these fields -/
def IsX (H : Hp) (C : Addr) (fs : List (Str × V)) (a : Addr) : Prop := (fs = [] ∧ H a = some (exo a C none)) ∨ ∃ dx, H a = some (exo a C (some dx)) ∧ H dx = some (exd dx fs)
theorem IsX.same {H H' : Hp} {C a : Addr} {fs : List (Str × V)} (s : Same H H') (h : IsX H C fs a) : IsX H' C fs a := by
  rcases h with ⟨e, h⟩ | ⟨dx, h1, h2⟩
  · exact .inl ⟨e, s _ _ h⟩
  · exact .inr ⟨dx, s _ _ h1, s _ _ h2⟩

section
variable {X : Cx} {pins : List (Addr × Obj)} {σ : St} {H : Hp} {s : Shared} {a C dx : Addr} {f : Str} {y : V} {u : Value} {fs : List (Str × V)} {Q : Unit → Shared → Prop} {E : Value → Shared → Prop} {A : Around}
/-- self.f = y, the first one -/
theorem xst_new (T : XC X.K C) (I : Inv X pins σ H s) (e : H a = some (exo a C none)) (hno : PySem.W.findIn X.K (.ref C) f = some none) (ry : RelV y u)
    (h : ∀ dx s', H dx = none → dx ≠ a → Inv X pins σ (upd (upd H dx (exd dx [(f, y)])) a (exo a C (some dx))) s' → Q () s') : wpAny (model X.prog X.w) A (setAttr (.ref a) f u) Q E s := by
  obtain ⟨B, newId, initId, tl, nm, q, N, bs, bm, sn, sub, ab, col, dd, k0, k1, k2, k3, k5, BX, hC, hbm⟩ := T.cls
  have hcl : PySem.W.clsIn X.K C = some { name := nm, bases := bs, mro := .ref C :: bm, ns := N, qualname := q, hasDict := true, slotNames := sn, subclasses := sub, abstract := ab, collection := col, hasDel := false } := by unfold PySem.W.clsIn; rw [hC] <;> rfl
  obtain ⟨t1, ho⟩ := exo_at I.hok e
  obtain ⟨hp, g, d, t, os⟩ := s
  refine PySem.W.set_plain I.kIn (ox := { cls := .ref C, dict := none, data := .fields #[.ref t1, .none, .none, .none, .bool false, .none] }) (od := none) ⟨ho, rfl, rfl, trivial⟩ T.sa ?_
  refine PySem.EXV.osa_new BX.S I.kIn ho hcl rfl hbm rfl hno (fun h' tk' dx k dn dne hx hn => ?_)
  have hnd : H dx = none := I.hok.fresh dn
  have nd : ∀ {b : Addr} {o : Obj}, hp.get? b = some o → b ≠ dx := fun {b o} q => Nat.ne_of_lt (Nat.lt_of_lt_of_le (Heap.lt_size q) dn)
  have na : ∀ {b : Addr}, H b = none → b ≠ a := fun {b} n z => by
    rw [z, e] at n
    cases n
  have Un1 : Un X.fs [] H (upd (upd H dx (exd dx [(f, y)])) a (exo a C (some dx))) hp h' := {
    keep := fun b o q n _ _ => k b o (na n) q
    slot := fun b o q n _ _ => ⟨o.slots, k b o (na n) q⟩
    free := fun b o q n _ => by rw [upd_ne (na n), upd_ne (nd q)]; exact n
    there := fun b o q _ => by
      by_cases hb : b = a
      · exact ⟨_, by rw [hb]; exact hx⟩
      · exact ⟨o, k b o hb q⟩
    tups := fun b xs q => by rw [upd_ne (at_ne e q exo_tup), upd_ne (ne_of_none q hnd)]; exact q
    frzs := fun b o v q => by rw [upd_ne (at_ne e q exo_frz), upd_ne (ne_of_none q hnd)]; exact q
    tbls := fun b ps q => ⟨#[], by rw [upd_ne (at_ne e q exo_tbl), upd_ne (ne_of_none q hnd), q]; simp⟩ }
  refine h dx _ hnd dne (I.un (t' := tk') Un1 fun b o q => ?_)
  by_cases hb : b = a
  · subst hb
    rw [upd_same] at q
    cases q
    exact exo_ok hx
  · rw [upd_ne hb] at q
    by_cases hd : b = dx
    · subst hd
      rw [upd_same] at q
      cases q
      exact exd_ok hn (relO_put (fs := []) ry fun g => True.intro)
    · rw [upd_ne hd] at q
      exact (I.hok b o q).stay (fun c v hc z => k c v (by
          rcases hc with hc | hc
          · rw [hc]
            exact hb
          · exact at_ne e hc exo_own) z)
        (fun c hc => by rw [upd_ne (at_ne e hc exo_own), upd_ne (ne_of_none hc hnd)]; exact hc) (fun c xs hc => by rw [upd_ne (at_ne e hc exo_tup), upd_ne (ne_of_none hc hnd)]; exact hc)
/-- self.f = y, a further one -/
theorem xst_more (T : XC X.K C) (I : Inv X pins σ H s) (e : H a = some (exo a C (some dx))) (ed : H dx = some (exd dx fs)) (hl : fs.length ≤ 900) (hno : PySem.W.findIn X.K (.ref C) f = some none) (ry : RelV y u)
    (h : ∀ s', Inv X pins σ (upd H dx (exd dx ((f, y) :: fs))) s' → Q () s') : wpAny (model X.prog X.w) A (setAttr (.ref a) f u) Q E s := by
  obtain ⟨B, newId, initId, tl, nm, q, N, bs, bm, sn, sub, ab, col, dd, k0, k1, k2, k3, k5, BX, hC, hbm⟩ := T.cls
  have hcl : PySem.W.clsIn X.K C = some { name := nm, bases := bs, mro := .ref C :: bm, ns := N, qualname := q, hasDict := true, slotNames := sn, subclasses := sub, abstract := ab, collection := col, hasDel := false } := by unfold PySem.W.clsIn; rw [hC] <;> rfl
  obtain ⟨t1, ho⟩ := exo_at I.hok e
  obtain ⟨mA, hns, rel⟩ := exd_at I.hok ed
  have hw := within_of rel
  obtain ⟨hp, g, d, t, os⟩ := s
  obtain ⟨oD, _, _, hoD, _, _⟩ := hns.count hw
  refine PySem.W.set_plain I.kIn (ox := { cls := .ref C, dict := some dx, data := .fields #[.ref t1, .none, .none, .none, .bool false, .none] }) (od := some oD) ⟨ho, rfl, rfl, hoD⟩ T.sa ?_
  refine PySem.EXV.osa_more BX.S I.kIn ho hns hw (by rw [List.length_map]; omega) hcl rfl hbm rfl hno (fun h' tk' k hn => ?_)
  have hd : ∃ o, h'.get? dx = some o := by
    obtain ⟨o, _, _, e', _⟩ := hn
    exact ⟨o, e'⟩
  exact h _ (I.write (t' := tk') (x := dx) (e := dx) (o := exd dx ((f, y) :: fs)) (by rw [ed]; exact True.intro) (.inl rfl) k hd (exd_ok hn (relO_put ry rel)))
end
/-- self.f = e, self an exception that is being made -/
def tXst (K : PySem.W.Frag) (f : Str) (to te : TE) : TS := fun D σ H => te σ H fun y H1 => to σ H1 fun x H2 => ∃ a C : Addr, x = .ref a ∧ XC K C ∧ PySem.W.findIn K (.ref C) f = some none ∧
  ((H2 a = some (exo a C none) ∧ ∀ dx, H2 dx = none → dx ≠ a → D.nx σ (upd (upd H2 dx (exd dx [(f, y)])) a (exo a C (some dx)))) ∨
    ∃ (dx : Addr) (fs : List (Str × V)), H2 a = some (exo a C (some dx)) ∧ H2 dx = some (exd dx fs) ∧ fs.length ≤ 900 ∧ D.nx σ (upd H2 dx (exd dx ((f, y) :: fs))))
section
variable {X : Cx} {o e : Expr} {es : List Expr} {to te : TE} {ta : TA} {f : Str} {p p' p1 p2 pos : Pos}
theorem ps_xst (ho : PE X o to) (he : PE X e te) (hs : swapsWith e (some (.Attribute o f p')) pos.line X.env = pure false := by rfl) : PS X (.Assign [.Attribute o f p'] e pos) (tXst X.K f to te) := by
  refine ⟨fun pins s σ H D I h => ?_⟩
  refine plainObj_wpAny_Assign_Attribute (thn (he.run pins s σ H _ I h) fun v s1 ⟨y, H1, I1, r1, q1⟩ => thn (ho.run pins s1 σ H1 _ I1 q1) fun u s2 ⟨x, H2, I2, r2, a, C, ex, T, hno, q⟩ => ?_) hs
  subst ex
  obtain rfl : u = Value.ref a := r2
  rcases q with ⟨ea, q⟩ | ⟨dx, fs, ea, ed, hl, q⟩
  · exact xst_new T I2 ea hno r1 fun dx s' n ne J => ⟨σ, _, J, q dx n ne⟩
  · exact xst_more T I2 ea ed hl hno r1 fun s' J => ⟨σ, _, J, q⟩
end
end L2

end PE2
section PE3
set_option maxHeartbeats 4000000
namespace L2
open PySem PySem.Spec PyProof.Rows
/-- a def without defaults, called with keywords -/
theorem FunD.kbn {K : PySem.W.Frag} {x qual : Str} {params : Arguments} {body : List Stmt} {scope : Scope} {kws : List (Str × V)} {f : Addr} {fd : FuncData} {ps ks : List Str} (F : FunD K x qual params body scope [] kws f fd) (n : Nat) (g : {α : Type} → List α → List α → List α)
    (hrel : ∀ {vs zs : List V} {us ws : List Value}, Vals vs us → Vals zs ws → Vals (g vs zs) (g us ws))
    (h : ∀ (kV doc pm : Value) (an : Option Addr) (cdv ct : Value) (us ws : List Value), us.length = n → ws.length = ks.length → bindArgs (PySem.W.fnOf x qual params body scope .none kV doc pm an cdv ct) ⟨us, ks.zip ws⟩ = pure (ps.zip (g us ws))) :
    KBn K fd ps n ks (fun us ws => g us ws) (fun vs zs => g vs zs) := by
  obtain ⟨oc, od, dV, kV, doc, pm, an, cdv, ct, osl, rfl, lk, hcd, hD, hK⟩ := F.ex
  rcases hD with ⟨_, rfl⟩ | ⟨e, _⟩
  · exact ⟨fun s us ws X l1 l2 => .of_eq (h kV doc pm an cdv ct us ws l1 l2), fun r1 r2 => hrel r1 r2⟩
  · exact absurd rfl e
/-- C(e, .., k = v, ..), C an own exception class: a new object, then __init__ keeping sp -/
def tXmk (C : Addr) (n m : Nat) (sp : Sp) (gV : List V → List V → List V) (t tk : TA) : TE := fun σ H Q => t σ H fun vs H1 => tk σ H1 fun zs H2 => vs.length = n ∧ zs.length = m ∧
  ∀ a, H2 a = none → sp (gV (.ref a :: vs) zs) (upd H2 a (exo a C none)) (fun v H3 => v = .non ∧ Q (.ref a) H3) E0
section
variable {X : Cx} {CX : CXT} {k n : Nat} {fI C : Addr} {fd : FuncData} {ps ks : List Str} {sp : Sp} {x : Str} {p pos : Pos} {e : Expr} {es : List Expr} {kws : List Keyword} {t tk : TA} {g : List Value → List Value → List Value} {gV : List V → List V → List V}
theorem run_xmk {pins : List (Addr × Obj)} {σ : St} {H : Hp} {s : Shared} {Q : VK} {us ws : List Value} {vs zs : List V} (T : XC X.K C) (iC : PySem.W.findIn X.K (.ref C) "__init__" = some (some (.ref fI))) (tI : PySem.W.typeIn X.K (.ref fI) = some (.type "function"))
    (F : FnOk X.prog X.w X.K X.mg X.base CX k fI fd ps sp) (hr : Room (k + 1) X.A) (hb : KBn X.K fd ps (n + 1) ks g gV) (hx : Passes CX X E0) (hn : n ≤ 1000) (I : Inv X pins σ H s) (r : Vals vs us) (rz : Vals zs ws) (l1 : vs.length = n) (l2 : zs.length = ks.length)
    (h : ∀ a, H a = none → sp (gV (.ref a :: vs) zs) (upd H a (exo a C none)) (fun v H2 => v = .non ∧ Q (.ref a) H2) E0) :
    wpAny (model X.prog X.w) X.A (call (.ref C) us (ks.zip ws)) (EP X pins σ Q) X.xe s := by
  obtain ⟨B, newId, initId, tl, nm, q, N, bs, bm, sn, sub, ab, col, dd, k0, k1, k2, k3, k5, BX, hC, hbm⟩ := T.cls
  obtain ⟨hp, gs, dr, tk', os⟩ := s
  have hsz : hp.objs.size ≤ hp.objs.size + 1 := Nat.le_succ _
  have hn1 : H (hp.objs.size + 1) = none := I.hok.fresh hsz
  have hq := h (hp.objs.size + 1) hn1
  have kk : ∀ b o, hp.get? b = some o → ((hp.push (PySem.W.kdv_tup us)).push (PySem.HandSPX.excO C hp.objs.size)).get? b = some o := fun b o e => Heap.get?_push_of_some _ (Heap.get?_push_of_some _ e)
  have hget : ((hp.push (PySem.W.kdv_tup us)).push (PySem.HandSPX.excO C hp.objs.size)).get? (hp.objs.size + 1) = some (PySem.HandSPX.excO C hp.objs.size) := by heap_get
  have I2 : Inv X pins σ (upd H (hp.objs.size + 1) (exo (hp.objs.size + 1) C none)) ⟨(hp.push (PySem.W.kdv_tup us)).push (PySem.HandSPX.excO C hp.objs.size), gs, dr, tk', os⟩ :=
    I.laid (t' := tk') (a := hp.objs.size + 1) (o := exo (hp.objs.size + 1) C none) (h' := (hp.push (PySem.W.kdv_tup us)).push (PySem.HandSPX.excO C hp.objs.size)) kk hsz (exo_ok hget)
  have r1 : Vals (V.ref (hp.objs.size + 1) :: vs) (Value.ref (hp.objs.size + 1) :: us) := .cons rfl r
  have r2 := hb.rel r1 rz
  have e1 : (Value.ref (hp.objs.size + 1) :: us).length = n + 1 := r1.length.symm.trans (congrArg Nat.succ l1)
  have e2 : ws.length = ks.length := rz.length.symm.trans l2
  have hus : us.length ≤ sizeLine := by
    rw [← r.length, l1]
    exact Nat.le_trans hn (by decide)
  refine wpAny_call (PySem.EXV.call_kw BX.F (fun Y => PySem.W.excTail_contains Y bm hbm) (I.kIn _ _ hC) (PySem.W.looks_findIn I.kIn iC) (fun self => PySem.W.bind_fn I.kIn self tI) hus
    (codeAny_mono (F.run _ X.stack _ _ ⟨Value.ref (hp.objs.size + 1) :: us, ks.zip ws⟩ (g (Value.ref (hp.objs.size + 1) :: us) ws) _ _ E0 (hr.make C us (ks.zip ws)) (I2.env0.make C us (ks.zip ws)) (hb.to _ (Value.ref (hp.objs.size + 1) :: us) ws I2.kIn e1 e2) r2 hq) fun r s' hq' => ?_))
  cases r with
  | error er => exact hx pins σ _ _ er s' I2 hq'
  | ok fl =>
    cases fl with
    | ret u =>
      obtain ⟨v, H', I3, rv, ev, q3⟩ := I2.after hq'
      subst ev
      exact ⟨rv, ⟨V.ref (hp.objs.size + 1), H', I3, rfl, q3⟩⟩
    | next => exact False.elim hq'
    | brk => exact False.elim hq'
    | cont => exact False.elim hq'
/-- C(e, ..) -/
theorem pe_xmk (T : XC X.K C) (iC : PySem.W.findIn X.K (.ref C) "__init__" = some (some (.ref fI))) (tI : PySem.W.typeIn X.K (.ref fI) = some (.type "function"))
    (F : FnOk X.prog X.w X.K X.mg X.base CX k fI fd ps sp) (hr : Room (k + 1) X.A) (hb : KBn X.K fd ps (n + 1) [] g gV) (hx : Passes CX X E0) (hn : n ≤ 1000) (hg : Gl X x) (hm : X.mg x = some (.ref C)) (ha : PA X (e :: es) t)
    (hdb : (x == ("__debug__" : Str)) = false := by decide) (he : starEach (e :: es) X.env = (false, eval e X.env) :: starEach es X.env := by rfl) (hpl : (backTo pos (starEach es X.env)).any (·.1) = false := by rfl) :
    PE X (.Call (.Name x p) (e :: es) [] pos) (tXmk C n 0 sp gV t tNil) := by
  refine ⟨fun pins s σ H Q I h => ?_⟩
  refine wpAny_Call_Name_kw (ld_glob I hg hm ?_ hdb)
  refine PySem.W.callWith_K (h₀ := X.base) I.ok.mod.kin T.kC (thn (ha.run pos pins s σ H _ I h) fun us s1 ⟨vs, H1, I1, r1, q1⟩ => ⟨I1.kIn, ?_⟩) he hpl
  obtain ⟨l1, l2, q2⟩ := q1
  exact run_xmk (ws := []) (zs := []) (ks := []) T iC tI F hr hb hx hn I1 r1 .nil l1 rfl q2
/-- C() -/
theorem pe_xmk0 (T : XC X.K C) (iC : PySem.W.findIn X.K (.ref C) "__init__" = some (some (.ref fI))) (tI : PySem.W.typeIn X.K (.ref fI) = some (.type "function"))
    (F : FnOk X.prog X.w X.K X.mg X.base CX k fI fd ps sp) (hr : Room (k + 1) X.A) (hb : KBn X.K fd ps 1 [] g gV) (hx : Passes CX X E0) (hg : Gl X x) (hm : X.mg x = some (.ref C)) 
    (hdb : (x == ("__debug__" : Str)) = false := by decide) (hpl : ((backTo pos (starEach [] X.env)).any (·.1) || (backToKw pos (keywordEach [] X.env)).any (·.1.isNone)) = false := by rfl) :
    PE X (.Call (.Name x p) [] [] pos) (tXmk C 0 0 sp gV tNil tNil) := by
  refine ⟨fun pins s σ H Q I h => ?_⟩
  refine wpAny_Call_Name_kw (ld_glob I hg hm ?_ hdb)
  refine PySem.W.callWith_KW0 (h₀ := X.base) I.ok.mod.kin T.kC rfl ?_ hpl
  obtain ⟨l1, l2, q2⟩ := (show tXmk C 0 0 sp gV tNil tNil σ H Q from h)
  refine wpAny_pure ⟨I.kIn, ?_⟩
  exact run_xmk (us := []) (vs := []) (ws := []) (zs := []) (ks := []) T iC tI F hr hb hx (Nat.zero_le _) I .nil .nil rfl rfl q2
/-- C(k = v, ..) -/
theorem pe_xmkK (T : XC X.K C) (iC : PySem.W.findIn X.K (.ref C) "__init__" = some (some (.ref fI))) (tI : PySem.W.typeIn X.K (.ref fI) = some (.type "function"))
    (F : FnOk X.prog X.w X.K X.mg X.base CX k fI fd ps sp) (hr : Room (k + 1) X.A) (hb : KBn X.K fd ps 1 ks g gV) (hx : Passes CX X E0) (hg : Gl X x) (hm : X.mg x = some (.ref C)) (hkw : PK X kws tk)
    (hall : (backToKw pos (keywordEach kws X.env)).all (·.1.isSome) = true := by rfl) (hks : (backToKw pos (keywordEach kws X.env)).filterMap (·.1) = ks := by rfl) (hdb : (x == ("__debug__" : Str)) = false := by decide)
    (hpl : ((backTo pos (starEach [] X.env)).any (·.1) || (backToKw pos (keywordEach kws X.env)).any (·.1.isNone)) = false := by rfl) :
    PE X (.Call (.Name x p) [] kws pos) (tXmk C 0 ks.length sp gV tNil tk) := by
  refine ⟨fun pins s σ H Q I h => ?_⟩
  refine wpAny_Call_Name_kw (ld_glob I hg hm ?_ hdb)
  refine PySem.W.callWith_KW0 (h₀ := X.base) I.ok.mod.kin T.kC hall ?_ hpl
  refine thn (hkw.run pos pins s σ H _ I h) fun ws s2 ⟨zs, H2, I2, rz, l1, l2, q2⟩ => ⟨I2.kIn, ?_⟩
  rw [hks]
  exact run_xmk (us := []) (vs := []) T iC tI F hr hb hx (Nat.zero_le _) I2 .nil rz rfl l2 q2
end

/-! ### e.f, isinstance(e, C) -/
/-- e.f of an exception that is tracked -/
def tXat (K : PySem.W.Frag) (f : Str) (te : TE) : TE := fun σ H Q => te σ H fun x H1 => ∃ (a C : Addr) (fs : List (Str × V)) (v : V), x = .ref a ∧ XC K C ∧ PySem.W.findIn K (.ref C) f = some none ∧ IsX H1 C fs a ∧ fs.lookup f = some v ∧ Q v H1
theorem pe_xat {X : Cx} {K : PySem.W.Frag} {e : Expr} {te : TE} {pos : Pos} {f : Str} (he : PE X e te) (hb : attributeBase e f X.env (eval e X.env) = eval e X.env := by rfl) (hK : X.K = K := by rfl) : PE X (.Attribute e f pos) (tXat K f te) := by
  subst hK
  refine ⟨fun pins s σ H Q I h => ?_⟩
  refine attr_of hb (thn (he.run pins s σ H _ I h) fun u s1 hh => ?_)
  obtain ⟨x, H1, I1, rx, a, C, fs, v, ex, T, hno, hx, l, q⟩ := hh
  subst ex
  obtain rfl : u = Value.ref a := rx
  rcases hx with ⟨rfl, _⟩ | ⟨dx, ea, ed⟩
  · cases l
  · obtain ⟨t1, ho⟩ := exo_at I1.hok ea
    obtain ⟨mA, hns, rel⟩ := exd_at I1.hok ed
    obtain ⟨od, hod, hl⟩ := lookIn_ns hns
    obtain ⟨w, hw, rw'⟩ := RelO.some_of (v := v) (o := mA f) (by rw [← l]; exact rel f)
    have J : PySem.W.InstAt s1.heap a { cls := .ref C, dict := some dx, data := .fields #[.ref t1, .none, .none, .none, .bool false, .none] } C (some od) := ⟨ho, rfl, rfl, hod⟩
    exact HandSPX.exc_get I1.kIn J T.ga T.gg T.exC (PySem.W.findObj_own T.hd hno rfl (by rw [hl, hw])) (handed_of rw') ⟨v, H1, I1.tok _, rw', q⟩
end L2

end PE3
section PE4
set_option maxHeartbeats 4000000
namespace L2
open PySem PySem.Spec PyProof.Rows
theorem XC.isCls {K : PySem.W.Frag} {C : Addr} (T : XC K C) : (PySem.W.clsIn K C).isSome = true := by
  obtain ⟨cd, hc, _⟩ := PySem.W.any_some T.hd
  rw [hc] <;> rfl
section
variable {X : Cx} {pins : List (Addr × Obj)} {σ : St} {H : Hp} {s : Shared}
theorem kit_x {a C : Addr} {fs : List (Str × V)} (I : Inv X pins σ H s) (T : XC X.K C) (h : IsX H C fs a) : ∃ P : Heap → Prop, PySem.W.KitX X.K (.ref a) (.ref C) P ∧ P s.heap := by
  rcases h with ⟨_, ea⟩ | ⟨dx, ea, ed⟩
  · obtain ⟨t1, ho⟩ := exo_at I.hok ea
    exact ⟨_, PySem.W.kitx_exc (od := none) T.isCls T.ga T.gg T.exC T.ha T.hn T.ht T.hm, ⟨ho, rfl, rfl, trivial⟩⟩
  · obtain ⟨t1, ho⟩ := exo_at I.hok ea
    obtain ⟨mA, ⟨od, es, ep, e1, _⟩, rel⟩ := exd_at I.hok ed
    exact ⟨_, PySem.W.kitx_exc (od := some od) T.isCls T.ga T.gg T.exC T.ha T.hn T.ht T.hm, ⟨ho, rfl, rfl, e1⟩⟩
end
/-- isinstance(e, c), e a tracked exception, c one class -/
def rIsX (K : PySem.W.Frag) : List V → Hp → VK → Prop := fun xs H Q => ∃ (a C : Addr) (fs : List (Str × V)) (c : V) (u : Value) (b : Bool), xs = [.ref a, c] ∧ ClsV c u ∧ XC K C ∧ IsX H C fs a ∧ PySem.W.kitOne K (.ref C) u = some b ∧ Q (.bl b) H
/-- isinstance(e, (c1, c2, ..)) -/
def rIsXT (K : PySem.W.Frag) : List V → Hp → VK → Prop := fun xs H Q => ∃ (a C tp : Addr) (fs : List (Str × V)) (cs : List V) (us : List Value) (b : Bool), xs = [.ref a, .ref tp] ∧ H tp = some (.tup cs) ∧ Paired ClsV cs us ∧ XC K C ∧ IsX H C fs a ∧ PySem.W.kitAny K (.ref C) us = some b ∧ Q (.bl b) H
section
variable {X : Cx}
theorem call_isX : CallR X (.builtin "isinstance") (rIsX X.K) := by
  intro pins s σ H xs us Q I r h
  obtain ⟨a, C, fs, c, u, b, rfl, k, T, hx, e, q⟩ := h
  obtain ⟨u1, u2, rfl, r1, r2⟩ := vals2 r
  have e2 := k.eq r2
  subst e2
  cases (show u1 = Value.ref a from r1)
  obtain ⟨P, Z, p⟩ := kit_x I T hx
  exact PySem.W.kia_one Z I.kIn p e (fun z => nomatch z) fun tk => ⟨.bl b, H, I.tok tk, rfl, q⟩
theorem call_isXT : CallR X (.builtin "isinstance") (rIsXT X.K) := by
  intro pins s σ H xs us Q I r h
  obtain ⟨a, C, tp, fs, cs, ws, b, rfl, hT, k, T, hx, e, q⟩ := h
  obtain ⟨u1, u2, rfl, r1, r2⟩ := vals2 r
  cases (show u1 = Value.ref a from r1)
  cases (show u2 = Value.ref tp from r2)
  obtain ⟨P, Z, p⟩ := kit_x I T hx
  obtain ⟨_, its, rv, o, h1, h2, n, h3⟩ := (show ObjOk X.prog X.w H s.heap tp (.tup cs) from I.hok tp _ hT)
  have e3 := ClsV.all k rv
  subst e3
  obtain ⟨oc, od, dt, sl⟩ := o
  simp only at h2 h3
  subst h2 h3
  exact PySem.W.kia_tup Z I.kIn p h1 e (fun z => nomatch z) fun tk => ⟨.bl b, H, I.tok tk, rfl, q⟩
end
end L2

end PE4
section PE5
set_option maxHeartbeats 4000000
/-! Promises of defs that are called while no repr runs: what repr tells is then told. -/
namespace L2
open PySem PySem.Spec PyProof.Rows
/-- a def keeps sp wherever it is called outside of any repr -/
structure FnG (P : Program) (w : World) (K : PySem.W.Frag) (mg : Str → Option Value) (base : Heap) (CX : CXT) (k : Nat) (f : Addr) (fd : FuncData) (ps : List Str) (sp : Sp) : Prop where
  len : ∀ vs H Q E, sp vs H Q E → vs.length = ps.length
  run : ∀ (A : Around) (outer : List Env) (s : Shared) (H : Hp) (args : Args) (us : List Value) (vs : List V) (Q : VK) (E : XK), A.guards = some [] → Room k A → Env0 P w K mg base A outer s H → BindsTo s fd args (ps.zip us) → Vals vs us → sp vs H Q E →
    codeAny (model P w) A (.call (.ref f) args) (CR CX outer P w H s Q E) s
theorem FnOk.g {P : Program} {w : World} {K : PySem.W.Frag} {mg : Str → Option Value} {base : Heap} {CX : CXT} {k : Nat} {f : Addr} {fd : FuncData} {ps : List Str} {sp : Sp} (F : FnOk P w K mg base CX k f fd ps sp) : FnG P w K mg base CX k f fd ps sp :=
  ⟨F.len, fun A outer s H args us vs Q E _ => F.run A outer s H args us vs Q E⟩
theorem deeper_guards {A : Around} {env : Env} (h : A.guards = some []) : (A.deeper env).guards = some [] := by
  have e : (A.deeper env).guards = A.guards := by rfl
  rw [e, h]
/-- the rule for a def, by its body, the guards told -/
theorem FunD.okG {CX : CXT} {P : Program} {w : World} {K : PySem.W.Frag} {mg : Str → Option Value} {base : Heap} {k : Nat} {f : Addr} {x qual : Str} {params : Arguments} {body : List Stmt} {scope : Scope} {dvs : List V} {kws : List (Str × V)} {fd : FuncData} {N ps : List Str} {sp : Sp}
    (F : FunD K x qual params body scope dvs kws f fd) (S : FnScope N ps scope) (len : ∀ vs H Q E, sp vs H Q E → vs.length = ps.length)
    (hbody : ∀ (cdv : Value) (A : Around) (outer : List Env) (s : Shared) (H : Hp) (vs : List V) (Q : VK) (E : XK), A.guards = some [] → Room k (A.deeper (envOfC qual scope s.heap.objs.size f cdv)) → sp vs H Q E →
      ∃ t, PSs (cxOf CX P w K mg base N qual scope f cdv A outer s H E) body t ∧ t { nx := fun _ H' => Q .non H', rt := Q } (start N vs) H) : FnG P w K mg base CX (k + 1) f fd ps sp := by
  obtain ⟨oc, od, dV, kV, doc, pm, an, cdv, ct, osl, rfl, lk, hcd, _, _⟩ := F.ex
  refine ⟨len, fun A outer s H args us vs Q E hg hr e0 hb r hsp => ?_⟩
  have old : ∀ b o, base.get? b = some o → s.heap.get? b = some o := fun b o e => (e0.bs b o e).1
  have KX : K.In s.heap := e0.mod.kin.keeps old
  have lim : s.heap.NoLimit := e0.mod.nolimit.keeps old
  refine codeAny_call_function hr.depth (KX _ _ lk) rfl S.co S.gen rfl (PySem.W.codeRec_of KX hcd) (hb _ _ _ _ (wpAny_newFunctionEnv_cells S.kind (fun y hy => ?_) fun env he s1 x => ?_))
  · rcases S.par y.1 (List.of_mem_zip (show (y.1, y.2) ∈ ps.zip us from hy)).1 with q | q
    · exact .inl q
    · exact .inr ⟨q, PySem.W.cellsFrom_some _ _ _ (.inl q)⟩
  · subst he
    obtain ⟨t, ht, hq⟩ := hbody cdv A outer s H vs Q E hg (hr.deeper _) hsp
    refine ⟨lim.keeps x.toInCall.keep, codeAny_func (wpAny_mono (ht.run [] s1 (start N vs) H _ (inv_start S hr.hd e0 (len _ _ _ _ hsp) r x) hq) (fun fl s' hs => ?_) fun e s' hs => hs)⟩
    cases fl with
    | ret u =>
      obtain ⟨v, σ', H', J, rv, q⟩ := hs
      exact ⟨v, H', J.os, J.bare, J.base, J.hok, rv, q⟩
    | next =>
      obtain ⟨σ', H', J, q⟩ := hs
      exact ⟨V.non, H', J.os, J.bare, J.base, J.hok, rfl, q⟩
    | brk =>
      obtain ⟨_, _, _, q⟩ := hs
      exact False.elim q
    | cont =>
      obtain ⟨_, _, _, q⟩ := hs
      exact False.elim q
section
variable {X : Cx} {CX : CXT} {k : Nat} {f C : Addr} {fd : FuncData} {ps : List Str} {sp : Sp} {dvs : List V} {ds : List Value} {E : XK} {x m : Str} {p pos apos : Pos} {e o : Expr} {es : List Expr} {ta : TE} {t : TA}
theorem runG {pins : List (Addr × Obj)} {σ : St} {H : Hp} {s : Shared} {Q : VK} {us : List Value} {vs : List V} (F : FnG X.prog X.w X.K X.mg X.base CX k f fd ps sp) (hG : X.A.guards = some []) (hr : Room k X.A) (hb : Binds X.K fd ps ds) (hd : Vals dvs ds) (hx : Passes CX X E)
    (I : Inv X pins σ H s) (r : Vals vs us) (h : sp (vs ++ dvs) H Q E) : wpAny (model X.prog X.w) X.A (call (.ref f) us) (EP X pins σ Q) X.xe s := by
  have r2 : Vals (vs ++ dvs) (us ++ ds) := r.append hd
  have hl : (us ++ ds).length = ps.length := r2.length.symm.trans (F.len _ _ _ _ h)
  refine wpAny_call (codeAny_mono (F.run X.A X.stack s H ⟨us, []⟩ (us ++ ds) (vs ++ dvs) Q E hG hr I.env0 (hb s us I.kIn hl) r2 h) fun r s' hq => ?_)
  cases r with
  | error e => exact hx pins σ H s e s' I hq
  | ok fl =>
    cases fl with
    | ret u => exact I.after hq
    | next => exact False.elim hq
    | brk => exact False.elim hq
    | cont => exact False.elim hq
/-- f(e, ..) where the guards are told -/
theorem pe_callG (F : FnG X.prog X.w X.K X.mg X.base CX k f fd ps sp) (hG : X.A.guards = some []) (hr : Room k X.A) (hg : Gl X x) (hm : X.mg x = some (.ref f)) (hk : PySem.W.keepIn X.K (.ref f) = true) (hb : Binds X.K fd ps ds) (hd : Vals dvs ds) (hx : Passes CX X E)
    (ha : PA X (e :: es) t) (hdb : (x == ("__debug__" : Str)) = false := by decide) (he : starEach (e :: es) X.env = (false, eval e X.env) :: starEach es X.env := by rfl) (hpl : (backTo pos (starEach es X.env)).any (·.1) = false := by rfl) :
    PE X (.Call (.Name x p) (e :: es) [] pos) (tCall sp dvs E t) :=
  ⟨fun pins s σ H Q I h => wpAny_Call_Name_kw (ld_glob I hg hm (PySem.W.callWith_K (h₀ := X.base) I.ok.mod.kin hk (thn (ha.run pos pins s σ H _ I h) fun us s1 ⟨vs, H1, I1, r, q⟩ => ⟨I1.kIn, runG F hG hr hb hd hx I1 r q⟩) he hpl) hdb)⟩
end
/-- a law's call where its def's promise wants the guards -/
theorem law_callG {P : Program} {w : World} {K : PySem.W.Frag} {mg mb : Str → Option Value} {CX : CXT} {k : Nat} {fa a : Addr} {fd : FuncData} {x : Str} {sp : Sp} {s₁ : Shared} {vs : List Value} {ns : List Int}
    (KX : K.In s₁.heap) (hns : s₁.heap.Ns mainGlobals mg) (hb : s₁.heap.Ns builtinsNs mb) (hbb : ∀ x : Str, x ≠ "__name__" → mb x = bootBuiltins x) (hlim : s₁.heap.NoLimit) (hg : s₁.gens = #[])
    (ha : s₁.heap.get? a = some { cls := .type "list", data := .seq vs.toArray }) (hi : IntsAre vs ns) (hl : ns.length ≤ sizeLine) (hr : Room k callerA)
    (F : ∀ base : Heap, K.In base → base.Ns mainGlobals mg → FnG P w K mg base CX k fa fd [x] sp) (hbind : ∀ (s : Shared) (u : Value), BindsTo s fd ⟨[u], []⟩ [(x, u)])
    (hsp : ∀ H : Hp, Only H → SqL K H a (ns.map V.int) → sp [.ref a] H (fun v _ => v = .bl true) fun _ _ _ => False)
    (hCX : ∀ H e s', CX [] H s₁ (fun _ _ _ => False) e s' → False) :
    codeAny (model P w) callerA (.call (.ref fa) ⟨[.ref a], []⟩) (fun r s' => r = .ok (.ret (.bool true)) ∧ OldK s₁.heap s'.heap ∧ s'.os = s₁.os ∧ AllBare s'.gens) s₁ := by
  -- what is tracked at the entry: the script, unless it is one of the module's own objects
  have core : ∀ H : Hp, Only H → SqL K H a (ns.map V.int) → HOk P w H s₁.heap → (∀ b, H b ≠ none → b = a ∧ K.lookup a = none) →
      codeAny (model P w) callerA (.call (.ref fa) ⟨[.ref a], []⟩) (fun r s' => r = .ok (.ret (.bool true)) ∧ OldK s₁.heap s'.heap ∧ s'.os = s₁.os ∧ AllBare s'.gens) s₁ := by
    intro H hO hS hok hA
    have keep : ∀ {b : Addr} {o : Obj}, s₁.heap.get? b = some o → (b = a → K.lookup a = none → False) → (hidT s₁.heap H).get? b = some o := fun {b o} e no => hidT_get e (by
      cases q : H b with
      | none => rfl
      | some u =>
        have z := hA b (by rw [q]; simp)
        exact (no z.1 z.2).elim)
    have nsK : ∀ {b : Addr} {m : Str → Option Value}, s₁.heap.Ns b m → (hidT s₁.heap H).Ns b m := fun {b m} ⟨o, es, ep, e, d, r⟩ => ⟨o, es, ep, keep e (fun z _ => by
      rw [z, ha] at e
      cases e
      cases d), d, r⟩
    have hKb : K.In (hidT s₁.heap H) := fun b o e => keep (KX b o e) fun z n => by
      rw [z, n] at e
      cases e
    obtain ⟨mc, h1, h2⟩ := hlim
    have e0 : Env0 P w K mg (hidT s₁.heap H) callerA [] s₁ H := ⟨rfl, ⟨hKb, nsK hns, ⟨mb, nsK hb, hbb⟩, ⟨mc, nsK h1, h2⟩⟩, fun b o e => of_hidT e, Nat.le_of_eq (hidT_size _ _), trivial, fun b hb => absurd (show b ∈ ([] : List Addr) from hb) (by simp), hok, .of_eq hg⟩
    refine codeAny_mono ((F _ hKb (nsK hns)).run callerA [] s₁ H ⟨[.ref a], []⟩ [.ref a] [.ref a] _ _ rfl hr e0 (hbind s₁ (.ref a)) (.cons rfl .nil) (hsp H hO hS)) fun r s' h => ?_
    cases r with
    | error e => exact (hCX H e s' h).elim
    | ok fl =>
      cases fl with
      | next => exact False.elim h
      | brk => exact False.elim h
      | cont => exact False.elim h
      | ret u =>
        obtain ⟨v, H', os, bare, un, hok', r', q⟩ := h
        cases (show v = .bl true from q)
        cases (show u = Value.bool true from r')
        refine ⟨rfl, OldK.of_keep fun b o e => ?_, os, bare⟩
        cases q : H b with
        | none => exact un.keep b o e q (fun z => absurd (show b ∈ ([] : List Addr) from z) (by simp)) (by simp)
        | some u =>
          obtain ⟨ob, xs, z⟩ : ∃ o xs, H b = some (.frz o (.lst xs)) := (hO b).resolve_left (by rw [q]; simp)
          have e1 := (hok b _ z).1
          rw [e] at e1
          cases e1
          exact (hok' b _ (un.frzs b _ _ z)).1
  have rv := vals_ints hi
  cases hk : K.lookup a with
  | some o =>
    have e := KX a o hk
    rw [ha] at e
    cases e
    exact core (fun _ => none) (fun _ => .inl rfl) (.inr ⟨_, vs.toArray, _, hk, rfl, rfl, rfl, by rw [List.size_toArray, hi.length]; exact hl, by simpa using rv⟩) (fun b u z => by cases (show (none : Option HO) = some u from z)) fun b z => absurd rfl z
  | none =>
    have at_ : ∀ b u, (if b = a then some (HO.frz { cls := .type "list", data := .seq vs.toArray } (.lst (ns.map V.int))) else none) = some u → b = a ∧ u = HO.frz { cls := .type "list", data := .seq vs.toArray } (.lst (ns.map V.int)) := fun b u z => by
      by_cases q : b = a
      · rw [if_pos q] at z
        exact ⟨q, (Option.some.inj z).symm⟩
      · rw [if_neg q] at z
        cases z
    refine core (fun b => if b = a then some (.frz { cls := .type "list", data := .seq vs.toArray } (.lst (ns.map V.int))) else none) (fun b => ?_) (.inl (.inr ⟨{ cls := .type "list", data := .seq vs.toArray }, if_pos rfl⟩)) (fun b u z => ?_) fun b z => ⟨?_, hk⟩
    · by_cases q : b = a
      · exact .inr ⟨_, _, if_pos q⟩
      · exact .inl (if_neg q)
    · obtain ⟨rfl, rfl⟩ := at_ b u z
      exact ⟨ha, by rw [List.length_map]; exact hl, vs, _, rv, ha⟩
    · cases q : (if b = a then some (HO.frz { cls := .type "list", data := .seq vs.toArray } (.lst (ns.map V.int))) else none) with
      | none => exact absurd q z
      | some u => exact (at_ b u q).1
/-- the end of a law -/
theorem walk_ofG {l : PySem.W.OpenLaw} {n k : Nat} {q : Program} {loose : List Str} {XP : (Str → Option Value) → Heap → Prop} {YP : World → Heap → Prop} {d : DefRec} {CX : World → CXT} {x : Str}
    (hn : l.most = some n) (hn2 : n ≤ sizeLine) (hdf : d.params.defaults = []) (hr : Room k callerA)
    (F : ∀ (w : World) (mg : Str → Option Value) (fa : Addr) (h : Heap), YP w h → h.Ns mainGlobals mg → mg d.name = some (.ref fa) →
      ∃ (K : PySem.W.Frag) (fd : FuncData) (sp : Sp), K.In h ∧ (∀ (s : Shared) (u : Value), BindsTo s fd ⟨[u], []⟩ [(x, u)]) ∧
        (∀ (H : Hp) (a : Addr) (ns : List Int), ns.length ≤ n → Only H → SqL K H a (ns.map V.int) → sp [.ref a] H (fun v _ => v = .bl true) fun _ _ _ => False) ∧
        ∀ base : Heap, K.In base → base.Ns mainGlobals mg → FnG l.prog w K mg base (CX w) k fa fd [x] sp)
    (hCX : ∀ (w : World) (H : Hp) (s : Shared) (e : Value) (s' : Shared), CX w [] H s (fun _ _ _ => False) e s' → False) :
    PySem.W.WalkO q loose XP YP l.row.toRowW d [] (fun f vs => PySem.call f vs) := by
  refine Att.attach_call hn hdf fun w s₀ s₁ mg mb fa o pm cd doc a vs ns G Y ho hd hcd hmg hobj hints hlen hg => ?_
  obtain ⟨K, fd, sp, KX, hb, hsp, hF⟩ := F w mg fa _ Y G.T.g hmg
  exact law_callG KX G.T.g G.T.b G.T.builtins G.T.nolimit hg hobj hints (Nat.le_trans hlen hn2) hr hF hb (fun H hO hS => hsp H a ns hlen hO hS) fun H e s' => hCX w H s₁ e s'
end L2

end PE5
section PE6
set_option maxHeartbeats 4000000
/-! What repr tells of data at any depth. -/
namespace L2
open PySem PySem.Spec PyProof.Rows
def kD : Key → PyData
  | .inl i => .int i
  | .inr x => .str x
mutual
/-- v is these data, by what is tracked -/
inductive Rp (H : Hp) : V → PyData → Prop
  | non : Rp H .non .none
  | bl (b : Bool) : Rp H (.bl b) (.bool b)
  | int (i : Int) : Rp H (.int i) (.int i)
  | str (x : Str) : Rp H (.str x) (.str x)
  | lst {a : Addr} {xs : List V} {ds : List PyData} : H a = some (.lst xs) → RpAll H xs ds → Rp H (.ref a) (.list ds)
  | tup {a : Addr} {xs : List V} {ds : List PyData} : H a = some (.tup xs) → RpAll H xs ds → Rp H (.ref a) (.tuple ds)
  | dic {a : Addr} {kvs : List (Key × V)} {ds : List (PyData × PyData)} : H a = some (.dK kvs) → RpKv H kvs ds → Rp H (.ref a) (.dict ds)
inductive RpAll (H : Hp) : List V → List PyData → Prop
  | nil : RpAll H [] []
  | cons {v : V} {vs : List V} {d : PyData} {ds : List PyData} : Rp H v d → RpAll H vs ds → RpAll H (v :: vs) (d :: ds)
inductive RpKv (H : Hp) : List (Key × V) → List (PyData × PyData) → Prop
  | nil : RpKv H [] []
  | cons {k : Key} {v : V} {kvs : List (Key × V)} {d : PyData} {ds : List (PyData × PyData)} : Rp H v d → RpKv H kvs ds → RpKv H ((k, v) :: kvs) ((kD k, d) :: ds)
end
mutual
theorem Rp.same {H H' : Hp} (s : Same H H') : ∀ {v : V} {d : PyData}, Rp H v d → Rp H' v d
  | _, _, .non => .non
  | _, _, .bl b => .bl b
  | _, _, .int i => .int i
  | _, _, .str x => .str x
  | _, _, .lst h r => .lst (s _ _ h) (RpAll.same s r)
  | _, _, .tup h r => .tup (s _ _ h) (RpAll.same s r)
  | _, _, .dic h r => .dic (s _ _ h) (RpKv.same s r)
theorem RpAll.same {H H' : Hp} (s : Same H H') : ∀ {vs : List V} {ds : List PyData}, RpAll H vs ds → RpAll H' vs ds
  | _, _, .nil => .nil
  | _, _, .cons h r => .cons (Rp.same s h) (RpAll.same s r)
theorem RpKv.same {H H' : Hp} (s : Same H H') : ∀ {vs : List (Key × V)} {ds : List (PyData × PyData)}, RpKv H vs ds → RpKv H' vs ds
  | _, _, .nil => .nil
  | _, _, .cons h r => .cons (Rp.same s h) (RpKv.same s r)
end
theorem key_read {h : Heap} {k : Key} {u : Value} (e : keyIs k u = true) : Reads h u (kD k) [] := by
  rcases keyIs_shape e with ⟨i, t, rfl, rfl⟩ | ⟨x, t, rfl, rfl⟩
  · exact Reads.int i t
  · exact Reads.str x t
section
variable {X : Cx} {pins : List (Addr × Obj)} {σ : St} {H : Hp} {s : Shared}
mutual
theorem Rp.reads (I : Inv X pins σ H s) (hm : ∀ a xs, H a = some (.lst xs) → a ≠ sysModules) : ∀ {v : V} {d : PyData} {u : Value}, Rp H v d → RelV v u → ∃ as, Reads s.heap u d as ∧ sysModules ∉ as
  | _, _, u, .non, r => by
    cases (show u = Value.none from r)
    exact ⟨[], .none, by simp⟩
  | _, _, u, .bl b, r => by
    cases (show u = Value.bool b from r)
    exact ⟨[], .bool b, by simp⟩
  | _, _, u, .int i, r => by
    obtain ⟨t, q⟩ := (show ∃ t, u = Value.int i t from r)
    cases q
    exact ⟨[], .int i t, by simp⟩
  | _, _, u, .str x, r => by
    obtain ⟨t, q⟩ := (show ∃ t, u = Value.str x t from r)
    cases q
    exact ⟨[], .str x t, by simp⟩
  | _, _, u, .lst (a := a) (xs := xs) h k, r => by
    cases (show u = Value.ref a from r)
    obtain ⟨_, its, n, rv, e⟩ := (show ObjOk X.prog X.w H s.heap a (.lst xs) from I.hok a _ h)
    obtain ⟨as, q, no⟩ := RpAll.reads I hm k rv
    exact ⟨_, .list e rfl rfl (by simpa using q), fun z => by
      rcases List.mem_cons.mp z with z | z
      · exact hm a xs h z.symm
      · exact no z⟩
  | _, _, u, .tup (a := a) (xs := xs) h k, r => by
    cases (show u = Value.ref a from r)
    obtain ⟨_, its, rv, o, e, c, n, dd⟩ := (show ObjOk X.prog X.w H s.heap a (.tup xs) from I.hok a _ h)
    obtain ⟨as, q, no⟩ := RpAll.reads I hm k rv
    exact ⟨_, .tuple e c dd (by simpa using q), no⟩
  | _, _, u, .dic (a := a) (kvs := kvs) h k, r => by
    cases (show u = Value.ref a from r)
    obtain ⟨_, ns, vs, kv, o, es, ep, e, ex, dd, _, pr, _⟩ := (show ObjOk X.prog X.w H s.heap a (.dK kvs) from I.hok a _ h)
    obtain ⟨as, bs, q1, q2, n1, n2⟩ := RpKv.reads I hm k kv pr
    exact ⟨_, .dict e ex.1 dd q1 q2, fun z => by
      rcases List.mem_append.mp z with z | z
      · rcases List.mem_cons.mp z with z | z
        · rw [← z] at ns
          simp at ns
        · exact n1 z
      · exact n2 z⟩
theorem RpAll.reads (I : Inv X pins σ H s) (hm : ∀ a xs, H a = some (.lst xs) → a ≠ sysModules) : ∀ {vs : List V} {ds : List PyData} {us : List Value}, RpAll H vs ds → Vals vs us → ∃ as, ReadsAll s.heap us ds as ∧ sysModules ∉ as
  | _, _, _, .nil, .nil => ⟨[], .nil, by simp⟩
  | _, _, _, .cons h k, .cons r t => by
    obtain ⟨as, q1, n1⟩ := Rp.reads I hm h r
    obtain ⟨bs, q2, n2⟩ := RpAll.reads I hm k t
    exact ⟨_, .cons q1 q2, fun z => (List.mem_append.mp z).elim n1 n2⟩
theorem RpKv.reads (I : Inv X pins σ H s) (hm : ∀ a xs, H a = some (.lst xs) → a ≠ sysModules) : ∀ {kvs : List (Key × V)} {ds : List (PyData × PyData)} {vs : List (Key × Value)} {es : List DictEntry}, RpKv H kvs ds → KV kvs vs → Pairs (mixKind X.prog X.w) es vs →
    ∃ as bs, ReadsAll s.heap (es.map (·.key)) (ds.map (·.1)) as ∧ ReadsAll s.heap (es.map (·.val)) (ds.map (·.2)) bs ∧ sysModules ∉ as ∧ sysModules ∉ bs
  | _, _, _, _, .nil, .nil, .nil => ⟨[], [], .nil, .nil, by simp, by simp⟩
  | _, _, _, _, .cons h k, .cons r t, .cons e1 e2 e3 => by
    obtain ⟨as, bs, q1, q2, n1, n2⟩ := RpKv.reads I hm k t e3
    obtain ⟨cs, q3, n3⟩ := Rp.reads I hm h r.2
    have hk := e1
    rw [← r.1] at hk
    refine ⟨_, _, .cons (key_read (h := s.heap) hk) q1, .cons (by dsimp only; rw [e2]; exact q3) q2, fun z => ?_, fun z => (List.mem_append.mp z).elim n3 n2⟩
    rcases List.mem_append.mp z with z | z
    · cases z
    · exact n1 z
end
end
/-- repr(v) -/
def rRepr (xs : List V) (H : Hp) (Q : VK) : Prop := ∃ (v : V) (d : PyData), xs = [v] ∧ Rp H v d ∧ d.showable = true ∧ d.shown.length ≤ sizeLine ∧ d.depth ≤ 60 ∧ Q (.str d.shown) H
/-- sys.modules is no list, by the written part -/
def noMods (K : PySem.W.Frag) : Bool := match K.lookup sysModules with
  | some ⟨.type c, _, _, _⟩ => decide (c ≠ "list")
  | _ => false
theorem noMods_ok {X : Cx} {pins : List (Addr × Obj)} {σ : St} {H : Hp} {s : Shared} (I : Inv X pins σ H s) (h : noMods X.K = true) : ∀ a xs, H a = some (.lst xs) → a ≠ sysModules := fun a xs e z => by
  subst z
  obtain ⟨_, its, n, rv, q⟩ := (show ObjOk X.prog X.w H s.heap sysModules (.lst xs) from I.hok _ _ e)
  unfold noMods at h
  cases k : X.K.lookup sysModules with
  | none =>
    rw [k] at h
    cases h
  | some o =>
    have q2 := I.kIn _ _ k
    rw [q] at q2
    cases q2
    rw [k] at h
    simp at h
theorem call_reprD {X : Cx} (hg : X.A.guards = some []) (hu : X.A.units + 64 < cLine) (hK : noMods X.K = true) : CallR X (.builtin "repr") rRepr := by
  intro pins s σ H xs us Q I r h
  obtain ⟨v, d, rfl, hr, hs, hl, hd, q⟩ := h
  obtain ⟨u, rfl, ru⟩ := vals1 r
  cases hr with
  | non =>
    cases (show u = Value.none from ru)
    exact PySem.P.repr_of_none ⟨.str _, H, I.tok _, ⟨_, rfl⟩, q⟩
  | bl b =>
    cases (show u = Value.bool b from ru)
    exact PySem.P.repr_of_bool ⟨.str _, H, I.tok _, ⟨_, rfl⟩, q⟩
  | int i =>
    obtain ⟨t, z⟩ := (show ∃ t, u = Value.int i t from ru)
    cases z
    exact PySem.P.repr_of_int (by simpa [PyData.showable] using hs) ⟨.str _, H, I.tok _, ⟨_, rfl⟩, q⟩
  | str x =>
    obtain ⟨t, z⟩ := (show ∃ t, u = Value.str x t from ru)
    cases z
    exact PySem.P.repr_of_str ⟨.str _, H, I.tok _, ⟨_, rfl⟩, q⟩ hl
  | lst h k =>
    obtain ⟨as, w, no⟩ := Rp.reads I (noMods_ok I hK) (.lst h k) ru
    cases (show u = Value.ref _ from ru)
    exact repr_of_reads' w hs (fun _ => no) hg (by omega) (fun _ _ e => e) (fun h' t tk kp => ⟨.str _, H, I.kept (t' := tk) kp, ⟨_, rfl⟩, q⟩) hl
  | tup h k =>
    obtain ⟨as, w, no⟩ := Rp.reads I (noMods_ok I hK) (.tup h k) ru
    cases (show u = Value.ref _ from ru)
    exact repr_of_reads' w hs (fun _ => no) hg (by omega) (fun _ _ e => e) (fun h' t tk kp => ⟨.str _, H, I.kept (t' := tk) kp, ⟨_, rfl⟩, q⟩) hl
  | dic h k =>
    obtain ⟨as, w, no⟩ := Rp.reads I (noMods_ok I hK) (.dic h k) ru
    cases (show u = Value.ref _ from ru)
    exact repr_of_reads' w hs (fun _ => no) hg (by omega) (fun _ _ e => e) (fun h' t tk kp => ⟨.str _, H, I.kept (t' := tk) kp, ⟨_, rfl⟩, q⟩) hl
end L2
/-! ### the head's facts: each def, and one Bool of the written part (sys.modules among it) -/
namespace He
open PySem PySem.Spec PyProof.Rows L2
def asY (g : Addr → Option Obj) (n : Nat) : List Addr := sysModules :: asD g n
def obsY (n : Nat) (fn : List DefD) (ex : PySem.W.Frag → Bool) (g : Addr → Option Obj) : Bool × List FnW := ((fn.all fun d => d.ok (frG g (asY g n))) && ex (frG g (asY g n)), fn.map fun d => fnW (frG g (asY g n)) d.at_)
structure SaysY (fn : List DefD) (ex : PySem.W.Frag → Bool) (K : PySem.W.Frag) : Prop where
  ok : (fn.all fun d => d.ok K) = true
  more : ex K = true
  fns : fn.map (fun d => fnW K d.at_) = fn.map DefD.val
theorem saysY_of {n : Nat} {fn : List DefD} {ex : PySem.W.Frag → Bool} {g : Addr → Option Obj} (e : obsY n fn ex g = (true, fn.map DefD.val)) : SaysY fn ex (frG g (asY g n)) := by
  have e1 : ((fn.all fun d => d.ok (frG g (asY g n))) && ex (frG g (asY g n))) = true := congrArg (fun z : Bool × List FnW => z.1) e
  exact ⟨(ba e1).1, (ba e1).2, congrArg (fun z : Bool × List FnW => z.2) e⟩
def hookY (n : Nat) (fn : List DefD) (ex : PySem.W.Frag → Bool) : PySem.W.Hook where
  α := Bool × List FnW
  obs := fun s => obsY n fn ex s.heap.get?
  val := fun _ => (true, fn.map DefD.val)
  says := fun _ h => ∃ K : PySem.W.Frag, K.In h ∧ SaysY fn ex K
  of := fun _ _ e => ⟨_, frG_in, saysY_of e⟩
  keeps := fun _ _ _ ⟨K, hK, c⟩ k => ⟨K, PySem.W.Frag.In.keeps hK k, c⟩
theorem obsY_eq {n : Nat} {fn : List DefD} {ex : PySem.W.Frag → Bool} {g : Addr → Option Obj} {s : Shared} (h : ∀ a, g a = s.heap.get? a) : obsY n fn ex g = (hookY n fn ex).obs s := by
  have e : g = s.heap.get? := funext h
  rw [e] <;> rfl
theorem SaysY.def_ {fn : List DefD} {ex : PySem.W.Frag → Bool} {K : PySem.W.Frag} (c : SaysY fn ex K) (i : Nat) {d : DefD} (h : fn[i]? = some d) : ∃ fd, FunD K d.name d.qual d.params d.body d.scope (d.dvs K) (d.kws K) (fAd K d.at_) fd := by
  have e2 : (fn.map fun d => fnW K d.at_)[i]? = (fn.map DefD.val)[i]? := by rw [c.fns]
  rw [List.getElem?_map, List.getElem?_map, h] at e2
  exact DefD.funD (Option.some.inj e2) (List.all_eq_true.mp c.ok d (List.mem_of_getElem? h))
end He

end PE6
section Ps8C
set_option maxHeartbeats 4000000
namespace S8
open PySem L2
def top (i : Nat) : Stmt := PySem.Challenge.pw_keptedits_k18_whole_sets_as_built.main.body.getD i (.Pass ⟨0, 0, 0, 0⟩)
abbrev sPot : Stmt := top 34
abbrev sDraw : Stmt := top 35
abbrev sPick : Stmt := top 36
abbrev FD (K : PySem.W.Frag) (x : Str) (st : Stmt) (f : Addr) (fd : FuncData) : Prop := FunD K x x (defArgs st) (defBody st) (defScope st) [] [] f fd
/-! ### heaps: what stands but at p -/
def Bt (p : Addr) (H H' : Hp) : Prop := ∀ b o, b ≠ p → H b = some o → H' b = some o
theorem Bt.refl (p : Addr) (H : Hp) : Bt p H H := fun _ _ _ e => e
theorem Bt.trans {p : Addr} {H H1 H2 : Hp} (a : Bt p H H1) (b : Bt p H1 H2) : Bt p H H2 := fun c o n e => b c o n (a c o n e)
theorem Same.bt {p : Addr} {H H' : Hp} (s : Same H H') : Bt p H H' := fun b o _ e => s b o e
theorem same_upd {H : Hp} {p : Addr} {o : HO} (h : H p = none) : Same H (upd H p o) := fun b u e => by
  rw [upd_ne (ne_of_none e h)]
  exact e
theorem bt_upd {H : Hp} {p : Addr} {o : HO} : Bt p H (upd H p o) := fun b u n e => by
  rw [upd_ne n]
  exact e
/-- H without p -/
def hid (p : Addr) (H : Hp) : Hp := fun b => if b = p then none else H b
theorem hid_same (p : Addr) (H : Hp) : Same (hid p H) H := fun b o e => by
  unfold hid at e
  by_cases h : b = p
  · rw [if_pos h] at e
    cases e
  · rw [if_neg h] at e
    exact e
theorem Bt.hid {p : Addr} {H H' : Hp} (s : Bt p H H') : Same (hid p H) (hid p H') := fun b o e => by
  unfold S8.hid at e ⊢
  by_cases h : b = p
  · rw [if_pos h] at e
    cases e
  · rw [if_neg h] at e ⊢
    exact s b o h e
theorem Bt.free {p q : Addr} {H H' : Hp} (s : Bt p H H') (hq : q ≠ p) (h : H' q = none) : H q = none := by
  cases e : H q with
  | none => rfl
  | some o =>
    rw [s q o hq e] at h
    cases h
/-! ### the pot: two ints, the rest of the digits and the seed -/
def PotAt (H : Hp) (p : Addr) : Prop := ∃ x y : Int, H p = some (.lst [.int x, .int y]) ∧ 0 ≤ x ∧ 0 ≤ y ∧ y ≤ 2147483630
def spPot (K : PySem.W.Frag) : Sp := fun vs H Q _ => ∃ (a : Addr) (ns : List Int) (k : Int), vs = [.ref a, .int k] ∧ SqL K H a (ns.map V.int) ∧ ns.length ≤ 63 ∧ 0 ≤ k ∧ k ≤ 63 ∧
  ∀ (p : Addr) (x y : Int), H p = none → 0 ≤ x → 0 ≤ y → y ≤ 2147483630 → Q (.ref p) (upd H p (.lst [.int x, .int y]))
def spDraw : Sp := fun vs H Q _ => ∃ (p : Addr) (n : Int), vs = [.ref p, .int n] ∧ PotAt H p ∧ 0 < n ∧ n < 1073741824 ∧ ∀ (d : Int) (H' : Hp), 0 ≤ d → d < n → Bt p H H' → PotAt H' p → Q (.int d) H'
def spPick (K : PySem.W.Frag) : Sp := fun vs H Q _ => ∃ (p l : Addr) (xs : List V), vs = [.ref p, .ref l] ∧ PotAt H p ∧ l ≠ p ∧ H l = some (.lst xs) ∧ 0 < xs.length ∧ xs.length ≤ 1000 ∧
  ∀ (i : Nat) (v : V) (H' : Hp), xs[i]? = some v → Bt p H H' → PotAt H' p → Q v H'
structure TxtP (K : PySem.W.Frag) (mg : Str → Option Value) : Prop where
  len : mg "len" = none
  max : mg "max" = none
  abs : mg "abs" = none
  int : mg "int" = none
  divmod : mg "divmod" = none
section
variable {P : Program} {w : World} {K : PySem.W.Frag} {mg : Str → Option Value} {base : Heap}
theorem scPot : FnScope ["_law_script", "_law_k", "_law_cell"] ["_law_script", "_law_k"] (defScope sPot) := ⟨rfl, rfl, rfl, by decide +kernel, rfl, by decide +kernel, by decide +kernel⟩
theorem ok_pot {f : Addr} {fd : FuncData} (F : FD K "_law_pot" sPot f fd) (T : TxtP K mg) : FnOk P w K mg base CX0 1 f fd ["_law_script", "_law_k"] (spPot K) := by
  refine F.ok scPot (fun vs H Q E h => ?_) (fun cdv A outer s H vs Q E hr h => ?_)
  · obtain ⟨a, ns, k, rfl, _⟩ := h
    rfl
  · obtain ⟨a, ns, k, rfl, hS, hl, k0, k1, kk⟩ := h
    refine ⟨_, PSs.nox (pss_cons (ps_set (i := 2) scPot.nd rfl (Or.inl rfl) (pe_ifExp (pt_cmpR op_lt (pv 1) (pe_callB call_len_seq (by rfl) T.len PySem.boot_len (pa_cons (pv 0) pa_nil)) (nomark _)) (pe_ix ix_list (pv 0) (pv 1) (fun _ _ => rfl)) (pe_op op_mul pe_int (pv 1))))
      (pss_one (ps_ret (pe_lst (pa_cons (pe_callB (call_max2 rfl) (by rfl) T.max (by decide +kernel) (pa_cons pe_int (pa_cons (pe_op op_sub (pe_callB call_abs (by rfl) T.abs (by decide +kernel) (pa_cons (pv 2) pa_nil)) (pe_op op_pow pe_int pe_int)) pa_nil)))
        (pa_cons (pe_op op_add (pe_op op_mod (pe_callTy call_int1 (by rfl) T.int (by decide +kernel) (pa_cons (pe_op op_add (pe_op op_add (pe_op op_mul (pe_op op_mod (pe_callTy call_int1 (by rfl) T.int (by decide +kernel) (pa_cons (pe_callB call_abs (by rfl) T.abs (by decide +kernel) (pa_cons (pv 2) pa_nil)) pa_nil)) pe_int) pe_int) (pe_op op_mul pe_int (pv 1))) pe_int) pa_nil)) pe_int) pe_int) pa_nil)))))), ?_⟩
    refine ⟨_, rfl, _, rfl, a, _, rfl, .inl hS, _, _, rfl, rfl, _, rfl, ?_⟩
    have cell : ∀ c : Int, tRet (tLst (tCons (tCB (fun xs H Q => ∃ i j, xs = [V.int i, V.int j] ∧ Q (V.int (if j > i then j else i)) H) (tCons (tC (V.int 0)) (tCons (tOp (rI0 fun i j => V.int (i - j)) (tCB (fun xs H Q => ∃ i, xs = [V.int i] ∧ Q (V.int (if i < 0 then -i else i)) H) (tCons (tVar 2) tNil)) (tOp (rI CPow fun i j => V.int (i ^ j.toNat)) (tC (V.int 10)) (tC (V.int 18)))) tNil)))
        (tCons (tOp (rI0 fun i j => V.int (i + j)) (tOp (rI (fun _ j => 0 < j) fun i j => V.int (i % j)) (tCB (fun xs H Q => (∃ i, xs = [V.int i] ∧ Q (V.int i) H) ∨ ∃ k, xs = [V.bl k] ∧ Q (V.int (if k = true then 1 else 0)) H) (tCons (tOp (rI0 fun i j => V.int (i + j)) (tOp (rI0 fun i j => V.int (i + j))
          (tOp (rI CMul fun i j => V.int (i * j)) (tOp (rI (fun _ j => 0 < j) fun i j => V.int (i % j)) (tCB (fun xs H Q => (∃ i, xs = [V.int i] ∧ Q (V.int i) H) ∨ ∃ k, xs = [V.bl k] ∧ Q (V.int (if k = true then 1 else 0)) H) (tCons (tCB (fun xs H Q => ∃ i, xs = [V.int i] ∧ Q (V.int (if i < 0 then -i else i)) H) (tCons (tVar 2) tNil)) tNil)) (tC (V.int 2147483563))) (tC (V.int 40009)))
          (tOp (rI CMul fun i j => V.int (i * j)) (tC (V.int 61297)) (tVar 1))) (tC (V.int 17))) tNil)) (tC (V.int 2147483629))) (tC (V.int 1))) tNil))) { nx := fun _ H' => Q .non H', rt := Q } [some (.ref a), some (.int k), some (.int c)] H := fun c => by
      refine ⟨_, rfl, _, rfl, _, _, rfl, rfl, ⟨by decide, by decide, by decide⟩, _, _, rfl, rfl, _, _, rfl, ?_⟩
      refine ⟨_, rfl, _, rfl, .inl ⟨_, rfl, _, _, rfl, rfl, (by show (0 : Int) < 2147483563; decide), _, _, rfl, rfl, .inr ⟨by decide, by decide⟩, _, rfl, _, _, rfl, rfl, .inl ⟨by decide, by decide⟩, _, _, rfl, rfl, _, _, rfl, rfl, .inl ⟨_, rfl, _, _, rfl, rfl, (by show (0 : Int) < 2147483629; decide), _, _, rfl, rfl, ?_⟩⟩⟩
      refine ⟨by show 2 ≤ sizeLine; decide, fun p hp => kk p _ _ hp ?_ ?_ ?_⟩
      · split <;> omega
      · exact Int.add_nonneg (Int.emod_nonneg _ (by decide)) (by decide)
      · have := Int.emod_lt_of_pos (((if c < 0 then -c else c) % 2147483563 * 40009 + 61297 * k + 17)) (show (0 : Int) < 2147483629 by decide)
        omega
    refine ite2 (fun h => ?_) (fun h => ?_)
    · have hk : k.toNat < ns.length := by
        have := of_decide_eq_true h
        rw [List.length_map] at this
        omega
      refine ⟨_, rfl, _, rfl, a, _, k, .int (ns[k.toNat]'hk), rfl, rfl, hS, ?_, cell _⟩
      have e := atI_nat (xs := ns.map V.int) (j := k.toNat) (v := .int (ns[k.toNat]'hk)) (by rw [List.getElem?_map, List.getElem?_eq_getElem hk] <;> rfl)
      rw [Int.toNat_of_nonneg k0] at e
      exact e
    · exact ⟨_, rfl, _, _, rfl, rfl, .inl ⟨by decide, by decide⟩, cell _⟩
theorem scDraw : FnScope ["_law_pot_here", "_law_many", "_law_digit"] ["_law_pot_here", "_law_many"] (defScope sDraw) := ⟨rfl, rfl, rfl, by decide +kernel, rfl, by decide +kernel, by decide +kernel⟩
theorem ok_draw {f : Addr} {fd : FuncData} (F : FD K "_law_draw" sDraw f fd) (T : TxtP K mg) : FnOk P w K mg base CX0 1 f fd ["_law_pot_here", "_law_many"] spDraw := by
  refine F.ok scDraw (fun vs H Q E h => ?_) (fun cdv A outer s H vs Q E hr h => ?_)
  · obtain ⟨p, n, rfl, _⟩ := h
    rfl
  · obtain ⟨p, n, rfl, ⟨x, y, hp, x0, y0, y1⟩, n0, n1, kk⟩ := h
    refine ⟨_, PSs.nox (pss_cons (ps_if (pt_cmpR op_gt (pe_ix ix_list (pv 0) pe_int (fun _ _ => rfl)) pe_int (nomark _))
        (pss_cons (ps_asg (pe_callB call_divmod (by rfl) T.divmod (by decide +kernel) (pa_cons (pe_ix ix_list (pv 0) pe_int (fun _ _ => rfl)) (pa_cons (pv 1) pa_nil))) (pg_tup rfl (pgs_cons (pg_sub (pv 0) pe_int set_list) (pgs_cons (pg_name (i := 2) scDraw.nd rfl (.inl rfl)) pgs_nil))))
          (pss_one (ps_ret (pv 2)))) pss_nil)
      (pss_cons (ps_asg (pe_op op_mod (pe_callTy call_int1 (by rfl) T.int (by decide +kernel) (pa_cons (pe_op op_add (pe_op op_mul (pe_ix ix_list (pv 0) pe_int (fun _ _ => rfl)) pe_int) pe_int) pa_nil)) pe_int) (pg_sub (pv 0) pe_int set_list))
      (pss_one (ps_ret (pe_op op_mod (pe_callTy call_int1 (by rfl) T.int (by decide +kernel) (pa_cons (pe_op op_fdiv (pe_op op_mod (pe_callTy call_int1 (by rfl) T.int (by decide +kernel) (pa_cons (pe_op op_mul (pe_ix ix_list (pv 0) pe_int (fun _ _ => rfl)) (pe_ix ix_list (pv 0) pe_int (fun _ _ => rfl))) pa_nil)) pe_int) pe_int) pa_nil)) (pv 1)))))), ?_⟩
    refine ⟨_, rfl, p, _, _, .int x, rfl, rfl, SqL.of hp, rfl, _, _, rfl, rfl, _, rfl, ?_⟩
    refine ite2 (fun h => ?_) (fun h => ?_)
    · refine ⟨_, rfl, p, _, _, .int x, rfl, rfl, SqL.of hp, rfl, _, rfl, _, _, rfl, ⟨n0, n1⟩, fun t ht => ?_⟩
      have ntp : p ≠ t := ne_of_none hp ht
      refine ⟨t, _, rfl, SqT.of upd_same, rfl, ?_⟩
      refine ⟨_, _, rfl, _, rfl, p, _, _, 0, rfl, rfl, (by rw [upd_ne ntp]; exact hp), rfl, _, _, rfl, rfl, ?_⟩
      refine ⟨_, rfl, kk _ _ (Int.emod_nonneg _ (by omega)) (Int.emod_lt_of_pos _ n0) (fun b o nb e => ?_) ⟨x / n, y, upd_same, Int.ediv_nonneg x0 (by omega), y0, y1⟩⟩
      rw [upd_ne nb]
      exact same_upd ht b o e
    · refine ⟨_, rfl, p, _, _, .int y, rfl, rfl, SqL.of hp, rfl, _, _, rfl, rfl, .inr ⟨by decide, by decide⟩, _, _, rfl, rfl, .inl ⟨_, rfl, _, _, rfl, rfl, (by show (0 : Int) < 2147483587; decide), ?_⟩⟩
      refine ⟨_, rfl, p, _, _, 1, rfl, rfl, hp, rfl, ?_⟩
      have z0 : 0 ≤ (y * 44203 + 15511) % 2147483587 := Int.emod_nonneg _ (by decide)
      have z1 : (y * 44203 + 15511) % 2147483587 < 2147483587 := Int.emod_lt_of_pos _ (by decide)
      refine ⟨_, rfl, p, _, _, .int ((y * 44203 + 15511) % 2147483587), rfl, rfl, SqL.of upd_same, rfl, _, rfl, p, _, _, .int ((y * 44203 + 15511) % 2147483587), rfl, rfl, SqL.of upd_same, rfl, _, _, rfl, rfl, .inl ⟨by omega, by omega⟩,
        .inl ⟨_, rfl, _, _, rfl, rfl, (by show (0 : Int) < 2147483549; decide), _, _, rfl, rfl, ⟨by decide, by decide⟩, .inl ⟨_, rfl, _, rfl, _, _, rfl, rfl, n0, ?_⟩⟩⟩
      exact kk _ _ (Int.emod_nonneg _ (by omega)) (Int.emod_lt_of_pos _ n0) bt_upd ⟨x, _, upd_same, x0, z0, by omega⟩
theorem scPick : FnScope ["_law_pot_here", "_law_some"] ["_law_pot_here", "_law_some"] (defScope sPick) := ⟨rfl, rfl, rfl, by decide +kernel, rfl, by decide +kernel, by decide +kernel⟩
theorem ok_pick {f fd_ : Addr} {fd fdd : FuncData} (F : FD K "_law_pick" sPick f fd) (T : TxtP K mg) (GD : FnOk P w K mg base CX0 1 fd_ fdd ["_law_pot_here", "_law_many"] spDraw) (bD : Binds K fdd ["_law_pot_here", "_law_many"] []) (mD : mg "_law_draw" = some (.ref fd_)) (kD : PySem.W.keepIn K (.ref fd_) = true) :
    FnOk P w K mg base CX0 2 f fd ["_law_pot_here", "_law_some"] (spPick K) := by
  refine F.ok scPick (fun vs H Q E h => ?_) (fun cdv A outer s H vs Q E hr h => ?_)
  · obtain ⟨p, l, xs, rfl, _⟩ := h
    rfl
  · obtain ⟨p, l, xs, rfl, hP, nl, hl, l0, l1, kk⟩ := h
    refine ⟨_, PSs.nox (pss_one (ps_ret (pe_ix ix_list (pv 1) (pe_call GD hr rfl mD kD bD .nil pass0 (pa_cons (pv 0) (pa_cons (pe_callB call_len_seq (by rfl) T.len PySem.boot_len (pa_cons (pv 1) pa_nil)) pa_nil))) (fun _ _ => rfl)))), ?_⟩
    refine ⟨_, rfl, _, rfl, _, rfl, l, _, rfl, .inl (SqL.of hl), p, _, rfl, hP, by omega, by omega, fun d H' d0 d1 hb hp' => ?_⟩
    have hd : d.toNat < xs.length := by omega
    have e : xs[d.toNat]? = some (xs[d.toNat]'hd) := List.getElem?_eq_getElem hd
    refine ⟨l, xs, d, xs[d.toNat]'hd, rfl, rfl, SqL.of (hb l _ nl hl), ?_, kk d.toNat _ H' e hb hp'⟩
    have z := atI_nat e
    rw [Int.toNat_of_nonneg d0] at z
    exact z
end
/-- the def called x keeps sp -/
structure Kn (P : Program) (w : World) (K : PySem.W.Frag) (mg : Str → Option Value) (base : Heap) (k : Nat) (x : Str) (fa : Addr) (fd : FuncData) (ps : List Str) (sp : Sp) : Prop where
  f : FnOk P w K mg base CX0 k fa fd ps sp
  b : Binds K fd ps []
  m : mg x = some (.ref fa)
  k : PySem.W.keepIn K (.ref fa) = true
structure KnG (P : Program) (w : World) (K : PySem.W.Frag) (mg : Str → Option Value) (base : Heap) (k : Nat) (x : Str) (fa : Addr) (fd : FuncData) (ps : List Str) (sp : Sp) : Prop where
  f : FnG P w K mg base CX0 k fa fd ps sp
  b : Binds K fd ps []
  m : mg x = some (.ref fa)
  k : PySem.W.keepIn K (.ref fa) = true
theorem Same.free {H H' : Hp} {a : Addr} (s : Same H H') (n : H' a = none) : H a = none := by
  cases z : H a with
  | none => rfl
  | some o =>
    rw [s a o z] at n
    cases n
theorem PotAt.bt {H H' : Hp} {p : Addr} (s : Same H H') (h : PotAt H p) : PotAt H' p := by
  obtain ⟨x, y, e, r⟩ := h
  exact ⟨x, y, s _ _ e, r⟩
theorem pot_ne {H : Hp} {p q : Addr} (h : PotAt H p) (n : H q = none) : q ≠ p := fun e => by
  obtain ⟨x, y, z, _⟩ := h
  rw [e, z] at n
  cases n
theorem boot_all : bootBuiltins "all" = some (.builtin "all") := by decide +kernel
theorem all_true : ∀ n : Nat, (List.replicate n true).all id = true
  | 0 => rfl
  | n + 1 => by
    rw [List.replicate_succ, List.all_cons, all_true n] <;> rfl
theorem same_over {H H' : Hp} {l : Addr} {o : HO} (s : Same H H') (h : H l = none) : Same H (upd H' l o) := fun b u e => by
  rw [upd_ne (ne_of_none e h)]
  exact s _ _ e
def spRight : Sp := fun vs H Q _ => ∃ (p : Addr), vs = [.ref p] ∧ PotAt H p ∧ ∀ H', Bt p H H' → Q (.bl true) H'
theorem boot_len : bootBuiltins "len" = some (.builtin "len") := by decide +kernel
structure TT0 (mg : Str → Option Value) : Prop where
  rng : mg "range" = none
  enu : True
  len : mg "len" = none
end S8

end Ps8C
section Ps8D
set_option maxHeartbeats 4000000
namespace S8
open PySem L2
/-! ### what is a word, a kind, a value -/
abbrev s_is_number : Stmt := top 9
abbrev s_is_word : Stmt := top 10
abbrev s_is_kind : Stmt := top 11
abbrev s_is_value : Stmt := top 12
theorem boot_isi : bootBuiltins "isinstance" = some (.builtin "isinstance") := by decide +kernel
def strB : V → Bool
  | .str _ => true
  | _ => false
/-- isinstance tells whether x is a text -/
def AsStr (K : PySem.W.Frag) (H : Hp) (x : V) : Prop := ∃ t, TyX K H x t ∧ PySem.W.kitOne K t (.type "str") = some (strB x)
def letB (c : Nat) : Bool := decide (c < 128) && (Unicode.isAlpha c && (Unicode.isLower c && !(Unicode.isUpper c || Unicode.isTitle c)))
def wordB (z : Str) (m : Int) : Bool := decide (((z.length : Nat) : Int) ≤ m) && (Txt.isascii z && (Txt.isalpha z && Txt.islower z))
/-- one to so many letters are a word -/
theorem wordB_of {z : Str} {m : Nat} (l : 1 ≤ z.length) (k : z.length ≤ m) (h : ∀ c ∈ z.cps.toList, letB c = true) : wordB z m = true := by
  have g : ∀ c ∈ z.cps.toList, c < 128 ∧ Unicode.isAlpha c = true ∧ Unicode.isLower c = true ∧ (Unicode.isUpper c || Unicode.isTitle c) = false := fun c hc => by
    have e := h c hc
    unfold letB at e
    rw [Bool.and_eq_true, Bool.and_eq_true, Bool.and_eq_true, Bool.not_eq_true'] at e
    exact ⟨of_decide_eq_true e.1, e.2.1, e.2.2.1, e.2.2.2⟩
  have e1 : Txt.isascii z = true := by
    unfold Txt.isascii
    rw [← Array.all_toList, List.all_eq_true]
    exact fun c hc => decide_eq_true (g c hc).1
  have e2 : Txt.isalpha z = true := by
    unfold Txt.isalpha
    rw [← Array.all_toList, Bool.and_eq_true, List.all_eq_true]
    exact ⟨decide_eq_true l, fun c hc => (g c hc).2.1⟩
  have e3 : Txt.islower z = true := by
    unfold Txt.islower
    rw [← Array.any_toList, ← Array.any_toList, Bool.and_eq_true, Bool.not_eq_true', List.any_eq_true]
    refine ⟨?_, ?_⟩
    · have l' : 0 < z.cps.toList.length := by rw [Array.length_toList]; exact l
      exact ⟨z.cps.toList[0], List.getElem_mem l', (g _ (List.getElem_mem l')).2.2.1⟩
    · rw [List.any_eq_false]
      exact fun c hc => by rw [(g c hc).2.2.2]; decide
  unfold wordB
  rw [e1, e2, e3, Bool.true_and, Bool.true_and, Bool.and_true]
  exact decide_eq_true (by omega)
theorem word_asc {z : Str} {m : Nat} (h : wordB z m = true) : z.length ≤ m ∧ ∀ c ∈ z.cps.toList, c < 128 := by
  unfold wordB at h
  rw [Bool.and_eq_true, Bool.and_eq_true] at h
  have l := of_decide_eq_true h.1
  have e := h.2.1
  unfold Txt.isascii at e
  rw [← Array.all_toList, List.all_eq_true] at e
  exact ⟨by omega, fun c hc => of_decide_eq_true (e c hc)⟩
def isWd (x : V) (m : Int) : Bool := match x with
  | .str z => wordB z m
  | _ => false
structure TW (mg : Str → Option Value) : Prop where
  isi : mg "isinstance" = none
  str : mg "str" = none
  len : mg "len" = none
def spIsWord (K : PySem.W.Frag) : Sp := fun vs H Q _ => ∃ (x : V) (m : Int), vs = [x, .int m] ∧ m ≤ 1000 ∧ AsStr K H x ∧ (∀ z, x = .str z → z.length ≤ sizeLine) ∧ ∀ H', Same H H' → Q (.bl (isWd x m)) H'
theorem sc_is_word : FnScope ["value", "most"] ["value", "most"] (defScope s_is_word) := ⟨rfl, rfl, rfl, by decide +kernel, rfl, by decide +kernel, by decide +kernel⟩
section
variable {P : Program} {w : World} {K : PySem.W.Frag} {mg : Str → Option Value} {base : Heap} {f : Addr} {fd : FuncData}
theorem ok_is_word (F : FD K "is_word" s_is_word f fd) (T : TW mg) : FnOk P w K mg base CX0 1 f fd ["value", "most"] (spIsWord K) := by
  refine F.ok sc_is_word (fun vs H Q E h => ?_) (fun cdv A outer s H vs Q E hr h => ?_)
  · obtain ⟨x, m, rfl, _⟩ := h
    rfl
  obtain ⟨x, m, rfl, hm, ⟨t, ty, kt⟩, hz, q⟩ := h
  refine ⟨_, PSs.nox (pss_cons (ps_if (PW.pt (pw_or (pt_not (pt_val (pe_callB call_isi (by rfl) T.isi boot_isi (pa_cons (pv 0) (pa_cons (pe_bltn (v := .ty "str") (by rfl) T.str (by decide +kernel) rfl) pa_nil))))) (pw_or1 (pt_cmpR op_gt (pe_callB call_len_str (by rfl) T.len boot_len (pa_cons (pv 0) pa_nil)) (pv 1) (nomark _))))) (pss_one (ps_ret pe_bl)) pss_nil)
    (pss_one (ps_ret (pe_and (pe_m0 PySem.F.slot_str_isascii PySem.F.type_str_isascii mt_isascii (pv 0)) (pe_and (pe_m0 PySem.F.slot_str_isalpha PySem.F.type_str_isalpha mt_isalpha (pv 0)) (pe_one (pe_m0 PySem.F.slot_str_islower PySem.F.type_str_islower mt_islower (pv 0)))))))), ?_⟩
  refine ⟨_, rfl, x, .ty "str", t, _, _, rfl, .ty _, ty, kt, ?_⟩
  refine ⟨_, rfl, ?_⟩
  have nostr : isWd x m = false → strB x = false → Q (.bl false) H := fun e _ => by
    have z := q H (Same.refl H)
    rw [e] at z
    exact z
  cases x with
  | str z =>
    refine (show (if (!true) = true then _ else _) from ?_)
    rw [if_neg (by decide)]
    refine ⟨_, rfl, z, rfl, hz z rfl, _, rfl, _, _, rfl, rfl, _, rfl, ?_⟩
    have w := q H (Same.refl H)
    have e0 : isWd (.str z) m = (decide (((z.length : Nat) : Int) ≤ m) && (Txt.isascii z && (Txt.isalpha z && Txt.islower z))) := rfl
    rw [e0] at w
    refine ite2 (fun h1 => ?_) (fun h1 => ?_)
    · have h2 := of_decide_eq_true h1
      rw [decide_eq_false (by omega), Bool.false_and] at w
      exact w
    · have h2 := of_decide_eq_false (Bool.eq_false_iff.mpr h1)
      rw [decide_eq_true (by omega), Bool.true_and] at w
      refine ⟨_, rfl, ⟨_, rfl⟩, z, rfl, rfl, trivial, _, rfl, ?_⟩
      refine ite2 (fun a1 => ?_) (fun a1 => ?_)
      · rw [a1, Bool.true_and] at w
        refine ⟨_, rfl, ⟨_, rfl⟩, z, rfl, rfl, trivial, _, rfl, ?_⟩
        refine ite2 (fun a2 => ?_) (fun a2 => ?_)
        · rw [a2, Bool.true_and] at w
          exact ⟨_, rfl, ⟨_, rfl⟩, z, rfl, rfl, trivial, w⟩
        · rw [Bool.eq_false_iff.mpr a2, Bool.false_and] at w
          exact w
      · rw [Bool.eq_false_iff.mpr a1, Bool.false_and] at w
        exact w
  | _ => exact nostr rfl rfl
def spIsKind (K : PySem.W.Frag) : Sp := fun vs H Q _ => vs = [.str "text"] ∧ PySem.W.kitOne K (.type "str") (.type "str") = some true ∧ ∀ H', Same H H' → Q (.bl true) H'
theorem sc_is_kind : FnScope ["value"] ["value"] (defScope s_is_kind) := ⟨rfl, rfl, rfl, by decide +kernel, rfl, by decide +kernel, by decide +kernel⟩
theorem ok_is_kind (F : FD K "is_kind" s_is_kind f fd) (T : TW mg) : FnOk P w K mg base CX0 1 f fd ["value"] (spIsKind K) := by
  refine F.ok sc_is_kind (fun vs H Q E h => ?_) (fun cdv A outer s H vs Q E hr h => ?_)
  · obtain ⟨rfl, _⟩ := h
    rfl
  obtain ⟨rfl, kt, q⟩ := h
  refine ⟨_, PSs.nox (pss_one (ps_ret (pe_and (pe_callB call_isi (by rfl) T.isi boot_isi (pa_cons (pv 0) (pa_cons (pe_bltn (v := .ty "str") (by rfl) T.str (by decide +kernel) rfl) pa_nil))) (pe_one (pe_cmpR op_in_seq (pv 0) (pe_tup (pa_cons pe_str (pa_cons pe_str pa_nil))) (by rfl)))))), ?_⟩
  refine ⟨_, rfl, .str "text", .ty "str", .type "str", _, _, rfl, .ty _, .base (.str _), kt, true, rfl, ?_⟩
  refine (show (if true = true then _ else _) from ?_)
  rw [if_pos rfl]
  refine ⟨_, rfl, by show 2 ≤ sizeLine; decide, fun p hp => ?_⟩
  exact ⟨p, _, rfl, .inr (SqT.of upd_same), rfl, rfl, q _ (same_upd hp)⟩
def spIsValue (K : PySem.W.Frag) : Sp := fun vs H Q _ => ∃ (x : V), vs = [x, .str "text"] ∧ AsStr K H x ∧ (∀ z, x = .str z → z.length ≤ sizeLine) ∧ ∀ H', Same H H' → Q (.bl (isWd x 12)) H'
theorem sc_is_value : FnScope ["value", "kind"] ["value", "kind"] (defScope s_is_value) := ⟨rfl, rfl, rfl, by decide +kernel, rfl, by decide +kernel, by decide +kernel⟩
theorem tyx_same {H H' : Hp} {x : V} {t : Value} (s : Same H H') (h : TyX K H x t) : TyX K H' x t := by
  cases h with
  | base b =>
    refine .base ?_
    cases b with
    | non => exact .non
    | bl y => exact .bl y
    | int y => exact .int y
    | str y => exact .str y
    | flt y => exact .flt y
    | lst ea => exact .lst (s _ _ ea)
    | frz ea => exact .frz (s _ _ ea)
    | tup ea => exact .tup (s _ _ ea)
    | dK ea => exact .dK (s _ _ ea)
    | dT ea => exact .dT (s _ _ ea)
    | ins ea cl ha hn htk hm => exact .ins (s _ _ ea) cl ha hn htk hm
  | byt y => exact .byt y
  | set e => exact .set (s _ _ e)
  | kList e c => exact .kList e c
  | kTuple e c => exact .kTuple e c
  | kDict e c => exact .kDict e c
  | fTuple e => exact .fTuple (s _ _ e)
  | fDict e => exact .fDict (s _ _ e)
theorem asStr_same {H H' : Hp} {x : V} (s : Same H H') (h : AsStr K H x) : AsStr K H' x := by
  obtain ⟨t, a, b⟩ := h
  exact ⟨t, tyx_same s a, b⟩
def spIsNumber (K : PySem.W.Frag) : Sp := fun vs H Q _ => ∃ (x : V) (t : Value) (b1 b2 : Bool), vs = [x] ∧ TyX K H x t ∧ PySem.W.kitOne K t (.type "int") = some b1 ∧ PySem.W.kitOne K t (.type "bool") = some b2 ∧ ∀ H', Same H H' → Q (.bl (b1 && !b2)) H'
theorem sc_is_number : FnScope ["value"] ["value"] (defScope s_is_number) := ⟨rfl, rfl, rfl, by decide +kernel, rfl, by decide +kernel, by decide +kernel⟩
theorem ok_is_number (F : FD K "is_number" s_is_number f fd) (T : TW mg) (ti : mg "int" = none) (tb : mg "bool" = none) : FnOk P w K mg base CX0 1 f fd ["value"] (spIsNumber K) := by
  refine F.ok sc_is_number (fun vs H Q E h => ?_) (fun cdv A outer s H vs Q E hr h => ?_)
  · obtain ⟨x, t, b1, b2, rfl, _⟩ := h
    rfl
  obtain ⟨x, t, b1, b2, rfl, ty, k1, k2, q⟩ := h
  refine ⟨_, PSs.nox (pss_one (ps_ret (pe_and (pe_callB call_isi (by rfl) T.isi boot_isi (pa_cons (pv 0) (pa_cons (pe_bltn (v := .ty "int") (by rfl) ti (by decide +kernel) rfl) pa_nil))) (pe_one (pe_not (pe_callB call_isi (by rfl) T.isi boot_isi (pa_cons (pv 0) (pa_cons (pe_bltn (v := .ty "bool") (by rfl) tb (by decide +kernel) rfl) pa_nil)))))))), ?_⟩
  refine ⟨_, rfl, x, .ty "int", t, _, _, rfl, .ty _, ty, k1, b1, rfl, ?_⟩
  refine ite2 (fun h1 => ?_) (fun h1 => ?_)
  · refine ⟨_, rfl, x, .ty "bool", t, _, _, rfl, .ty _, ty, k2, b2, rfl, ?_⟩
    have z := q H (Same.refl H)
    rw [h1, Bool.true_and] at z
    exact z
  · have z := q H (Same.refl H)
    rw [Bool.eq_false_iff.mpr h1, Bool.false_and] at z
    exact z
structure Kv (P : Program) (w : World) (K : PySem.W.Frag) (mg : Str → Option Value) (base : Heap) (fN fW fK : Addr) (dN dW dK : FuncData) : Prop where
  n : Kn P w K mg base 1 "is_number" fN dN ["value"] (spIsNumber K)
  wo : Kn P w K mg base 1 "is_word" fW dW ["value", "most"] (spIsWord K)
  k : Kn P w K mg base 1 "is_kind" fK dK ["value"] (spIsKind K)
  s : PySem.W.kitOne K (.type "str") (.type "str") = some true
  m : ∃ t, mg "TEXT_LENGTH" = some (.int 12 t)
theorem ok_is_value {fN fW fK : Addr} {dN dW dK : FuncData} (F : FD K "is_value" s_is_value f fd) (W : Kv P w K mg base fN fW fK dN dW dK) : FnOk P w K mg base CX0 2 f fd ["value", "kind"] (spIsValue K) := by
  refine F.ok sc_is_value (fun vs H Q E h => ?_) (fun cdv A outer s H vs Q E hr h => ?_)
  · obtain ⟨x, rfl, _⟩ := h
    rfl
  obtain ⟨x, rfl, hx, hz, q⟩ := h
  obtain ⟨t, ht⟩ := W.m
  refine ⟨_, PSs.nox (pss_cons (ps_if (pt_not (pt_val (pe_call W.k.f hr rfl W.k.m W.k.k W.k.b .nil pass0 (pa_cons (pv 1) pa_nil)))) (pss_one (ps_ret pe_bl)) pss_nil)
    (pss_cons (ps_if (pt_cmpR op_eq (pv 1) pe_str (nomark _)) (pss_one (ps_ret (pe_call W.n.f hr rfl W.n.m W.n.k W.n.b .nil pass0 (pa_cons (pv 0) pa_nil)))) pss_nil)
    (pss_one (ps_ret (pe_call W.wo.f hr rfl W.wo.m W.wo.k W.wo.b .nil pass0 (pa_cons (pv 0) (pa_cons (pe_glob (v := .int 12) (by rfl) ht ⟨t, rfl⟩) pa_nil))))))), ?_⟩
  refine ⟨_, rfl, rfl, W.s, fun H1 s1 => ⟨true, rfl, ?_⟩⟩
  refine (show (if (!true) = true then _ else _) from ?_)
  rw [if_neg (by decide)]
  refine ⟨_, rfl, rfl, ?_⟩
  have e : decide (V.str "text" = V.str "number") = false := by decide +kernel
  refine ⟨_, rfl, ?_⟩
  rw [e]
  refine (show (if false = true then _ else _) from ?_)
  rw [if_neg (by decide)]
  exact ⟨_, rfl, x, 12, rfl, by decide, asStr_same s1 hx, hz, fun H2 s2 => q H2 (s1.trans s2)⟩
end
end S8

end Ps8D
section PSM
/-! stretches of ints, as mathematics: ascending lists, merging, uniqueness -/
namespace Sm
/-- a stretch: its bounds -/
abbrev St2 := Option Int × Option Int
/-- its bounds don't cross -/
def okS (p : St2) : Prop := ∀ x y, p.1 = some x → p.2 = some y → x ≤ y
def lowB (a : Option Int) (v : Int) : Bool := match a with
  | none => true
  | some x => decide (x ≤ v)
def highB (b : Option Int) (v : Int) : Bool := match b with
  | none => true
  | some y => decide (v ≤ y)
/-- v lies in it -/
def inS (p : St2) (v : Int) : Bool := lowB p.1 v && highB p.2 v
def reachB (a b : Option Int) : Bool := match a, b with
  | some x, some y => decide (y ≤ x + 1)
  | _, _ => true
def laterO : Option Int → Option Int → Option Int
  | some x, some y => some (max x y)
  | _, _ => none
/-- where a stretch sorts -/
def placeV (a : Option Int) : Int × Int := match a with
  | none => (0, 0)
  | some x => (1, x)
def nearS (p : St2) : Int := match p with
  | (some x, none) => if 0 < x then x else 0
  | (some x, some y) => if 0 < x then x else if y < 0 then y else 0
  | (none, some y) => if y < 0 then y else 0
  | (none, none) => 0
/-- v lies in one of them -/
def memL (l : List St2) (v : Int) : Bool := l.any fun p => inS p v
theorem memL_cons (p : St2) (l : List St2) (v : Int) : memL (p :: l) v = (inS p v || memL l v) := rfl
theorem memL_append (l m : List St2) (v : Int) : memL (l ++ m) v = (memL l v || memL m v) := List.any_append
theorem memL_perm {l m : List St2} (h : l.Perm m) (v : Int) : memL l v = memL m v := by
  induction h with
  | nil => rfl
  | cons x _ ih => rw [memL_cons, memL_cons, ih]
  | swap x y l =>
    rw [memL_cons, memL_cons, memL_cons, memL_cons]
    cases inS x v <;> cases inS y v <;> rfl
  | trans _ _ a b => exact a.trans b
theorem inS_iff {p : St2} {v : Int} : inS p v = true ↔ (∀ x, p.1 = some x → x ≤ v) ∧ ∀ y, p.2 = some y → v ≤ y := by
  obtain ⟨a, b⟩ := p
  unfold inS
  rw [Bool.and_eq_true]
  refine and_congr ?_ ?_
  · cases a with
    | none => exact ⟨fun _ x h => (nomatch h), fun _ => rfl⟩
    | some x => exact ⟨fun h z e => by cases e; exact of_decide_eq_true h, fun h => decide_eq_true (h x rfl)⟩
  · cases b with
    | none => exact ⟨fun _ x h => (nomatch h), fun _ => rfl⟩
    | some x => exact ⟨fun h z e => by cases e; exact of_decide_eq_true h, fun h => decide_eq_true (h x rfl)⟩
theorem memL_iff {l : List St2} {v : Int} : memL l v = true ↔ ∃ p ∈ l, inS p v = true := List.any_eq_true
/-- p ends ahead of q, a number lies between them -/
def gapS (p q : St2) : Prop := ∃ x y, p.2 = some x ∧ q.1 = some y ∧ x + 1 < y
/-- the longest stretches, ascending -/
def ascS (n : List St2) : Prop := (∀ p ∈ n, okS p) ∧ n.Pairwise gapS
theorem ascS_nil : ascS [] := ⟨fun _ h => (nomatch h), .nil⟩
theorem ascS_one {p : St2} (h : okS p) : ascS [p] := ⟨fun q hq => by rw [List.mem_singleton.mp hq]; exact h, List.pairwise_singleton _ _⟩
theorem ascS.tail {p : St2} {n : List St2} (h : ascS (p :: n)) : ascS n := ⟨fun q hq => h.1 q (List.mem_cons_of_mem _ hq), (List.pairwise_cons.mp h.2).2⟩
/-- a lower bound at or below another one -/
def loO (a b : Option Int) : Prop := ∀ x, a = some x → ∃ y, b = some y ∧ x ≤ y
/-- the loop of a merge: so many are done, the others start no lower than the last one -/
def step (n : List St2) (p : St2) : List St2 := match n.getLast? with
  | none => n ++ [p]
  | some q => if reachB q.2 p.1 = true then n.dropLast ++ [(q.1, laterO q.2 p.2)] else n ++ [p]
theorem merge_one {q p : St2} (hq : okS q) (hp : okS p) (hl : loO q.1 p.1) (hr : reachB q.2 p.1 = true) : okS (q.1, laterO q.2 p.2) ∧ ∀ v, inS (q.1, laterO q.2 p.2) v = (inS q v || inS p v) := by
  obtain ⟨a, b⟩ := q
  obtain ⟨c, d⟩ := p
  constructor
  · intro x y e1 e2
    cases b with
    | none => exact absurd e2 (by simp [laterO])
    | some b =>
      cases d with
      | none => exact absurd e2 (by simp [laterO])
      | some d =>
        have e3 : max b d = y := Option.some.inj e2
        have := hq x b e1 rfl
        omega
  · intro v
    have hq' : ∀ x y, a = some x → b = some y → x ≤ y := hq
    have hp' : ∀ x y, c = some x → d = some y → x ≤ y := hp
    rw [Bool.eq_iff_iff, Bool.or_eq_true, inS_iff, inS_iff, inS_iff]
    constructor
    · rintro ⟨h1, h2⟩
      cases b with
      | none => exact .inl ⟨h1, fun y e => (nomatch e)⟩
      | some b =>
        by_cases hv : v ≤ b
        · exact .inl ⟨h1, fun y e => by cases e; exact hv⟩
        · refine .inr ⟨fun x e => ?_, fun y e => ?_⟩
          · have e' : c = some x := e
            subst e'
            have : x ≤ b + 1 := of_decide_eq_true hr
            omega
          · have e' : d = some y := e
            subst e'
            have := h2 (max b y) rfl
            omega
    · rintro (⟨h1, h2⟩ | ⟨h1, h2⟩)
      · refine ⟨h1, fun y e => ?_⟩
        cases b with
        | none => exact absurd e (by simp [laterO])
        | some b =>
          cases d with
          | none => exact absurd e (by simp [laterO])
          | some d =>
            have e3 : max b d = y := Option.some.inj e
            have := h2 b rfl
            omega
      · refine ⟨fun x e => ?_, fun y e => ?_⟩
        · obtain ⟨z, e4, le⟩ := hl x e
          have := h1 z e4
          omega
        · cases b with
          | none => exact absurd e (by simp [laterO])
          | some b =>
            cases d with
            | none => exact absurd e (by simp [laterO])
            | some d =>
              have e3 : max b d = y := Option.some.inj e
              have := h2 d rfl
              omega
theorem gap_of {q p : St2} (hl : reachB q.2 p.1 = false) : gapS q p := by
  obtain ⟨a, b⟩ := q
  obtain ⟨c, d⟩ := p
  cases b with
  | none => exact absurd hl (by simp [reachB])
  | some b =>
    cases c with
    | none => exact absurd hl (by simp [reachB])
    | some c => exact ⟨b, c, rfl, rfl, by have : ¬ c ≤ b + 1 := of_decide_eq_false hl; omega⟩
theorem gap_trans {p q r : St2} (hq : okS q) (h1 : gapS p q) (h2 : gapS q r) : gapS p r := by
  obtain ⟨x, y, e1, e2, l1⟩ := h1
  obtain ⟨z, u, e3, e4, l2⟩ := h2
  have := hq y z e2 e3
  exact ⟨x, u, e1, e4, by omega⟩
theorem asc_snoc {n : List St2} {q : St2} : ascS (n ++ [q]) ↔ ascS n ∧ okS q ∧ ∀ p ∈ n, gapS p q := by
  unfold ascS
  rw [List.pairwise_append]
  constructor
  · rintro ⟨a, b, _, c⟩
    exact ⟨⟨fun p hp => a p (List.mem_append_left _ hp), b⟩, a q (List.mem_append_right _ (List.mem_singleton.mpr rfl)), fun p hp => c p hp q (List.mem_singleton.mpr rfl)⟩
  · rintro ⟨⟨a, b⟩, c, d⟩
    refine ⟨fun p hp => ?_, b, List.pairwise_singleton _ _, fun p hp r hr => by rw [List.mem_singleton.mp hr]; exact d p hp⟩
    rcases List.mem_append.mp hp with h | h
    · exact a p h
    · rw [List.mem_singleton.mp h]
      exact c
/-- one turn: the new list ascends, and has what both had -/
theorem step_ok {n : List St2} {p : St2} (ha : ascS n) (hp : okS p) (hl : ∀ q, n.getLast? = some q → loO q.1 p.1) : ascS (step n p) ∧ (∀ v, memL (step n p) v = (memL n v || inS p v)) ∧ (step n p).length ≤ n.length + 1 ∧
    (∀ r, (step n p).getLast? = some r → ∀ o, loO p.1 o → loO r.1 o) := by
  rcases List.eq_nil_or_concat n with rfl | ⟨m, q, e⟩
  · refine ⟨ascS_one hp, fun v => ?_, Nat.le_refl _, fun r hr o h => ?_⟩
    · show (inS p v || false) = (false || inS p v)
      rw [Bool.or_false, Bool.false_or]
    · cases (show p = r from Option.some.inj hr)
      exact h
  · rw [List.concat_eq_append] at e
    subst e
    have eg : (m ++ [q]).getLast? = some q := by simp
    have ed : (m ++ [q]).dropLast = m := by simp
    obtain ⟨a1, a2, a3⟩ := asc_snoc.mp ha
    have l1 := hl q eg
    unfold step
    rw [eg, ed]
    by_cases hr : reachB q.2 p.1 = true
    · show ascS (if reachB q.2 p.1 = true then m ++ [(q.1, laterO q.2 p.2)] else m ++ [q] ++ [p]) ∧ (∀ v, memL (if reachB q.2 p.1 = true then m ++ [(q.1, laterO q.2 p.2)] else m ++ [q] ++ [p]) v = _) ∧ (if reachB q.2 p.1 = true then m ++ [(q.1, laterO q.2 p.2)] else m ++ [q] ++ [p]).length ≤ _ ∧
        ∀ r, (if reachB q.2 p.1 = true then m ++ [(q.1, laterO q.2 p.2)] else m ++ [q] ++ [p]).getLast? = some r → _
      rw [if_pos hr]
      obtain ⟨o1, o2⟩ := merge_one a2 hp l1 hr
      refine ⟨asc_snoc.mpr ⟨a1, o1, fun r hm => ?_⟩, fun v => ?_, by simp, fun r e o h x ex => ?_⟩
      · obtain ⟨x, y, e1, e2, l⟩ := a3 r hm
        exact ⟨x, y, e1, e2, l⟩
      · rw [memL_append, memL_append, memL_cons, memL_cons, o2]
        show (memL m v || (inS q v || inS p v || false)) = (memL m v || (inS q v || false) || inS p v)
        rw [Bool.or_false, Bool.or_false, Bool.or_assoc]
      · have e' : (q.1, laterO q.2 p.2) = r := by simpa using e
        subst e'
        obtain ⟨y, ey, le⟩ := l1 x ex
        obtain ⟨z, ez, le2⟩ := h y ey
        exact ⟨z, ez, by omega⟩
    · show ascS (if reachB q.2 p.1 = true then m ++ [(q.1, laterO q.2 p.2)] else m ++ [q] ++ [p]) ∧ (∀ v, memL (if reachB q.2 p.1 = true then m ++ [(q.1, laterO q.2 p.2)] else m ++ [q] ++ [p]) v = _) ∧ (if reachB q.2 p.1 = true then m ++ [(q.1, laterO q.2 p.2)] else m ++ [q] ++ [p]).length ≤ _ ∧
        ∀ r, (if reachB q.2 p.1 = true then m ++ [(q.1, laterO q.2 p.2)] else m ++ [q] ++ [p]).getLast? = some r → _
      rw [if_neg hr]
      have g := gap_of (Bool.eq_false_iff.mpr hr)
      refine ⟨asc_snoc.mpr ⟨ha, hp, fun r hm => ?_⟩, fun v => ?_, by simp, fun r e o h => ?_⟩
      · rcases List.mem_append.mp hm with h | h
        · exact gap_trans a2 (a3 r h) g
        · rw [List.mem_singleton.mp h]
          exact g
      · rw [memL_append (m ++ [q]), memL_cons]
        show (memL (m ++ [q]) v || (inS p v || false)) = _
        rw [Bool.or_false]
      · have e' : p = r := by simpa using e
        subst e'
        exact h
end Sm

end PSM
section PSM2
/-! stretches of ints: uniqueness, finitely many points, the first one -/
namespace Sm
theorem asc_behind {p : St2} {n : List St2} (h : ascS (p :: n)) {v : Int} (hv : memL n v = true) : ∃ x, p.2 = some x ∧ x + 1 < v := by
  obtain ⟨q, hq, hi⟩ := memL_iff.mp hv
  obtain ⟨x, y, e1, e2, l⟩ := (List.pairwise_cons.mp h.2).1 q hq
  have := (inS_iff.mp hi).1 y e2
  exact ⟨x, e1, by omega⟩
theorem asc_apart {p : St2} {n : List St2} (h : ascS (p :: n)) {v : Int} (hv : inS p v = true) : memL n v = false := by
  cases e : memL n v with
  | false => rfl
  | true =>
    obtain ⟨x, e1, l⟩ := asc_behind h e
    have := (inS_iff.mp hv).2 x e1
    omega
theorem asc_low {p : St2} {n : List St2} (h : ascS (p :: n)) {v x : Int} (hv : memL (p :: n) v = true) (hx : p.1 = some x) : x ≤ v := by
  rw [memL_cons, Bool.or_eq_true] at hv
  rcases hv with hv | hv
  · exact (inS_iff.mp hv).1 x hx
  · obtain ⟨y, e1, l⟩ := asc_behind h hv
    have := h.1 p List.mem_cons_self x y hx e1
    omega
theorem low_in {p : St2} {x : Int} (h : okS p) (hx : p.1 = some x) : inS p x = true :=
  inS_iff.mpr ⟨fun y e => (by rw [hx] at e; cases e; exact Int.le_refl _), fun y e => h x y hx e⟩
theorem head_low {p q : St2} {n m : List St2} (hn : ascS (p :: n)) (hm : ascS (q :: m)) (h : ∀ v, memL (p :: n) v = memL (q :: m) v) {x : Int} (hx : p.1 = some x) : ∃ y, q.1 = some y ∧ y ≤ x := by
  have mx : memL (q :: m) x = true := by
    rw [← h, memL_cons, low_in (hn.1 p List.mem_cons_self) hx, Bool.true_or]
  cases e : q.1 with
  | some y => exact ⟨y, rfl, asc_low hm mx e⟩
  | none =>
    exfalso
    have key : ∀ v, v < x → inS q v = true → False := fun v hv hi => by
      have : memL (p :: n) v = true := by
        rw [h, memL_cons, hi, Bool.true_or]
      have := asc_low hn this hx
      omega
    cases e2 : q.2 with
    | none => exact key (x - 1) (by omega) (inS_iff.mpr ⟨fun y e3 => (by rw [e] at e3; cases e3), fun y e3 => by rw [e2] at e3; cases e3⟩)
    | some y => exact key (min (x - 1) y) (by omega) (inS_iff.mpr ⟨fun z e3 => (by rw [e] at e3; cases e3), fun z e3 => by rw [e2] at e3; cases e3; omega⟩)
theorem head_high {p q : St2} {n m : List St2} (hn : ascS (p :: n)) (h : ∀ v, memL (p :: n) v = memL (q :: m) v) (hl : p.1 = q.1) {x : Int} (hx : p.2 = some x) : ∃ y, q.2 = some y ∧ y ≤ x := by
  have mx : memL (p :: n) (x + 1) = false := by
    cases e : memL (p :: n) (x + 1) with
    | false => rfl
    | true =>
      rw [memL_cons, Bool.or_eq_true] at e
      rcases e with e | e
      · have := (inS_iff.mp e).2 x hx
        omega
      · obtain ⟨y, e1, l⟩ := asc_behind hn e
        rw [hx] at e1
        cases e1
        omega
  have no : inS q (x + 1) = false := by
    rw [h, memL_cons, Bool.or_eq_false_iff] at mx
    exact mx.1
  have low : ∀ y, q.1 = some y → y ≤ x + 1 := fun y e => by
    have := hn.1 p List.mem_cons_self y x (hl.trans e) hx
    omega
  cases e : q.2 with
  | none =>
    have : inS q (x + 1) = true := inS_iff.mpr ⟨low, fun y e3 => by rw [e] at e3; cases e3⟩
    rw [no] at this
    cases this
  | some y =>
    refine ⟨y, rfl, ?_⟩
    by_cases hy : y ≤ x
    · exact hy
    · have : inS q (x + 1) = true := inS_iff.mpr ⟨low, fun z e3 => by rw [e] at e3; cases e3; omega⟩
      rw [no] at this
      cases this
theorem asc_some {q : St2} {m : List St2} (hm : ascS (q :: m)) (h : ∀ v, memL (q :: m) v = false) : False := by
  have hq := hm.1 q List.mem_cons_self
  have no : ∀ v, inS q v = true → False := fun v hi => by
    have := h v
    rw [memL_cons, hi, Bool.true_or] at this
    cases this
  cases e1 : q.1 with
  | some x => exact no x (low_in hq e1)
  | none =>
    cases e2 : q.2 with
    | none => exact no 0 (inS_iff.mpr ⟨fun y e => (by rw [e1] at e; cases e), fun y e => (by rw [e2] at e; cases e)⟩)
    | some x => exact no x (inS_iff.mpr ⟨fun y e => (by rw [e1] at e; cases e), fun y e => (by rw [e2] at e; cases e; exact Int.le_refl _)⟩)
/-- the ascending list is told by what lies in it -/
theorem asc_uniq : ∀ {n m : List St2}, ascS n → ascS m → (∀ v, memL n v = memL m v) → n = m
  | [], [], _, _, _ => rfl
  | [], q :: m, _, hm, h => (asc_some hm fun v => (h v).symm).elim
  | p :: n, [], hn, _, h => (asc_some hn h).elim
  | p :: n, q :: m, hn, hm, h => by
    have h' : ∀ v, memL (q :: m) v = memL (p :: n) v := fun v => (h v).symm
    have l1 : p.1 = q.1 := by
      cases e : p.1 with
      | some x =>
        obtain ⟨y, e1, le⟩ := head_low hn hm h e
        obtain ⟨z, e2, le2⟩ := head_low hm hn h' e1
        rw [e] at e2
        cases e2
        rw [e1, show x = y by omega]
      | none =>
        cases e1 : q.1 with
        | none => rfl
        | some y =>
          obtain ⟨z, e2, _⟩ := head_low hm hn h' e1
          rw [e] at e2
          cases e2
    have l2 : p.2 = q.2 := by
      cases e : p.2 with
      | some x =>
        obtain ⟨y, e1, le⟩ := head_high hn h l1 e
        obtain ⟨z, e2, le2⟩ := head_high hm h' l1.symm e1
        rw [e] at e2
        cases e2
        rw [e1, show x = y by omega]
      | none =>
        cases e1 : q.2 with
        | none => rfl
        | some y =>
          obtain ⟨z, e2, _⟩ := head_high hm h' l1.symm e1
          rw [e] at e2
          cases e2
    have pq : p = q := Prod.ext l1 l2
    subst pq
    have t : n = m := asc_uniq hn.tail hm.tail fun v => by
      have hv := h v
      rw [memL_cons, memL_cons] at hv
      cases e : inS p v with
      | true => rw [asc_apart hn e, asc_apart hm e]
      | false =>
        rw [e, Bool.false_or, Bool.false_or] at hv
        exact hv
    rw [t]
/-! ### finitely many points -/
def Edge (E : List Int) (p : St2) : Prop := (∀ x, p.1 = some x → x ∈ E) ∧ ∀ y, p.2 = some y → y ∈ E
theorem max_of : ∀ {F : List Int}, F ≠ [] → ∃ e ∈ F, ∀ f ∈ F, f ≤ e
  | [], h => absurd rfl h
  | [x], _ => ⟨x, List.mem_cons_self, fun f hf => by rw [List.mem_singleton.mp hf]; exact Int.le_refl _⟩
  | x :: y :: r, _ => by
    obtain ⟨e, he, hm⟩ := max_of (F := y :: r) (by simp)
    by_cases h : e ≤ x
    · refine ⟨x, List.mem_cons_self, fun f hf => ?_⟩
      rcases List.mem_cons.mp hf with rfl | hf
      · exact Int.le_refl _
      · have := hm f hf
        omega
    · refine ⟨e, List.mem_cons_of_mem _ he, fun f hf => ?_⟩
      rcases List.mem_cons.mp hf with rfl | hf
      · omega
      · exact hm f hf
theorem rep_at {E : List Int} {far : Int} (hf : ∀ e ∈ E, far < e) (v : Int) : ∃ w, (w = far ∨ w ∈ E ∨ ∃ e ∈ E, w = e + 1) ∧ ∀ e ∈ E, (e ≤ v ↔ e ≤ w) ∧ (v ≤ e ↔ w ≤ e) := by
  by_cases h0 : E.filter (fun e => decide (e ≤ v)) = []
  · refine ⟨far, .inl rfl, fun e he => ?_⟩
    have h1 : ¬ e ≤ v := fun h => by
      have : e ∈ E.filter (fun e => decide (e ≤ v)) := List.mem_filter.mpr ⟨he, decide_eq_true h⟩
      rw [h0] at this
      cases this
    have := hf e he
    omega
  · obtain ⟨e0, he0, hm⟩ := max_of h0
    obtain ⟨m0, d0⟩ := List.mem_filter.mp he0
    have l0 : e0 ≤ v := of_decide_eq_true d0
    have top : ∀ e ∈ E, e ≤ v → e ≤ e0 := fun e he le => hm e (List.mem_filter.mpr ⟨he, decide_eq_true le⟩)
    by_cases ev : e0 = v
    · exact ⟨e0, .inr (.inl m0), fun e he => by rw [ev]; exact ⟨Iff.rfl, Iff.rfl⟩⟩
    · refine ⟨e0 + 1, .inr (.inr ⟨e0, m0, rfl⟩), fun e he => ?_⟩
      have t := top e he
      constructor
      · constructor
        · intro h
          have := t h
          omega
        · intro h
          omega
      · constructor
        · intro h
          omega
        · intro h
          by_cases hv : e ≤ v
          · have := t hv
            omega
          · omega
theorem inS_rep {E : List Int} {p : St2} (hp : Edge E p) {v w : Int} (h : ∀ e ∈ E, (e ≤ v ↔ e ≤ w) ∧ (v ≤ e ↔ w ≤ e)) : inS p v = inS p w := by
  rw [Bool.eq_iff_iff, inS_iff, inS_iff]
  exact and_congr (forall_congr' fun x => forall_congr' fun e => (h x (hp.1 x e)).1) (forall_congr' fun y => forall_congr' fun e => (h y (hp.2 y e)).2)
theorem memL_rep {E : List Int} {l : List St2} (hl : ∀ p ∈ l, Edge E p) {v w : Int} (h : ∀ e ∈ E, (e ≤ v ↔ e ≤ w) ∧ (v ≤ e ↔ w ≤ e)) : memL l v = memL l w := by
  rw [Bool.eq_iff_iff, memL_iff, memL_iff]
  exact ⟨fun ⟨p, hp, hi⟩ => ⟨p, hp, by rw [← inS_rep (hl p hp) h]; exact hi⟩, fun ⟨p, hp, hi⟩ => ⟨p, hp, by rw [inS_rep (hl p hp) h]; exact hi⟩⟩
/-- alike at the points: alike everywhere -/
theorem memL_same {E : List Int} {far : Int} {l m : List St2} (hf : ∀ e ∈ E, far < e) (hl : ∀ p ∈ l, Edge E p) (hm : ∀ p ∈ m, Edge E p) (h : ∀ w, (w = far ∨ w ∈ E ∨ ∃ e ∈ E, w = e + 1) → memL l w = memL m w) (v : Int) : memL l v = memL m v := by
  obtain ⟨w, hw, hr⟩ := rep_at hf v
  rw [memL_rep hl hr, memL_rep hm hr, h w hw]
/-! ### the first one in the natural order -/
def natI (i : Int) : Int × Int := (if i < 0 then -i else i, if i < 0 then 1 else 0)
def natLe (i j : Int) : Prop := (natI i).1 < (natI j).1 ∨ ((natI i).1 = (natI j).1 ∧ (natI i).2 ≤ (natI j).2)
theorem nat_anti {i j : Int} (a : natLe i j) (b : natLe j i) : i = j := by
  unfold natLe natI at a b
  by_cases hi : i < 0 <;> by_cases hj : j < 0 <;> simp only [hi, hj, if_true, if_false] at a b <;> omega
theorem nat_zero (j : Int) : natLe 0 j := by
  unfold natLe natI
  by_cases hj : j < 0 <;> simp only [hj, if_true, if_false] <;> omega
theorem near_ok {p : St2} (h : okS p) : inS p (nearS p) = true ∧ (∀ u, inS p u = true → natLe (nearS p) u) ∧ (nearS p = 0 ∨ p.1 = some (nearS p) ∨ p.2 = some (nearS p)) := by
  obtain ⟨a, b⟩ := p
  have up : ∀ x u : Int, 0 < x → x ≤ u → natLe x u := fun x u h1 h2 => by
    unfold natLe natI
    simp only [show ¬ x < 0 by omega, show ¬ u < 0 by omega, if_false]
    omega
  have dn : ∀ x u : Int, x < 0 → u ≤ x → natLe x u := fun x u h1 h2 => by
    unfold natLe natI
    simp only [show x < 0 by omega, show u < 0 by omega, if_true]
    omega
  cases a with
  | none =>
    cases b with
    | none => exact ⟨rfl, fun u _ => nat_zero u, .inl rfl⟩
    | some y =>
      by_cases hy : y < 0
      · have e : nearS (none, some y) = y := if_pos hy
        rw [e]
        exact ⟨inS_iff.mpr ⟨fun x e => (nomatch e), fun z e => by cases e; exact Int.le_refl _⟩, fun u hu => dn y u hy ((inS_iff.mp hu).2 y rfl), .inr (.inr rfl)⟩
      · have e : nearS (none, some y) = 0 := if_neg hy
        rw [e]
        exact ⟨inS_iff.mpr ⟨fun x e => (nomatch e), fun z e => by cases e; omega⟩, fun u hu => nat_zero u, .inl rfl⟩
  | some x =>
    by_cases hx : 0 < x
    · have e : nearS (some x, b) = x := by
        cases b <;> exact if_pos hx
      rw [e]
      exact ⟨low_in h rfl, fun u hu => up x u hx ((inS_iff.mp hu).1 x rfl), .inr (.inl rfl)⟩
    · cases b with
      | none =>
        have e : nearS (some x, none) = 0 := if_neg hx
        rw [e]
        exact ⟨inS_iff.mpr ⟨fun z e => (by cases e; omega), fun z e => (nomatch e)⟩, fun u hu => nat_zero u, .inl rfl⟩
      | some y =>
        by_cases hy : y < 0
        · have e : nearS (some x, some y) = y := by
            show (if 0 < x then x else if y < 0 then y else 0) = y
            rw [if_neg hx, if_pos hy]
          rw [e]
          exact ⟨inS_iff.mpr ⟨fun z e => (by cases e; exact h x y rfl rfl), fun z e => by cases e; exact Int.le_refl _⟩, fun u hu => dn y u hy ((inS_iff.mp hu).2 y rfl), .inr (.inr rfl)⟩
        · have e : nearS (some x, some y) = 0 := by
            show (if 0 < x then x else if y < 0 then y else 0) = 0
            rw [if_neg hx, if_neg hy]
          rw [e]
          exact ⟨inS_iff.mpr ⟨fun z e => (by cases e; omega), fun z e => by cases e; omega⟩, fun u hu => nat_zero u, .inl rfl⟩
end Sm

end PSM2
section PE7
set_option maxHeartbeats 4000000
/-! Raising an exception of an own class over any of the bases, and what its suite asks of it. -/
namespace L2
open PySem PySem.Spec PyProof.Rows
/-- C(e, ..), made to be raised -/
def tXr (C : Addr) (n : Nat) (sp : Sp) (gV : List V → List V → List V) (t : TA) : St → Hp → XK → Prop := fun σ H Q => t σ H fun vs H1 => vs.length = n ∧ ∀ a, H1 a = none → sp (gV (.ref a :: vs) []) (upd H1 a (exo a C none))
  (fun v H2 => v = .non ∧ ∃ (d : Addr) (fs : List (Str × V)), H2 a = some (exo a C (some d)) ∧ H2 d = some (exd d fs) ∧ H1 d = none ∧ Q (.ref C) (some d) (upd (del H2 a) d (.xd fs))) E0
section
variable {X : Cx} {CX : CXT} {k n : Nat} {fI C : Addr} {fd : FuncData} {ps : List Str} {sp : Sp} {x : Str} {p pos : Pos} {e : Expr} {es : List Expr} {t : TA} {g : List Value → List Value → List Value} {gV : List V → List V → List V}
theorem pmk_xe (T : XC X.K C) (iC : PySem.W.findIn X.K (.ref C) "__init__" = some (some (.ref fI))) (tI : PySem.W.typeIn X.K (.ref fI) = some (.type "function"))
    (F : FnOk X.prog X.w X.K X.mg X.base CX k fI fd ps sp) (hr : Room (k + 1) X.A) (hb : KBn X.K fd ps (n + 1) [] g gV) (hx : Passes CX X E0) (hn : n ≤ 1000) (hg : Gl X x) (hm : X.mg x = some (.ref C)) (ha : PA X (e :: es) t)
    (hdb : (x == ("__debug__" : Str)) = false := by decide) (he : starEach (e :: es) X.env = (false, eval e X.env) :: starEach es X.env := by rfl) (hpl : (backTo pos (starEach es X.env)).any (·.1) = false := by rfl) :
    PMk X (.Call (.Name x p) (e :: es) [] pos) (tXr C n sp gV t) := by
  intro pins s σ H Q I h
  obtain ⟨B, newId, initId, tl, nm, q, N, bs, bm, sn, sub, ab, col, dd, k0, k1, k2, k3, k5, BX, hC, hbm⟩ := T.cls
  refine wpAny_Call_Name_kw (ld_glob I hg hm ?_ hdb)
  refine PySem.W.callWith_K (h₀ := X.base) I.ok.mod.kin T.kC (thn (ha.run pos pins s σ H _ I h) fun us s1 ⟨vs, H1, I1, r1, q1⟩ => ⟨I1.kIn, ?_⟩) he hpl
  obtain ⟨l1, q2⟩ := q1
  show wpAny _ _ (call (.ref C) us) _ _ _
  obtain ⟨hp, gs, dr, tk', os⟩ := s1
  have hsz : hp.objs.size ≤ hp.objs.size + 1 := Nat.le_succ _
  have hn1 : H1 (hp.objs.size + 1) = none := I1.hok.fresh hsz
  have hq := q2 (hp.objs.size + 1) hn1
  have kk : ∀ b o, hp.get? b = some o → ((hp.push (PySem.W.kdv_tup us)).push (PySem.HandSPX.excO C hp.objs.size)).get? b = some o := fun b o e => Heap.get?_push_of_some _ (Heap.get?_push_of_some _ e)
  have hget : ((hp.push (PySem.W.kdv_tup us)).push (PySem.HandSPX.excO C hp.objs.size)).get? (hp.objs.size + 1) = some (PySem.HandSPX.excO C hp.objs.size) := by heap_get
  have I2 : Inv X pins σ (upd H1 (hp.objs.size + 1) (exo (hp.objs.size + 1) C none)) ⟨(hp.push (PySem.W.kdv_tup us)).push (PySem.HandSPX.excO C hp.objs.size), gs, dr, tk', os⟩ :=
    I1.laid (t' := tk') (a := hp.objs.size + 1) (o := exo (hp.objs.size + 1) C none) (h' := (hp.push (PySem.W.kdv_tup us)).push (PySem.HandSPX.excO C hp.objs.size)) kk hsz (exo_ok hget)
  have r3 : Vals (V.ref (hp.objs.size + 1) :: vs) (Value.ref (hp.objs.size + 1) :: us) := .cons rfl r1
  have r2 := hb.rel (zs := []) (ws := []) r3 .nil
  have e1 : (Value.ref (hp.objs.size + 1) :: us).length = n + 1 := r3.length.symm.trans (congrArg Nat.succ l1)
  have hus : us.length ≤ sizeLine := by
    rw [← r1.length, l1]
    exact Nat.le_trans hn (by decide)
  refine wpAny_call (PySem.EXV.call_kw BX.F (fun Y => PySem.W.excTail_contains Y bm hbm) (I1.kIn _ _ hC) (PySem.W.looks_findIn I1.kIn iC) (fun self => PySem.W.bind_fn I1.kIn self tI) hus
    (codeAny_mono (F.run _ X.stack _ _ ⟨Value.ref (hp.objs.size + 1) :: us, []⟩ (g (Value.ref (hp.objs.size + 1) :: us) []) _ _ E0 (hr.make C us []) (I2.env0.make C us []) (hb.to _ (Value.ref (hp.objs.size + 1) :: us) [] I2.kIn e1 rfl) r2 hq) fun r s' hq' => ?_))
  cases r with
  | error er => exact hx pins σ _ _ er s' I2 hq'
  | ok fl =>
    cases fl with
    | ret u =>
      obtain ⟨v, H2, os2, bare2, un2, hok2, rv, ev, d, fs, ea, ed, hd1, q3⟩ := hq'
      subst ev
      obtain ⟨h2, g2, d2, t2, os'⟩ := s'
      exact ⟨rv, mk_end (raises_own T.exC T.tyC) I1 hsz kk un2 hok2 os2 bare2 ea ed hd1 q3⟩
    | next => exact False.elim hq'
    | brk => exact False.elim hq'
    | cont => exact False.elim hq'
end
theorem XC.xf {K : PySem.W.Frag} {C : Addr} (T : XC K C) : XfC K C := ⟨T.ga, T.gg, T.exC, T.hd⟩
/-- isinstance(e, c), e the exception that the suite holds, its dict at d -/
def rIsF (K : PySem.W.Frag) (a : Addr) (cls : Value) (d : Option Addr) : List V → Hp → VK → Prop := fun xs H Q => ∃ (C dd : Addr) (fs : List (Str × V)) (c : V) (u : Value) (b : Bool), xs = [.ref a, c] ∧ ClsV c u ∧ XC K C ∧ cls = .ref C ∧ d = some dd ∧ H dd = some (.xd fs) ∧ PySem.W.kitOne K (.ref C) u = some b ∧ Q (.bl b) H
theorem call_isF {X : Cx} {a : Addr} {cls : Value} {d : Option Addr} {oe : Obj} {pn : List (Addr × Obj)} (hz : Zc cls d oe) (hf : ∃ vs, oe.data = .fields vs) : CallR (X.suite a ((a, oe) :: pn)) (.builtin "isinstance") (rIsF X.K a cls d) := by
  intro pins s σ H xs us Q I r h
  obtain ⟨C, dd, fs, c, u, b, rfl, k, T, ec, ed, ea, e, q⟩ := h
  obtain ⟨u1, u2, rfl, r1, r2⟩ := vals2 r
  have e2 := k.eq r2
  subst e2
  cases (show u1 = Value.ref a from r1)
  subst ec
  subst ed
  obtain ⟨hget, _⟩ := I.pin (a, oe) (List.mem_append.mpr (.inl List.mem_cons_self))
  obtain ⟨vs, hv⟩ := hf
  have hx : ObjOk X.prog X.w H s.heap dd (.xd fs) := I.hok dd _ ea
  obtain ⟨mA, ⟨od, es, ep, e1, hds, hre⟩, rel⟩ := hx
  have J : PySem.W.InstAt s.heap a oe C (some od) := ⟨hget, hz.1, by unfold PySem.W.notCls; rw [hv] <;> rfl, by rw [hz.2]; exact e1⟩
  exact PySem.W.kia_one (PySem.W.kitx_exc (od := some od) T.isCls T.ga T.gg T.exC T.ha T.hn T.ht T.hm) I.kIn J e (fun z => nomatch z) fun tk => ⟨.bl b, H, I.tok tk, rfl, q⟩
theorem takes_no {X : Cx} : Takes X (fun _ _ _ _ => False) := fun u s' h => by
  obtain ⟨_, _, _, _, _, _, _, _, _, _, _, _, _, _, _, _, w⟩ := h
  exact w.elim
end L2

end PE7
section PSX
set_option maxHeartbeats 4000000
namespace L2
open PySem PySem.Spec PyProof.Rows
/-! ### sorted(xs) of data; a text times a number -/
/-- what is never reached -/
def tNevE : TE := fun _ _ _ => False
def tNevT : TT := fun _ _ _ => False
theorem pe_nev {X : Cx} {e : Expr} : PE X e tNevE := ⟨fun _ _ _ _ _ _ h => (show False from h).elim⟩
theorem pt_nev {X : Cx} {e : Expr} : PT X e tNevT := ⟨fun _ _ _ _ _ _ h => (show False from h).elim⟩
/-- sorted(xs), xs a list that reads as data which compare: a new list -/
def rSortedD (K : PySem.W.Frag) : List V → Hp → VK → Prop := fun vs H Q => ∃ (a : Addr) (xs : List V) (ds : List PyData), vs = [V.ref a] ∧ SqL K H a xs ∧ DpAll K H xs ds ∧ PySem.W.AllAlike ds ∧ PySem.W.Sortable ds ∧ (∀ d ∈ ds, d.depth ≤ 60) ∧
  ∀ p, H p = none → Q (.ref p) (upd H p (.lst (((xs.zip ds).mergeSort (PySem.W.dataLe false Prod.snd)).map Prod.fst)))
theorem dpAll_len {K : PySem.W.Frag} {H : Hp} : ∀ {xs : List V} {ds : List PyData}, DpAll K H xs ds → xs.length = ds.length
  | _, _, .nil => rfl
  | _, _, .cons _ t => by rw [List.length_cons, List.length_cons, dpAll_len t]
theorem each_rel {K : PySem.W.Frag} {H : Hp} : ∀ {xs : List V} {us : List Value} {ds : List PyData}, Vals xs us → DpAll K H xs ds → PySem.W.EachIs (fun u (b : V × PyData) => RelV b.1 u) us (xs.zip ds)
  | _, _, _, .nil, .nil => .nil
  | _, _, _, .cons r t, .cons _ t' => .cons r (each_rel t t')
theorem each_vals : ∀ {us : List Value} {bs : List (V × PyData)}, PySem.W.EachIs (fun u (b : V × PyData) => RelV b.1 u) us bs → Vals (bs.map Prod.fst) us
  | _, _, .nil => .nil
  | _, _, .cons r t => .cons r (each_vals t)
section
variable {X : Cx}
theorem each_reads {pins : List (Addr × Obj)} {σ : St} {H : Hp} {s : Shared} (I : Inv X pins σ H s) : ∀ {xs : List V} {us : List Value} {ds : List PyData}, Vals xs us → DpAll X.K H xs ds → PySem.W.EachIs (fun u (b : V × PyData) => ∃ as, Reads s.heap u b.2 as) us (xs.zip ds)
  | _, _, _, .nil, .nil => .nil
  | _, _, _, .cons r t, .cons d t' => .cons (Dp.reads I _ _ _ d r) (each_reads I t t')
theorem cr_sortedD (hu : X.A.units + 64 < cLine) : CallR X (.builtin "sorted") (rSortedD X.K) := by
  intro pins s σ H vs us Q I r h
  obtain ⟨a, xs, ds, rfl, hs, hd, hal, hk, hdep, q⟩ := h
  obtain ⟨its, rv, hl, hz⟩ := I.list hs
  obtain ⟨u, rfl, ru⟩ := vals1 r
  obtain rfl : u = Value.ref a := ru
  have el := dpAll_len hd
  have es : (xs.zip ds).map Prod.snd = ds := List.map_snd_zip (by omega)
  have hal' : PySem.W.AllAlike ((xs.zip ds).map Prod.snd) := by rw [es]; exact hal
  have hk' : PySem.W.Sortable ((xs.zip ds).map Prod.snd) := by rw [es]; exact hk
  have hlen : (xs.zip ds).length ≤ sizeLine := by
    rw [List.length_zip]
    omega
  refine PySem.W.sorted_data (R := fun u (b : V × PyData) => RelV b.1 u) (enc := Prod.snd) (bs := xs.zip ds) hl.isList (each_rel rv hd) (each_reads I rv hd) hal' hk' hlen (fun b hb => ?_) fun out e1 e2 => ?_
  · have : b.2 ∈ ds := by
      have := List.mem_map_of_mem (f := Prod.snd) hb
      rw [es] at this
      exact this
    have := hdep _ this
    omega
  · obtain ⟨n, hn⟩ := sortedAll_at s.heap its out.toArray
    have kp : ∀ b o, s.heap.get? b = some o → (sortedAll s.heap its out.toArray).get? b = some o := fun b o e => sortedAll_old e
    have hd' : s.heap.objs.size ≤ s.heap.objs.size + 1 := Nat.le_succ _
    refine ⟨.ref (s.heap.objs.size + 1), upd H (s.heap.objs.size + 1) (.lst (((xs.zip ds).mergeSort (PySem.W.dataLe false Prod.snd)).map Prod.fst)), I.laid (t' := s.toks) kp hd' ⟨?_, out, n, each_vals e2, hn⟩, rfl, q _ (I.hok.fresh hd')⟩
    rw [List.length_map, List.length_mergeSort]
    exact hlen
/-- a text times a small number -/
theorem op_mulS : OpR X (binaryOp .Mult) (fun x y H Q => ∃ (z : Str) (n : Nat), x = .str z ∧ y = .int n ∧ 1 ≤ n ∧ n ≤ 1000 ∧ z.length ≤ 1000 ∧ Q (.str ⟨(List.replicate n z.cps).foldl (· ++ ·) #[]⟩) H) := by
  intro pins s σ H x y v u Q I rx ry h
  obtain ⟨z, n, rfl, rfl, n1, n2, zl, q⟩ := h
  obtain ⟨t, rfl⟩ := rx
  obtain ⟨t', rfl⟩ := ry
  have n63 : (2 : Int) ^ 63 = 9223372036854775808 := by decide
  have fin : ∀ tk, (EP X pins σ Q) (.str ⟨(List.replicate n z.cps).foldl (· ++ ·) #[]⟩ tk) { s with toks := s.toks + 1 } := fun tk => ⟨.str _, H, I.tok _, ⟨_, rfl⟩, q⟩
  have len : ∀ k : Nat, ((List.replicate k z.cps).foldl (· ++ ·) (#[] : Array Nat)).size = k * z.length := fun k => by
    have gen : ∀ (k : Nat) (a : Array Nat), ((List.replicate k z.cps).foldl (· ++ ·) a).size = a.size + k * z.length := fun k => by
      induction k with
      | zero => intro a; simp
      | succ k ih =>
        intro a
        rw [List.replicate_succ, List.foldl_cons, ih, Array.size_append, Nat.succ_mul]
        show a.size + z.cps.size + k * z.cps.size = a.size + (k * z.cps.size + z.cps.size)
        omega
    rw [gen]
    simp
  refine PySem.P.mul_str ?_ (fun _ e => ?_) (fun _ e => ?_) ?_
  · rw [decide_eq_false (by omega), decide_eq_false (by omega)]; rfl
  · have h1 : ((2 : Int) ^ 63 - 1) / n ≥ 1000 := by
      rw [ge_iff_le, Int.le_ediv_iff_mul_le (by omega)]
      omega
    omega
  · have : z.length * n ≤ 1000 * 1000 := Nat.mul_le_mul zl n2
    show decide (z.length * n > sizeLine) = false
    have : (1000000 : Nat) ≤ sizeLine := by decide
    exact decide_eq_false (by omega)
  · rw [if_neg (by omega)]
    split
    · rename_i e
      rcases Bool.or_eq_true_iff.mp e with e | e
      · have e' : n = 1 := by have h1 := beq_iff_eq.mp e; omega
        subst e'
        refine ⟨.str _, H, I, ⟨_, rfl⟩, ?_⟩
        have : (List.replicate 1 z.cps).foldl (· ++ ·) #[] = z.cps := by simp
        rw [this] at q
        exact q
      · have e' : z.length = 0 := by simpa using e
        have l0 := len n
        rw [e', Nat.mul_zero] at l0
        have z0 : (⟨(List.replicate n z.cps).foldl (· ++ ·) #[]⟩ : Str) = z := by
          have a1 := Array.eq_empty_of_size_eq_zero l0
          have a2 : z.cps = #[] := Array.eq_empty_of_size_eq_zero e'
          cases z
          simp only at a1 a2 ⊢
          rw [a1, a2]
        rw [z0] at q
        exact ⟨.str _, H, I, ⟨_, rfl⟩, q⟩
    · refine ⟨?_, fin _⟩
      have l1 := len n
      have : n * z.length ≤ 1000 * 1000 := Nat.mul_le_mul n2 zl
      have : (1000000 : Nat) ≤ sizeLine := by decide
      show ((List.replicate n z.cps).foldl (· ++ ·) #[]).size ≤ sizeLine
      rw [l1]
      omega
end
end L2

end PSX
section PSK
set_option maxHeartbeats 4000000
namespace L2
open PySem PySem.Spec PyProof.Rows
/-! ### a builtin calls a def: its end as a step from heap to heap -/
/-- fv called with one value inside A: it comes back as sp says, nothing is raised -/
def Call1 (X : Cx) (A : Around) (fv : Value) (sp : V → Hp → VK → Prop) : Prop :=
  ∀ (E : Value → Shared → Prop) (pins : List (Addr × Obj)) (σ : St) (H : Hp) (s : Shared) (x : V) (u : Value) (Q : VK), Inv X pins σ H s → RelV x u → sp x H Q →
    wpAny (model X.prog X.w) A (call fv [u]) (fun v s' => CE X.stack X.prog X.w H s Q v s') E s
/-- no exception can be wanted away -/
def CXNo (CX : CXT) : Prop := ∀ (o : List Env) (H : Hp) (s : Shared) (e : Value) (s' : Shared), ¬ CX o H s (fun _ _ _ => False) e s'
theorem cxNo0 : CXNo CX0 := fun _ _ _ _ _ h => h
theorem call1_of {X : Cx} {A : Around} {CX : CXT} {k : Nat} {f : Addr} {fd : FuncData} {ps : List Str} {sp : Sp} {dvs : List V} {ds : List Value} (F : FnOk X.prog X.w X.K X.mg X.base CX k f fd ps sp) (hno : CXNo CX) (hr : Room k A)
    (hA : A.frames = X.A.frames) (hb : Binds X.K fd ps ds) (hd : Vals dvs ds) : Call1 X A (.ref f) fun x H Q => sp (x :: dvs) H Q fun _ _ _ => False := by
  intro E pins σ H s x u Q I r h
  have r2 : Vals (x :: dvs) (u :: ds) := .cons r hd
  have hl : (u :: ds).length = ps.length := by
    rw [← r2.length]
    exact F.len _ _ _ _ h
  have e0 := I.env0
  have e1 : Env0 X.prog X.w X.K X.mg X.base A X.stack s H := ⟨hA.trans e0.frames, e0.mod, e0.bs, e0.bsz, e0.funs, e0.frf, e0.hok, e0.bare⟩
  refine wpAny_call (codeAny_mono (F.run A X.stack s H ⟨[u], []⟩ (u :: ds) (x :: dvs) Q _ hr e1 (hb s [u] I.kIn hl) r2 h) fun r s' hq => ?_)
  match r, hq with
  | .error e, hq => exact (hno _ _ _ _ _ hq).elim
  | .ok (.ret v), hq => exact hq
  | .ok .next, hq => exact (show False from hq).elim
  | .ok .brk, hq => exact (show False from hq).elim
  | .ok .cont, hq => exact (show False from hq).elim
section
variable {X : Cx} {A : Around} {fv : Value} {sp : V → Hp → VK → Prop}
/-- between two keys: what is tracked, and the two objects of the sort -/
structure Mid (X : Cx) (s : Shared) (H : Hp) (a kS : Addr) (n : Nat) (ks : List V) (H' : Hp) (s' : Shared) : Prop where
  os : s'.os = s.os
  bare : AllBare s'.gens
  un : Un (frs X.stack) [] H H' s.heap s'.heap
  hok : HOk X.prog X.w H' s'.heap
  na : H' a = none
  nk : H' kS = none
  ha : s'.heap.get? a = some (seqObj "list" #[] n)
  hk : ∃ kA e, s'.heap.get? kS = some (seqObj "list" kA e) ∧ Vals ks kA.toList
theorem Mid.inv {pins : List (Addr × Obj)} {σ : St} {s s' : Shared} {H H' : Hp} {a kS : Addr} {n : Nat} {ks : List V} (I : Inv X pins σ H s) (m : Mid X s H a kS n ks H' s') : Inv X pins σ H' s' :=
  I.call' m.os m.un m.hok m.bare fun _ z => nomatch z
/-- one key more -/
theorem Mid.more {pins : List (Addr × Obj)} {σ : St} {s s' s2 : Shared} {H H' H2 : Hp} {a kS : Addr} {n : Nat} {ks : List V} {y : V} {u : Value} (I : Inv X pins σ H s) (m : Mid X s H a kS n ks H' s') (hfa : a ∉ frs X.stack) (hfk : kS ∉ frs X.stack)
    (hak : a ≠ kS) (hs : s.heap.get? kS = none) (os : s2.os = s'.os) (bare : AllBare s2.gens) (un : Un (frs X.stack) [] H' H2 s'.heap s2.heap) (hok : HOk X.prog X.w H2 s2.heap) (ry : RelV y u) (hz : ks.length ≤ sizeLine)
    {Q : Unit → Shared → Prop} {E : Value → Shared → Prop} (q : ∀ s3, Mid X s H a kS n (ks ++ [y]) H2 s3 → Q () s3) :
    wpAny (model X.prog X.w) A (Builtin.List.listUpdate (.ref kS) (·.push u)) Q E s2 := by
  obtain ⟨kA, e, hk, rk⟩ := m.hk
  have na2 : H2 a = none := un.free a _ m.ha m.na (by simp)
  have nk2 : H2 kS = none := un.free kS _ hk m.nk (by simp)
  have hk2 : s2.heap.get? kS = some (seqObj "list" kA e) := un.keep kS _ hk m.nk hfk (by simp)
  have ha2 : s2.heap.get? a = some (seqObj "list" #[] n) := un.keep a _ m.ha m.na hfa (by simp)
  have zA : kA.size ≤ sizeLine := by
    have e1 := rk.length
    have e2 : kA.toList.length = kA.size := Array.length_toList
    omega
  have b1 := Heap.SameBut.update s2.heap kS (Obj.mapSeq (·.push u))
  have old : ∀ {b : Addr} {o : Obj}, s.heap.get? b = some o → b ≠ kS := fun {b o} e z => by
    rw [z, hs] at e
    cases e
  refine listUpdate_at hk2 rfl (q _ ?_) zA (by rw [Array.size_push]; exact Nat.succ_le_succ zA)
  have un2 := m.un.trans un
  refine ⟨os.trans m.os, bare, ⟨fun b o e1 e2 e3 e4 => (b1.2 b (old e1)).trans (un2.keep b o e1 e2 e3 e4), fun b o e1 e2 e3 e4 => ?_, un2.free, fun b o e1 e4 => ?_, un2.tups, un2.frzs, un2.tbls⟩, fun b o e1 => ?_, na2, nk2, (b1.2 a hak).trans ha2, ?_⟩
  · obtain ⟨sl, w⟩ := un2.slot b o e1 e2 e3 e4
    exact ⟨sl, (b1.2 b (old e1)).trans w⟩
  · obtain ⟨o', w⟩ := un2.there b o e1 e4
    exact ⟨o', (b1.2 b (old e1)).trans w⟩
  · refine (hok b o e1).stay (fun c w hc r => (b1.2 c ?_).trans r) (fun _ r => r) fun _ _ r => r
    rintro rfl
    rcases hc with rfl | hc
    · rw [nk2] at e1
      cases e1
    · rw [nk2] at hc
      cases hc
  · obtain ⟨c2, hc2⟩ : ∃ c2, (s2.heap.update kS (Obj.mapSeq (·.push u))).get? kS = some (seqObj "list" (kA.push u) c2) := ⟨_, get?_update_seq hk2 (·.push u)⟩
    refine ⟨_, c2, hc2, ?_⟩
    rw [Array.toList_push]
    exact rk.append (.cons ry .nil)
/-- all else is kept: the sorted list may be tracked from now on -/
theorem Mid.laid {s s' : Shared} {H H' : Hp} {h' : Heap} {a kS : Addr} {n : Nat} {ks : List V} {o : HO} (m : Mid X s H a kS n ks H' s') (fa : s.heap.get? a = none) (fk : s.heap.get? kS = none) (k : ∀ b u, b ≠ a → b ≠ kS → s'.heap.get? b = some u → h'.get? b = some u)
    (new : ObjOk X.prog X.w (upd H' a o) h' a o) : Un (frs X.stack) [] H (upd H' a o) s.heap h' ∧ HOk X.prog X.w (upd H' a o) h' := by
  have oldA : ∀ {b : Addr} {u : Obj}, s.heap.get? b = some u → b ≠ a := fun {b u} e z => by
    rw [z, fa] at e
    cases e
  have oldK : ∀ {b : Addr} {u : Obj}, s.heap.get? b = some u → b ≠ kS := fun {b u} e z => by
    rw [z, fk] at e
    cases e
  have sm : ∀ {b : Addr} {u : HO}, H' b = some u → upd H' a o b = some u := fun {b u} e => by
    rw [upd_ne (ne_of_none e m.na)]
    exact e
  refine ⟨⟨fun b u e1 e2 e3 e4 => k b u (oldA e1) (oldK e1) (m.un.keep b u e1 e2 e3 e4), fun b u e1 e2 e3 e4 => ?_, fun b u e1 e2 e4 => ?_, fun b u e1 e4 => ?_, fun b xs e => sm (m.un.tups b xs e), fun b v xs e => sm (m.un.frzs b v xs e), fun b ps e => ?_⟩, fun b u e => ?_⟩
  · obtain ⟨sl, w⟩ := m.un.slot b u e1 e2 e3 e4
    exact ⟨sl, k b _ (oldA e1) (oldK e1) w⟩
  · rw [upd_ne (oldA e1)]
    exact m.un.free b u e1 e2 e4
  · obtain ⟨u', w⟩ := m.un.there b u e1 e4
    exact ⟨u', k b _ (oldA e1) (oldK e1) w⟩
  · obtain ⟨mo, w⟩ := m.un.tbls b ps e
    exact ⟨mo, sm w⟩
  · by_cases hb : b = a
    · subst hb
      rw [upd_same] at e
      cases e
      exact new
    · rw [upd_ne hb] at e
      refine (m.hok b u e).stay (fun c v hc r => k c v ?_ ?_ r) (fun c r => sm r) fun c xs r => sm r
      · rintro rfl
        rcases hc with z | z
        · exact hb z.symm
        · rw [m.na] at z
          cases z
      · rintro rfl
        rcases hc with z | z
        · rw [← z, m.nk] at e
          cases e
        · rw [m.nk] at z
          cases z
theorem each_zip : ∀ {xs : List V} {us : List Value} {ds : List PyData}, Vals xs us → xs.length = ds.length → PySem.W.EachIs (fun u (b : V × PyData) => RelV b.1 u) us (xs.zip ds)
  | _, _, [], .nil, _ => .nil
  | _, _, [], .cons _ _, h => absurd h (by simp)
  | _, _, _ :: _, .nil, h => absurd h (by simp)
  | _, _, _ :: _, .cons r t, h => .cons r (each_zip t (by simpa using h))
/-- sorted(xs, key=fv): keys that read as data which compare; sp is what fv does with one of xs, W what stands behind so many keys -/
def rSortedKey (K : PySem.W.Frag) (sp : V → Hp → VK → Prop) (fx : V) : List V → List V → Hp → VK → Prop := fun vs zs H Q => ∃ (l : Addr) (xs : List V), vs = [V.ref l] ∧ zs = [fx] ∧ (SqL K H l xs ∨ SqT K H l xs) ∧
  ∃ W : List V → Hp → Prop, W [] H ∧ (∀ ks H1 x, W ks H1 → xs[ks.length]? = some x → sp x H1 fun y H2 => W (ks ++ [y]) H2) ∧
    ∀ ks H1, W ks H1 → ks.length = xs.length → ∃ ds : List PyData, DpAll K H1 ks ds ∧ PySem.W.AllAlike ds ∧ PySem.W.Sortable ds ∧ (∀ d ∈ ds, d.depth ≤ 60) ∧
      ∀ p, H p = none → H1 p = none → Q (.ref p) (upd H1 p (.lst (((xs.zip ds).mergeSort (PySem.W.dataLe false Prod.snd)).map Prod.fst)))
/-- the sort behind the new list -/
theorem keyed_tree {f : Addr} {pins : List (Addr × Obj)} {σ : St} {s : Shared} {H : Hp} {g : Heap} {xs : List V} {its : List Value} {Q : VK} {E : Value → Shared → Prop} (hc : Call1 X A (.ref f) sp) (hu : A.units + 62 < cLine)
    (I : Inv X pins σ H s) (kg : ∀ b o, s.heap.get? b = some o → g.get? b = some o) (rv : Vals xs its) (hz : xs.length ≤ sizeLine) (W : List V → Hp → Prop) (w0 : W [] H)
    (turn : ∀ ks H1 x, W ks H1 → xs[ks.length]? = some x → sp x H1 fun y H2 => W (ks ++ [y]) H2)
    (done : ∀ ks H1, W ks H1 → ks.length = xs.length → ∃ ds : List PyData, DpAll X.K H1 ks ds ∧ PySem.W.AllAlike ds ∧ PySem.W.Sortable ds ∧ (∀ d ∈ ds, d.depth ≤ 60) ∧
      ∀ p, H p = none → H1 p = none → Q (.ref p) (upd H1 p (.lst (((xs.zip ds).mergeSort (PySem.W.dataLe false Prod.snd)).map Prod.fst)))) :
    wpAny (model X.prog X.w) A (ksk_tree g.objs.size (.ref f) false) (fun r s' => r = .done (.ret .none) ∧ EP X pins σ Q (.ref g.objs.size) s') E { s with heap := g.push (seqObj "list" its.toArray 0) } := by
  have el := rv.length
  have hzi : its.length ≤ sizeLine := by omega
  have Ig : Inv X pins σ H { s with heap := g, toks := s.toks } := I.kept kg
  have fa : s.heap.get? g.objs.size = none := by
    cases e : s.heap.get? g.objs.size with
    | none => rfl
    | some o => exact absurd (Heap.lt_size (kg _ _ e)) (Nat.lt_irrefl _)
  have hA0 : (g.push (seqObj "list" its.toArray 0)).get? g.objs.size = some (seqObj "list" its.toArray 0) := Heap.get?_push_size _ rfl
  obtain ⟨n1, hA1⟩ : ∃ n1, ((g.push (seqObj "list" its.toArray 0)).update g.objs.size (Obj.mapSeq fun _ => (#[] : Array Value))).get? g.objs.size = some (seqObj "list" #[] n1) := ⟨_, get?_update_seq hA0 fun _ => #[]⟩
  have kA : ∀ b o, s.heap.get? b = some o → ((g.push (seqObj "list" its.toArray 0)).update g.objs.size (Obj.mapSeq fun _ => (#[] : Array Value))).get? b = some o := fun b o e =>
    ((Heap.SameBut.update (g.push (seqObj "list" its.toArray 0)) g.objs.size (Obj.mapSeq fun _ => (#[] : Array Value))).2 b fun z => by
      rw [z, fa] at e
      cases e).trans (Heap.get?_push_of_some _ (kg b o e))
  generalize hgA : (g.push (seqObj "list" its.toArray 0)).update g.objs.size (Obj.mapSeq fun _ => (#[] : Array Value)) = gA at hA1 kA
  have kT : ∀ b o, s.heap.get? b = some o → (gA.push (seqObj "tuple" its.toArray 0)).get? b = some o := fun b o e => Heap.get?_push_of_some _ (kA b o e)
  have It : Inv X pins σ H { s with heap := gA.push (seqObj "tuple" its.toArray 0), toks := s.toks } := I.kept kT
  generalize hgT : gA.push (seqObj "tuple" its.toArray 0) = gT at kT It
  have hA2 : gT.get? g.objs.size = some (seqObj "list" #[] n1) := by
    rw [← hgT]
    exact Heap.get?_push_of_some _ hA1
  have fk : s.heap.get? gT.objs.size = none := by
    cases e : s.heap.get? gT.objs.size with
    | none => rfl
    | some o => exact absurd (Heap.lt_size (kT _ _ e)) (Nat.lt_irrefl _)
  have hak : g.objs.size ≠ gT.objs.size := Nat.ne_of_lt (Heap.lt_size hA2)
  have off : ∀ {c : Addr} {h : Heap}, (∀ b o, s.heap.get? b = some o → h.get? b = some o) → h.objs.size ≤ c → c ∉ frs X.stack ∧ H c = none := fun {c h} k hc => by
    have Ih : Inv X pins σ H { s with heap := h, toks := s.toks } := I.kept k
    refine ⟨fun z => ?_, Ih.hok.fresh hc⟩
    rcases List.mem_cons.mp (Ih.stkSub c z) with e | e
    · exact absurd (Nat.lt_of_lt_of_le Ih.lt hc) (by rw [e]; exact Nat.lt_irrefl _)
    · exact Ih.nofs hc e
  obtain ⟨oa, Ha⟩ := off kg (Nat.le_refl _)
  obtain ⟨ok, Hk⟩ := off kT (Nat.le_refl _)
  have start : Mid X s H g.objs.size gT.objs.size n1 [] H { s with heap := gT.push (seqObj "list" #[] 0) } :=
    ⟨rfl, I.bare, Un.kept fun b o e => Heap.get?_push_of_some _ (kT b o e), I.hok.kept fun b o e => Heap.get?_push_of_some _ (kT b o e), Ha, Hk, Heap.get?_push_of_some _ hA2, #[], 0, Heap.get?_push_size _ rfl, .nil⟩
  unfold ksk_tree
  refine wpAny_bind (listItems_at (a := g.objs.size) hA0 rfl ?_)
  refine wpAny_bind (listUpdate_at (a := g.objs.size) hA0 rfl ?_ (by rw [List.size_toArray]; exact hzi) (Nat.zero_le _))
  rw [hgA]
  refine wpAny_bind (seqEpoch_at (s := { s with heap := gA }) hA1 rfl ?_)
  refine wpAny_bind (wpAny_newTuple ?_ (show its.toArray.toList.length ≤ _ from hzi))
  refine wpAny_bind (wpAny_newList ?_ (Nat.zero_le _))
  show wpAny _ A (holding _ _) _ _ { s with heap := (gA.push (seqObj "tuple" its.toArray 0)).push (seqObj "list" #[] 0) }
  rw [hgT]
  refine wpAny_holding ?_
  unfold ksk_rest
  refine wpAny_bind (wpAny_rule ?_)
  first
    | rw [List.forIn_toArray]
    | (rw [← Array.forIn_toList]; simp only [List.toList_toArray])
  refine wpAny_bind (ksk_fold (fun i s' => ∃ ks H', ks.length = i ∧ Mid X s H g.objs.size gT.objs.size n1 ks H' s' ∧ W ks H') its 0 _ ⟨[], H, rfl, start, w0⟩ ?step ?last)
  case step =>
    rintro j u s' hj ⟨ks, H', hlen, m, w⟩
    rw [Nat.zero_add] at hlen
    obtain ⟨x, hx, rx⟩ : ∃ x, xs[j]? = some x ∧ RelV x u := by
      have hl : j < xs.length := by
        have := (List.getElem?_eq_some_iff.mp hj).1
        omega
      obtain ⟨u', e1, e2⟩ := rv.get (List.getElem?_eq_getElem hl)
      rw [hj] at e1
      exact ⟨_, List.getElem?_eq_getElem hl, (Option.some.inj e1).symm ▸ e2⟩
    refine wpAny_bind (wpAny_attempt (wpAny_mono (hc (fun _ _ => False) pins σ H' s' x u _ (m.inv I) rx (turn ks H' x w (by rw [hlen]; exact hx))) (fun v s2 hv => ?_) fun _ _ z => z.elim))
    obtain ⟨y, H2, os, bare, un, hok, ry, w2⟩ := hv
    have zk : ks.length ≤ sizeLine := by
      have := (List.getElem?_eq_some_iff.mp hj).1
      omega
    refine wpAny_bind (m.more I oa ok hak fk os bare un hok ry zk fun s3 m3 => wpAny_pure ⟨rfl, ks ++ [y], H2, by rw [List.length_append, hlen]; simp, m3, w2⟩)
  case last =>
    rintro s' ⟨ks, H1, hlen, m, w⟩
    rw [Nat.zero_add] at hlen
    obtain ⟨ds, hd, hal, hsk, hdep, q⟩ := done ks H1 w (by omega)
    obtain ⟨kS, e, hk, rk⟩ := m.hk
    have I1 := m.inv I
    have eds := dpAll_len hd
    have eks : (ks.zip ds).map Prod.snd = ds := List.map_snd_zip (by omega)
    have exs : (xs.zip ds).map Prod.snd = ds := List.map_snd_zip (by omega)
    have rd : PySem.W.EachIs (fun u d => ∃ as, Reads s'.heap u d as) kS.toList ds := by
      have q1 := each_reads I1 rk hd
      rw [← eks]
      exact PySem.W.each_map Prod.snd q1
    have hsz : kS.size = its.length := by
      have e1 := rk.length
      have e2 : kS.toList.length = kS.size := Array.length_toList
      omega
    refine wpAny_bind (listItems_at hk rfl ?_)
    refine PySem.W.keyH_end (κ := PySem.W.dataKind s'.heap ds) (h₁ := PySem.W.hideAll s'.heap [gT.objs.size]) (fun b o _ z => PySem.W.of_hideAll _ z) (PySem.W.hideAll_none _ (by simp)) hk m.ha hak.symm
      (PySem.W.SortsAt.data rd hal hsk fun d hd' => by have := hdep d hd'; omega) hsz hzi fun h' tk c kp hout => ⟨rfl, ?_⟩
    have ko : PySem.W.KeyedOut false ((xs.zip ds).map Prod.snd) its (PySem.W.sortVals (PySem.W.dataKind s'.heap ds) false kS.toList its) := by
      rw [exs]
      exact ⟨s'.heap, kS.toList, hal, rfl, rd⟩
    have out := PySem.W.keyedOut_each (R := fun u (b : V × PyData) => RelV b.1 u) Prod.snd ko (each_zip rv (by omega))
    obtain ⟨un, hok⟩ := m.laid (h' := h') (o := .lst (((xs.zip ds).mergeSort (PySem.W.dataLe false Prod.snd)).map Prod.fst)) fa fk (fun b u e1 e2 e3 => kp b u e1 (PySem.W.hideAll_get _ e3 (by simpa using e2))) ⟨by
      rw [List.length_map, List.length_mergeSort, List.length_zip]
      omega, _, c, each_vals out, hout⟩
    exact ⟨.ref g.objs.size, _, I.call' (s' := { s' with heap := h', toks := tk }) m.os un hok m.bare (fun _ z => nomatch z), rfl, q _ Ha m.na⟩
theorem cr_sortedKeyF {f : Addr} (hc : Call1 X X.A.in1.in1 (.ref f) sp) (hu : X.A.units + 64 < cLine) : CallRK X (.builtin "sorted") [Str.ofString "key"] (rSortedKey X.K sp (.ref f)) := by
  intro pins s σ H vs zs us ws Q I r rz h
  obtain ⟨l, xs, rfl, rfl, hs, W, w0, turn, done⟩ := h
  obtain rfl := Vals.ref1 r
  obtain ⟨w1, rfl, e1⟩ := vals1 rz
  obtain rfl : w1 = Value.ref f := e1
  have at' : ∃ (T : String) (o : Obj) (its : List Value) (n : Nat), (T = "list" ∨ T = "tuple") ∧ s.heap.get? l = some o ∧ o.cls = .type T ∧ o.data = .seq its.toArray n ∧ Vals xs its ∧ xs.length ≤ sizeLine := by
    rcases hs with hs | hs
    · obtain ⟨its, rv, hl, hz⟩ := I.list hs
      obtain ⟨o, ho, hcl, n, hd⟩ := hl.isList
      exact ⟨"list", o, its, n, .inl rfl, ho, hcl, hd, rv, hz⟩
    · obtain ⟨its, rv, hl, hz⟩ := I.tuple hs
      obtain ⟨o, ho, hcl, n, hd⟩ := hl
      exact ⟨"tuple", o, its, n, .inr rfl, ho, hcl, hd, rv, hz⟩
  obtain ⟨T, o, its, n, hT, ho, hcl, hd, rv, hz⟩ := at'
  have el := rv.length
  have hzi : its.length ≤ sizeLine := by omega
  refine call_function_entry_kw kind_sorted plain_sorted entry_sorted (ksk_s1 _ _) ?_
  unfold Builtin.«sorted»
  refine wpAny_bind (m := checkCount "sorted" 1 1 _) (wpAny_pure ?_)
  refine wpAny_bind (wpAny_collect_seq l hT ho hcl hd (fun g kg => ?_) (by rw [List.size_toArray]; exact hzi))
  refine wpAny_bind (wpAny_newList ?_ hzi)
  refine wpAny_bind (wpAny_holding (wpAny_call_entry_kw slot_list_sort ⟨_, (Heap.get?_push_size g (o := seqObj "list" its.toArray 0) rfl), rfl⟩ entry_list_sort ?run (ksk_l1 _ _)))
  case run =>
    show wpAny (model X.prog X.w) X.A.in1.in1 (Builtin.«list.sort» ⟨[.ref g.objs.size], [(Str.ofString "key", .ref f)]⟩) _ _ _
    rw [ksk_t1]
    refine wpAny_mono (keyed_tree (s := s) hc (by show X.A.units + 2 + 62 < cLine; omega) I kg rv hz W w0 turn done) (fun r s' hr => ?_) fun _ _ e => e
    obtain ⟨rfl, q⟩ := hr
    exact ⟨_, rfl, wpAny_pure ⟨_, rfl, q⟩⟩
end
end L2

end PSK
section PMK
set_option maxHeartbeats 4000000
namespace L2
open PySem PySem.Spec PyProof.Rows
section
variable {X : Cx} {A : Around} {s s' s2 : Shared} {H H' H2 : Hp} {pins : List (Addr × Obj)} {σ : St}
/-- s' lies behind s: what was untracked stands -/
structure Mv (X : Cx) (s : Shared) (H H' : Hp) (s' : Shared) : Prop where
  os : s'.os = s.os
  bare : AllBare s'.gens
  un : Un (frs X.stack) [] H H' s.heap s'.heap
  hok : HOk X.prog X.w H' s'.heap
theorem Mv.inv (I : Inv X pins σ H s) (m : Mv X s H H' s') : Inv X pins σ H' s' := I.call' m.os m.un m.hok m.bare fun _ z => nomatch z
/-- an untracked object that wasn't there at s is changed -/
theorem Mv.touch {c : Addr} {h' : Heap} {tk : Nat} (m : Mv X s H H' s') (fc : s.heap.get? c = none) (nc : H' c = none) (k : ∀ b o, b ≠ c → s'.heap.get? b = some o → h'.get? b = some o) : Mv X s H H' { s' with heap := h', toks := tk } := by
  have off : ∀ {b : Addr} {u : Obj}, s.heap.get? b = some u → b ≠ c := fun {b u} e z => by
    rw [z, fc] at e
    cases e
  refine ⟨m.os, m.bare, ⟨fun b u e1 e2 e3 e4 => k b u (off e1) (m.un.keep b u e1 e2 e3 e4), fun b u e1 e2 e3 e4 => ?_, m.un.free, fun b u e1 e4 => ?_, m.un.tups, m.un.frzs, m.un.tbls⟩, fun b u e => ?_⟩
  · obtain ⟨sl, w⟩ := m.un.slot b u e1 e2 e3 e4
    exact ⟨sl, k b _ (off e1) w⟩
  · obtain ⟨u', w⟩ := m.un.there b u e1 e4
    exact ⟨u', k b _ (off e1) w⟩
  · refine (m.hok b u e).stay (fun d v hc r => k d v ?_ r) (fun _ r => r) fun _ _ r => r
    rintro rfl
    rcases hc with z | z
    · rw [← z, nc] at e
      cases e
    · rw [nc] at z
      cases z
/-- a call behind it -/
theorem Mv.step {v : Value} {Q : VK} (m : Mv X s H H' s') (h : CE X.stack X.prog X.w H' s' Q v s2) : ∃ y H2, RelV y v ∧ Q y H2 ∧ Mv X s H H2 s2 ∧
    (∀ b o, s'.heap.get? b = some o → H' b = none → b ∉ frs X.stack → s2.heap.get? b = some o) ∧ ∀ b o, s'.heap.get? b = some o → H' b = none → H2 b = none := by
  obtain ⟨y, H2, os, bare, un, hok, r, q⟩ := h
  exact ⟨y, H2, r, q, ⟨os.trans m.os, bare, m.un.trans un, hok⟩, fun b o e1 e2 e3 => un.keep b o e1 e2 e3 (by simp), fun b o e1 e2 => un.free b o e1 e2 (by simp)⟩
/-- an iterator at I over l: how it stands, how it turns -/
structure Goes (prog : Program) (w : World) (A : Around) (I l : Addr) (It : Nat → Heap → Prop) (Is : Array Value → Heap → Prop) : Prop where
  walk : ∀ its : Array Value, Walks prog w A I [I, l] [I] its.size (fun i v => its[i]? = some v) fun i h => It i h ∧ Is its h
  stay : ∀ i (h h' : Heap), It i h → (∀ o, h.get? I = some o → h'.get? I = some o) → It i h'
  there : ∀ i h, It i h → ∃ o, h.get? I = some o
theorem goes_list {prog : Program} {w : World} (hh : A.handled = none) (I l : Addr) (hne : l ≠ I) : Goes prog w A I l (fun i h => h.IsListIter I l i) (fun its h => h.IsList l its) :=
  ⟨fun its => Walks.list hh I l hne its, fun i h h' ⟨o, e, r⟩ k => ⟨o, k o e, r⟩, fun i h ⟨o, e, _⟩ => ⟨o, e⟩⟩
theorem goes_tuple {prog : Program} {w : World} (hh : A.handled = none) (I l : Addr) (hne : l ≠ I) : Goes prog w A I l (fun i h => h.IsTupleIter I l i) (fun its h => h.IsTuple l its) :=
  ⟨fun its => Walks.tuple hh I l hne its, fun i h h' ⟨o, e, r⟩ k => ⟨o, k o e, r⟩, fun i h ⟨o, e, _⟩ => ⟨o, e⟩⟩
/-- the least by a key so far -/
abbrev firstLt (dk : Nat → PyData) (n : Nat) : Nat := argBest (fun i j => PySem.W.dataLt (dk i) (dk j)) n
theorem firstLt_le (dk : Nat → PyData) : ∀ n, firstLt dk n ≤ n
  | 0 => Nat.le_refl _
  | n + 1 => by
    show (if _ = true then n + 1 else firstLt dk n) ≤ n + 1
    have := firstLt_le dk n
    split <;> omega
variable {f l it B : Addr} {It : Nat → Heap → Prop} {Is : Array Value → Heap → Prop} {sp : V → Hp → VK → Prop} {W : List V → Hp → Prop} {xs : List V} {dk : Nat → PyData} {R : Result → Shared → Prop}
/-- what the walk under way leans on -/
structure MinBy (X : Cx) (A : Around) (pins : List (Addr × Obj)) (σ : St) (s : Shared) (H : Hp) (f l it B : Addr) (It : Nat → Heap → Prop) (Is : Array Value → Heap → Prop) (sp : V → Hp → VK → Prop) (W : List V → Hp → Prop) (xs : List V) (dk : Nat → PyData) : Prop where
  inv : Inv X pins σ H s
  go : Goes X.prog X.w A it l It Is
  call : Call1 X A (.ref f) sp
  fi : s.heap.get? it = none
  fb : s.heap.get? B = none
  ne : it ≠ B
  ni : it ∉ frs X.stack
  nb : B ∉ frs X.stack
  room : A.units + 62 < cLine
  seq : ∀ ks H1 s1, W ks H1 → Inv X pins σ H1 s1 → ∃ its : List Value, Vals xs its ∧ Is its.toArray s1.heap
  turn : ∀ ks H1 x, W ks H1 → xs[ks.length]? = some x → sp x H1 fun y H2 => W (ks ++ [y]) H2
  keys : ∀ ks H1, W ks H1 → ∀ (i : Nat) y, ks[i]? = some y → Dp X.K H1 y (dk i)
  like : ∀ i j, i < xs.length → j < xs.length → PySem.W.alike (dk i) (dk j) = true ∧ dk i ≠ .none ∧ (dk i).depth ≤ 60
/-- between two turns -/
structure MinAt (X : Cx) (s : Shared) (H : Hp) (it B : Addr) (It : Nat → Heap → Prop) (W : List V → Hp → Prop) (ks : List V) (j : Nat) (bo : Obj) (H' : Hp) (s' : Shared) : Prop where
  mv : Mv X s H H' s'
  ni : H' it = none
  nb : H' B = none
  at' : It j s'.heap
  bo : s'.heap.get? B = some bo
  w : W ks H'
theorem MinAt.called {ks : List V} {j : Nat} {bo : Obj} {x : V} {u : Value} {Q : Value → Shared → Prop} {E : Value → Shared → Prop} (M : MinBy X A pins σ s H f l it B It Is sp W xs dk) (m : MinAt X s H it B It W ks j bo H' s') (hx : xs[ks.length]? = some x) (rx : RelV x u)
    (q : ∀ v s3 y H3, RelV y v → MinAt X s H it B It W (ks ++ [y]) j bo H3 s3 → Q v s3) : wpAny (model X.prog X.w) A (call (.ref f) [u]) Q E s' := by
  refine wpAny_mono (M.call E pins σ H' s' x u _ (m.mv.inv M.inv) rx (M.turn ks H' x m.w hx)) (fun v s3 hv => ?_) fun _ _ e => e
  obtain ⟨y, H3, ry, w3, m3, kp, fr⟩ := m.mv.step hv
  obtain ⟨oi, ei⟩ := M.go.there _ _ m.at'
  exact q v s3 y H3 ry ⟨m3, fr _ _ ei m.ni, fr _ _ m.bo m.nb, M.go.stay _ _ _ m.at' fun o e => kp _ o e m.ni M.ni, kp _ _ m.bo m.nb M.nb, w3⟩
theorem MinAt.write {ks : List V} {j : Nat} {xs0 ys : Array Value} {c : Nat} {g : Array Value → Array Value} (M : MinBy X A pins σ s H f l it B It Is sp W xs dk) (m : MinAt X s H it B It W ks j (seqObj "list" xs0 c) H' s') (hg : g xs0 = ys) {tk : Nat} :
    ∃ c2, MinAt X s H it B It W ks j (seqObj "list" ys c2) H' { s' with heap := s'.heap.update B (Obj.mapSeq g), toks := tk } := by
  have sb := Heap.SameBut.update s'.heap B (Obj.mapSeq g)
  have hb : s'.heap.get? B = some (seqObj "list" xs0 c) := m.bo
  obtain ⟨c2, hc2⟩ : ∃ c2, (s'.heap.update B (Obj.mapSeq g)).get? B = some (seqObj "list" (g xs0) c2) := ⟨_, get?_update_seq hb g⟩
  exact ⟨c2, m.mv.touch M.fb m.nb fun b o e1 e2 => (sb.2 b e1).trans e2, m.ni, m.nb, M.go.stay _ _ _ m.at' fun o e => (sb.2 it M.ne).trans e, hg ▸ hc2, m.w⟩
theorem MinAt.item {ks : List V} {j : Nat} {bo : Obj} {Q : Option Value → Shared → Prop} {E : Value → Shared → Prop} (M : MinBy X A pins σ s H f l it B It Is sp W xs dk) (m : MinAt X s H it B It W ks j bo H' s') (hj : j < xs.length)
    (q : ∀ v s3 x, xs[j]? = some x → RelV x v → MinAt X s H it B It W ks (j + 1) bo H' s3 → Q (some v) s3) : wpAny (model X.prog X.w) A (pyNext (.ref it)) Q E s' := by
  obtain ⟨its, rv, hs⟩ := M.seq ks H' s' m.w (m.mv.inv M.inv)
  have el := rv.length
  refine (M.go.walk its.toArray).item j s' Q E (by rw [List.size_toArray]; omega) ⟨m.at', hs⟩ fun v h' tk e1 e2 e3 => ?_
  have e1' : its[j]? = some v := by simpa using e1
  obtain ⟨u, q1, q2⟩ := rv.get (List.getElem?_eq_getElem hj)
  rw [e1'] at q1
  cases q1
  have kp : ∀ b o, b ≠ it → s'.heap.get? b = some o → h'.get? b = some o := fun b o z => e3 b o (by simpa using z)
  exact q _ _ _ (List.getElem?_eq_getElem hj) q2 ⟨m.mv.touch M.fi m.ni kp, m.ni, m.nb, e2.1, kp _ _ M.ne.symm m.bo, m.w⟩
theorem MinAt.last {ks : List V} {bo : Obj} {Q : Option Value → Shared → Prop} {E : Value → Shared → Prop} (M : MinBy X A pins σ s H f l it B It Is sp W xs dk) (m : MinAt X s H it B It W ks xs.length bo H' s')
    (q : ∀ s3, Mv X s H H' s3 → s3.heap.get? B = some bo → Q none s3) : wpAny (model X.prog X.w) A (pyNext (.ref it)) Q E s' := by
  obtain ⟨its, rv, hs⟩ := M.seq ks H' s' m.w (m.mv.inv M.inv)
  have el := rv.length
  have ez : its.toArray.size = xs.length := by
    rw [List.size_toArray]
    omega
  refine (M.go.walk its.toArray).done s' Q E ⟨ez ▸ m.at', hs⟩ fun h' tk e3 => ?_
  have kp : ∀ b o, b ≠ it → s'.heap.get? b = some o → h'.get? b = some o := fun b o z => e3 b o (by simpa using z)
  exact q _ (m.mv.touch M.fi m.ni kp) (kp _ _ M.ne.symm m.bo)
theorem MinAt.less {ks : List V} {j i i' : Nat} {bo : Obj} {y y' : V} {u u' : Value} {Q : Value → Shared → Prop} {E : Value → Shared → Prop} (M : MinBy X A pins σ s H f l it B It Is sp W xs dk) (m : MinAt X s H it B It W ks j bo H' s')
    (h1 : ks[i]? = some y) (h2 : ks[i']? = some y') (r1 : RelV y u) (r2 : RelV y' u') (hz : ks.length ≤ xs.length) (q : Q (.bool (PySem.W.dataLt (dk i) (dk i'))) s') : wpAny (model X.prog X.w) A (richCompare .Lt u u') Q E s' := by
  have I1 := m.mv.inv M.inv
  obtain ⟨as, w1⟩ := Dp.reads I1 _ _ _ (M.keys ks H' m.w i y h1) r1
  obtain ⟨bs, w2⟩ := Dp.reads I1 _ _ _ (M.keys ks H' m.w i' y' h2) r2
  have l1 := (List.getElem?_eq_some_iff.mp h1).1
  have l2 := (List.getElem?_eq_some_iff.mp h2).1
  obtain ⟨a1, a2, a3⟩ := M.like i i' (by omega) (by omega)
  have hr := M.room
  exact PySem.W.rcLt_alike _ _ A s' u u' _ _ w1 w2 a1 a2 (by omega) X.prog X.w E Q q
/-- the turns behind the first one -/
theorem min_turns {A0 : Around} {kw : List (Str × Value)} (M : MinBy X A0.in1 pins σ s H f l it B It Is sp W xs dk)
    (hR : ∀ ks H3 s3 x v, W ks H3 → ks.length = xs.length → xs[firstLt dk (xs.length - 1)]? = some x → RelV x v → Mv X s H H3 s3 → R (.ok (.ret v)) s3) :
    ∀ (r : Nat) (ks : List V) (H' : Hp) (s' : Shared) (vb kb : Value) (c : Nat) (xb yb : V), xs.length - ks.length = r → 0 < ks.length → ks.length ≤ xs.length → MinAt X s H it B It W ks ks.length (seqObj "list" #[vb, kb] c) H' s' →
      xs[firstLt dk (ks.length - 1)]? = some xb → RelV xb vb → ks[firstLt dk (ks.length - 1)]? = some yb → RelV yb kb →
      codeAny (model X.prog X.w) A0 (.builtin "min.loop" ⟨[.ref it, .ref f, .ref B], kw⟩) R s' := by
  have nm : (toString "min" ++ toString ".loop" : String) = "min.loop" := by decide
  intro r
  induction r with
  | zero =>
    intro ks H' s' vb kb c xb yb hr h0 hle m hx rx hy ry
    have e : ks.length = xs.length := by omega
    refine codeAny_builtin PySem.F.entry_min_loop ?_
    rw [Around.under_plainId PySem.F.plain_min_loop _]
    refine wpAny_bind (m := seqItems? (.ref B)) (wpAny_seqItems m.bo rfl ?_)
    refine wpAny_bind (m := tryCatch (pyNext (.ref it)) _) (wpAny_tryCatch (MinAt.last M (e ▸ m) fun s3 m3 hb => ?_))
    refine wpAny_bind (m := updateSeq B fun _ => #[]) ?_
    refine wpAny_updateSeq hb rfl (wpAny_bind (wpAny_letGo (wpAny_pure ?_)))
    have sb := Heap.SameBut.update s3.heap B (Obj.mapSeq fun _ => (#[] : Array Value))
    exact hR ks H' _ xb vb m.w e (by rw [← e]; exact hx) rx (m3.touch M.fb m.nb fun b o e1 e2 => (sb.2 b e1).trans e2)
  | succ r ih =>
    intro ks H' s' vb kb c xb yb hr h0 hle m hx rx hy ry
    have hlt : ks.length < xs.length := by omega
    refine codeAny_builtin PySem.F.entry_min_loop ?_
    rw [Around.under_plainId PySem.F.plain_min_loop _]
    refine wpAny_bind (m := seqItems? (.ref B)) (wpAny_seqItems m.bo rfl ?_)
    refine wpAny_bind (m := tryCatch (pyNext (.ref it)) _) (wpAny_tryCatch (MinAt.item M m hlt fun v s1 x e1 r1 m1 => ?_))
    refine wpAny_bind (m := tryCatch (holding [v] (call (.ref f) [v])) _) (wpAny_tryCatch (wpAny_holding (MinAt.called M m1 e1 r1 fun kx s2 y H2 ry2 m2 => ?_)))
    have ly : (ks ++ [y])[ks.length]? = some y := by simp
    have lb : (ks ++ [y])[firstLt dk (ks.length - 1)]? = some yb := by
      have := (List.getElem?_eq_some_iff.mp hy).1
      rw [List.getElem?_append_left this]
      exact hy
    have lz : (ks ++ [y]).length = ks.length + 1 := by simp
    refine wpAny_bind (m := tryCatch (holding [v, kx] (richCompare .Lt kx kb >>= _)) _) (wpAny_tryCatch (wpAny_holding (wpAny_bind (MinAt.less M m2 ly lb ry2 ry (by rw [lz]; omega) ?_))))
    refine wpAny_bind (wpAny_holding (wpAny_truthy_bool ?_))
    refine wpAny_bind (wpAny_letGo (wpAny_pure ?_))
    have es : firstLt dk ((ks ++ [y]).length - 1) = if PySem.W.dataLt (dk ks.length) (dk (firstLt dk (ks.length - 1))) = true then ks.length else firstLt dk (ks.length - 1) := by
      obtain ⟨n, hn⟩ : ∃ n, ks.length = n + 1 := ⟨ks.length - 1, by omega⟩
      rw [lz, hn]
      rfl
    cases hb : PySem.W.dataLt (dk ks.length) (dk (firstLt dk (ks.length - 1))) with
    | true =>
      rw [hb, if_pos rfl] at es
      simp only [if_true]
      refine wpAny_bind ?_
      refine wpAny_updateSeq m2.bo rfl (wpAny_bind (wpAny_letGo ?_))
      rw [nm]
      obtain ⟨c2, m4⟩ := MinAt.write (g := fun _ => #[v, kx]) (tk := s2.toks) M m2 rfl
      exact wpAny_pure ⟨plainId_quiet PySem.F.plain_min_loop _, ih (ks ++ [y]) H2 _ v kx c2 x y (by rw [lz]; omega) (by rw [lz]; omega) (by rw [lz]; omega) (by rw [lz]; exact m4) (by rw [es]; exact e1) r1 (by rw [es]; exact ly) ry2⟩
    | false =>
      rw [hb, if_neg (by simp)] at es
      simp only [Bool.false_eq_true, if_false]
      refine wpAny_bind (wpAny_letGo ?_)
      rw [nm]
      exact wpAny_pure ⟨plainId_quiet PySem.F.plain_min_loop _, ih (ks ++ [y]) H2 _ vb kb c xb yb (by rw [lz]; omega) (by rw [lz]; omega) (by rw [lz]; omega) (by rw [lz]; exact m2) (by rw [es]; exact hx) rx (by rw [es]; exact lb) ry⟩
/-- all of it -/
theorem min_loop {A0 : Around} {kn : Str} {d : Value} {bo : Nat} (M : MinBy X A0.in1 pins σ s H f l it B It Is sp W xs dk) (m : MinAt X s H it B It W [] 0 (seqObj "list" #[] bo) H' s')
    (h0 : ∀ s3, xs.length = 0 → Mv X s H H' s3 → R (.ok (.ret d)) s3)
    (hR : ∀ ks H3 s3 x v, W ks H3 → ks.length = xs.length → xs[firstLt dk (xs.length - 1)]? = some x → RelV x v → Mv X s H H3 s3 → R (.ok (.ret v)) s3) :
    codeAny (model X.prog X.w) A0 (.builtin "min.loop" ⟨[.ref it, .ref f, .ref B], [(kn, d)]⟩) R s' := by
  have nm : (toString "min" ++ toString ".loop" : String) = "min.loop" := by decide
  rcases Nat.eq_zero_or_pos xs.length with hn | hn
  · refine codeAny_builtin PySem.F.entry_min_loop ?_
    rw [Around.under_plainId PySem.F.plain_min_loop _]
    refine wpAny_bind (m := seqItems? (.ref B)) (wpAny_seqItems m.bo rfl ?_)
    refine wpAny_bind (m := tryCatch (pyNext (.ref it)) _) (wpAny_tryCatch (MinAt.last M (hn ▸ m) fun s3 m3 hb => ?_))
    exact wpAny_bind (wpAny_rule (wpAny_pure (h0 s3 hn m3)))
  · refine codeAny_builtin PySem.F.entry_min_loop ?_
    rw [Around.under_plainId PySem.F.plain_min_loop _]
    refine wpAny_bind (m := seqItems? (.ref B)) (wpAny_seqItems m.bo rfl ?_)
    refine wpAny_bind (m := tryCatch (pyNext (.ref it)) _) (wpAny_tryCatch (MinAt.item M m hn fun v s1 x e1 r1 m1 => ?_))
    refine wpAny_bind (m := tryCatch (holding [v] (call (.ref f) [v])) _) (wpAny_tryCatch (wpAny_holding (MinAt.called M m1 e1 r1 fun kx s2 y H2 ry2 m2 => ?_)))
    refine wpAny_bind (m := updateSeq B fun _ => #[v, kx]) ?_
    refine wpAny_updateSeq m2.bo rfl ?_
    rw [nm]
    obtain ⟨c2, m4⟩ := MinAt.write (g := fun _ => #[v, kx]) (tk := s2.toks) M m2 rfl
    exact wpAny_pure ⟨plainId_quiet PySem.F.plain_min_loop _, min_turns M hR _ ([] ++ [y]) H2 _ v kx c2 x y rfl (by simp) (by show 1 ≤ xs.length; omega) m4 e1 r1 rfl ry2⟩
/-- min(xs, key=f, default=d): dk is what the keys read as -/
def rMinKey (K : PySem.W.Frag) (sp : V → Hp → VK → Prop) (fx : V) : List V → List V → Hp → VK → Prop := fun vs zs H Q => ∃ (l : Addr) (xs : List V) (d : V) (dk : Nat → PyData) (W : List V → Hp → Prop), vs = [V.ref l] ∧ zs = [fx, d] ∧
  W [] H ∧ ((∀ ks H1, W ks H1 → SqL K H1 l xs) ∨ ∀ ks H1, W ks H1 → SqT K H1 l xs) ∧ (∀ ks H1 x, W ks H1 → xs[ks.length]? = some x → sp x H1 fun y H2 => W (ks ++ [y]) H2) ∧
  (∀ ks H1, W ks H1 → ∀ (i : Nat) y, ks[i]? = some y → Dp K H1 y (dk i)) ∧ (∀ i j, i < xs.length → j < xs.length → PySem.W.alike (dk i) (dk j) = true ∧ dk i ≠ .none ∧ (dk i).depth ≤ 60) ∧
  (xs.length = 0 → Q d H) ∧ ∀ ks H1 x, W ks H1 → ks.length = xs.length → xs[firstLt dk (xs.length - 1)]? = some x → Q x H1
theorem min_tree {q l : Addr} {d : Value} {Q : Value → Shared → Prop} {E : Value → Shared → Prop} {prog : Program} {w : World}
    (h : wpAny (model prog w) A.in1 (pyIter (.ref l)) (fun i s₂ => ∃ it, i = .ref it ∧ codeAny (model prog w) A (.builtin "min.loop" ⟨[.ref it, .ref q, .ref s₂.heap.objs.size], [(Str.ofString "default", d)]⟩) (fun r s' => match r with
      | .ok (.ret v) => Q v s'
      | .ok _ => False
      | .error e => E e s') { s₂ with heap := s₂.heap.push (seqObj "list" #[] 0) }) E s) : wpAny (model prog w) A (call (.builtin "min") [.ref l] [(Str.ofString "key", .ref q), (Str.ofString "default", d)]) Q E s := by
  have nm : (toString "min" ++ toString ".loop" : String) = "min.loop" := by decide
  refine kmk_tree PySem.F.kind_min PySem.F.plain_min PySem.F.entry_min (args_min_key_default (.ref l) (.ref q) d) ?_
  refine wpAny_bind (m := Builtin.Builtins.bindParams "min" ["key", "default"] 0 ⟨[], [(Str.ofString "key", .ref q), (Str.ofString "default", d)]⟩)
    (wpAny_of_eq (show Builtin.Builtins.bindParams "min" ["key", "default"] 0 ⟨[], [(Str.ofString "key", .ref q), (Str.ofString "default", d)]⟩ = pure [some (.ref q), some d] from rfl) ?_)
  refine wpAny_bind (wpAny_pure ?_)
  refine wpAny_bind (wpAny_mono h (fun i s₂ hi => ?_) fun _ _ e => e)
  obtain ⟨it, rfl, hc⟩ := hi
  refine wpAny_bind (wpAny_newObj_type ?_)
  rw [nm]
  exact wpAny_pure ⟨plainId_quiet PySem.F.plain_min_loop _, hc⟩
theorem cr_minKey (hcalm : X.calm = true) (hc : Call1 X X.A.in1 (.ref f) sp) (hu : X.A.units + 64 < cLine) : CallRK X (.builtin "min") [Str.ofString "key", Str.ofString "default"] (rMinKey X.K sp (.ref f)) := by
  intro pins s σ H vs zs us ws Q I r rz h
  obtain ⟨l, xs, d, dk, W, rfl, rfl, w0, hs, turn, keys, like, q0, q1⟩ := h
  obtain rfl := Vals.ref1 r
  obtain ⟨w1, w2, rfl, e1, rd⟩ := vals2 rz
  obtain rfl : w1 = Value.ref f := e1
  have off : ∀ {c : Addr} {h : Heap}, (∀ b o, s.heap.get? b = some o → h.get? b = some o) → h.objs.size ≤ c → c ∉ frs X.stack ∧ H c = none ∧ s.heap.get? c = none := fun {c h} k hc => by
    have Ih : Inv X pins σ H { s with heap := h, toks := s.toks } := I.kept k
    refine ⟨fun z => ?_, Ih.hok.fresh hc, ?_⟩
    · rcases List.mem_cons.mp (Ih.stkSub c z) with e | e
      · exact absurd (Nat.lt_of_lt_of_le Ih.lt hc) (by rw [e]; exact Nat.lt_irrefl _)
      · exact Ih.nofs hc e
    · cases e : s.heap.get? c with
      | none => rfl
      | some o => exact absurd (Nat.lt_of_lt_of_le (Heap.lt_size (k _ _ e)) hc) (Nat.lt_irrefl _)
  have fin : ∀ (It : Nat → Heap → Prop) (Is : Array Value → Heap → Prop) (g : Heap), Goes X.prog X.w X.A.in1 s.heap.objs.size l It Is → (∀ b o, s.heap.get? b = some o → g.get? b = some o) → s.heap.objs.size < g.objs.size → It 0 g →
      (∀ ks H1 s1, W ks H1 → Inv X pins σ H1 s1 → ∃ its : List Value, Vals xs its ∧ Is its.toArray s1.heap) →
      codeAny (model X.prog X.w) X.A (.builtin "min.loop" ⟨[.ref s.heap.objs.size, .ref f, .ref g.objs.size], [(Str.ofString "default", w2)]⟩) (fun r s' => match r with
        | .ok (.ret v) => EP X pins σ Q v s'
        | .ok _ => False
        | .error e => X.xe e s') { s with heap := g.push (seqObj "list" #[] 0) } := fun It Is g go kg hlt h0 seq => by
    obtain ⟨oi, Hi, fi⟩ := off (c := s.heap.objs.size) (h := s.heap) (fun _ _ e => e) (Nat.le_refl _)
    obtain ⟨ob, Hb, fb⟩ := off (c := g.objs.size) kg (Nat.le_refl _)
    have kp : ∀ b o, s.heap.get? b = some o → (g.push (seqObj "list" #[] 0)).get? b = some o := fun b o e => Heap.get?_push_of_some _ (kg b o e)
    have M : MinBy X X.A.in1 pins σ s H f l s.heap.objs.size g.objs.size It Is sp W xs dk := ⟨I, go, hc, fi, fb, Nat.ne_of_lt hlt, oi, ob, by show X.A.units + 1 + 62 < cLine; omega, seq, turn, keys, like⟩
    refine min_loop M (H' := H) (bo := 0) ⟨⟨rfl, I.bare, Un.kept kp, I.hok.kept kp⟩, Hi, Hb, go.stay _ _ _ h0 fun o e => Heap.get?_push_of_some _ e, Heap.get?_push_size _ rfl, w0⟩ (fun s3 e m => ?_) fun ks H3 s3 x v w e ex rx m => ?_
    · exact ⟨d, H, m.inv I, rd, q0 e⟩
    · exact ⟨x, H3, m.inv I, rx, q1 ks H3 x w e ex⟩
  have hh : X.A.in1.handled = none := I.ok.hd hcalm
  have ne : ∀ {o : Obj}, s.heap.get? l = some o → l ≠ s.heap.objs.size := fun {o} e => Nat.ne_of_lt (Heap.lt_size e)
  refine min_tree ?_
  rcases hs with hs | hs
  · obtain ⟨its, rv, hl, hz⟩ := I.list (hs [] H w0)
    obtain ⟨o, ho, _⟩ := hl.isList
    refine wpAny_pyIter_list hl.isList ⟨_, rfl, ?_⟩
    refine fin _ _ (s.heap.push { cls := .type "list_iterator", data := .fields #[.ref l, .int 0 0] }) (goes_list hh s.heap.objs.size l (ne ho)) (fun b o e => Heap.get?_push_of_some _ e) (Nat.lt_of_lt_of_eq (Nat.lt_succ_self _) (size_push' s.heap _).symm) ⟨_, Heap.get?_push_size _ rfl, rfl, rfl⟩ fun ks H1 s1 w I1 => ?_
    obtain ⟨its1, rv1, hl1, _⟩ := I1.list (hs ks H1 w)
    exact ⟨its1, rv1, hl1.isList⟩
  · obtain ⟨its, rv, hl, hz⟩ := I.tuple (hs [] H w0)
    obtain ⟨o, ho, _⟩ := id hl
    refine wpAny_pyIter_tuple (show s.heap.IsTuple l its.toArray from hl) ?_
    refine ⟨_, rfl, ?_⟩
    refine fin _ _ (s.heap.push { cls := .type "tuple_iterator", data := .fields #[.ref l, .int 0 0] }) (goes_tuple hh s.heap.objs.size l (ne ho)) (fun b o e => Heap.get?_push_of_some _ e) (Nat.lt_of_lt_of_eq (Nat.lt_succ_self _) (size_push' s.heap _).symm) ⟨_, Heap.get?_push_size _ rfl, rfl, rfl⟩ fun ks H1 s1 w I1 => ?_
    obtain ⟨its1, rv1, hl1, _⟩ := I1.tuple (hs ks H1 w)
    exact ⟨its1, rv1, hl1⟩
end
end L2

end PMK
section Ps8E
set_option maxHeartbeats 4000000
namespace S8
open PySem PySem.Spec L2 PyProof.Rows Sm
/-! ### either kind; stretches of numbers -/
abbrev s_kind_of : Stmt := top 13
abbrev s_natural : Stmt := top 14
abbrev s_is_stretch : Stmt := top 22
abbrev s_is_within : Stmt := top 23
abbrev s_is_stt : Stmt := top 24
abbrev s_merged : Stmt := top 25
abbrev s_place : Stmt := top 26
abbrev s_reaches : Stmt := top 27
abbrev s_later : Stmt := top 28
abbrev s_nearest : Stmt := top 31
abbrev s_text_at : Stmt := top 32
/-- another writing of the local names; at the body's last statement too -/
theorem normS {t u : TS} {D : Ends} {σ σ' : L2.St} {H : Hp} (e : σ = σ') (h : tSeq t u D σ' H) : tSeq t u D σ H := e ▸ h
theorem normL {t : TS} {D : Ends} {σ σ' : L2.St} {H : Hp} (e : σ = σ') (h : t D σ' H) : t D σ H := e ▸ h
def oV : Option Int → V
  | none => .non
  | some i => .int i
theorem oV_inj {a b : Option Int} (h : oV a = oV b) : a = b := by
  cases a <;> cases b <;> first | rfl | (cases h; done) | (cases h; rfl)
theorem oV_dec {a b : Option Int} : decide (oV a = oV b) = decide (a = b) := by
  by_cases h : a = b
  · rw [h, decide_eq_true rfl, decide_eq_true rfl]
  · rw [decide_eq_false h, decide_eq_false fun e => h (oV_inj e)]
theorem oV_none {a : Option Int} : decide (oV a = V.non) = decide (a = none) := oV_dec (b := none)
theorem oV_some {x : Int} : decide (oV (some x) = V.non) = false := decide_eq_false fun z => nomatch z
theorem oV_non : decide (oV none = V.non) = true := decide_eq_true rfl
def SwAt (H : Hp) (t : Addr) (p : St2) : Prop := H t = some (.tup [oV p.1, oV p.2])
/-- stretches in a list or a tuple at L -/
def SwsAt (H : Hp) (L : Addr) (l : List St2) : Prop := ∃ ts : List Addr, (H L = some (.lst (ts.map V.ref)) ∨ H L = some (.tup (ts.map V.ref))) ∧ Paired (SwAt H) ts l
theorem paired_at {α β : Type} {R : α → β → Prop} : ∀ {xs : List α} {ys : List β} {i : Nat} {y : β}, Paired R xs ys → ys[i]? = some y → ∃ x, xs[i]? = some x ∧ R x y
  | x :: xs, y :: ys, 0, z, .cons h _, e => by
    cases (Option.some.inj e)
    exact ⟨_, rfl, h⟩
  | x :: xs, y :: ys, i + 1, z, .cons _ t, e => paired_at (xs := xs) (ys := ys) (i := i) t e
  | [], [], _, _, .nil, e => nomatch e
theorem SwAt.same {H H' : Hp} {t : Addr} {p : St2} (s : Same H H') (h : SwAt H t p) : SwAt H' t p := s _ _ h
theorem SwsAt.same {H H' : Hp} {L : Addr} {l : List St2} (s : Same H H') (h : SwsAt H L l) : SwsAt H' L l := by
  obtain ⟨ts, a, b⟩ := h
  exact ⟨ts, a.imp (s _ _) (s _ _), b.mono fun t p e => s _ _ e⟩
theorem SwsAt.len {H : Hp} {L : Addr} {l : List St2} {K : PySem.W.Frag} (h : SwsAt H L l) : ∃ xs : List V, (SqL K H L xs ∨ SqT K H L xs) ∧ xs.length = l.length := by
  obtain ⟨ts, a, b⟩ := h
  exact ⟨ts.map V.ref, a.imp SqL.of SqT.of, by rw [List.length_map, b.length]⟩
def spKind : Sp := fun vs H Q _ => ∃ z : Str, vs = [.str z] ∧ (z = "text" ∨ z = "number") ∧ ∀ H', Same H H' → Q (.bl true) H'
/-- a number or none -/
def NumV (K : PySem.W.Frag) (H : Hp) (x : V) (b : Bool) : Prop := ∃ (t : Value) (b1 b2 : Bool), TyX K H x t ∧ PySem.W.kitOne K t (.type "int") = some b1 ∧ PySem.W.kitOne K t (.type "bool") = some b2 ∧ b = (b1 && !b2)
theorem numV_int {K : PySem.W.Frag} {H : Hp} (i : Int) : NumV K H (.int i) true :=
  ⟨.type "int", true, false, .base (.int i), kit_ty (show kitB "int" "int" = some true by decide +kernel), kit_ty (show kitB "int" "bool" = some false by decide +kernel), rfl⟩
theorem numV_same {K : PySem.W.Frag} {H H' : Hp} {x : V} {b : Bool} (s : Same H H') (h : NumV K H x b) : NumV K H' x b := by
  obtain ⟨t, b1, b2, a, r⟩ := h
  exact ⟨t, b1, b2, tyx_same s a, r⟩
theorem NumV.sp {K : PySem.W.Frag} {H : Hp} {x : V} {b : Bool} {Q : VK} {E : XK} (h : NumV K H x b) (q : ∀ H', Same H H' → Q (.bl b) H') : spIsNumber K [x] H Q E := by
  obtain ⟨t, b1, b2, a, k1, k2, rfl⟩ := h
  exact ⟨x, t, b1, b2, rfl, a, k1, k2, q⟩
/-- is x a value of this kind -/
inductive ValV (K : PySem.W.Frag) (H : Hp) : V → Str → Bool → Prop
  | num {x : V} {b : Bool} : NumV K H x b → ValV K H x "number" b
  | txt {x : V} : AsStr K H x → (∀ z, x = .str z → z.length ≤ sizeLine) → ValV K H x "text" (isWd x 12)
theorem ValV.same {K : PySem.W.Frag} {H H' : Hp} {x : V} {z : Str} {b : Bool} (s : Same H H') (h : ValV K H x z b) : ValV K H' x z b := by
  cases h with
  | num h => exact .num (numV_same s h)
  | txt h l => exact .txt (asStr_same s h) l
def spValue (K : PySem.W.Frag) : Sp := fun vs H Q _ => ∃ (x : V) (z : Str) (b : Bool), vs = [x, .str z] ∧ ValV K H x z b ∧ ∀ H', Same H H' → Q (.bl b) H'
def spStretch : Sp := fun vs H Q _ => ∃ a b : Option Int, vs = [oV a, oV b] ∧ okS (a, b) ∧ ∀ H', Same H H' → Q (.bl true) H'
def spWithin : Sp := fun vs H Q _ => ∃ (v : Int) (a b : Option Int), vs = [.int v, oV a, oV b] ∧ Q (.bl (inS (a, b) v)) H
def spStt : Sp := fun vs H Q _ => ∃ (t : Addr) (p : St2), vs = [.ref t] ∧ SwAt H t p ∧ okS p ∧ ∀ H', Same H H' → Q (.bl true) H'
def spReaches : Sp := fun vs H Q _ => ∃ a b : Option Int, vs = [oV a, oV b] ∧ Q (.bl (reachB a b)) H
def spLater : Sp := fun vs H Q _ => ∃ a b : Option Int, vs = [oV a, oV b] ∧ Q (oV (laterO a b)) H
def spPlace : Sp := fun vs H Q _ => ∃ (t : Addr) (p : St2), vs = [.ref t] ∧ SwAt H t p ∧ ∀ u, H u = none → Q (.ref u) (upd H u (.tup [.int (placeV p.1).1, .int (placeV p.1).2]))
def spNearest : Sp := fun vs H Q _ => ∃ a b : Option Int, vs = [oV a, oV b] ∧ Q (.int (nearS (a, b))) H
theorem sc_stretch : FnScope ["first", "last"] ["first", "last"] (defScope s_is_stretch) := ⟨rfl, rfl, rfl, by decide +kernel, rfl, by decide +kernel, by decide +kernel⟩
theorem sc_within : FnScope ["value", "first", "last"] ["value", "first", "last"] (defScope s_is_within) := ⟨rfl, rfl, rfl, by decide +kernel, rfl, by decide +kernel, by decide +kernel⟩
theorem sc_stt : FnScope ["value"] ["value"] (defScope s_is_stt) := ⟨rfl, rfl, rfl, by decide +kernel, rfl, by decide +kernel, by decide +kernel⟩
theorem sc_reaches : FnScope ["last", "first"] ["last", "first"] (defScope s_reaches) := ⟨rfl, rfl, rfl, by decide +kernel, rfl, by decide +kernel, by decide +kernel⟩
theorem sc_later : FnScope ["one", "other"] ["one", "other"] (defScope s_later) := ⟨rfl, rfl, rfl, by decide +kernel, rfl, by decide +kernel, by decide +kernel⟩
theorem sc_place : FnScope ["stretch", "first"] ["stretch"] (defScope s_place) := ⟨rfl, rfl, rfl, by decide +kernel, rfl, by decide +kernel, by decide +kernel⟩
theorem sc_nearest : FnScope ["first", "last"] ["first", "last"] (defScope s_nearest) := ⟨rfl, rfl, rfl, by decide +kernel, rfl, by decide +kernel, by decide +kernel⟩
section
variable {P : Program} {w : World} {K : PySem.W.Frag} {mg : Str → Option Value} {base : Heap} {f fN fS : Addr} {fd dN dS : FuncData}
theorem ok_kind (F : FD K "is_kind" s_is_kind f fd) (T : TW mg) (ks : PySem.W.kitOne K (.type "str") (.type "str") = some true) : FnOk P w K mg base CX0 1 f fd ["value"] spKind := by
  refine F.ok sc_is_kind (fun vs H Q E h => ?_) (fun cdv A outer s H vs Q E hr h => ?_)
  · obtain ⟨z, rfl, _⟩ := h
    rfl
  obtain ⟨z, rfl, hz, q⟩ := h
  refine ⟨_, PSs.nox (pss_one (ps_ret (pe_and (pe_callB call_isi (by rfl) T.isi boot_isi (pa_cons (pv 0) (pa_cons (pe_bltn (v := .ty "str") (by rfl) T.str (by decide +kernel) rfl) pa_nil))) (pe_one (pe_cmpR op_in_seq (pv 0) (pe_tup (pa_cons pe_str (pa_cons pe_str pa_nil))) (by rfl)))))), ?_⟩
  refine ⟨_, rfl, .str z, .ty "str", .type "str", _, _, rfl, .ty _, .base (.str _), ks, true, rfl, ?_⟩
  refine (show (if true = true then _ else _) from ?_)
  rw [if_pos rfl]
  refine ⟨_, rfl, by show 2 ≤ sizeLine; decide, fun p hp => ?_⟩
  rcases hz with rfl | rfl
  · exact ⟨p, _, rfl, .inr (SqT.of upd_same), rfl, rfl, q _ (same_upd hp)⟩
  · exact ⟨p, _, rfl, .inr (SqT.of upd_same), rfl, rfl, q _ (same_upd hp)⟩
structure Kw (P : Program) (w : World) (K : PySem.W.Frag) (mg : Str → Option Value) (base : Heap) (fN fW fK : Addr) (dN dW dK : FuncData) : Prop where
  n : Kn P w K mg base 1 "is_number" fN dN ["value"] (spIsNumber K)
  wo : Kn P w K mg base 1 "is_word" fW dW ["value", "most"] (spIsWord K)
  k : Kn P w K mg base 1 "is_kind" fK dK ["value"] spKind
  m : ∃ t, mg "TEXT_LENGTH" = some (.int 12 t)
theorem ok_value {fW fK : Addr} {dW dK : FuncData} (F : FD K "is_value" s_is_value f fd) (W : Kw P w K mg base fN fW fK dN dW dK) : FnOk P w K mg base CX0 2 f fd ["value", "kind"] (spValue K) := by
  refine F.ok sc_is_value (fun vs H Q E h => ?_) (fun cdv A outer s H vs Q E hr h => ?_)
  · obtain ⟨x, z, b, rfl, _⟩ := h
    rfl
  obtain ⟨x, z, b, rfl, hv, q⟩ := h
  obtain ⟨t, ht⟩ := W.m
  refine ⟨_, PSs.nox (pss_cons (ps_if (pt_not (pt_val (pe_call W.k.f hr rfl W.k.m W.k.k W.k.b .nil pass0 (pa_cons (pv 1) pa_nil)))) (pss_one (ps_ret pe_bl)) pss_nil)
    (pss_cons (ps_if (pt_cmpR op_eq (pv 1) pe_str (nomark _)) (pss_one (ps_ret (pe_call W.n.f hr rfl W.n.m W.n.k W.n.b .nil pass0 (pa_cons (pv 0) pa_nil)))) pss_nil)
    (pss_one (ps_ret (pe_call W.wo.f hr rfl W.wo.m W.wo.k W.wo.b .nil pass0 (pa_cons (pv 0) (pa_cons (pe_glob (v := .int 12) (by rfl) ht ⟨t, rfl⟩) pa_nil))))))), ?_⟩
  refine ⟨_, rfl, z, rfl, (by cases hv with
    | num _ => exact .inr rfl
    | txt _ _ => exact .inl rfl), fun H1 s1 => ⟨true, rfl, ?_⟩⟩
  refine (show (if (!true) = true then _ else _) from ?_)
  rw [if_neg (by decide)]
  refine ⟨_, rfl, rfl, ?_⟩
  cases hv with
  | num hn =>
    have e : decide (V.str "number" = V.str "number") = true := decide_eq_true rfl
    refine ⟨_, rfl, ?_⟩
    rw [e]
    refine (show (if true = true then _ else _) from ?_)
    rw [if_pos rfl]
    exact ⟨_, rfl, (numV_same s1 hn).sp (E := E0) fun H2 s2 => q H2 (s1.trans s2)⟩
  | txt hx hz =>
    have e : decide (V.str "text" = V.str "number") = false := by decide +kernel
    refine ⟨_, rfl, ?_⟩
    rw [e]
    refine (show (if false = true then _ else _) from ?_)
    rw [if_neg (by decide)]
    exact ⟨_, rfl, x, 12, rfl, by decide, asStr_same s1 hx, hz, fun H2 s2 => q H2 (s1.trans s2)⟩
theorem ok_stretch (F : FD K "is_stretch" s_is_stretch f fd) (N : Kn P w K mg base 1 "is_number" fN dN ["value"] (spIsNumber K)) : FnOk P w K mg base CX0 2 f fd ["first", "last"] spStretch := by
  refine F.ok sc_stretch (fun vs H Q E h => ?_) (fun cdv A outer s H vs Q E hr h => ?_)
  · obtain ⟨a, b, rfl, _⟩ := h
    rfl
  obtain ⟨a, b, rfl, hab, q⟩ := h
  refine ⟨_, PSs.nox (pss_cons (ps_if (pt_cmp (pc_isN (pv 0)) rfl) (pss_one (ps_ret (pe_or (pe_cmp (pc_isN (pv 1)) rfl) (pe_one (pe_call N.f hr rfl N.m N.k N.b .nil pass0 (pa_cons (pv 1) pa_nil)))))) pss_nil)
    (pss_one (ps_ret (pe_and (pe_call N.f hr rfl N.m N.k N.b .nil pass0 (pa_cons (pv 0) pa_nil)) (pe_one (pe_or (pe_cmp (pc_isN (pv 1)) rfl) (pe_one (pe_and (pe_call N.f hr rfl N.m N.k N.b .nil pass0 (pa_cons (pv 1) pa_nil)) (pe_one (pe_cmpR op_le (pv 0) (pv 1) (nomark _))))))))))), ?_⟩
  cases a with
  | none =>
    refine ⟨_, rfl, _, rfl, ?_⟩
    refine (show (if decide (oV none = V.non) = true then _ else _) from ?_)
    rw [oV_non, if_pos rfl]
    refine ⟨_, rfl, decide (oV b = V.non), rfl, ?_⟩
    refine ite2 (fun h => q H (Same.refl H)) (fun h => ?_)
    cases b with
    | none => exact absurd (decide_eq_true rfl) h
    | some y => exact ⟨_, rfl, (numV_int y).sp (E := E0) fun H1 s1 => q H1 s1⟩
  | some x =>
    refine ⟨_, rfl, _, rfl, ?_⟩
    refine (show (if decide (oV (some x) = V.non) = true then _ else _) from ?_)
    rw [oV_some, if_neg (by decide)]
    refine ⟨_, rfl, .int x, .type "int", true, false, rfl, .base (.int x), kit_ty (show kitB "int" "int" = some true by decide +kernel), kit_ty (show kitB "int" "bool" = some false by decide +kernel), fun H1 s1 => ⟨true, rfl, ?_⟩⟩
    rw [if_pos rfl]
    refine ⟨_, rfl, decide (oV b = V.non), rfl, ?_⟩
    refine ite2 (fun h => q H1 s1) (fun h => ?_)
    cases b with
    | none => exact absurd (decide_eq_true rfl) h
    | some y =>
      refine ⟨_, rfl, .int y, .type "int", true, false, rfl, .base (.int y), kit_ty (show kitB "int" "int" = some true by decide +kernel), kit_ty (show kitB "int" "bool" = some false by decide +kernel), fun H2 s2 => ⟨true, rfl, ?_⟩⟩
      rw [if_pos rfl]
      refine ⟨_, rfl, _, rfl, x, y, rfl, rfl, ?_⟩
      show Q (V.bl (decide (x ≤ y))) H2
      rw [decide_eq_true (hab x y rfl rfl)]
      exact q H2 (s1.trans s2)
theorem ok_within (F : FD K "is_within" s_is_within f fd) : FnOk P w K mg base CX0 1 f fd ["value", "first", "last"] spWithin := by
  refine F.ok sc_within (fun vs H Q E h => ?_) (fun cdv A outer s H vs Q E hr h => ?_)
  · obtain ⟨v, a, b, rfl, _⟩ := h
    rfl
  obtain ⟨v, a, b, rfl, q⟩ := h
  refine ⟨_, PSs.nox (pss_one (ps_ret (pe_and (pe_or (pe_cmp (pc_isN (pv 1)) rfl) (pe_one (pe_cmpR op_le (pv 1) (pv 0) (nomark _)))) (pe_one (pe_or (pe_cmp (pc_isN (pv 2)) rfl) (pe_one (pe_cmpR op_le (pv 0) (pv 2) (nomark _)))))))), ?_⟩
  have low : ∀ (R : VK), R (.bl (lowB a v)) H → tOrV (tIsN (tVar 1)) (tOp (rI0 fun i j => .bl (decide (i ≤ j))) (tVar 1) (tVar 0)) [some (.int v), some (oV a), some (oV b)] H R := fun R r => by
    refine ⟨_, rfl, decide (oV a = V.non), rfl, ?_⟩
    cases a with
    | none =>
      rw [oV_non, if_pos rfl]
      exact r
    | some x =>
      rw [oV_some, if_neg (by decide)]
      exact ⟨_, rfl, _, rfl, x, v, rfl, rfl, r⟩
  have high : ∀ (R : VK), R (.bl (highB b v)) H → tOrV (tIsN (tVar 2)) (tOp (rI0 fun i j => .bl (decide (i ≤ j))) (tVar 0) (tVar 2)) [some (.int v), some (oV a), some (oV b)] H R := fun R r => by
    refine ⟨_, rfl, decide (oV b = V.non), rfl, ?_⟩
    cases b with
    | none =>
      rw [oV_non, if_pos rfl]
      exact r
    | some y =>
      rw [oV_some, if_neg (by decide)]
      exact ⟨_, rfl, _, rfl, v, y, rfl, rfl, r⟩
  refine low _ ⟨_, rfl, ?_⟩
  have e0 : inS (a, b) v = (lowB a v && highB b v) := rfl
  rw [e0] at q
  refine ite2 (fun h => ?_) (fun h => ?_)
  · refine high _ ?_
    rw [h, Bool.true_and] at q
    exact q
  · rw [Bool.eq_false_iff.mpr h, Bool.false_and] at q
    exact q
theorem ok_stt (F : FD K "_is_stretch_tuple" s_is_stt f fd) (T : TW mg) (tt : mg "tuple" = none) (S : Kn P w K mg base 2 "is_stretch" fS dS ["first", "last"] spStretch) : FnOk P w K mg base CX0 3 f fd ["value"] spStt := by
  refine F.ok sc_stt (fun vs H Q E h => ?_) (fun cdv A outer s H vs Q E hr h => ?_)
  · obtain ⟨t, p, rfl, _⟩ := h
    rfl
  obtain ⟨t, ⟨a, b⟩, rfl, ht, hab, q⟩ := h
  refine ⟨_, PSs.nox (pss_one (ps_ret (pe_and (pe_callB call_isi (by rfl) T.isi boot_isi (pa_cons (pv 0) (pa_cons (pe_bltn (v := .ty "tuple") (by rfl) tt (by decide +kernel) rfl) pa_nil))) (pe_and (pe_cmpR op_eq (pe_callB call_len_seq (by rfl) T.len boot_len (pa_cons (pv 0) pa_nil)) pe_int (nomark _))
    (pe_one (pe_call S.f hr rfl S.m S.k S.b .nil pass0 (pa_cons (pe_ix ix_tup (pv 0) pe_int (fun _ _ => rfl)) (pa_cons (pe_ix ix_tup (pv 0) pe_int (fun _ _ => rfl)) pa_nil)))))))), ?_⟩
  refine ⟨_, rfl, .ref t, .ty "tuple", .type "tuple", _, true, rfl, .ty _, .base (.tup ht), kit_ty (by decide +kernel), true, rfl, ?_⟩
  rw [if_pos rfl]
  refine ⟨_, rfl, t, _, rfl, .inr (SqT.of ht), rfl, true, ?_, ?_⟩
  · show V.bl (decide (V.int ((([oV a, oV b] : List V).length : Nat) : Int) = V.int 2)) = V.bl true
    rw [decide_eq_true (by rfl)] <;> rfl
  rw [if_pos rfl]
  refine ⟨_, rfl, t, _, 0, _, rfl, rfl, SqT.of ht, rfl, ?_⟩
  refine ⟨_, rfl, t, _, 1, _, rfl, rfl, SqT.of ht, rfl, ?_⟩
  exact ⟨a, b, rfl, hab, q⟩
theorem ok_reaches (F : FD K "_reaches" s_reaches f fd) : FnOk P w K mg base CX0 1 f fd ["last", "first"] spReaches := by
  refine F.ok sc_reaches (fun vs H Q E h => ?_) (fun cdv A outer s H vs Q E hr h => ?_)
  · obtain ⟨a, b, rfl, _⟩ := h
    rfl
  obtain ⟨a, b, rfl, q⟩ := h
  refine ⟨_, PSs.nox (pss_one (ps_ret (pe_or (pe_cmp (pc_isN (pv 0)) rfl) (pe_or (pe_cmp (pc_isN (pv 1)) rfl) (pe_one (pe_cmpR op_le (pv 1) (pe_op op_add (pv 0) pe_int) (nomark _))))))), ?_⟩
  refine ⟨_, rfl, decide (oV a = V.non), rfl, ?_⟩
  cases a with
  | none =>
    rw [oV_non, if_pos rfl]
    exact q
  | some x =>
    rw [oV_some, if_neg (by decide)]
    refine ⟨_, rfl, decide (oV b = V.non), rfl, ?_⟩
    cases b with
    | none =>
      rw [oV_non, if_pos rfl]
      exact q
    | some y =>
      rw [oV_some, if_neg (by decide)]
      exact ⟨_, rfl, _, rfl, x, 1, rfl, rfl, y, x + 1, rfl, rfl, q⟩
theorem ok_later (F : FD K "_later" s_later f fd) (tm : mg "max" = none) : FnOk P w K mg base CX0 1 f fd ["one", "other"] spLater := by
  refine F.ok sc_later (fun vs H Q E h => ?_) (fun cdv A outer s H vs Q E hr h => ?_)
  · obtain ⟨a, b, rfl, _⟩ := h
    rfl
  obtain ⟨a, b, rfl, q⟩ := h
  refine ⟨_, PSs.nox (pss_one (ps_ret (pe_ifExp (PW.pt (pw_or (pt_cmp (pc_isN (pv 0)) rfl) (pw_or1 (pt_cmp (pc_isN (pv 1)) rfl)))) pe_non (pe_callB (call_max2 rfl) (by rfl) tm (by decide +kernel) (pa_cons (pv 0) (pa_cons (pv 1) pa_nil)))))), ?_⟩
  refine ⟨_, rfl, _, rfl, ?_⟩
  cases a with
  | none =>
    refine (show (if decide (oV none = V.non) = true then _ else _) from ?_)
    rw [oV_non, if_pos rfl]
    refine (show (if true = true then _ else _) from ?_)
    rw [if_pos rfl]
    exact q
  | some x =>
    refine (show (if decide (oV (some x) = V.non) = true then _ else _) from ?_)
    rw [oV_some, if_neg (by decide)]
    refine ⟨_, rfl, _, rfl, ?_⟩
    cases b with
    | none =>
      refine (show (if decide (oV none = V.non) = true then _ else _) from ?_)
      rw [oV_non, if_pos rfl]
      exact q
    | some y =>
      refine (show (if decide (oV (some y) = V.non) = true then _ else _) from ?_)
      rw [oV_some, if_neg (by decide)]
      refine ⟨_, rfl, _, rfl, x, y, rfl, ?_⟩
      have e : (if y > x then y else x) = max x y := by
        split <;> omega
      rw [e]
      exact q
theorem ok_place (F : FD K "_place" s_place f fd) : FnOk P w K mg base CX0 1 f fd ["stretch"] spPlace := by
  refine F.ok sc_place (fun vs H Q E h => ?_) (fun cdv A outer s H vs Q E hr h => ?_)
  · obtain ⟨t, p, rfl, _⟩ := h
    rfl
  obtain ⟨t, ⟨a, b⟩, rfl, ht, q⟩ := h
  refine ⟨_, PSs.nox (pss_cons (ps_set (i := 1) sc_place.nd rfl (Or.inl rfl) (pe_ix ix_tup (pv 0) pe_int (fun _ _ => rfl)))
    (pss_one (ps_ret (pe_ifExp (pt_cmp (pc_isN (pv 1)) rfl) (pe_tup (pa_cons pe_int (pa_cons pe_int pa_nil))) (pe_tup (pa_cons pe_int (pa_cons (pv 1) pa_nil))))))), ?_⟩
  refine ⟨_, rfl, t, _, 0, _, rfl, rfl, SqT.of ht, rfl, ?_⟩
  refine ⟨_, rfl, decide (oV a = V.non), rfl, ?_⟩
  cases a with
  | none =>
    refine ite2 (c := decide (oV none = V.non)) (fun _ => ?_) (fun h => absurd oV_non h)
    exact ⟨by show 2 ≤ sizeLine; decide, fun u hu => q u hu⟩
  | some x =>
    refine ite2 (c := decide (oV (some x) = V.non)) (fun h => absurd h (by rw [oV_some]; decide)) (fun _ => ?_)
    exact ⟨_, rfl, by show 2 ≤ sizeLine; decide, fun u hu => q u hu⟩
theorem ok_nearest (F : FD K "_nearest" s_nearest f fd) : FnOk P w K mg base CX0 1 f fd ["first", "last"] spNearest := by
  refine F.ok sc_nearest (fun vs H Q E h => ?_) (fun cdv A outer s H vs Q E hr h => ?_)
  · obtain ⟨a, b, rfl, _⟩ := h
    rfl
  obtain ⟨a, b, rfl, q⟩ := h
  refine ⟨_, PSs.nox (pss_cons (ps_if (PW.pt (pw_and (pt_cmp (pc_notN (pv 0)) rfl) (pw_and1 (pt_cmpR op_gt (pv 0) pe_int (nomark _))))) (pss_one (ps_ret (pv 0))) pss_nil)
    (pss_cons (ps_if (PW.pt (pw_and (pt_cmp (pc_notN (pv 1)) rfl) (pw_and1 (pt_cmpR op_lt (pv 1) pe_int (nomark _))))) (pss_one (ps_ret (pv 1))) pss_nil)
    (pss_one (ps_ret pe_int)))), ?_⟩
  have last : ∀ b : Option Int, Q (.int (nearS (none, b))) H → tSeq (tIfS (tAnd (tB (tNotN (tVar 1))) (tTest (tOp (rI0 fun i j => V.bl (decide (i < j))) (tVar 1) (tC (.int 0))))) (tSeq (tRet (tVar 1)) tNext) tNext) (tSeq (tRet (tC (.int 0))) tNext) { nx := fun _ H' => Q .non H', rt := Q } [some (oV a), some (oV b)] H := fun b r => by
    refine ⟨_, rfl, !decide (oV b = V.non), rfl, ?_⟩
    cases b with
    | none =>
      refine ite2 (c := !decide (oV none = V.non)) (fun h => absurd h (by rw [oV_non]; decide)) (fun _ => ?_)
      exact r
    | some y =>
      refine ite2 (c := !decide (oV (some y) = V.non)) (fun _ => ?_) (fun h => absurd (by rw [oV_some]; rfl) h)
      refine ⟨_, rfl, y, 0, rfl, rfl, _, rfl, ?_⟩
      rw [show nearS (none, some y) = if y < 0 then y else 0 from rfl] at r
      refine ite2 (fun h => ?_) (fun h => ?_)
      · rw [if_pos (of_decide_eq_true h)] at r
        exact ⟨_, rfl, r⟩
      · rw [if_neg (fun z => h (decide_eq_true z))] at r
        exact r
  refine ⟨_, rfl, !decide (oV a = V.non), rfl, ?_⟩
  cases a with
  | none =>
    refine ite2 (c := !decide (oV none = V.non)) (fun h => absurd h (by rw [oV_non]; decide)) (fun _ => ?_)
    refine last b ?_
    cases b <;> exact q
  | some x =>
    refine ite2 (c := !decide (oV (some x) = V.non)) (fun _ => ?_) (fun h => absurd (by rw [oV_some]; rfl) h)
    refine ⟨_, rfl, x, 0, rfl, rfl, _, rfl, ?_⟩
    refine ite2 (fun h => ?_) (fun h => ?_)
    · have h' : 0 < x := of_decide_eq_true h
      refine ⟨_, rfl, ?_⟩
      cases b with
      | none =>
        rw [show nearS (some x, none) = if 0 < x then x else 0 from rfl, if_pos h'] at q
        exact q
      | some y =>
        rw [show nearS (some x, some y) = if 0 < x then x else if y < 0 then y else 0 from rfl, if_pos h'] at q
        exact q
    · have h' : ¬ 0 < x := fun z => h (decide_eq_true z)
      refine last b ?_
      cases b with
      | none =>
        rw [show nearS (some x, none) = if 0 < x then x else 0 from rfl, if_neg h'] at q
        exact q
      | some y =>
        rw [show nearS (some x, some y) = if 0 < x then x else if y < 0 then y else 0 from rfl, if_neg h'] at q
        exact q
end
end S8

end Ps8E
section Ps8F
set_option maxHeartbeats 4000000
namespace S8
open PySem PySem.Spec L2 PyProof.Rows Sm
/-! ### the kind of a value, its place in the natural order; the texts by their number -/
theorem sc_kind_of : FnScope ["value", "kind"] ["value"] (defScope s_kind_of) := ⟨rfl, rfl, rfl, by decide +kernel, rfl, by decide +kernel, by decide +kernel⟩
theorem sc_natural : FnScope ["value"] ["value"] (defScope s_natural) := ⟨rfl, rfl, rfl, by decide +kernel, rfl, by decide +kernel, by decide +kernel⟩
theorem sc_text_at : FnScope ["index", "text", "rest"] ["index"] (defScope s_text_at) := ⟨rfl, rfl, rfl, by decide +kernel, rfl, by decide +kernel, by decide +kernel⟩
def spKindOf (K : PySem.W.Frag) : Sp := fun vs H Q _ => ∃ (x : V) (b c : Bool), vs = [x] ∧ ValV K H x "number" b ∧ ValV K H x "text" c ∧ (b || c) = true ∧ ∀ H', Same H H' → Q (.str (if b = true then "number" else "text")) H'
def spNatural (K : PySem.W.Frag) : Sp := fun vs H Q _ => (∃ i : Int, vs = [.int i] ∧ ValV K H (.int i) "text" false ∧ ∀ H' u, Same H H' → H' u = none → Q (.ref u) (upd H' u (.tup [.int (natI i).1, .int (natI i).2]))) ∨
  ∃ z : Str, vs = [.str z] ∧ ValV K H (.str z) "number" false ∧ ValV K H (.str z) "text" true ∧ z.length ≤ 12 ∧ ∀ H' u, Same H H' → H' u = none → Q (.ref u) (upd H' u (.tup [.int (z.length : Nat), .str z]))
def lettersS : Str := "abcdefghijklmnopqrstuvwxyz"
def letterS (k : Nat) : Str := ⟨#[97 + k]⟩
/-- the letters of a number, ahead of t: digits from 1 to 26 -/
def tAt : Nat → Nat → Str → Str
  | 0, _, t => t
  | _ + 1, 0, t => t
  | k + 1, r + 1, t => tAt k (r / 26) (letterS (r % 26) ++ t)
def textAt (n : Nat) : Str := tAt (n + 1) (n + 1) ""
theorem tAt_any : ∀ (k k' r : Nat) (t : Str), r ≤ k → r ≤ k' → tAt k r t = tAt k' r t
  | 0, 0, _, _, _, _ => rfl
  | 0, k' + 1, r, t, h, _ => by
    obtain rfl : r = 0 := by omega
    rfl
  | k + 1, 0, r, t, _, h => by
    obtain rfl : r = 0 := by omega
    rfl
  | k + 1, k' + 1, 0, t, _, _ => rfl
  | k + 1, k' + 1, r + 1, t, h, h' => tAt_any k k' (r / 26) _ (by omega) (by omega)
theorem letter_at (k : Nat) (h : k < 26) : lettersS.cps.toList[k]? = some (97 + k) := by
  have all : ∀ j : Fin 26, lettersS.cps.toList[j.val]? = some (97 + j.val) := by decide +kernel
  exact all ⟨k, h⟩
def spTextAt : Sp := fun vs H Q _ => ∃ n : Nat, vs = [.int n] ∧ n ≤ 1000 ∧ Q (.str (textAt n)) H
section
variable {P : Program} {w : World} {K : PySem.W.Frag} {mg : Str → Option Value} {base : Heap} {f fV fK : Addr} {fd dV dK : FuncData}
theorem ok_kind_of (F : FD K "kind_of" s_kind_of f fd) (V1 : Kn P w K mg base 2 "is_value" fV dV ["value", "kind"] (spValue K)) : FnOk P w K mg base CX0 3 f fd ["value"] (spKindOf K) := by
  refine F.ok sc_kind_of (fun vs H Q E h => ?_) (fun cdv A outer s H vs Q E hr h => ?_)
  · obtain ⟨x, b, c, rfl, _⟩ := h
    rfl
  obtain ⟨x, b, c, rfl, hb, hc, hbc, q⟩ := h
  refine ⟨_, PSs.nox (pss_cons (ps_for .never (by rfl) (pi_tup (pe_tup (pa_cons pe_str (pa_cons pe_str pa_nil)))) (pg_name (i := 1) sc_kind_of.nd rfl (Or.inl rfl))
    (pss_one (ps_if (pt_val (pe_call V1.f (hr.mono (by decide)) rfl V1.m V1.k V1.b .nil pass0 (pa_cons (pv 0) (pa_cons (pv 1) pa_nil)))) (pss_one (ps_ret (pv 1))) pss_nil))) pss_never), ?_⟩
  refine ⟨by show 2 ≤ sizeLine; decide, fun p hp => ?_⟩
  have s1 := same_upd (o := HO.tup [.str "number", .str "text"]) hp
  refine ⟨p, rfl, ⟨_, SqT.of upd_same⟩, ?_⟩
  have hp1 : (upd H p (.tup [.str "number", .str "text"])) p = some (.tup [.str "number", .str "text"]) := upd_same
  generalize upd H p (.tup [.str "number", .str "text"]) = H1 at s1 hp1 ⊢
  refine for_tup (K := K) (a := p) (xs := [.str "number", .str "text"]) (fun i σ' H' => Same H1 H' ∧ (∃ y : Option V, σ' = [some x, y]) ∧ (1 ≤ i → b = false) ∧ i ≤ 1) ⟨Same.refl _, ⟨none, rfl⟩, fun h => absurd h (by decide), Nat.zero_le _⟩
    (fun i σ' H' _ ⟨z, _⟩ => SqT.of (z _ _ hp1)) (fun i v σ' H' hx ⟨s2, ⟨y, eσ⟩, hi, le⟩ => ?_) (fun σ' H' ⟨_, _, _, le⟩ => absurd le (by decide))
  subst eσ
  have s3 := s1.trans s2
  obtain rfl | rfl : i = 0 ∨ i = 1 := by omega
  · cases (show V.str "number" = v from Option.some.inj hx)
    refine ⟨_, rfl, _, rfl, x, "number", b, rfl, hb.same s3, fun H3 s4 => ⟨b, rfl, ?_⟩⟩
    refine ite2 (fun h => ?_) (fun h => ?_)
    · have z := q H3 (s3.trans s4)
      rw [if_pos h] at z
      exact ⟨_, rfl, z⟩
    · exact ⟨s2.trans s4, ⟨_, rfl⟩, fun _ => Bool.eq_false_iff.mpr h, Nat.le_refl _⟩
  · cases (show V.str "text" = v from Option.some.inj hx)
    have b0 := hi (Nat.le_refl _)
    have c1 : c = true := by
      rw [b0, Bool.false_or] at hbc
      exact hbc
    refine ⟨_, rfl, _, rfl, x, "text", c, rfl, hc.same s3, fun H3 s4 => ⟨c, rfl, ?_⟩⟩
    refine ite2 (fun h => ?_) (fun h => absurd c1 h)
    have z := q H3 (s3.trans s4)
    rw [b0, if_neg (by decide)] at z
    exact ⟨_, rfl, z⟩
theorem ok_natural (F : FD K "natural" s_natural f fd) (KO : Kn P w K mg base 3 "kind_of" fK dK ["value"] (spKindOf K)) (ta : mg "abs" = none) (tl : mg "len" = none) : FnOk P w K mg base CX0 4 f fd ["value"] (spNatural K) := by
  refine F.ok sc_natural (fun vs H Q E h => ?_) (fun cdv A outer s H vs Q E hr h => ?_)
  · rcases h with ⟨i, rfl, _⟩ | ⟨z, rfl, _⟩ <;> rfl
  rcases h with ⟨i, rfl, hc, q⟩ | ⟨z, rfl, hb, hc, hl, q⟩
  · refine ⟨_, PSs.nox (pss_cons (ps_if (pt_cmpR op_eq (pe_call KO.f (hr.mono (by decide)) rfl KO.m KO.k KO.b .nil pass0 (pa_cons (pv 0) pa_nil)) pe_str (nomark _))
      (pss_one (ps_ret (pe_tup (pa_cons (pe_callB call_abs (by rfl) ta (by decide +kernel) (pa_cons (pv 0) pa_nil)) (pa_cons (pe_ifExp (pt_cmpR op_lt (pv 0) pe_int (nomark _)) pe_int pe_int) pa_nil))))) pss_nil)
    (pss_one (ps_ret (pe_tup (pa_cons (pe_callB call_len_str (by rfl) tl boot_len (pa_cons (pv 0) pa_nil)) (pa_cons (pv 0) pa_nil)))))), ?_⟩
    refine ⟨_, rfl, .int i, true, false, rfl, .num (numV_int i), hc, rfl, fun H1 s1 => ?_⟩
    refine ⟨rfl, true, ?_, ?_⟩
    · show V.bl (decide (V.str "number" = V.str "number")) = V.bl true
      rw [decide_eq_true rfl]
    refine (show (if true = true then _ else _) from ?_)
    rw [if_pos rfl]
    refine ⟨_, rfl, i, rfl, ?_⟩
    refine ⟨_, rfl, i, 0, rfl, rfl, _, rfl, ?_⟩
    refine ite2 (fun h => ?_) (fun h => ?_)
    · have h' : i < 0 := of_decide_eq_true h
      refine ⟨by show 2 ≤ sizeLine; decide, fun u hu => ?_⟩
      have z := q H1 u s1 hu
      unfold natI at z
      rw [if_pos h', if_pos h'] at z
      rw [if_pos h']
      exact z
    · have h' : ¬ i < 0 := fun z => h (decide_eq_true z)
      refine ⟨by show 2 ≤ sizeLine; decide, fun u hu => ?_⟩
      have z := q H1 u s1 hu
      unfold natI at z
      rw [if_neg h', if_neg h'] at z
      rw [if_neg h']
      exact z
  · refine ⟨_, PSs.nox (pss_cons (ps_if (pt_cmpR op_eq (pe_call KO.f (hr.mono (by decide)) rfl KO.m KO.k KO.b .nil pass0 (pa_cons (pv 0) pa_nil)) pe_str (nomark _))
      (pss_one (ps_ret (pe_tup (pa_cons (pe_callB call_abs (by rfl) ta (by decide +kernel) (pa_cons (pv 0) pa_nil)) (pa_cons (pe_ifExp (pt_cmpR op_lt (pv 0) pe_int (nomark _)) pe_int pe_int) pa_nil))))) pss_nil)
    (pss_one (ps_ret (pe_tup (pa_cons (pe_callB call_len_str (by rfl) tl boot_len (pa_cons (pv 0) pa_nil)) (pa_cons (pv 0) pa_nil)))))), ?_⟩
    refine ⟨_, rfl, .str z, false, true, rfl, hb, hc, rfl, fun H1 s1 => ?_⟩
    refine ⟨rfl, false, ?_, ?_⟩
    · show V.bl (decide (V.str "text" = V.str "number")) = V.bl false
      decide +kernel
    refine (show (if false = true then _ else _) from ?_)
    rw [if_neg (by decide)]
    refine ⟨_, rfl, z, rfl, Nat.le_trans hl (by decide), _, rfl, ?_⟩
    exact ⟨by show 2 ≤ sizeLine; decide, fun u hu => q H1 u s1 hu⟩
theorem ok_text_at (F : FD K "_text_at" s_text_at f fd) (tL : ∃ t, mg "LETTERS" = some (.str lettersS t)) : FnOk P w K mg base CX0 1 f fd ["index"] spTextAt := by
  refine F.ok sc_text_at (fun vs H Q E h => ?_) (fun cdv A outer s H vs Q E hr h => ?_)
  · obtain ⟨n, rfl, _⟩ := h
    rfl
  obtain ⟨n, rfl, hn, q⟩ := h
  obtain ⟨tk, ht⟩ := tL
  refine ⟨_, PSs.nox (pss_cons (ps_set (i := 1) sc_text_at.nd rfl (Or.inl rfl) pe_str)
    (pss_cons (ps_set (i := 2) sc_text_at.nd rfl (Or.inl rfl) (pe_op op_add (pv 0) pe_int))
    (pss_cons (ps_while PassesOwn.never (pt_cmpR op_gt (pv 2) pe_int (nomark _))
      (pss_cons (ps_aug (i := 2) sc_text_at.nd rfl (Or.inl rfl) pe_int ip_sub)
      (pss_cons (ps_set (i := 1) sc_text_at.nd rfl (Or.inl rfl) (pe_op op_add_str (pe_ix ix_str (pe_glob (v := .str lettersS) (by rfl) ht ⟨tk, rfl⟩) (pe_op op_mod (pv 2) pe_int) (fun _ _ => rfl)) (pv 1)))
      (pss_one (ps_aug (i := 2) sc_text_at.nd rfl (Or.inl rfl) pe_int iop_fdiv)))))
    (pss_one (ps_ret (pv 1)))))), ?_⟩
  refine ⟨_, rfl, _, _, rfl, rfl, ?_⟩
  refine ⟨fun m σ' H' => ∃ (r : Nat) (t : Str), m = r ∧ σ' = [some (.int n), some (.str t), some (.int r)] ∧ H' = H ∧ tAt r r t = textAt n ∧ t.length + r ≤ 1001, ⟨n + 1, n + 1, "", rfl, rfl, rfl, rfl, ?_⟩, ?_⟩
  · show 0 + (n + 1) ≤ 1001
    omega
  rintro m σ' H' ⟨r, t, rfl, rfl, rfl, ha, hl⟩
  refine ⟨_, rfl, m, 0, rfl, rfl, _, rfl, ?_⟩
  refine ite2 (fun h => ?_) (fun h => ?_)
  · have h' : 0 < (m : Int) := of_decide_eq_true h
    obtain ⟨r, rfl⟩ : ∃ r, m = r + 1 := ⟨m - 1, by omega⟩
    refine ⟨fun σ2 H2 => ∃ (r2 : Nat) (t : Str), r2 < r + 1 ∧ σ2 = [some (.int n), some (.str t), some (.int r2)] ∧ H2 = H' ∧ tAt r2 r2 t = textAt n ∧ t.length + r2 ≤ 1001, fun σ2 H2 ⟨r2, t2, k0, k1, k2, k3, k4⟩ => ⟨r2, k0, r2, t2, rfl, k1, k2, k3, k4⟩, ?_⟩
    have l1 : (letterS (r % 26)).length = 1 := rfl
    have m26 : r % 26 < 26 := Nat.mod_lt _ (by decide)
    refine ⟨_, rfl, _, 1, rfl, rfl, ?_⟩
    have er : (((r + 1 : Nat) : Int) - 1) = (r : Int) := by omega
    refine normS (σ' := [some (.int n), some (.str t), some (.int r)]) (by show [some (V.int n), some (V.str t), some (V.int (((r + 1 : Nat) : Int) - 1))] = _; rw [er]) ?_
    refine ⟨_, rfl, _, _, rfl, rfl, (by decide : (0 : Int) < 26), ?_⟩
    refine ⟨lettersS, _, 97 + r % 26, rfl, rfl, by decide, ?_, ?_⟩
    · have e26 : ((r : Int) % 26) = ((r % 26 : Nat) : Int) := by omega
      rw [e26]
      exact atI_nat (letter_at _ m26)
    refine ⟨_, rfl, letterS (r % 26), t, rfl, rfl, ?_, ?_⟩
    · rw [l1]
      refine Nat.le_trans (show 1 + t.length ≤ 1001 by omega) (by decide)
    refine ⟨_, rfl, _, _, rfl, rfl, ⟨(by decide : (0 : Int) < 26), (by decide : (26 : Int) < 1073741824)⟩, ?_⟩
    have e27 : ((r : Int) / 26) = ((r / 26 : Nat) : Int) := by omega
    refine ⟨r / 26, letterS (r % 26) ++ t, by omega, ?_, rfl, ?_, ?_⟩
    · show [some (V.int n), some (V.str (letterS (r % 26) ++ t)), some (V.int ((r : Int) / 26))] = _
      rw [e27]
    · rw [← ha]
      exact tAt_any _ r _ _ (Nat.le_refl _) (by omega)
    · have : (letterS (r % 26) ++ t).length = 1 + t.length := by
        show ((letterS (r % 26)).cps ++ t.cps).size = _
        rw [Array.size_append]
        rfl
      omega
  · have m0 : m = 0 := by
      have : ¬ (0 : Int) < m := fun z => h (decide_eq_true z)
      omega
    subst m0
    refine ⟨_, rfl, ?_⟩
    have e : t = textAt n := ha
    show Q (.str t) H'
    rw [e]
    exact q
end
end S8

end Ps8F
section Ps8G
set_option maxHeartbeats 8000000
namespace L2
open PySem
/-- for x in l, l a list or a tuple -/
def iSeq (K : PySem.W.Frag) (tl : TE) : TI := fun σ H R => iList K tl σ H R ∨ iTup K tl σ H R
theorem pi_seq {X : Cx} {tg l : Expr} {tl : TE} (hl : PE X l tl) : PI X tg l (iSeq X.K tl) :=
  ⟨fun pins s σ H R I h => h.elim ((pi_list hl).run pins s σ H R I) ((pi_tup hl).run pins s σ H R I)⟩
end L2
namespace S8
open PySem PySem.Spec L2 PyProof.Rows Sm
/-! ### the longest stretches -/
abbrev nMerged : List Str := ["stretches", "found", "first", "last"]
theorem sc_merged : FnScope nMerged ["stretches"] (defScope s_merged) := ⟨rfl, rfl, rfl, by decide +kernel, rfl, by decide +kernel, by decide +kernel⟩
/-- a tuple of stretches -/
def TupSw (H : Hp) (T : Addr) (n : List St2) : Prop := ∃ us : List Addr, H T = some (.tup (us.map V.ref)) ∧ Paired (SwAt H) us n
theorem TupSw.same {H H' : Hp} {T : Addr} {n : List St2} (s : Same H H') (h : TupSw H T n) : TupSw H' T n := by
  obtain ⟨us, a, b⟩ := h
  exact ⟨us, s _ _ a, b.mono fun t p e => s _ _ e⟩
theorem TupSw.sws {H : Hp} {T : Addr} {n : List St2} (h : TupSw H T n) : SwsAt H T n := by
  obtain ⟨us, a, b⟩ := h
  exact ⟨us, .inr a, b⟩
def spMerged : Sp := fun vs H Q _ => ∃ (L : Addr) (l : List St2), vs = [.ref L] ∧ SwsAt H L l ∧ (∀ p ∈ l, okS p) ∧ l.length ≤ 1000 ∧
  ∀ (T : Addr) (n : List St2) (H' : Hp), TupSw H' T n → ascS n → (∀ v, memL n v = memL l v) → n.length ≤ l.length → Same H H' → Q (.ref T) H'
/-! what the keys read as, and how they sort -/
def kD (p : St2) : PyData := .tuple [.int (placeV p.1).1, .int (placeV p.1).2]
theorem kD_alike (p q : St2) : PySem.W.alike (kD p) (kD q) = true := rfl
theorem kDs_alike (l : List St2) : PySem.W.AllAlike (l.map kD) := PySem.W.AllAlike.of fun p q => rfl
theorem kDs_sortable (l : List St2) : PySem.W.Sortable (l.map kD) := PySem.W.Sortable.tuples fun p => ⟨_, _, rfl⟩
def leB (a b : Addr × St2) : Bool := decide ((placeV a.2.1).1 < (placeV b.2.1).1 ∨ ((placeV a.2.1).1 = (placeV b.2.1).1 ∧ (placeV a.2.1).2 ≤ (placeV b.2.1).2))
theorem leB_lo {a b : Addr × St2} (h : leB a b = true) : loO a.2.1 b.2.1 := by
  have h := of_decide_eq_true h
  intro x e
  rw [e] at h
  cases e2 : b.2.1 with
  | none =>
    rw [e2] at h
    have h' : (1 : Int) < 0 ∨ ((1 : Int) = 0 ∧ x ≤ 0) := h
    omega
  | some y =>
    rw [e2] at h
    have h' : (1 : Int) < 1 ∨ ((1 : Int) = 1 ∧ x ≤ y) := h
    exact ⟨y, rfl, by omega⟩
theorem sorted_sws {ts : List Addr} {l : List St2} (len : ts.length = l.length) : ∃ ss : List (Addr × St2), ss.Perm (ts.zip l) ∧ ss.Pairwise (fun a b => loO a.2.1 b.2.1) ∧
    ((((ts.map V.ref).zip (l.map kD)).mergeSort (PySem.W.dataLe false Prod.snd)).map Prod.fst) = (ss.map Prod.fst).map V.ref := by
  refine ⟨(ts.zip l).mergeSort leB, List.mergeSort_perm _ _, ?_, ?_⟩
  · refine (List.pairwise_mergeSort (fun a b c h1 h2 => ?_) (fun a b => ?_) _).imp fun {a b} h => leB_lo h
    · have h1 := of_decide_eq_true h1
      have h2 := of_decide_eq_true h2
      exact decide_eq_true (by omega)
    · unfold leB
      rw [Bool.or_eq_true]
      by_cases h : (placeV a.2.1).1 < (placeV b.2.1).1 ∨ ((placeV a.2.1).1 = (placeV b.2.1).1 ∧ (placeV a.2.1).2 ≤ (placeV b.2.1).2)
      · exact .inl (decide_eq_true h)
      · exact .inr (decide_eq_true (by omega))
  · have e1 : (ts.map V.ref).zip (l.map kD) = (ts.zip l).map fun q => (V.ref q.1, kD q.2) := by
      rw [List.zip_map]
      rfl
    have e2 : PySem.W.dataLe false (fun q : Addr × St2 => kD q.2) = leB := PySem.W.dataLe_ii (fun q : Addr × St2 => (placeV q.2.1).1) (fun q => (placeV q.2.1).2)
    have e3 : ((ts.zip l).map fun q => (V.ref q.1, kD q.2)).mergeSort (PySem.W.dataLe false Prod.snd) = ((ts.zip l).mergeSort leB).map fun q => (V.ref q.1, kD q.2) := by
      rw [← e2]
      exact (List.map_mergeSort (f := fun q : Addr × St2 => (V.ref q.1, kD q.2)) (r := PySem.W.dataLe false fun q : Addr × St2 => kD q.2) (s := PySem.W.dataLe false Prod.snd) (fun a _ b _ => rfl)).symm
    rw [e1, e3, List.map_map, List.map_map]
    rfl
/-- the loop so far: the sorted stretches that are done -/
def foldS (l : List St2) : List St2 := l.foldl step []
theorem foldS_ok : ∀ {l : List St2}, (∀ p ∈ l, okS p) → l.Pairwise (fun a b => loO a.1 b.1) → ∀ (m : List St2), ascS m → (∀ q, m.getLast? = some q → ∀ p ∈ l, loO q.1 p.1) →
    ascS (l.foldl step m) ∧ (∀ v, memL (l.foldl step m) v = (memL m v || memL l v)) ∧ (l.foldl step m).length ≤ m.length + l.length
  | [], _, _, m, ha, _ => ⟨ha, fun v => by show memL m v = (memL m v || false); rw [Bool.or_false], by simp⟩
  | p :: l, ho, hp, m, ha, hm => by
    obtain ⟨h1, h2⟩ := List.pairwise_cons.mp hp
    obtain ⟨s1, s2, s3, s4⟩ := step_ok ha (ho p List.mem_cons_self) fun q hq => hm q hq p List.mem_cons_self
    obtain ⟨i1, i2, i3⟩ := foldS_ok (l := l) (fun q hq => ho q (List.mem_cons_of_mem _ hq)) h2 (step m p) s1 fun q hq r hr => s4 q hq r.1 (h1 r hr)
    refine ⟨i1, fun v => ?_, ?_⟩
    · show memL (l.foldl step (step m p)) v = _
      rw [i2, s2, memL_cons, Bool.or_assoc]
    · show (l.foldl step (step m p)).length ≤ _
      rw [List.length_cons]
      omega
section
variable {P : Program} {w : World} {K : PySem.W.Frag} {mg : Str → Option Value} {base : Heap} {f fP fR fL : Addr} {fd dP dR dL : FuncData}
theorem len_case {H : Hp} {L : Addr} {l : List St2} (h : SwsAt H L l) : ∃ ts : List Addr, Paired (SwAt H) ts l ∧ (H L = some (.lst (ts.map V.ref)) ∨ H L = some (.tup (ts.map V.ref))) ∧ ∀ {i : Nat} {σ : L2.St} {R : It → Hp → Prop}, σ[i]? = some (some (.ref L)) →
    (∀ J, Walk J ts.length (fun H' => H' L = H L) (YAt (ts.map V.ref)) → R J H) → iSeq K (tVar i) σ H R := by
  obtain ⟨ts, a, b⟩ := h
  have e : (ts.map V.ref).length = ts.length := List.length_map ..
  refine ⟨ts, b, a, fun {i σ R} hi q => ?_⟩
  rcases a with a | a
  · refine .inl ⟨_, hi, L, rfl, ⟨_, SqL.of a⟩, q _ ?_⟩
    have w0 := walk_list (K := K) (a := L) (xs := ts.map V.ref)
    rw [e] at w0
    exact w0.mono (fun H' z => SqL.of (z.trans a)) fun _ _ _ _ _ _ y => y
  · refine .inr ⟨_, hi, L, rfl, ⟨_, SqT.of a⟩, q _ ?_⟩
    have w0 := walk_tup (K := K) (a := L) (xs := ts.map V.ref)
    rw [e] at w0
    exact w0.mono (fun H' z => SqT.of (z.trans a)) fun _ _ _ _ _ _ y => y
theorem paired_zip {α β : Type} {R : α → β → Prop} : ∀ {xs : List α} {ys : List β}, Paired R xs ys → ∀ q ∈ xs.zip ys, R q.1 q.2
  | _, _, .nil, q, h => nomatch h
  | _, _, .cons r t, q, h => by
    rcases List.mem_cons.mp h with rfl | h
    · exact r
    · exact paired_zip t q h
theorem paired_of {α β : Type} {R : α → β → Prop} : ∀ {ss : List (α × β)}, (∀ q ∈ ss, R q.1 q.2) → Paired R (ss.map Prod.fst) (ss.map Prod.snd)
  | [], _ => .nil
  | q :: r, h => .cons (h q List.mem_cons_self) (paired_of fun p hp => h p (List.mem_cons_of_mem _ hp))
theorem paired_last {α β : Type} {R : α → β → Prop} {xs : List α} {m : List β} {q : β} (h : Paired R xs (m ++ [q])) : ∃ vs t, xs = vs ++ [t] ∧ Paired R vs m ∧ R t q := by
  induction m generalizing xs with
  | nil =>
    cases h with
    | cons r t =>
      cases t
      exact ⟨[], _, rfl, .nil, r⟩
  | cons a m ih =>
    cases h with
    | cons r t =>
      obtain ⟨vs, u, e, h1, h2⟩ := ih t
      exact ⟨_ :: vs, u, by rw [e]; rfl, .cons r h1, h2⟩
theorem dp_kD {H : Hp} : ∀ {us : List Addr} {l : List St2}, Paired (fun u (p : St2) => H u = some (.tup [.int (placeV p.1).1, .int (placeV p.1).2])) us l → DpAll K H (us.map V.ref) (l.map kD)
  | _, _, .nil => .nil
  | _, _, .cons r t => .cons (.tup (SqT.of r) (.cons (.int _) (.cons (.int _) .nil))) (dp_kD t)
theorem ixN_neg1 {n : Nat} (h : 0 < n) : ixN n (-1) = some (n - 1) := by
  unfold ixN
  rw [if_neg (by decide), if_pos (by omega)]
  congr 1
  omega
theorem atI_neg1 {α : Type} {xs : List α} {v : α} : atI (xs ++ [v]) (-1) = some v := by
  unfold atI
  rw [ixN_neg1 (by simp)]
  show (xs ++ [v])[(xs ++ [v]).length - 1]? = some v
  simp
theorem ok_merged (F : FD K "_merged" s_merged f fd) (T : TW mg) (tt : mg "tuple" = none) (ts0 : mg "sorted" = none) (PL : Kn P w K mg base 1 "_place" fP dP ["stretch"] spPlace) (RE : Kn P w K mg base 1 "_reaches" fR dR ["last", "first"] spReaches) (LA : Kn P w K mg base 1 "_later" fL dL ["one", "other"] spLater) :
    FnOk P w K mg base CX0 4 f fd ["stretches"] spMerged := by
  refine F.ok sc_merged (fun vs H Q E h => ?_) (fun cdv A outer s H vs Q E hr h => ?_)
  · obtain ⟨L, l, rfl, _⟩ := h
    rfl
  obtain ⟨L, l, rfl, hl, hok, hlen, q⟩ := h
  have hu := hr.units
  refine ⟨_, PSs.nox (pss_cons (ps_if (pt_cmpR op_lt (pe_callB call_len_seq (by rfl) T.len boot_len (pa_cons (pv 0) pa_nil)) pe_int (nomark _))
      (pss_one (ps_ret (pe_callTy call_tuple_of (by rfl) tt (by decide +kernel) (pa_cons (pe_lc (own := [("first", 2), ("last", 3)]) (g := gTup K 2 (gCons (gName 2) (gCons (gName 3) gNil))) (tt := tYes) (te := tTup (tCons (tVar 2) (tCons (tVar 3) tNil))) rfl sc_merged.nd (pi_seq (pv 0)) (blkOk_by (N := nMerged) (sc := defScope s_merged) (by decide +kernel))
        (fun _ _ _ _ _ => by exact pg_tup (by rfl) (pgs_cons (pg_name (i := 2) sc_merged.nd rfl (Or.inl rfl)) (pgs_cons (pg_name (i := 3) sc_merged.nd rfl (Or.inl rfl)) pgs_nil))) (fun _ _ _ _ _ => pts_nil) (fun _ _ _ _ _ => by exact pe_tup (pa_cons (pv 2) (pa_cons (pv 3) pa_nil)))) pa_nil)))) pss_nil)
    (pss_cons (ps_set (i := 1) sc_merged.nd rfl (Or.inl rfl) (pe_lst pa_nil))
    (pss_cons (ps_for .never (by rfl) (pi_list (pe_callBK (cr_sortedKeyF (call1_of PL.f cxNo0 (hr.in1.in1.mono (by decide)) rfl PL.b .nil) (by exact hr.units)) (by rfl) ts0 (by decide +kernel) (pa_cons (pv 0) pa_nil) (pk_cons (pe_glob (v := .ref fP) (by rfl) PL.m rfl) pk_nil)))
        (pg_tup (by rfl) (pgs_cons (pg_name (i := 2) sc_merged.nd rfl (Or.inl rfl)) (pgs_cons (pg_name (i := 3) sc_merged.nd rfl (Or.inl rfl)) pgs_nil)))
      (pss_one (ps_if (PW.pt (pw_and (pt_truth (pv 1) (fun _ => rfl)) (pw_and1 (pt_val (pe_call RE.f (hr.mono (by decide)) rfl RE.m RE.k RE.b .nil pass0 (pa_cons (pe_ix ix_tup (pe_ix ix_list (pv 1) (pe_un un_neg pe_int) (fun _ _ => rfl)) pe_int (fun _ _ => rfl)) (pa_cons (pv 2) pa_nil)))))))
        (pss_one (ps_asg (pe_tup (pa_cons (pe_ix ix_tup (pe_ix ix_list (pv 1) (pe_un un_neg pe_int) (fun _ _ => rfl)) pe_int (fun _ _ => rfl)) (pa_cons (pe_call LA.f (hr.mono (by decide)) rfl LA.m LA.k LA.b .nil pass0 (pa_cons (pe_ix ix_tup (pe_ix ix_list (pv 1) (pe_un un_neg pe_int) (fun _ _ => rfl)) pe_int (fun _ _ => rfl)) (pa_cons (pv 3) pa_nil))) pa_nil))) (pg_sub (pv 1) (pe_un un_neg pe_int) set_list)))
        (pss_one (ps_expr (pe_bm PySem.F.plainAttrs_list PySem.F.slot_list_append PySem.F.type_list_append mt_append (pv 1) (pa_cons (pe_tup (pa_cons (pv 2) (pa_cons (pv 3) pa_nil))) pa_nil)))))))
    (pss_one (ps_ret (pe_callTy call_tuple_of (by rfl) tt (by decide +kernel) (pa_cons (pv 1) pa_nil))))))), ?_⟩
  obtain ⟨xs, hx, hxl⟩ := hl.len (K := K)
  obtain ⟨ts, pr, hL, it⟩ := len_case (K := K) hl
  have tl : ts.length = l.length := pr.length
  obtain ⟨oL, hLo⟩ : ∃ o, H L = some o := hL.elim (fun e => ⟨_, e⟩) fun e => ⟨_, e⟩
  refine ⟨_, rfl, L, xs, rfl, hx, _, 2, rfl, rfl, _, rfl, ?_⟩
  refine ite2 (fun h => ?_) (fun h => ?_)
  · have h2 : l.length < 2 := by
      have := of_decide_eq_true h
      omega
    refine it rfl fun J wk D hD => ?_
    refine lc_it wk (fun i H' => Bt D H H' ∧ ∃ us : List Addr, H' D = some (.lst (us.map V.ref)) ∧ us.length = i ∧ Paired (SwAt H') us (l.take i)) ⟨bt_upd, [], upd_same, rfl, .nil⟩ (fun i H' _ ⟨bt, _⟩ => (bt _ _ (ne_of_none hLo hD) hLo).trans hLo.symm) (fun i x H2 H' hi ⟨bt, us, h1, h2, h3⟩ ⟨e0, hx⟩ => ?_) (fun H' ⟨bt, us, h1, h2', h3⟩ => ?_)
    · subst e0
      have ip : l[i]? = some (l[i]'(by omega)) := List.getElem?_eq_getElem (by omega)
      generalize l[i]'(by omega) = p at ip
      obtain ⟨t, e1, e2⟩ := paired_at pr ip
      rw [List.getElem?_map, e1] at hx
      cases (show V.ref t = x from Option.some.inj hx)
      have nD : t ≠ D := ne_of_none e2 hD
      have ht : SwAt H' t p := bt t _ nD e2
      refine ⟨t, _, rfl, SqT.of ht, rfl, _, _, rfl, _, _, rfl, rfl, rfl, ?_⟩
      simp only [tYes, ↓reduceIte]
      refine ⟨_, rfl, _, rfl, by show 2 ≤ sizeLine; decide, fun u hu => ?_⟩
      have s2 := same_upd (o := HO.tup [oV p.1, oV p.2]) hu
      have hu1 : SwAt (upd H' u (.tup [oV p.1, oV p.2])) u p := upd_same
      have hD1 := s2 _ _ h1
      have pr1 := h3.mono fun t q e => SwAt.same s2 e
      refine ⟨_, hD1, by rw [List.length_map, h2]; exact Nat.lt_of_lt_of_le (show i < 1000 by omega) (by decide), ?_⟩
      have bt2 := bt.trans (Same.bt s2)
      generalize upd H' u (.tup [oV p.1, oV p.2]) = H3 at hu1 hD1 pr1 bt2 ⊢
      have keep : ∀ c q, SwAt H3 c q → SwAt (upd H3 D (.lst (us.map V.ref ++ [.ref u]))) c q := fun c q e => by
        have n : c ≠ D := fun z => by
          unfold SwAt at e
          rw [z, hD1] at e
          cases e
        exact (upd_ne n).trans e
      refine ⟨bt2.trans bt_upd, us ++ [u], by rw [upd_same, List.map_append]; rfl, by rw [List.length_append, h2]; rfl, ?_⟩
      have et : l.take (i + 1) = l.take i ++ [p] := by rw [List.take_add_one, ip]; rfl
      rw [et]
      exact (pr1.mono fun c q e => keep c q e).snoc (keep _ _ hu1)
    · have sm : Same H H' := fun b o e => bt b o (ne_of_none e hD) e
      rw [tl, List.take_length] at h3
      refine ⟨D, _, rfl, .inl ⟨SqL.of h1, fun T hT => ?_⟩⟩
      have s3 := same_upd (o := HO.tup (us.map V.ref)) hT
      refine q T l _ ⟨us, upd_same, h3.mono fun c p e => SwAt.same s3 e⟩ ?_ (fun v => rfl) (Nat.le_refl _) (sm.trans s3)
      match l, h2, hok with
      | [], _, _ => exact ascS_nil
      | [p], _, hok => exact ascS_one (hok p List.mem_cons_self)
      | _ :: _ :: _, h2, _ => exact absurd h2 (by simp)
  · refine ⟨Nat.zero_le _, fun g hg => ?_⟩
    have s1 := same_upd (o := HO.lst []) hg
    have hg1 : (upd H g (.lst [])) g = some (.lst []) := upd_same
    generalize upd H g (.lst []) = H1 at s1 hg1 ⊢
    have pr1 : Paired (SwAt H1) ts l := pr.mono fun t p e => SwAt.same s1 e
    have hL1 : H1 L = some (.lst (ts.map V.ref)) ∨ H1 L = some (.tup (ts.map V.ref)) := hL.imp (s1 _ _) (s1 _ _)
    refine normS (σ' := [some (.ref L), some (.ref g), none, none]) rfl ?_
    refine ⟨_, rfl, L, ts.map V.ref, rfl, rfl, hL1.imp SqL.of SqT.of, fun ks H2 => Same H1 H2 ∧ ∃ us : List Addr, ks = us.map V.ref ∧ Paired (fun u (p : St2) => H2 u = some (.tup [.int (placeV p.1).1, .int (placeV p.1).2])) us (l.take ks.length),
      ⟨Same.refl _, [], rfl, .nil⟩, fun ks H2 x ⟨s2, us, e, h3⟩ hx => ?_, fun ks H2 ⟨s2, us, e, h3⟩ hlen2 => ?_⟩
    · subst e
      have il : (us.map V.ref).length < l.length := by
        have := (List.getElem?_eq_some_iff.mp hx).1
        simp only [List.length_map] at this ⊢
        omega
      have ip : l[(us.map V.ref).length]? = some (l[(us.map V.ref).length]'il) := List.getElem?_eq_getElem il
      generalize l[(us.map V.ref).length]'il = p at ip
      obtain ⟨t, e1, e2⟩ := paired_at pr1 ip
      rw [List.getElem?_map, e1] at hx
      cases (show V.ref t = x from Option.some.inj hx)
      refine ⟨t, p, rfl, SwAt.same s2 e2, fun u hu => ?_⟩
      have s3 := same_upd (o := HO.tup [.int (placeV p.1).1, .int (placeV p.1).2]) hu
      refine ⟨s2.trans s3, us ++ [u], by rw [List.map_append]; rfl, ?_⟩
      have et : l.take ((us.map V.ref ++ [V.ref u]).length) = l.take (us.map V.ref).length ++ [p] := by
        rw [List.length_append]
        show l.take ((us.map V.ref).length + 1) = _
        rw [List.take_add_one, ip]
        rfl
      rw [et]
      exact (h3.mono fun c p e => s3 _ _ e).snoc upd_same
    · subst e
      rw [hlen2, List.length_map, tl, List.take_length] at h3
      refine ⟨l.map kD, dp_kD h3, kDs_alike l, kDs_sortable l, fun d hd => ?_, fun S hS hS2 => ?_⟩
      · obtain ⟨p, _, rfl⟩ := List.mem_map.mp hd
        exact Nat.le_of_ble_eq_true rfl
      obtain ⟨ss, sp, sw, es⟩ := sorted_sws tl
      rw [es]
      have s3 := s2.trans (same_upd (o := HO.lst ((ss.map Prod.fst).map V.ref)) hS2)
      have hS1 : (upd H2 S (.lst ((ss.map Prod.fst).map V.ref))) S = some (.lst ((ss.map Prod.fst).map V.ref)) := upd_same
      have nSg : S ≠ g := fun z => by
        rw [z, hg1] at hS
        cases hS
      generalize upd H2 S (.lst ((ss.map Prod.fst).map V.ref)) = H3 at s3 hS1 ⊢
      have hg3 := s3 _ _ hg1
      have z3 := s1.trans s3
      have pr3 : Paired (SwAt H3) (ss.map Prod.fst) (ss.map Prod.snd) := paired_of fun q hq => SwAt.same s3 (paired_zip pr1 q (sp.mem_iff.mp hq))
      have pm : (ss.map Prod.snd).Perm l := by
        have e1 := sp.map Prod.snd
        rwa [List.map_snd_zip (by omega)] at e1
      have pw : (ss.map Prod.snd).Pairwise (fun a b => loO a.1 b.1) := List.pairwise_map.mpr sw
      generalize ss.map Prod.snd = l2 at pr3 pm pw
      generalize ss.map Prod.fst = ts2 at pr3 hS1
      have ok2 : ∀ p ∈ l2, okS p := fun p hp => hok p (pm.mem_iff.mp hp)
      have tl2 : ts2.length = l2.length := pr3.length
      have ll2 : l2.length = l.length := pm.length_eq
      refine ⟨S, rfl, ⟨_, SqL.of hS1⟩, ?_⟩
      refine for_list (K := K) (a := S) (xs := ts2.map V.ref) (fun i σ' H' => Bt g H3 H' ∧ (∃ y z : Option V, σ' = [some (.ref L), some (.ref g), y, z]) ∧ ∃ us : List Addr, H' g = some (.lst (us.map V.ref)) ∧ Paired (SwAt H') us (foldS (l2.take i)))
        ⟨fun _ _ _ e => e, ⟨none, none, rfl⟩, [], hg3, .nil⟩ (fun i σ' H' _ ⟨bt, _⟩ => SqL.of (bt _ _ nSg hS1)) (fun i x σ' H' hx ⟨bt, ⟨y, z, eσ⟩, us, h1, h3⟩ => ?_) (fun σ' H' ⟨bt, ⟨y, z, eσ⟩, us, h1, h3⟩ => ?_)
      · subst eσ
        have il : i < l2.length := by
          have := (List.getElem?_eq_some_iff.mp hx).1
          rw [List.length_map] at this
          omega
        have ip : l2[i]? = some (l2[i]'il) := List.getElem?_eq_getElem il
        generalize l2[i]'il = p at ip
        obtain ⟨t, e1, e2⟩ := paired_at pr3 ip
        rw [List.getElem?_map, e1] at hx
        cases (show V.ref t = x from Option.some.inj hx)
        have ntg : t ≠ g := fun z => by
          unfold SwAt at e2
          rw [z, hg3] at e2
          cases e2
        have ht : SwAt H' t p := bt _ _ ntg e2
        have ef : foldS (l2.take (i + 1)) = step (foldS (l2.take i)) p := by
          unfold foldS
          rw [List.take_add_one, ip]
          show List.foldl step [] (l2.take i ++ [p]) = _
          rw [List.foldl_append]
          rfl
        have lenf : (foldS (l2.take i)).length ≤ 1000 := by
          have := (foldS_ok (l := l2.take i) (fun q hq => ok2 q (List.mem_of_mem_take hq)) (pw.sublist (List.take_sublist _ _)) [] ascS_nil fun q hq => nomatch hq).2.2
          have e : (l2.take i).length ≤ l2.length := by rw [List.length_take]; omega
          show (List.foldl step [] (l2.take i)).length ≤ 1000
          have e3 : ([] : List St2).length = 0 := rfl
          omega
        have ul : us.length = (foldS (l2.take i)).length := h3.length
        generalize foldS (l2.take i) = n at h3 ef lenf ul
        refine ⟨t, _, rfl, SqT.of ht, rfl, _, _, rfl, _, _, rfl, rfl, ?_⟩
        have app : step n p = n ++ [p] → tDrop (tBM K "list" rAppend (tVar 1) (tCons (tTup (tCons (tVar 2) (tCons (tVar 3) tNil))) tNil)) { nx := fun σ' H' => Bt g H3 H' ∧ (∃ y z : Option V, σ' = [some (.ref L), some (.ref g), y, z]) ∧ ∃ us : List Addr, H' g = some (.lst (us.map V.ref)) ∧ Paired (SwAt H') us (foldS (l2.take (i + 1))), rt := Q } [some (.ref L), some (.ref g), some (oV p.1), some (oV p.2)] H' := fun es => by
          refine ⟨_, rfl, .inl ⟨rfl, _, SqL.of h1⟩, _, rfl, _, rfl, by show 2 ≤ sizeLine; decide, fun u hu => ?_⟩
          have s2 := same_upd (o := HO.tup [oV p.1, oV p.2]) hu
          have hu1 : SwAt (upd H' u (.tup [oV p.1, oV p.2])) u p := upd_same
          have hg4 := s2 _ _ h1
          have pr4 := h3.mono fun t q e => SwAt.same s2 e
          have bt2 := bt.trans (Same.bt s2)
          generalize upd H' u (.tup [oV p.1, oV p.2]) = H4 at hu1 hg4 pr4 bt2 ⊢
          have keep : ∀ c q, SwAt H4 c q → SwAt (upd H4 g (.lst (us.map V.ref ++ [.ref u]))) c q := fun c q e => by
            have n : c ≠ g := fun z => by
              unfold SwAt at e
              rw [z, hg4] at e
              cases e
            exact (upd_ne n).trans e
          refine ⟨g, _, _, rfl, rfl, hg4, by rw [List.length_map, ul]; exact Nat.lt_of_le_of_lt lenf (by decide), ?_⟩
          refine ⟨bt2.trans bt_upd, ⟨_, _, rfl⟩, us ++ [u], by rw [upd_same, List.map_append]; rfl, ?_⟩
          rw [ef, es]
          exact (pr4.mono fun c q e => keep c q e).snoc (keep _ _ hu1)
        rcases List.eq_nil_or_concat n with rfl | ⟨m, q, en⟩
        · have u0 : us = [] := List.length_eq_zero_iff.mp ul
          subst u0
          refine ⟨_, rfl, false, .inl ⟨[], SqL.of h1, rfl⟩, ?_⟩
          refine (show (if false = true then _ else _) from ?_)
          rw [if_neg (by decide)]
          refine (show (if false = true then _ else _) from ?_)
          rw [if_neg (by decide)]
          exact app rfl
        · rw [List.concat_eq_append] at en
          subst en
          obtain ⟨vs, t', eu, p1, p2⟩ := paired_last h3
          subst eu
          have em : (vs ++ [t']).map V.ref = vs.map V.ref ++ [V.ref t'] := by rw [List.map_append]; rfl
          have a1 : atI ((vs ++ [t']).map V.ref) (-1) = some (V.ref t') := by
            rw [em]
            exact atI_neg1
          have nt' : t' ≠ g := fun z => by
            unfold SwAt at p2
            rw [z, h1] at p2
            cases p2
          refine ⟨_, rfl, true, .inl ⟨_, SqL.of h1, by rw [em]; simp⟩, ?_⟩
          refine (show (if true = true then _ else _) from ?_)
          rw [if_pos rfl]
          refine ⟨_, rfl, 1, rfl, g, _, -1, V.ref t', rfl, rfl, SqL.of h1, a1, t', _, 1, _, rfl, rfl, SqT.of p2, rfl, ?_⟩
          refine ⟨_, rfl, q.2, p.1, rfl, ?_⟩
          refine ⟨reachB q.2 p.1, rfl, ?_⟩
          have es : step (m ++ [q]) p = if reachB q.2 p.1 = true then m ++ [(q.1, laterO q.2 p.2)] else m ++ [q] ++ [p] := by
            unfold Sm.step
            rw [List.getLast?_concat, List.dropLast_concat]
          refine ite2 (fun hb => ?_) (fun hb => ?_)
          · rw [if_pos hb] at es
            refine ⟨_, rfl, 1, rfl, g, _, -1, V.ref t', rfl, rfl, SqL.of h1, a1, t', _, 0, _, rfl, rfl, SqT.of p2, rfl, ?_⟩
            refine ⟨_, rfl, 1, rfl, g, _, -1, V.ref t', rfl, rfl, SqL.of h1, a1, t', _, 1, _, rfl, rfl, SqT.of p2, rfl, ?_⟩
            refine ⟨_, rfl, q.2, p.2, rfl, ?_⟩
            refine ⟨by show 2 ≤ sizeLine; decide, fun u hu => ?_⟩
            have s2 := same_upd (o := HO.tup [oV q.1, oV (laterO q.2 p.2)]) hu
            have hu1 : SwAt (upd H' u (.tup [oV q.1, oV (laterO q.2 p.2)])) u (q.1, laterO q.2 p.2) := upd_same
            have hg4 := s2 _ _ h1
            have pr4 := p1.mono fun t q e => SwAt.same s2 e
            have bt2 := bt.trans (Same.bt s2)
            refine ⟨_, rfl, 1, rfl, g, _, -1, _, rfl, rfl, hg4, ixN_neg1 (by simp), ?_⟩
            generalize upd H' u (.tup [oV q.1, oV (laterO q.2 p.2)]) = H4 at hu1 hg4 pr4 bt2 ⊢
            have ex : ((vs ++ [t']).map V.ref).set (((vs ++ [t']).map V.ref).length - 1) (V.ref u) = (vs ++ [u]).map V.ref := by
              rw [em, List.map_append]
              simp
            rw [ex]
            have keep : ∀ c q, SwAt H4 c q → SwAt (upd H4 g (.lst ((vs ++ [u]).map V.ref))) c q := fun c q e => by
              have n : c ≠ g := fun z => by
                unfold SwAt at e
                rw [z, hg4] at e
                cases e
              exact (upd_ne n).trans e
            refine ⟨bt2.trans bt_upd, ⟨_, _, rfl⟩, vs ++ [u], upd_same, ?_⟩
            rw [ef, es]
            exact (pr4.mono fun c q e => keep c q e).snoc (keep _ _ hu1)
          · rw [if_neg hb] at es
            exact app es
      · subst eσ
        have e0 : l2.take (ts2.map V.ref).length = l2 := by rw [List.length_map, tl2, List.take_length]
        rw [e0] at h3
        obtain ⟨f1, f2, f3⟩ := foldS_ok ok2 pw [] ascS_nil fun q hq => nomatch hq
        refine ⟨_, rfl, g, _, rfl, .inl ⟨SqL.of h1, fun T hT => ?_⟩⟩
        have s4 := same_upd (o := HO.tup (us.map V.ref)) hT
        have sm : Same H H' := fun b o e => bt b o (ne_of_none e hg) (z3 b o e)
        refine q T (foldS l2) _ ⟨us, upd_same, h3.mono fun c p e => SwAt.same s4 e⟩ f1 (fun v => ?_) ?_ (sm.trans s4)
        · rw [← memL_perm pm v]
          exact (f2 v).trans (Bool.false_or _)
        · have e3 : ([] : List St2).length = 0 := rfl
          have e4 : (foldS l2).length ≤ ([] : List St2).length + l2.length := f3
          omega
end
end S8

end Ps8G
section PEN
set_option maxHeartbeats 4000000
/-! enumerate over a tuple -/
namespace PySem
open Sem (wp)
open AutoSeq1 (wpAny_loadPart')
theorem meets_enum_tup (q : Addr) (xs : Array Value) (m : Nat) (dd : Option Addr) (ss : Array (Option Value)) :
    Meets (Builtin.«enumerate.__new__» ⟨[.type "enumerate", .ref q], []⟩) (fun _ R s => s.heap.get? q = some { cls := .type "tuple", dict := dd, data := .seq xs m, slots := ss } ∧
      R (.ok (.ret (.ref (s.heap.push { cls := .type "tuple_iterator", data := .fields #[.ref q, .int 0 0] }).objs.size)))
        { s with heap := (s.heap.push { cls := .type "tuple_iterator", data := .fields #[.ref q, .int 0 0] }).push { cls := .type "enumerate", data := .fields #[.none, .bool false, .ref s.heap.objs.size, rawInt 0, .none, .none] } }) :=
  .of_wp fun prog w A R s hs => by
    obtain ⟨hp, g, d, tk, os⟩ := s; obtain ⟨hq, hr⟩ := hs
    have sube := sub_enumerate
    have hTup : Heap.IsTuple (Shared.heap ⟨hp, g, d, tk, os⟩) q xs := ⟨_, hq, rfl, m, rfl⟩
    wp_walk using wpAny_loadPart' hq
    refine wpAny_stack_any fun sta => wpAny_pure ?_
    split
    · rename_i c _ _ _ _ _
      cases (c == Value.type "enumerate")
      · wp_walk using wpAny_loadPart' hq, wpAny_pyIter_tuple hTup
        exact ⟨_, rfl, hr⟩
      · wp_walk using wpAny_loadPart' hq, wpAny_pyIter_tuple hTup
        exact ⟨_, rfl, hr⟩
    · wp_walk using wpAny_loadPart' hq, wpAny_pyIter_tuple hTup
      exact ⟨_, rfl, hr⟩
section
variable {prog : Program} {w : World} {A : Around} {E : Value → Shared → Prop} {s : Shared}
theorem call_enum_tup {q : Addr} {xs : Array Value} {Q : Value → Shared → Prop} (hT : s.heap.IsTuple q xs)
    (k : ∀ h', IsEnum h' (s.heap.objs.size + 1) s.heap.objs.size 0 .none → h'.IsTupleIter s.heap.objs.size q 0 → (∀ b o, s.heap.get? b = some o → h'.get? b = some o) → Q (.ref (s.heap.objs.size + 1)) { s with heap := h' }) :
    wpAny (model prog w) A (call (.type "enumerate") [.ref q]) Q E s := by
  obtain ⟨⟨c, dd, dt, ss⟩, hq, hc, m, hd⟩ := hT
  obtain rfl : c = .type "tuple" := hc
  obtain rfl : dt = .seq xs m := hd
  refine callType_new F.called_enumerate (by decide) (F.typeCall_enumerate_1 _) (F.newCall_enumerate_1 _) (fun ob => F.args_object_init_2 ob _) F.entry_enumerate_new (meets_enum_tup q xs m dd ss) ⟨hq, ?_⟩
  have sz : (s.heap.push { cls := .type "tuple_iterator", data := .fields #[.ref q, .int 0 0] }).objs.size = s.heap.objs.size + 1 := Heap.size_push ..
  show _ ∧ _
  rw [sz]
  have en : IsEnum ((s.heap.push { cls := .type "tuple_iterator", data := .fields #[.ref q, .int 0 0] }).push { cls := .type "enumerate", data := .fields #[.none, .bool false, .ref s.heap.objs.size, rawInt 0, .none, .none] }) (s.heap.objs.size + 1) s.heap.objs.size 0 .none := by
    have z := Heap.get?_push_size (s.heap.push { cls := .type "tuple_iterator", data := .fields #[.ref q, .int 0 0] }) (o := { cls := .type "enumerate", data := .fields #[.none, .bool false, .ref s.heap.objs.size, rawInt 0, .none, .none] }) rfl
    rwa [sz] at z
  exact ⟨⟨_, en, rfl⟩, k _ en ⟨_, Heap.get?_push_of_some _ (Heap.get?_push_size _ rfl), rfl, rfl⟩ fun b o e => Heap.get?_push_of_some _ (Heap.get?_push_of_some _ e)⟩
end
end PySem
namespace L2
open PySem PySem.Spec PyProof.Rows
/-- the tuple at a, its items in new pairs with their places -/
def IteT (K : PySem.W.Frag) (a : Addr) : It :=
  ⟨fun i H => ∃ (xs : List V) (x : V), SqT K H a xs ∧ xs[i]? = some x, fun i H v H' => ∃ u x, v = .ref u ∧ H u = none ∧ H' = upd H u (.tup [.int (i : Nat), x]) ∧ ∀ xs, SqT K H a xs → xs[i]? = some x, fun i H => ∃ xs : List V, SqT K H a xs ∧ xs.length ≤ i⟩
theorem turn_enumT {P : Program} {w : World} {K : PySem.W.Frag} {elts : List Expr} {kk : Nat} {tpos : Pos} (a e it : Addr) (hae : a ≠ e) :
    Turn P w K (.Tuple elts kk tpos) (IteT K a) [e, it] e (fun i h => (∃ old, IsEnum h e it ((i : Nat) : Int) old) ∧ h.IsTupleIter it a i ∧ e ≠ it ∧ a ≠ it) where
  mem := by simp
  obj := fun i h ⟨⟨old, he⟩, ⟨o, ho, hc, hd⟩, _⟩ b hb => by
    rcases (show b = e ∨ b = it by simpa using hb) with z | z
    · rw [z]
      exact ⟨_, he, fun v q => nomatch q⟩
    · rw [z]
      exact ⟨o, ho, fun v q => by rw [hd] at q; cases q⟩
  keep := fun i h h' ⟨⟨old, he⟩, hi, n1, n2⟩ k => ⟨⟨old, k e (by simp) _ he⟩, hi.at fun o q => k it (by simp) o q, n1, n2⟩
  item := by
    intro X hP hw hK hc i pins s σ H E I hf st hg
    subst hP hw hK
    obtain ⟨⟨old, he⟩, hit, hne, hai⟩ := st
    obtain ⟨xs, x, hq, hx⟩ := hg
    obtain ⟨its, rv, p, hz⟩ := I.tuple hq
    have le : e < s.heap.objs.size := Heap.lt_size he
    have li : it < s.heap.objs.size := by
      obtain ⟨_, q, _⟩ := hit
      exact Heap.lt_size q
    have il : i < its.toArray.size := by
      rw [List.size_toArray, ← rv.length]
      exact (List.getElem?_eq_some_iff.mp hx).1
    refine wpAny_pyNext_enum_itemD (Draws.tuple (show X.A.in1.handled = none from I.ok.hd hc) it a hai its.toArray) he ⟨hit, p⟩ il hne (fun z => by
      rcases (show e = it ∨ e = a by simpa using z) with z | z
      · exact hne z
      · exact hae z.symm) fun u h' tk hu ho hst hT hsz hk => ?_
    obtain ⟨hit', _⟩ := hst
    have hu' : its[i]? = some u := by simpa using hu
    obtain ⟨v, q1, ru⟩ := rv.get hx
    rw [hu'] at q1
    cases q1
    refine ⟨_, rfl, wpAny_letOwnedTupleGo_enum (s := { s with heap := h', toks := tk + 1 }) ho fun h2 he2 sb => ?_⟩
    have hT2 : h2.get? s.heap.objs.size = some { cls := .type "tuple", data := .seq #[.int i tk, u] } := (sb.2 _ (Nat.ne_of_gt le)).trans hT
    have new : ObjOk X.prog X.w (upd H s.heap.objs.size (.tup [.int (i : Nat), x])) h2 s.heap.objs.size (.tup [.int (i : Nat), x]) :=
      ⟨by show 2 ≤ sizeLine; decide, [.int i tk, u], .cons ⟨_, rfl⟩ (.cons ru .nil), ⟨_, hT2, rfl, _, rfl⟩⟩
    have I1 : Inv X pins σ (upd H s.heap.objs.size (.tup [.int (i : Nat), x])) { s with heap := h2, toks := tk + 1 } :=
      I.turnedNew (ch := [e, it]) (fun c oc hc e0 => have ce : c ≠ e := fun y => hc (by simp [y]); have ci : c ≠ it := fun y => hc (by simp [y]); (sb.2 c ce).trans (hk c oc ce ci e0)) hf (Nat.le_refl _) new
    refine ⟨.ref s.heap.objs.size, _, I1, rfl, ⟨_, x, rfl, I.hok.fresh (Nat.le_refl _), rfl, fun ys hy => by rw [I.tuple_inj hy hq]; exact hx⟩, ⟨⟨u, ?_⟩, hit'.at fun o q => (sb.2 it (Ne.symm hne)).trans q, hne, hai⟩, fun b hb => ?_⟩
    · rw [show ((i + 1 : Nat) : Int) = (i : Int) + 1 by omega]
      exact he2
    · have lb : b < s.heap.objs.size := by
        rcases (show b = e ∨ b = it by simpa using hb) with z | z
        · exact z ▸ le
        · exact z ▸ li
      rw [upd_ne (Nat.ne_of_lt lb)]
      exact (hf b hb).1
  done := by
    intro X hP hw hK hc i pins s σ H E I hf st hg
    subst hP hw hK
    obtain ⟨⟨old, he⟩, hit, hne, hai⟩ := st
    obtain ⟨xs, hq, hx⟩ := hg
    obtain ⟨its, rv, p, hz⟩ := I.tuple hq
    obtain ⟨f0, f1, f2, f3, f4, f5⟩ := hf it (by simp)
    have hT : s.TypeIs (.ref e) "enumerate" := ⟨_, he, rfl⟩
    unfold pyNext
    refine wpAny_bind (wpAny_attempt (wpAny_callSpecial?_slot (name := Str.ofString "__next__") hT PySem.F.slot_enumerate_next (wpAny_call_entry PySem.F.slot_enumerate_next hT PySem.F.entry_enumerate_next ?_ (PySem.F.args_enumerate_next_1 _))))
    refine wpAny_bind (m := field (.ref e) 2) (wpAny_field he rfl (x := .ref it) rfl ?_)
    refine wpAny_bind (wpAny_nextOf_tuple_end (show X.A.in1.handled = none from I.ok.hd hc) hit p (by simp; have := rv.length; omega) fun h' x eb hx' => ?_)
    obtain ⟨o, ho, hcl⟩ := hx'
    refine wpAny_bind (wpAny_isInstance (T := "StopIteration") (b := true) ⟨o, ho, hcl⟩ isSubtype_stop ?_)
    exact wpAny_pure ⟨rfl, I.turned (t' := s.toks) (fun b o hb q => eb b o hb q) f0 f1 f3 f4 f5⟩
  self := fun A i s Q E st h => let ⟨⟨_, he⟩, _⟩ := st; wpAny_pyIter_enum he h
def iEnumT (K : PySem.W.Frag) (ta : TA) : TI := fun σ H R => ta σ H fun vs H1 => ∃ a xs, vs = [.ref a] ∧ SqT K H1 a xs ∧ R (IteT K a) H1
theorem pi_enumT {X : Cx} {e : Expr} {ta : TA} {p pos tpos : Pos} {elts : List Expr} {kk : Nat} (hg : Gl X "enumerate") (hm : X.mg "enumerate" = none) (ha : PA X [e] ta) (hs : starEach [e] X.env = [(false, eval e X.env)] := by rfl) :
    PI X (.Tuple elts kk tpos) (.Call (.Name "enumerate" p) [e] [] pos) (iEnumT X.K ta) := by
  refine ⟨fun pins s σ H R I h => ?_⟩
  refine Call_ (ld_blt I hg hm boot_enumerate (PyProof.Rows.callWith_type1 (thn (ha.run pos pins s σ H _ I h) fun us s1 ⟨vs, H1, I1, r1, a, xs, ex, hq, q⟩ => ?_) hs rfl))
  subst ex
  obtain rfl := Vals.ref1 r1
  obtain ⟨its, rv, p', hz⟩ := I1.tuple hq
  refine call_enum_tup p' fun h' he hit hk => wpAny_pyIter_enum he ?_
  have la : a < s1.heap.objs.size := p'.lt
  refine ⟨s1.heap.objs.size + 1, [s1.heap.objs.size + 1, s1.heap.objs.size], _, _, H1, rfl, I1.kept (t' := s1.toks) hk, turn_enumT a (s1.heap.objs.size + 1) s1.heap.objs.size (Nat.ne_of_lt (Nat.lt_succ_of_lt la)), ⟨⟨.none, he⟩, hit, Nat.succ_ne_self _, Nat.ne_of_lt la⟩, fun b hb => ?_, q⟩
  have lb : s1.heap.objs.size ≤ b := by
    rcases (show b = s1.heap.objs.size + 1 ∨ b = s1.heap.objs.size by simpa using hb) with z | z
    · exact z ▸ Nat.le_succ _
    · exact z ▸ Nat.le_refl _
  exact I1.fpOk lb (I1.hok.fresh lb)
theorem walk_enumT {K : PySem.W.Frag} {a : Addr} {xs : List V} : Walk (IteT K a) xs.length (fun H => SqT K H a xs) (YPair (fun i => some (.int (i : Nat))) (fun i => xs[i]?)) := by
  refine ⟨fun i _ hi q => ⟨xs, xs[i], q, by simp [hi]⟩, fun _ q => ⟨xs, q, Nat.le_refl _⟩, fun i H v H' _ q y => ?_⟩
  obtain ⟨u, x, h1, h2, h3, h4⟩ := y
  exact ⟨u, .int (i : Nat), x, h1, h2, h3, rfl, h4 xs q⟩
/-- for i, x in enumerate(l), l a list or a tuple -/
def iEnumS (K : PySem.W.Frag) (ta : TA) : TI := fun σ H R => iEnum K ta σ H R ∨ iEnumT K ta σ H R
theorem pi_enumS {X : Cx} {e : Expr} {ta : TA} {p pos tpos : Pos} {elts : List Expr} {kk : Nat} (hg : Gl X "enumerate") (hm : X.mg "enumerate" = none) (ha : PA X [e] ta) (hs : starEach [e] X.env = [(false, eval e X.env)] := by rfl) :
    PI X (.Tuple elts kk tpos) (.Call (.Name "enumerate" p) [e] [] pos) (iEnumS X.K ta) :=
  ⟨fun pins s σ H R I h => h.elim ((pi_enum hg hm ha hs).run pins s σ H R I) ((pi_enumT hg hm ha hs).run pins s σ H R I)⟩
end L2

end PEN
section PG11x
set_option maxHeartbeats 4000000
namespace PySem.W
open PySem PySem.Calls PyProof.Rows Builtin
section
variable {prog : Program} {w : World} {A : Around} {E : Value → Shared → Prop} {s : Shared} {K : Frag} {x C f : Addr} {ox : Obj} {od : Option Obj} {b tb : Value}
/-- a != b where the class has an own __eq__ alone -/
theorem cmp_notEq {Q : Value → Shared → Prop} (hu : A.units + 1 < cLine) (X : K.In s.heap) (I : InstAt s.heap x ox C od) (hb : Looks (model prog w) s.heap (typeOf b) tb) (hn : notFirst K C tb = true) (hne : findIn K (.ref C) "__ne__" = some (some (.builtin "object.__ne__")))
    (hob : mroIn K C (.type "object") = some true) (hs : findIn K (.ref C) "__eq__" = some (some (.ref f))) (hf : isFn K (.ref f) = true) (h : wpAny (model prog w) A.in1 (call (.ref f) [.ref x, b]) (fun v s' => ∃ k, v = .bool k ∧ Q (.bool (!k)) s') E s) :
    wpAny (model prog w) A (richCompare .NotEq (.ref x) b) Q E s := by
  have run : wpAny (model prog w) A (call (.builtin "object.__ne__") [.ref x, b]) (fun v s' => ∃ k, v = .bool k ∧ Q (.bool k) s') E s := by
    refine wpAny_call (codeAny_call_builtin PySem.F.cmp_object.ne.plain PySem.F.cmpEntry_ne (check_slot PySem.F.cmpKind_ne PySem.F.cmpSplit_ne (I.type.andThen (looks_mroIn X hob)) (PySem.F.cmpArgs_ne _ _) ?_))
    unfold Builtin.«object.__ne__»
    refine wpAny_bind (m := slotArgs "__ne__" 1 _) (wpAny_pure ?_)
    refine wpAny_bind (m := cRoomFor _ _) (wpAny_cRoomFor (show A.in1.units < cLine from hu) ?_)
    refine wpAny_bind (m := callSpecialIfBound? (.ref x) "__eq__" _) (ifBound_K X I hs hf (wpAny_mono h (fun v s' hv => ?_) fun _ _ e => e))
    obtain ⟨k, rfl, q⟩ := hv
    exact wpAny_bind (wpAny_truthy_bool (wpAny_pure ⟨!k, rfl, q⟩))
  have one : wpAny (model prog w) A (tryCompare (.ref x) "__ne__" b) (fun r s' => ∃ k, r = some (.bool k) ∧ Q (.bool k) s') E s := by
    unfold tryCompare
    refine wpAny_bind ?_
    simp only [callSpecialIfBound?, bindSpecialIfBound?]
    refine wpAny_holding (wpAny_bind (wpAny_bind (wpAny_bind (I.type.here ((looks_findIn X hne).here ?_)))))
    refine wpAny_bind (wpAny_askSetting (wpAny_ite ?_))
    have fin : ∀ Q2 : Option Value → Shared → Prop, (∀ s' k, Q (.bool k) s' → Q2 (some (.bool k)) s') → wpAny (model prog w) A (call (.builtin "object.__ne__") ([.ref x] ++ [b]) >>= fun v => pure (some v)) Q2 E s := fun Q2 q2 => by
      refine wpAny_bind (wpAny_mono run (fun v s' hv => ?_) fun _ _ e => e)
      obtain ⟨k, rfl, q⟩ := hv
      exact wpAny_pure (q2 s' k q)
    split
    · exact wpAny_bind ((Looks.of_pure (PySem.F.cmp_object.ne.bind _)).here (wpAny_pure (by exact fin _ fun s' k q => wpAny_pure ⟨k, rfl, q⟩)))
    · exact wpAny_tryCatch (wpAny_bind ((Looks.of_pure (PySem.F.cmp_object.ne.bind _)).here (wpAny_pure (by exact fin _ fun s' k q => wpAny_pure ⟨k, rfl, q⟩))))
  unfold richCompare
  simp only [oneThing_ref]
  refine wpAny_holding (wpAny_bind (wpAny_cRoomFor (Nat.lt_of_succ_lt hu) ?_))
  refine wpAny_bind (I.type.here (wpAny_bind (hb.here ?_)))
  split
  · rename_i q
    have e : subIn K tb (.ref C) = some false := by
      rcases Bool.or_eq_true_iff.mp hn with e | e
      · rw [beq_iff_eq.mp e] at q
        simp at q
      · exact beq_iff_eq.mp e
    refine wpAny_bind ((looks_subIn X e).here ?_)
    simp only [Bool.false_eq_true, if_false]
    refine wpAny_bind (wpAny_mono one (fun r s' z => ?_) fun _ _ e => e)
    obtain ⟨v, rfl, hq⟩ := z
    exact wpAny_pure hq
  · refine wpAny_bind (wpAny_pure ?_)
    simp only [Bool.false_eq_true, if_false]
    refine wpAny_bind (wpAny_mono one (fun r s' z => ?_) fun _ _ e => e)
    obtain ⟨v, rfl, hq⟩ := z
    exact wpAny_pure hq
end
end PySem.W

namespace L2
open PySem PySem.Spec PyProof.Rows
/-- what the written part says of a class with an own __eq__ at f -/
structure EqO (K : PySem.W.Frag) (C f : Addr) : Prop where
  eq : PySem.W.findIn K (.ref C) "__eq__" = some (some (.ref f))
  fn : PySem.W.isFn K (.ref f) = true
  ne : PySem.W.findIn K (.ref C) "__ne__" = some (some (.builtin "object.__ne__"))
  ob : PySem.W.mroIn K C (.type "object") = some true
/-- the other side of a comparison: an instance, a list, a tuple, a dict, a text -/
def OthV (K : PySem.W.Frag) (C : Addr) (H : Hp) (y : V) : Prop := (∃ b, y = .ref b ∧ ((∃ C' dy gs, H b = some (.ins C' dy gs) ∧ PySem.W.notFirst K C (.ref C') = true) ∨ (∃ xs, H b = some (.lst xs) ∧ PySem.W.notFirst K C (.type "list") = true) ∨ (∃ xs, H b = some (.tup xs) ∧ PySem.W.notFirst K C (.type "tuple") = true) ∨ ∃ ks, H b = some (.dK ks) ∧ PySem.W.notFirst K C (.type "dict") = true)) ∨ ∃ z, y = .str z ∧ PySem.W.notFirst K C (.type "str") = true
section
variable {X : Cx} {pins : List (Addr × Obj)} {σ : St} {H : Hp} {s : Shared} {C f : Addr} {fd : FuncData} {ps : List Str} {sp : Sp} {k : Nat} {u : Value} {y : V}
theorem OthV.looks (I : Inv X pins σ H s) (h : OthV X.K C H y) (r : RelV y u) : ∃ tb, PySem.W.Looks (model X.prog X.w) s.heap (typeOf u) tb ∧ PySem.W.notFirst X.K C tb = true := by
  rcases h with ⟨b, rfl, h⟩ | ⟨z, rfl, n⟩
  · cases (show u = Value.ref b from r)
    rcases h with ⟨C', dy, gs, e, n⟩ | ⟨xs, e, n⟩ | ⟨xs, e, n⟩ | ⟨ks, e, n⟩
    · obtain ⟨mA, J, _⟩ := ins_get I.hok e
      obtain ⟨od, J, _⟩ := J.look
      exact ⟨_, J.type, n⟩
    · obtain ⟨_, its, k, rv, o⟩ := (show ObjOk X.prog X.w H s.heap b (.lst xs) from I.hok b _ e)
      exact ⟨_, fun A Q E s' kp q => wpAny_typeOf ⟨_, kp _ _ o, rfl⟩ q, n⟩
    · obtain ⟨_, its, rv, o, h1, h2, _⟩ := (show ObjOk X.prog X.w H s.heap b (.tup xs) from I.hok b _ e)
      exact ⟨_, fun A Q E s' kp q => wpAny_typeOf ⟨_, kp _ _ h1, h2⟩ q, n⟩
    · obtain ⟨_, _, vs, _, o, es, ep, h1, h2, _⟩ := (show ObjOk X.prog X.w H s.heap b (.dK ks) from I.hok b _ e)
      exact ⟨_, fun A Q E s' kp q => wpAny_typeOf ⟨_, kp _ _ h1, h2.1⟩ q, n⟩
  · obtain ⟨t, rfl⟩ := (show ∃ t, u = Value.str z t from r)
    exact ⟨.type "str", fun A Q E s' kp q => wpAny_typeOf rfl q, n⟩
/-- the own method's run, somewhere below the body -/
theorem own_run {A : Around} {E : Value → Shared → Prop} {Q : VK} {us : List Value} {vs : List V} (F : FnOk X.prog X.w X.K X.mg X.base CX0 k f fd ps sp) (hb : Binds X.K fd ps []) (hr : Room k A) (fr : A.frames = X.A.frames) (I : Inv X pins σ H s) (r : Vals vs us) (h : sp vs H Q E0) :
    wpAny (model X.prog X.w) A (call (.ref f) us) (EP X pins σ Q) E s := by
  have e0 : Env0 X.prog X.w X.K X.mg X.base A X.stack s H := by
    have e := I.env0
    exact ⟨by rw [fr]; exact e.frames, e.mod, e.bs, e.bsz, e.funs, e.frf, e.hok, e.bare⟩
  have hl : us.length = ps.length := r.length.symm.trans (F.len _ _ _ _ h)
  refine wpAny_call (codeAny_mono (F.run A X.stack s H ⟨us, []⟩ us vs Q E0 hr e0 (by
    have z := hb s us I.kIn (by simpa using hl)
    simpa using z) r h) fun r s' hq => ?_)
  cases r with
  | error e => exact (show False from hq).elim
  | ok fl =>
    cases fl with
    | ret w => exact I.after hq
    | next => exact False.elim hq
    | brk => exact False.elim hq
    | cont => exact False.elim hq
/-- .. where the guards are told -/
theorem own_runG {A : Around} {E : Value → Shared → Prop} {Q : VK} {us : List Value} {vs : List V} (F : FnG X.prog X.w X.K X.mg X.base CX0 k f fd ps sp) (hG : A.guards = some []) (hb : Binds X.K fd ps []) (hr : Room k A) (fr : A.frames = X.A.frames) (I : Inv X pins σ H s) (r : Vals vs us) (h : sp vs H Q E0) :
    wpAny (model X.prog X.w) A (call (.ref f) us) (EP X pins σ Q) E s := by
  have e0 : Env0 X.prog X.w X.K X.mg X.base A X.stack s H := by
    have e := I.env0
    exact ⟨by rw [fr]; exact e.frames, e.mod, e.bs, e.bsz, e.funs, e.frf, e.hok, e.bare⟩
  have hl : us.length = ps.length := r.length.symm.trans (F.len _ _ _ _ h)
  refine wpAny_call (codeAny_mono (F.run A X.stack s H ⟨us, []⟩ us vs Q E0 hG hr e0 (by
    have z := hb s us I.kIn (by simpa using hl)
    simpa using z) r h) fun r s' hq => ?_)
  cases r with
  | error e => exact (show False from hq).elim
  | ok fl =>
    cases fl with
    | ret w => exact I.after hq
    | next => exact False.elim hq
    | brk => exact False.elim hq
    | cont => exact False.elim hq
end
/-- a == b, a != b by the own __eq__ of a's class -/
def rEqO (K : PySem.W.Frag) (C : Addr) (sp : Sp) (neg : Bool) : R2 := fun x y H Q => ∃ a dx fs, x = .ref a ∧ H a = some (.ins C dx fs) ∧ OthV K C H y ∧ sp [.ref a, y] H (fun v H' => ∃ k, v = .bl k ∧ Q (.bl (if neg = true then !k else k)) H') E0
section
variable {X : Cx} {C f : Addr} {fd : FuncData} {ps : List Str} {sp : Sp} {k : Nat}
theorem frames_in1 {A : Around} : A.in1.frames = A.frames := by rfl
theorem guards_in1 {A : Around} (h : A.guards = some []) : A.in1.guards = some [] := by
  have e : A.in1.guards = A.guards := by rfl
  rw [e, h]
theorem op_eqO (T : EqO X.K C f) (F : FnOk X.prog X.w X.K X.mg X.base CX0 k f fd ps sp) (hb : Binds X.K fd ps []) (hr : Room k X.A) : OpR X (compareOp .Eq) (rEqO X.K C sp false) := by
  intro pins s σ H x y v u Q I rx ry h
  obtain ⟨a, dx, fs, rfl, ea, oy, q⟩ := h
  cases (show v = Value.ref a from rx)
  obtain ⟨mA, J, _⟩ := ins_get I.hok ea
  obtain ⟨od, J, _⟩ := J.look
  obtain ⟨tb, hl, hn⟩ := oy.looks I ry
  obtain ⟨m, hF⟩ := I.fr
  refine PySem.W.cmp_K (op := .Eq) hr.units0 hF I.ok.mod.kin J hl hn T.eq T.fn ?_
  refine wpAny_mono (own_run (vs := [.ref a, y]) F hb hr rfl I (.cons rfl (.cons ry .nil)) q) (fun r s' hq => ?_) fun _ _ e => e
  obtain ⟨z, H', I', rz, kk, ez, q2⟩ := hq
  subst ez
  cases (show r = Value.bool kk from rz)
  exact ⟨.bl kk, H', I', rfl, q2⟩
theorem op_neO (T : EqO X.K C f) (F : FnOk X.prog X.w X.K X.mg X.base CX0 k f fd ps sp) (hb : Binds X.K fd ps []) (hr : Room (k + 1) X.A) : OpR X (compareOp .NotEq) (rEqO X.K C sp true) := by
  intro pins s σ H x y v u Q I rx ry h
  obtain ⟨a, dx, fs, rfl, ea, oy, q⟩ := h
  cases (show v = Value.ref a from rx)
  obtain ⟨mA, J, _⟩ := ins_get I.hok ea
  obtain ⟨od, J, _⟩ := J.look
  obtain ⟨tb, hl, hn⟩ := oy.looks I ry
  refine PySem.W.cmp_notEq (hr.in1.units0) I.kIn J hl hn T.ne T.ob T.eq T.fn ?_
  refine wpAny_mono (own_run (vs := [.ref a, y]) F hb hr.in1 frames_in1 I (.cons rfl (.cons ry .nil)) q) (fun r s' hq => ?_) fun _ _ e => e
  obtain ⟨z, H', I', rz, kk, ez, q2⟩ := hq
  subst ez
  cases (show r = Value.bool kk from rz)
  exact ⟨kk, rfl, .bl (!kk), H', I', rfl, q2⟩
/-- repr(a) by the own __repr__ of a's class -/
def rReprO (C : Addr) (sp : Sp) : List V → Hp → VK → Prop := fun xs H Q => ∃ a dx fs, xs = [.ref a] ∧ H a = some (.ins C dx fs) ∧ sp [.ref a] H (fun v H' => ∃ z : Str, v = .str z ∧ Q (.str z) H') E0
theorem call_reprO (hs : PySem.W.findIn X.K (.ref C) "__repr__" = some (some (.ref f))) (hf : PySem.W.isFn X.K (.ref f) = true) (F : FnG X.prog X.w X.K X.mg X.base CX0 k f fd ps sp) (hG : X.A.guards = some []) (hb : Binds X.K fd ps []) (hr : Room (k + 1) X.A) :
    CallR X (.builtin "repr") (rReprO C sp) := by
  intro pins s σ H xs us Q I r h
  obtain ⟨a, dx, fs, rfl, ea, q⟩ := h
  rw [Vals.ref1 r]
  obtain ⟨mA, J, _⟩ := ins_get I.hok ea
  obtain ⟨od, J, _⟩ := J.look
  obtain ⟨m, hF⟩ := I.fr
  refine PySem.W.repr_K (hr.in1.units0) hF I.ok.mod.kin J hs hf ?_
  refine wpAny_mono (own_runG (vs := [.ref a]) F (guards_in1 hG) hb hr.in1 frames_in1 I (.cons rfl .nil) q) (fun r s' hq => ?_) fun _ _ e => e
  obtain ⟨z, H', I', rz, zz, ez, q2⟩ := hq
  subst ez
  obtain ⟨t, ez⟩ := (show ∃ t, r = Value.str zz t from rz)
  subst ez
  exact ⟨.str zz, H', I', ⟨t, rfl⟩, q2⟩
end
/-- {x!r}: data -/
def tFmtD (te : TE) : TE := fun σ H Q => te σ H fun x H1 => ∃ d : PyData, Rp H1 x d ∧ d.showable = true ∧ d.shown.length ≤ sizeLine ∧ d.depth ≤ 60 ∧ Q (.str d.shown) H1
theorem pe_fmtD {X : Cx} {e : Expr} {te : TE} {pos : Pos} (hg : X.A.guards = some []) (hu : X.A.units + 64 < cLine) (hK : noMods X.K = true) (he : PE X e te) : PE X (.FormattedValue e 114 none pos) (tFmtD te) := by
  refine ⟨fun pins s σ H Q I h => ?_⟩
  refine wpAny_FormattedValue_repr (thn (he.run pins s σ H _ I h) fun v s1 hv => ?_)
  obtain ⟨x, H1, I1, r1, d, hr, hs, hl, hd, q⟩ := hv
  have fin : ∀ (s2 : Shared) (tk : Nat), Inv X pins σ H1 s2 → wpAny (model X.prog X.w) X.A (formatField (.str d.shown tk) Str.empty) (EP X pins σ Q) X.xe s2 := fun s2 tk I2 => wpAny_formatField_str ⟨.str d.shown, H1, I2, ⟨_, rfl⟩, q⟩ ⟨.str d.shown, H1, I2.tok _, ⟨_, rfl⟩, q⟩ hl
  cases hr with
  | non =>
    cases (show v = Value.none from r1)
    exact pyReprObj_none (fin _ _ (I1.tok _))
  | bl b =>
    cases (show v = Value.bool b from r1)
    exact pyReprObj_bool (fin _ _ (I1.tok _))
  | int i =>
    obtain ⟨t, z⟩ := (show ∃ t, v = Value.int i t from r1)
    cases z
    exact pyReprObj_int (by simpa [PyData.showable] using hs) (fin _ _ (I1.tok _))
  | str x =>
    obtain ⟨t, z⟩ := (show ∃ t, v = Value.str x t from r1)
    cases z
    exact pyReprObj_str (fin _ _ (I1.tok _)) hl
  | lst h k =>
    obtain ⟨as, w, no⟩ := Rp.reads I1 (noMods_ok I1 hK) (.lst h k) r1
    cases (show v = Value.ref _ from r1)
    exact pyReprObj_of_reads w hs (fun _ => no) hg (by omega) (fun _ _ e => e) (fun h' t tk kp => fin _ _ (I1.kept (t' := tk) kp)) hl
  | tup h k =>
    obtain ⟨as, w, no⟩ := Rp.reads I1 (noMods_ok I1 hK) (.tup h k) r1
    cases (show v = Value.ref _ from r1)
    exact pyReprObj_of_reads w hs (fun _ => no) hg (by omega) (fun _ _ e => e) (fun h' t tk kp => fin _ _ (I1.kept (t' := tk) kp)) hl
  | dic h k =>
    obtain ⟨as, w, no⟩ := Rp.reads I1 (noMods_ok I1 hK) (.dic h k) r1
    cases (show v = Value.ref _ from r1)
    exact pyReprObj_of_reads w hs (fun _ => no) hg (by omega) (fun _ _ e => e) (fun h' t tk kp => fin _ _ (I1.kept (t' := tk) kp)) hl
end L2

namespace L2
open PySem PySem.Spec PyProof.Rows
/-- C(..), C in the i-th slot -/
def tMakeL (i : Nat) (C : Addr) (sp : Sp) (dvs : List V) (E : XK) (t : TA) : TE := fun σ H Q => σ[i]? = some (some (.ref C)) ∧ tMake C sp dvs E t σ H Q
section
variable {X : Cx} {CX : CXT} {k i : Nat} {f C p g : Addr} {mc : Value} {fd : FuncData} {ps : List Str} {sp : Sp} {dvs : List V} {ds : List Value} {E : XK} {x m : Str} {pp pos apos : Pos} {e o : Expr} {es : List Expr} {t : TA} {ta : TE} {pl : Sem Bool}
theorem pe_makeL (M : Mk X.K C f) (F : FnOk X.prog X.w X.K X.mg X.base CX k f fd ps sp) (hr : Room (k + 1) X.A) (hN : X.N[i]? = some x) (hv : Vis X.env.scope x) (hb : Binds X.K fd ps ds) (hd : Vals dvs ds) (hx : Passes CX X E) (ha : PA X (e :: es) t)
    (hdb : (x == ("__debug__" : Str)) = false := by decide) (hcd : (x == ("__classdict__" : Str)) = false := by decide) (he : starEach (e :: es) X.env = (false, eval e X.env) :: starEach es X.env := by rfl) (hpl : (backTo pos (starEach es X.env)).any (·.1) = false := by rfl) :
    PE X (.Call (.Name x pp) (e :: es) [] pos) (tMakeL i C sp dvs E t) := by
  refine ⟨fun pins s σ H Q I h => ?_⟩
  obtain ⟨hs, ht⟩ := h
  refine wpAny_Call_Name_kw (thn ((pe_var (pos := pp) hN hv hdb hcd).run pins s σ H (fun v H1 => v = .ref C ∧ H1 = H) I ⟨.ref C, hs, rfl, rfl⟩) fun u s1 ⟨v, H1, I1, r1, q1⟩ => ?_)
  obtain ⟨rfl, rfl⟩ := q1
  cases r1
  exact PySem.W.callWith_K (h₀ := X.base) I.ok.mod.kin M.kp (thn (ha.run pos pins s1 σ _ _ I1 ht) fun us s2 ⟨vs, H2, I2, r, q⟩ => ⟨I2.kIn, run_make M F hr hb hd hx I2 r q⟩) he hpl
theorem pe_makeL0 (M : Mk X.K C f) (F : FnOk X.prog X.w X.K X.mg X.base CX k f fd ps sp) (hr : Room (k + 1) X.A) (hN : X.N[i]? = some x) (hv : Vis X.env.scope x) (hb : Binds X.K fd ps ds) (hd : Vals dvs ds) (hx : Passes CX X E)
    (hdb : (x == ("__debug__" : Str)) = false := by decide) (hcd : (x == ("__classdict__" : Str)) = false := by decide) : PE X (.Call (.Name x pp) [] [] pos) (tMakeL i C sp dvs E tNil) := by
  refine ⟨fun pins s σ H Q I h => ?_⟩
  obtain ⟨hs, ht⟩ := h
  refine wpAny_Call_Name_kw (thn ((pe_var (pos := pp) hN hv hdb hcd).run pins s σ H (fun v H1 => v = .ref C ∧ H1 = H) I ⟨.ref C, hs, rfl, rfl⟩) fun u s1 ⟨v, H1, I1, r1, q1⟩ => ?_)
  obtain ⟨rfl, rfl⟩ := q1
  cases r1
  exact PySem.W.callWith_K0 I1.kIn M.kp (run_make (us := []) M F hr hb hd hx I1 .nil ht)
/-- C.m(), m a classmethod -/
theorem pe_cmeth0 (he : PE X o ta) (r : ClX.CRead X.K C mc) (c : ClX.CMet X.K C mc m p g) (F : FnR X.prog X.w X.K X.mg X.base CX k g sp) (hr : Room k X.A) (hx : Passes CX X E)
    (ht : eval (.Call (.Attribute o m apos) [] [] pos) X.env = (eval o X.env >>= fun ov => standAt apos.atName >>= fun _ => holding [ov] (getMethod ov m pl) >>= fun q => callWith pos q.1 q.2 (backTo pos (starEach [] X.env)) (backToKw pos (keywordEach [] X.env))) := by rfl) :
    PE X (.Call (.Attribute o m apos) [] [] pos) (ClX.tCMeth C sp E ta tNil) := by
  refine ⟨fun pins s σ H Q I h => ?_⟩
  refine PySem.W.methodCall_KW (pl := pl) (thn (he.run pins s σ H _ I h) fun u s1 ⟨y, H1, I1, rx, ex, q⟩ => ?_) ht
  subst ex
  obtain rfl : u = Value.ref C := rx
  refine ClX.getmethcm_ok I1 r c fun s2 I2 => ?_
  exact PySem.W.callWith_M0 (K := X.K) (first := []) ⟨ClX.pin_at I2, I2.kIn⟩ c.fi (ClX.run_cm (us := []) (vs := []) F hr hx I2 .nil q)
end
end L2

/-! A def that is called within an except suite, and never raises. -/
namespace L2
open PySem PySem.Spec PyProof.Rows L2H
structure FnW (P : Program) (w : World) (K : PySem.W.Frag) (mg : Str → Option Value) (base : Heap) (k : Nat) (f : Addr) (fd : FuncData) (ps : List Str) (sp : Sp) : Prop where
  len : ∀ vs H Q E, sp vs H Q E → vs.length = ps.length
  run : ∀ (A : Around) (outer : List Env) (s : Shared) (H : Hp) (args : Args) (us : List Value) (vs : List V) (Q : VK) (E : XK) (p : Addr × Obj), A.guards = some [] → RoomH k A → PinOk outer H s p → Env0 P w K mg base A outer s H → BindsTo s fd args (ps.zip us) → Vals vs us → sp vs H Q E →
    codeAny (model P w) A (.call (.ref f) args) (CR CX0 outer P w H s Q E) s
theorem FunD.okW {P : Program} {w : World} {K : PySem.W.Frag} {mg : Str → Option Value} {base : Heap} {k : Nat} {f : Addr} {x qual : Str} {params : Arguments} {body : List Stmt} {scope : Scope} {dvs : List V} {kws : List (Str × V)} {fd : FuncData} {N ps : List Str} {sp : Sp}
    (F : FunD K x qual params body scope dvs kws f fd) (S : FnScope N ps scope) (len : ∀ vs H Q E, sp vs H Q E → vs.length = ps.length)
    (hbody : ∀ (cdv : Value) (A : Around) (outer : List Env) (s : Shared) (H : Hp) (vs : List V) (Q : VK) (E : XK) (p : Addr × Obj), A.guards = some [] → RoomH k (A.deeper (envOfC qual scope s.heap.objs.size f cdv)) → sp vs H Q E →
      ∃ t, PSs (cxH CX0 P w K mg base N qual scope f cdv A outer s H E p) body t ∧ t { nx := fun _ H' => Q .non H', rt := Q } (start N vs) H) : FnW P w K mg base (k + 1) f fd ps sp := by
  obtain ⟨oc, od, dV, kV, doc, pm, an, cdv, ct, osl, rfl, lk, hcd, _, _⟩ := F.ex
  refine ⟨len, fun A outer s H args us vs Q E p hg hr hpin e0 hb r hsp => ?_⟩
  have hl := len _ _ _ _ hsp
  have old : ∀ b o, base.get? b = some o → s.heap.get? b = some o := fun b o e => (e0.bs b o e).1
  have KX : K.In s.heap := e0.mod.kin.keeps old
  have lim : s.heap.NoLimit := e0.mod.nolimit.keeps old
  refine codeAny_call_function hr.depth (KX _ _ lk) rfl S.co S.gen rfl (PySem.W.codeRec_of KX hcd) (hb _ _ _ _ (wpAny_newFunctionEnv_cells S.kind (fun y hy => ?_) fun env he s1 x => ?_))
  · rcases S.par y.1 (List.of_mem_zip (show (y.1, y.2) ∈ ps.zip us from hy)).1 with q | q
    · exact .inl q
    · exact .inr ⟨q, PySem.W.cellsFrom_some _ _ _ (.inl q)⟩
  · subst he
    obtain ⟨t, ht, hq⟩ := hbody cdv A outer s H vs Q E p hg (hr.deeper _) hsp
    refine ⟨lim.keeps x.toInCall.keep, codeAny_func (wpAny_mono (ht.run [] s1 (start N vs) H _ (inv_startH S hpin e0 hl r x) hq) (fun fl s' hs => ?_) fun e s' hs => hs)⟩
    cases fl with
    | ret u =>
      obtain ⟨v, σ', H', J, rv, q⟩ := hs
      exact ⟨v, H', J.os, J.bare, J.base, J.hok, rv, q⟩
    | next =>
      obtain ⟨σ', H', J, q⟩ := hs
      exact ⟨V.non, H', J.os, J.bare, J.base, J.hok, rfl, q⟩
    | brk =>
      obtain ⟨_, _, _, q⟩ := hs
      exact False.elim q
    | cont =>
      obtain ⟨_, _, _, q⟩ := hs
      exact False.elim q
theorem roomH_in1 {k : Nat} {A : Around} (r : RoomH (k + 1) A) : RoomH k A.in1 :=
  ⟨by have := r.dp; show A.depth + 3 * k + 5 < _; omega, by have := r.un; show A.units + 1 + 16 * k + 200 < _; omega⟩
section
variable {X : Cx} {C f : Addr} {fd : FuncData} {ps : List Str} {sp : Sp} {k : Nat}
theorem own_runW {pins : List (Addr × Obj)} {σ : St} {H : Hp} {s : Shared} {A : Around} {E : Value → Shared → Prop} {Q : VK} {us : List Value} {vs : List V} (F : FnW X.prog X.w X.K X.mg X.base k f fd ps sp) (hG : A.guards = some []) (hb : Binds X.K fd ps []) (hr : RoomH k A) (fr : A.frames = X.A.frames) (hc : ∃ p, p ∈ X.pn) (I : Inv X pins σ H s) (r : Vals vs us) (h : sp vs H Q E0) :
    wpAny (model X.prog X.w) A (call (.ref f) us) (EP X pins σ Q) E s := by
  have e0 : Env0 X.prog X.w X.K X.mg X.base A X.stack s H := by
    have e := I.env0
    exact ⟨by rw [fr]; exact e.frames, e.mod, e.bs, e.bsz, e.funs, e.frf, e.hok, e.bare⟩
  obtain ⟨p, hp⟩ := hc
  have P1 := I.pin p (List.mem_append_left _ hp)
  have hpin : PinOk X.stack H s p := ⟨P1.1, P1.2.1, fun hm => (List.mem_cons.mp (I.stkSub p.1 hm)).elim P1.2.2.1 P1.2.2.2.1, P1.2.2.2.2⟩
  have hl : us.length = ps.length := r.length.symm.trans (F.len _ _ _ _ h)
  refine wpAny_call (codeAny_mono (F.run A X.stack s H ⟨us, []⟩ us vs Q E0 p hG hr hpin e0 (by
    have z := hb s us I.kIn (by simpa using hl)
    simpa using z) r h) fun r s' hq => ?_)
  cases r with
  | error e => exact (show False from hq).elim
  | ok fl =>
    cases fl with
    | ret w => exact I.after hq
    | next => exact False.elim hq
    | brk => exact False.elim hq
    | cont => exact False.elim hq
theorem call_reprW (hs : PySem.W.findIn X.K (.ref C) "__repr__" = some (some (.ref f))) (hf : PySem.W.isFn X.K (.ref f) = true) (F : FnW X.prog X.w X.K X.mg X.base k f fd ps sp) (hc : ∃ p, p ∈ X.pn) (hG : X.A.guards = some []) (hb : Binds X.K fd ps []) (hr : RoomH (k + 1) X.A) :
    CallR X (.builtin "repr") (rReprO C sp) := by
  intro pins s σ H xs us Q I r h
  obtain ⟨a, dx, fs, rfl, ea, q⟩ := h
  rw [Vals.ref1 r]
  obtain ⟨mA, J, _⟩ := ins_get I.hok ea
  obtain ⟨od, J, _⟩ := J.look
  obtain ⟨m, hF⟩ := I.fr
  refine PySem.W.repr_K (by have := (roomH_in1 hr).un; omega) hF I.ok.mod.kin J hs hf ?_
  refine wpAny_mono (own_runW (vs := [.ref a]) F (guards_in1 hG) hb (roomH_in1 hr) frames_in1 hc I (.cons rfl .nil) q) (fun r s' hq => ?_) fun _ _ e => e
  obtain ⟨z, H', I', rz, zz, ez, q2⟩ := hq
  subst ez
  obtain ⟨t, ez⟩ := (show ∃ t, r = Value.str zz t from rz)
  subst ez
  exact ⟨.str zz, H', I', ⟨t, rfl⟩, q2⟩
end
end L2

namespace L2
open PySem PySem.Spec PyProof.Rows
/-- o.m(..) that may raise, at these slots -/
def tMethW (C : Addr) (m : Str) (sp : Sp) (E : St → XK) (ta : TE) (t : TA) : TE := fun σ H Q => ta σ H fun x H1 => ∃ a dx fs, x = .ref a ∧ H1 a = some (.ins C dx fs) ∧ fs.lookup m = none ∧ t σ H1 fun vs H2 => sp (.ref a :: vs) H2 Q (E σ)
theorem pe_methW {X : Cx} {CX : CXT} {k : Nat} {C f : Addr} {fd : FuncData} {ps : List Str} {sp : Sp} {E : St → XK} {m : Str} {pos apos : Pos} {e o : Expr} {es : List Expr} {ta : TE} {t : TA} {pl : Sem Bool}
    (he : PE X o ta) (c : Cls X.K C) (hm : Meth X.K C m f) (F : FnOk X.prog X.w X.K X.mg X.base CX k f fd ps sp) (hr : Room k X.A) (hb : Binds X.K fd ps []) (hx : ∀ σ, PassesAt CX X σ (E σ)) (ha : PA X (e :: es) t)
    (hst : starEach (e :: es) X.env = (false, eval e X.env) :: starEach es X.env := by rfl) (hpl : (backTo pos (starEach es X.env)).any (·.1) = false := by rfl)
    (ht : eval (.Call (.Attribute o m apos) (e :: es) [] pos) X.env = (do
      let ov ← eval o X.env
      standAt apos.atName
      let (f, first) ← holding [ov] (getMethod ov m pl)
      callWith pos f first (backTo pos (starEach (e :: es) X.env)) (backToKw pos (keywordEach [] X.env))) := by rfl) :
    PE X (.Call (.Attribute o m apos) (e :: es) [] pos) (tMethW C m sp E ta t) := by
  refine ⟨fun pins s σ H Q I h => ?_⟩
  refine PySem.W.methodCall_KW (pl := pl) (thn (he.run pins s σ H _ I h) fun u s1 ⟨x, H1, I1, rx, a, dx, fs, ex, ea, l, q⟩ => ?_) ht
  subst ex
  obtain rfl : u = Value.ref a := rx
  refine getmeth_ok I1 ea c hm l ?_
  refine PySem.W.callWith_K (first := [.ref a]) (h₀ := X.base) I.ok.mod.kin hm.kp (thn (ha.run pos pins s1 σ H1 _ I1 q) fun us s2 ⟨vs, H2, I2, r, q2⟩ => ⟨I2.kIn, ?_⟩) hst hpl
  exact run_fnS (us := .ref a :: us) (vs := .ref a :: vs) F hr hb (hx σ) I2 (.cons rfl r) q2
end L2
namespace L2
open PySem
/-- a dict comprehension over a walk: Pv by the turn and the heap (the new dict at D within) -/
theorem dc_it {J : It} {n : Nat} {G : Hp → Prop} {Y : Nat → Hp → V → Hp → Prop} (w : Walk J n G Y) {g : TG} {tt : TT} {tk tv : TE} {vs : List Nat} {σ : St} {H1 : Hp} {D : Addr} {Qd : Hp → Prop} (Pv : Nat → Hp → Prop) (h0 : Pv 0 (upd H1 D (.dK []))) (hG : ∀ i H, i ≤ n → Pv i H → G H)
    (hs : ∀ i x H H', i < n → Pv i H → Y i H x H' → g x (wipe σ vs) H' fun σ2 H2 => wipe σ2 vs = wipe σ vs ∧ tt σ2 H2 fun b H3 =>
      if b = true then tk σ2 H3 fun y H4 => tv σ2 H4 fun z H5 => ∃ kvs k, y = kV k ∧ H5 D = some (.dK kvs) ∧ kvs.length < sizeLine ∧ Pv (i + 1) (upd H5 D (.dK (putK kvs k z))) else Pv (i + 1) H3) (hd : ∀ H, Pv n H → Qd H) :
    ∃ W : Nat → Nat → Hp → Prop, (∃ m, W 0 m (upd H1 D (.dK []))) ∧ ∀ i m H, W i m H →
      (J.stop i H ∧ Qd H) ∨ (J.go i H ∧ ∃ Nx : Hp → Prop, (∀ H', Nx H' → ∃ m', m' < m ∧ W (i + 1) m' H') ∧ ∀ x H', J.yld i H x H' → g x (wipe σ vs) H' fun σ2 H2 => wipe σ2 vs = wipe σ vs ∧ tt σ2 H2 fun b H3 =>
        if b = true then tk σ2 H3 fun y H4 => tv σ2 H4 fun z H5 => ∃ kvs k, y = kV k ∧ H5 D = some (.dK kvs) ∧ kvs.length < sizeLine ∧ Nx (upd H5 D (.dK (putK kvs k z))) else Nx H3) := by
  refine ⟨fun i m H => m = n - i ∧ i ≤ n ∧ Pv i H, ⟨n, by simp, Nat.zero_le _, h0⟩, ?_⟩
  rintro i m H ⟨rfl, hi, p⟩
  have q := hG i H hi p
  by_cases hlt : i < n
  · exact .inr ⟨w.goes i H hlt q, Pv (i + 1), fun H' p' => ⟨n - (i + 1), by omega, rfl, hlt, p'⟩, fun x H' y => hs i x H H' hlt p (w.yields i H x H' hlt q y)⟩
  · have e : i = n := by omega
    subst e
    exact .inl ⟨w.stops H q, hd H p⟩
end L2

end PG11x
section PIN
set_option maxHeartbeats 4000000
namespace L2
open PySem PySem.Spec PyProof.Rows
/-! ### x in a, x not in a, by the own __contains__ of a's class -/
def rInO (C : Addr) (sp : Sp) (neg : Bool) : R2 := fun x y H Q => ∃ a dx fs, y = .ref a ∧ H a = some (.ins C dx fs) ∧ sp [.ref a, x] H (fun v H' => ∃ k, v = .bl k ∧ Q (.bl (if neg = true then !k else k)) H') E0
section
variable {X : Cx} {C f : Addr} {fd : FuncData} {ps : List Str} {sp : Sp} {k : Nat}
theorem op_inO (hs : PySem.W.findIn X.K (.ref C) "__contains__" = some (some (.ref f))) (hf : PySem.W.isFn X.K (.ref f) = true) (F : FnOk X.prog X.w X.K X.mg X.base CX0 k f fd ps sp) (hb : Binds X.K fd ps []) (hr : Room k X.A) : OpR X (compareOp .In) (rInO C sp false) := by
  intro pins s σ H x y v u Q I rx ry h
  obtain ⟨a, dx, fs, rfl, ea, q⟩ := h
  cases (show u = Value.ref a from ry)
  obtain ⟨mA, J, _⟩ := ins_get I.hok ea
  obtain ⟨od, J, _⟩ := J.look
  obtain ⟨m, hF⟩ := I.fr
  refine PySem.W.in_K hF I.ok.mod.kin J hs hf (wpAny_mono (own_run (vs := [.ref a, x]) F hb hr rfl I (.cons rfl (.cons rx .nil)) q) (fun r s' hq => ?_) fun _ _ e => e)
  obtain ⟨z, H', I', rz, kk, ez, q2⟩ := hq
  subst ez
  cases (show r = Value.bool kk from rz)
  exact wpAny_truthy_bool ⟨.bl kk, H', I', rfl, q2⟩
theorem op_notInO (hs : PySem.W.findIn X.K (.ref C) "__contains__" = some (some (.ref f))) (hf : PySem.W.isFn X.K (.ref f) = true) (F : FnOk X.prog X.w X.K X.mg X.base CX0 k f fd ps sp) (hb : Binds X.K fd ps []) (hr : Room k X.A) : OpR X (compareOp .NotIn) (rInO C sp true) := by
  intro pins s σ H x y v u Q I rx ry h
  obtain ⟨a, dx, fs, rfl, ea, q⟩ := h
  cases (show u = Value.ref a from ry)
  obtain ⟨mA, J, _⟩ := ins_get I.hok ea
  obtain ⟨od, J, _⟩ := J.look
  obtain ⟨m, hF⟩ := I.fr
  refine PySem.W.notIn_K hF I.ok.mod.kin J hs hf (wpAny_mono (own_run (vs := [.ref a, x]) F hb hr rfl I (.cons rfl (.cons rx .nil)) q) (fun r s' hq => ?_) fun _ _ e => e)
  obtain ⟨z, H', I', rz, kk, ez, q2⟩ := hq
  subst ez
  cases (show r = Value.bool kk from rz)
  exact wpAny_truthy_bool ⟨.bl (!kk), H', I', rfl, q2⟩
end
end L2

end PIN
section Ps8H
set_option maxHeartbeats 8000000
namespace S8
open PySem PySem.Spec L2 PyProof.Rows Sm
/-! ### Numbers(stretches) -/
def inCls (s : Stmt) (i : Nat) : Stmt := match s with
  | .ClassDef _ _ _ body .. => body.getD i (.Pass ⟨0, 0, 0, 0⟩)
  | _ => .Pass ⟨0, 0, 0, 0⟩
abbrev FM (K : PySem.W.Frag) (x q : Str) (st : Stmt) (f : Addr) (fd : FuncData) : Prop := FunD K x q (defArgs st) (defBody st) (defScope st) [] [] f fd
abbrev s_ninit : Stmt := inCls (top 16) 1
abbrev s_nfull : Stmt := inCls (top 16) 2
abbrev s_nof : Stmt := inCls (top 16) 3
abbrev s_nstr : Stmt := inCls (top 16) 4
abbrev s_nrepr : Stmt := inCls (top 16) 5
abbrev s_namount : Stmt := inCls (top 16) 6
abbrev s_nfirst : Stmt := inCls (top 16) 7
abbrev s_nhas : Stmt := inCls (top 16) 11
abbrev s_ncontent : Stmt := inCls (top 16) 12
abbrev s_tinit : Stmt := inCls (top 17) 1
abbrev s_tfull : Stmt := inCls (top 17) 2
abbrev s_tof : Stmt := inCls (top 17) 3
abbrev s_tothers : Stmt := inCls (top 17) 4
abbrev s_twords : Stmt := inCls (top 17) 5
abbrev s_trepr : Stmt := inCls (top 17) 6
abbrev s_tamount : Stmt := inCls (top 17) 7
abbrev s_tfirst : Stmt := inCls (top 17) 8
abbrev s_thas : Stmt := inCls (top 17) 12
abbrev s_tcontent : Stmt := inCls (top 17) 13
abbrev s_vkind : Stmt := inCls (top 15) 1
abbrev s_vempty : Stmt := inCls (top 15) 2
abbrev s_vsize : Stmt := inCls (top 15) 3
abbrev s_vleast : Stmt := inCls (top 15) 4
abbrev s_vhas : Stmt := inCls (top 15) 8
abbrev s_veq : Stmt := inCls (top 15) 9
structure NSc (K : PySem.W.Frag) (C : Addr) : Prop where
  cl : Cls K C
  nS : NoAttr K C "_stretches"
/-- at m: a set of numbers of the class at C with these longest stretches -/
def NSet (C : Addr) (H : Hp) (m : Addr) (n : List St2) : Prop := ∃ dx u, H m = some (.ins C dx [("_stretches", .ref u)]) ∧ TupSw H u n
theorem NSet.same {C : Addr} {H H' : Hp} {m : Addr} {n : List St2} (s : Same H H') (h : NSet C H m n) : NSet C H' m n := by
  obtain ⟨dx, u, a, b⟩ := h
  exact ⟨dx, u, s _ _ a, b.same s⟩
/-- an empty tuple of the module: a default -/
def EmpT (K : PySem.W.Frag) (a : Addr) : Prop := ∃ (o : Obj) (its : Array Value) (n : Nat), K.lookup a = some o ∧ o.cls = .type "tuple" ∧ o.data = .seq its n ∧ its.size ≤ sizeLine ∧ Vals [] its.toList
/-- what may be handed over: a list or a tuple of stretches, or the default -/
def SwsX (K : PySem.W.Frag) (H : Hp) (L : Addr) (l : List St2) : Prop := SwsAt H L l ∨ (l = [] ∧ EmpT K L)
theorem SwsX.same {K : PySem.W.Frag} {H H' : Hp} {L : Addr} {l : List St2} (s : Same H H') (h : SwsX K H L l) : SwsX K H' L l := h.imp (SwsAt.same s) id
theorem isok_seq {K : PySem.W.Frag} {t : Value} (h : t = .type "list" ∨ t = .type "tuple") : PySem.W.kitAny K t [.type "list", .type "tuple"] = some true := by
  have e1 : PySem.W.kitOne K (.type "list") (.type "list") = some true := kit_ty (by decide +kernel)
  have e2 : PySem.W.kitOne K (.type "tuple") (.type "list") = some false := kit_ty (by decide +kernel)
  have e3 : PySem.W.kitOne K (.type "tuple") (.type "tuple") = some true := kit_ty (by decide +kernel)
  rcases h with rfl | rfl
  · show (match PySem.W.kitOne K (.type "list") (.type "list") with | some true => some true | some false => (match PySem.W.kitOne K (.type "list") (.type "tuple") with | some true => some true | some false => some false | none => none) | none => none) = some true
    rw [e1]
  · show (match PySem.W.kitOne K (.type "tuple") (.type "list") with | some true => some true | some false => (match PySem.W.kitOne K (.type "tuple") (.type "tuple") with | some true => some true | some false => some false | none => none) | none => none) = some true
    rw [e2, e3]
theorem SwsX.ty {K : PySem.W.Frag} {H : Hp} {L : Addr} {l : List St2} (h : SwsX K H L l) : ∃ t, TyX K H (.ref L) t ∧ PySem.W.kitAny K t [.type "list", .type "tuple"] = some true := by
  rcases h with ⟨ts, a, _⟩ | ⟨_, o, its, n, e, c, _⟩
  · rcases a with a | a
    · exact ⟨_, .base (.lst a), isok_seq (.inl rfl)⟩
    · exact ⟨_, .base (.tup a), isok_seq (.inr rfl)⟩
  · exact ⟨_, .kTuple e c, isok_seq (.inr rfl)⟩
/-- for i, x in enumerate(it) -/
theorem SwsX.enum {K : PySem.W.Frag} {H : Hp} {L : Addr} {l : List St2} (h : SwsX K H L l) : ∃ ts : List Addr, Paired (SwAt H) ts l ∧ (∃ xs, (SqL K H L xs ∨ SqT K H L xs) ∧ xs.length = l.length) ∧ ∀ {i : Nat} {σ : L2.St} {R : It → Hp → Prop}, σ[i]? = some (some (.ref L)) →
    (∀ J, Walk J ts.length (fun H' => Same H H') (YPair (fun i => some (.int (i : Nat))) fun i => (ts.map V.ref)[i]?) → R J H) → iEnumS K (tCons (tVar i) tNil) σ H R := by
  rcases h with ⟨ts, a, b⟩ | ⟨rfl, o, its, n, e⟩
  · have el : (ts.map V.ref).length = ts.length := List.length_map ..
    refine ⟨ts, b, ⟨ts.map V.ref, a.imp SqL.of SqT.of, by rw [el, b.length]⟩, fun {i σ R} hi q => ?_⟩
    rcases a with a | a
    · refine .inl ⟨_, hi, L, _, rfl, SqL.of a, q _ ?_⟩
      have w0 := walk_enum (K := K) (a := L) (xs := ts.map V.ref)
      rw [el] at w0
      exact w0.mono (fun H' z => SqL.of (z _ _ a)) fun _ _ _ _ _ _ y => y
    · refine .inr ⟨_, hi, L, _, rfl, SqT.of a, q _ ?_⟩
      have w0 := walk_enumT (K := K) (a := L) (xs := ts.map V.ref)
      rw [el] at w0
      exact w0.mono (fun H' z => SqT.of (z _ _ a)) fun _ _ _ _ _ _ y => y
  · refine ⟨[], .nil, ⟨[], .inr (.inr ⟨o, its, n, e⟩), rfl⟩, fun {i σ R} hi q => ?_⟩
    refine .inr ⟨_, hi, L, [], rfl, .inr ⟨o, its, n, e⟩, q _ ?_⟩
    exact walk_enumT.mono (fun H' _ => .inr ⟨o, its, n, e⟩) fun _ _ _ _ _ _ y => y
def spNInit (K : PySem.W.Frag) (C : Addr) : Sp := fun vs H Q _ => ∃ (m dx L : Addr) (l : List St2), vs = [.ref m, .ref L] ∧ H m = some (.ins C dx []) ∧ SwsX K H L l ∧ (∀ p ∈ l, okS p) ∧ l.length ≤ 1000 ∧
  ∀ H' u n, ascS n → (∀ v, memL n v = memL l v) → n.length ≤ l.length → H' m = some (.ins C dx [("_stretches", .ref u)]) → TupSw H' u n → Bt m H H' → Q .non H'
theorem sc_ninit : FnScope ["self", "stretches", "position", "stretch"] ["self", "stretches"] (defScope s_ninit) := ⟨rfl, rfl, rfl, by decide +kernel, rfl, by decide +kernel, by decide +kernel⟩
section
variable {P : Program} {w : World} {K : PySem.W.Frag} {mg : Str → Option Value} {base : Heap} {f fS fM : Addr} {fd dS dM : FuncData}
theorem ok_ninit {d0 : V} (F : FunD K "__init__" "Numbers.__init__" (defArgs s_ninit) (defBody s_ninit) (defScope s_ninit) [d0] [] f fd) (T : TW mg) (tt : mg "tuple" = none) (tl : mg "list" = none) (te : mg "enumerate" = none) {C : Addr} (N : NSc K C)
    (IS : Kn P w K mg base 3 "_is_stretch_tuple" fS dS ["value"] spStt) (ME : Kn P w K mg base 4 "_merged" fM dM ["stretches"] spMerged) : FnOk P w K mg base CX0 5 f fd ["self", "stretches"] (spNInit K C) := by
  refine F.ok sc_ninit (fun vs H Q E h => ?_) (fun cdv A outer s H vs Q E hr h => ?_)
  · obtain ⟨m, dx, L, l, rfl, _⟩ := h
    rfl
  obtain ⟨m, dx, L, l, rfl, hm, hl, hok, hlen, q⟩ := h
  refine ⟨_, PSs.nox (pss_cons (ps_if (pt_not (pt_val (pe_callB call_isiT (by rfl) T.isi boot_isi (pa_cons (pv 1) (pa_cons (pe_tup (pa_cons (pe_bltn (v := .ty "list") (by rfl) tl (by decide +kernel) rfl) (pa_cons (pe_bltn (v := .ty "tuple") (by rfl) tt (by decide +kernel) rfl) pa_nil))) pa_nil))))) pss_never pss_nil)
    (pss_cons (ps_for .never (by rfl) (pi_enumS (by rfl) te (pa_cons (pv 1) pa_nil)) (pg_tup (by rfl) (pgs_cons (pg_name (i := 2) sc_ninit.nd rfl (Or.inl rfl)) (pgs_cons (pg_name (i := 3) sc_ninit.nd rfl (Or.inl rfl)) pgs_nil)))
      (pss_one (ps_if (pt_not (pt_val (pe_call IS.f (hr.mono (by decide)) rfl IS.m IS.k IS.b .nil pass0 (pa_cons (pv 3) pa_nil)))) pss_never pss_nil)))
    (pss_one (ps_fld (pv 0) (pe_ifExp (pt_truth (pv 1) (fun _ => rfl)) (pe_call ME.f hr rfl ME.m ME.k ME.b .nil pass0 (pa_cons (pv 1) pa_nil)) (pe_tup pa_nil)) rfl)))), ?_⟩
  refine ⟨_, rfl, by show 2 ≤ sizeLine; decide, fun p hp' => ?_⟩
  have s1 : Same H (upd H p (.tup [.ty "list", .ty "tuple"])) := same_upd hp'
  have hp1 : (upd H p (.tup [.ty "list", .ty "tuple"])) p = some (.tup [.ty "list", .ty "tuple"]) := upd_same
  have hm1 := s1 _ _ hm
  have hl1 := hl.same s1
  generalize upd H p (.tup [.ty "list", .ty "tuple"]) = H1 at s1 hp1 hm1 hl1 ⊢
  obtain ⟨t, ty, kt⟩ := hl1.ty
  refine ⟨.ref L, p, _, t, [.type "list", .type "tuple"], true, rfl, hp1, .cons (.ty _) (.cons (.ty _) .nil), ty, kt, true, rfl, ?_⟩
  refine (show (if (!true) = true then _ else _) from ?_)
  rw [if_neg (by decide)]
  obtain ⟨ts, pr, ⟨xs, hx, hxl⟩, it⟩ := hl1.enum
  have tl' : ts.length = l.length := pr.length
  refine it rfl fun J wk => ?_
  refine for_it wk (fun i σ' H' => Same H1 H' ∧ ∃ y z : Option V, σ' = [some (.ref m), some (.ref L), y, z]) ⟨Same.refl _, none, none, rfl⟩ (fun i σ' H' _ ⟨z, _⟩ => z) (fun i x σ' H2 H3 hi ⟨z, y1, y2, eσ⟩ ⟨T1, a, b, ex, hT, eH, ea, eb⟩ => ?_) (fun σ' H2 ⟨z, y1, y2, eσ⟩ => ?_)
  · subst eσ ex eH
    cases (show V.int (i : Nat) = a from Option.some.inj ea)
    have ip : l[i]? = some (l[i]'(by omega)) := List.getElem?_eq_getElem (by omega)
    generalize l[i]'(by omega) = pp at ip
    obtain ⟨t, e1, e2⟩ := paired_at pr ip
    have eb : (ts.map V.ref)[i]? = some b := eb
    rw [List.getElem?_map, e1] at eb
    cases (show V.ref t = b from Option.some.inj eb)
    have s2 := same_upd (o := HO.tup [V.int (i : Nat), V.ref t]) hT
    refine ⟨T1, _, rfl, SqT.of upd_same, rfl, _, _, rfl, _, _, rfl, rfl, ?_⟩
    refine ⟨_, rfl, t, pp, rfl, SwAt.same (z.trans s2) e2, hok pp (List.mem_of_getElem? ip), fun H4 s4 => ⟨true, rfl, ?_⟩⟩
    refine (show (if (!true) = true then _ else _) from ?_)
    rw [if_neg (by decide)]
    exact ⟨(z.trans s2).trans s4, _, _, rfl⟩
  · subst eσ
    have fin : ∀ (u : Addr) (n : List St2) (H3 : Hp), Same H2 H3 → TupSw H3 u n → ascS n → (∀ v, memL n v = memL l v) → n.length ≤ l.length → Q .non (upd H3 m (.ins C dx [("_stretches", .ref u)])) := fun u n H3 s3 tu ha hn hle => by
      have hm3 := s3 _ _ (z _ _ hm1)
      have nu : ∀ c xs, H3 c = some (HO.tup xs) → (upd H3 m (.ins C dx [("_stretches", .ref u)])) c = some (HO.tup xs) := fun c xs e => by
        have n : c ≠ m := fun y => by
          rw [y, hm3] at e
          cases e
        rw [upd_ne n]
        exact e
      obtain ⟨us, a, b⟩ := tu
      refine q _ u n ha hn hle upd_same ⟨us, nu _ _ a, b.mono fun t p e => nu _ _ e⟩ fun b o nb eb => ?_
      rw [upd_ne nb]
      exact s3 _ _ (z _ _ (s1 _ _ eb))
    obtain ⟨_, _, ⟨xs2, hx2, hxl2⟩, _⟩ := (hl1.same z).enum
    have tru : TruV K (.ref L) H2 (!xs2.isEmpty) := hx2.elim (fun e => .inl ⟨xs2, e, rfl⟩) fun e => .inr (.inl ⟨xs2, e, rfl⟩)
    refine ⟨_, rfl, _, tru, ?_⟩
    refine ite2 (fun hb => ?_) (fun hb => ?_)
    · have hL : SwsAt H2 L l := by
        rcases hl1.same z with e | ⟨rfl, _⟩
        · exact e
        · have : xs2 = [] := List.length_eq_zero_iff.mp hxl2
          rw [this] at hb
          cases hb
      refine ⟨_, rfl, L, l, rfl, hL, hok, hlen, fun u n H3 tu ha hn hle s3 => ?_⟩
      exact ⟨_, rfl, m, C, dx, _, rfl, s3 _ _ (z _ _ hm1), N.cl, N.nS, by decide, fin u n H3 s3 tu ha hn hle⟩
    · have l0 : l = [] := by
        cases xs2 with
        | nil => exact List.length_eq_zero_iff.mp hxl2.symm
        | cons a b => exact absurd rfl hb
      subst l0
      refine ⟨Nat.zero_le _, fun u hu => ?_⟩
      have s3 := same_upd (o := HO.tup []) hu
      exact ⟨_, rfl, m, C, dx, _, rfl, s3 _ _ (z _ _ hm1), N.cl, N.nS, by decide, fin u [] _ s3 ⟨[], upd_same, .nil⟩ ascS_nil (fun v => rfl) (Nat.le_refl _)⟩
end
end S8

end Ps8H
section Ps8I
set_option maxHeartbeats 8000000
namespace S8
open PySem PySem.Spec L2 PyProof.Rows Sm
/-! ### what the written part says of the classes; stretches as data; the methods of Numbers -/
structure TcO (K : PySem.W.Frag) (C CM : Addr) (kd : Str) : Prop where
  cl : Cls K C
  ha : PySem.W.findIn K (.ref C) "__class__" = some (some (.builtin "object.__class__"))
  hn : PySem.W.specialIn K (.builtin "object.__class__") "__get__" = some (some (.builtin "getset_descriptor.__get__"))
  htk : PySem.W.takesIn K (.builtin "object.__class__") = some true
  hm : PySem.W.mroIn K C (.type "object") = some true
  kit : PySem.W.kitOne K (.ref C) (.ref CM) = some true
  knd : ∃ u, Con K C "KIND" (.str kd) u
theorem TcO.ty {K : PySem.W.Frag} {C CM : Addr} {kd : Str} (T : TcO K C CM kd) {H : Hp} {a dx : Addr} {fs : List (Str × V)} (e : H a = some (.ins C dx fs)) : TyX K H (.ref a) (.ref C) := .base (.ins e T.cl T.ha T.hn T.htk T.hm)
theorem sc_vkind : FnScope ["self"] ["self"] (defScope s_vkind) := ⟨rfl, rfl, rfl, by decide +kernel, rfl, by decide +kernel, by decide +kernel⟩
theorem sc_ncontent : FnScope ["self"] ["self"] (defScope s_ncontent) := ⟨rfl, rfl, rfl, by decide +kernel, rfl, by decide +kernel, by decide +kernel⟩
theorem sc_nstr : FnScope ["self"] ["self"] (defScope s_nstr) := ⟨rfl, rfl, rfl, by decide +kernel, rfl, by decide +kernel, by decide +kernel⟩
theorem sc_nrepr : FnScope ["self"] ["self"] (defScope s_nrepr) := ⟨rfl, rfl, rfl, by decide +kernel, rfl, by decide +kernel, by decide +kernel⟩
def spKd (C : Addr) (kd : Str) : Sp := fun vs H Q _ => ∃ (m dx : Addr) (fs : List (Str × V)), vs = [.ref m] ∧ H m = some (.ins C dx fs) ∧ fs.lookup ("KIND" : Str) = none ∧ Q (.str kd) H
def spContN (C : Addr) : Sp := fun vs H Q _ => ∃ (m dx u : Addr), vs = [.ref m] ∧ H m = some (.ins C dx [("_stretches", .ref u)]) ∧ Q (.ref u) H
/-- a list of stretches at t -/
def LstSw (H : Hp) (t : Addr) (l : List St2) : Prop := ∃ ts : List Addr, H t = some (.lst (ts.map V.ref)) ∧ Paired (SwAt H) ts l
theorem LstSw.same {H H' : Hp} {t : Addr} {l : List St2} (s : Same H H') (h : LstSw H t l) : LstSw H' t l := by
  obtain ⟨ts, a, b⟩ := h
  exact ⟨ts, s _ _ a, b.mono fun t p e => s _ _ e⟩
theorem LstSw.sws {H : Hp} {t : Addr} {l : List St2} (h : LstSw H t l) : SwsAt H t l := by
  obtain ⟨ts, a, b⟩ := h
  exact ⟨ts, .inl a, b⟩
def spStrN (C : Addr) : Sp := fun vs H Q _ => ∃ (m : Addr) (n : List St2), vs = [.ref m] ∧ NSet C H m n ∧ ∀ g H', H g = none → Same H H' → LstSw H' g n → Q (.ref g) H'
/-! data -/
def oD : Option Int → PyData
  | none => .none
  | some i => .int i
def pD (p : St2) : PyData := .tuple [oD p.1, oD p.2]
theorem eqv_oD {a b : Option Int} : PyData.eqv (oD a) (oD b) = decide (a = b) := by
  cases a with
  | none => cases b with
    | none => rfl
    | some j => exact (decide_eq_false (fun z => nomatch z)).symm
  | some i => cases b with
    | none => exact (decide_eq_false (fun z => nomatch z)).symm
    | some j =>
      show (i == j) = _
      by_cases e : i = j
      · subst e
        rw [beq_self_eq_true, decide_eq_true rfl]
      · rw [beq_eq_false_iff_ne.mpr e, decide_eq_false fun z => e (Option.some.inj z)]
theorem eqv_pD {p q : St2} : PyData.eqv (pD p) (pD q) = decide (p = q) := by
  show (PyData.eqv (oD p.1) (oD q.1) && (PyData.eqv (oD p.2) (oD q.2) && true)) = _
  rw [eqv_oD, eqv_oD, Bool.and_true, ← Bool.decide_and]
  exact decide_eq_decide.mpr ⟨fun ⟨a, b⟩ => Prod.ext a b, fun e => by rw [e]; exact ⟨rfl, rfl⟩⟩
theorem eqv_pDs : ∀ (l n : List St2), PyData.eqvAll (l.map pD) (n.map pD) = decide (l = n)
  | [], [] => rfl
  | [], _ :: _ => by
    rw [decide_eq_false (fun e => nomatch e)] <;> rfl
  | _ :: _, [] => by
    rw [decide_eq_false (fun e => nomatch e)] <;> rfl
  | p :: l, q :: n => by
    show (PyData.eqv (pD p) (pD q) && PyData.eqvAll (l.map pD) (n.map pD)) = _
    rw [eqv_pDs l n, eqv_pD, ← Bool.decide_and]
    exact decide_eq_decide.mpr ⟨fun ⟨a, b⟩ => by rw [a, b], fun e => ⟨(List.cons.inj e).1, (List.cons.inj e).2⟩⟩
theorem dp_oV {K : PySem.W.Frag} {H : Hp} : ∀ a : Option Int, Dp K H (oV a) (oD a)
  | none => .non
  | some i => .int i
theorem dp_sw {K : PySem.W.Frag} {H : Hp} {t : Addr} {p : St2} (h : SwAt H t p) : Dp K H (.ref t) (pD p) := .tup (SqT.of h) (.cons (dp_oV _) (.cons (dp_oV _) .nil))
theorem dp_sws {K : PySem.W.Frag} {H : Hp} : ∀ {ts : List Addr} {l : List St2}, Paired (SwAt H) ts l → DpAll K H (ts.map V.ref) (l.map pD)
  | _, _, .nil => .nil
  | _, _, .cons h t => .cons (dp_sw h) (dp_sws t)
theorem dp_tup {K : PySem.W.Frag} {H : Hp} {t : Addr} {l : List St2} (h : TupSw H t l) : Dp K H (.ref t) (.tuple (l.map pD)) := by
  obtain ⟨ts, a, b⟩ := h
  exact .tup (SqT.of a) (dp_sws b)
theorem dp_lst {K : PySem.W.Frag} {H : Hp} {t : Addr} {l : List St2} (h : LstSw H t l) : Dp K H (.ref t) (.list (l.map pD)) := by
  obtain ⟨ts, a, b⟩ := h
  exact .lst (SqL.of a) (dp_sws b)
theorem rp_oV {H : Hp} : ∀ a : Option Int, Rp H (oV a) (oD a)
  | none => .non
  | some i => .int i
theorem rp_sw {H : Hp} {t : Addr} {p : St2} (h : SwAt H t p) : Rp H (.ref t) (pD p) := .tup h (.cons (rp_oV _) (.cons (rp_oV _) .nil))
theorem rp_sws {H : Hp} : ∀ {ts : List Addr} {l : List St2}, Paired (SwAt H) ts l → RpAll H (ts.map V.ref) (l.map pD)
  | _, _, .nil => .nil
  | _, _, .cons h t => .cons (rp_sw h) (rp_sws t)
theorem rp_lst {H : Hp} {t : Addr} {l : List St2} (h : LstSw H t l) : Rp H (.ref t) (.list (l.map pD)) := by
  obtain ⟨ts, a, b⟩ := h
  exact .lst a (rp_sws b)
theorem rp_tup {H : Hp} {t : Addr} {l : List St2} (h : TupSw H t l) : Rp H (.ref t) (.tuple (l.map pD)) := by
  obtain ⟨ts, a, b⟩ := h
  exact .tup a (rp_sws b)
theorem lay_oD : ∀ a : Option Int, PyData.canLay0 (oD a) = true ∧ PyData.depth (oD a) ≤ 1
  | none => ⟨rfl, by decide⟩
  | some i => ⟨rfl, by
    first
      | decide
      | (show 1 ≤ 1; decide)
      | (show 0 ≤ 1; decide)⟩
theorem lay_pDs : ∀ l : List St2, PyData.canLayAll0 (l.map pD) = true ∧ PyData.depthAll (l.map pD) ≤ 2
  | [] => ⟨rfl, by simp [PyData.depthAll]⟩
  | p :: l => by
    obtain ⟨a, b⟩ := lay_pDs l
    obtain ⟨a1, b1⟩ := lay_oD p.1
    obtain ⟨a2, b2⟩ := lay_oD p.2
    refine ⟨?_, ?_⟩
    · show ((PyData.canLay0 (oD p.1) && (PyData.canLay0 (oD p.2) && true)) && PyData.canLayAll0 (l.map pD)) = true
      rw [a, a1, a2] <;> rfl
    · simp only [List.map_cons, pD, PyData.depthAll, PyData.depth]
      omega
theorem shaped_tup (l : List St2) : SeqAt.shaped (.tuple (l.map pD)) = true := by
  obtain ⟨a, b⟩ := lay_pDs l
  have h2 : PyData.depth (.tuple (l.map pD)) ≤ 64 := by
    simp only [PyData.depth]
    omega
  show (PyData.canLayAll0 (l.map pD) && decide (PyData.depth (.tuple (l.map pD)) ≤ 64)) = true
  rw [a, decide_eq_true h2] <;> rfl
theorem shaped_lst (l : List St2) : SeqAt.shaped (.list (l.map pD)) = true := by
  obtain ⟨a, b⟩ := lay_pDs l
  have h2 : PyData.depth (.list (l.map pD)) ≤ 64 := by
    simp only [PyData.depth]
    omega
  show (PyData.canLayAll0 (l.map pD) && decide (PyData.depth (.list (l.map pD)) ≤ 64)) = true
  rw [a, decide_eq_true h2] <;> rfl
section
variable {P : Program} {w : World} {K : PySem.W.Frag} {mg : Str → Option Value} {base : Heap} {f fC fW fN C CM CT : Addr} {fd dC dW dN : FuncData} {kd : Str}
theorem ok_vkind (F : FM K "kind" "ValueSet.kind" s_vkind f fd) (O : TcO K C CM kd) : FnOk P w K mg base CX0 1 f fd ["self"] (spKd C kd) := by
  refine F.ok sc_vkind (fun vs H Q E h => ?_) (fun cdv A outer s H vs Q E hr h => ?_)
  · obtain ⟨m, dx, fs, rfl, _⟩ := h
    rfl
  obtain ⟨m, dx, fs, rfl, hm, hl, q⟩ := h
  obtain ⟨u1, k1⟩ := O.knd
  exact ⟨_, PSs.nox (pss_one (ps_ret (pe_con (pv 0) rfl))), _, rfl, m, C, dx, _, _, u1, rfl, hm, O.cl, k1, hl, q⟩
theorem ok_ncontent (F : FM K "_content" "Numbers._content" s_ncontent f fd) (N : NSc K C) : FnOk P w K mg base CX0 1 f fd ["self"] (spContN C) := by
  refine F.ok sc_ncontent (fun vs H Q E h => ?_) (fun cdv A outer s H vs Q E hr h => ?_)
  · obtain ⟨m, dx, u, rfl, _⟩ := h
    rfl
  obtain ⟨m, dx, u, rfl, hm, q⟩ := h
  exact ⟨_, PSs.nox (pss_one (ps_ret (pe_fld (pv 0) rfl))), _, rfl, m, C, dx, _, .ref u, rfl, hm, N.cl, N.nS, rfl, q⟩
theorem ok_nstr (F : FM K "stretches" "Numbers.stretches" s_nstr f fd) (N : NSc K C) (tl : mg "list" = none) : FnOk P w K mg base CX0 1 f fd ["self"] (spStrN C) := by
  refine F.ok sc_nstr (fun vs H Q E h => ?_) (fun cdv A outer s H vs Q E hr h => ?_)
  · obtain ⟨m, n, rfl, _⟩ := h
    rfl
  obtain ⟨m, n, rfl, ⟨dx, u, hm, ts, hu, pr⟩, q⟩ := h
  refine ⟨_, PSs.nox (pss_one (ps_ret (pe_callTy call_list_of (by rfl) tl (by decide +kernel) (pa_cons (pe_fld (pv 0) rfl) pa_nil)))), ?_⟩
  refine ⟨_, rfl, m, C, dx, _, .ref u, rfl, hm, N.cl, N.nS, rfl, u, _, rfl, .inr (SqT.of hu), fun g hg => ?_⟩
  have s1 := same_upd (o := HO.lst (ts.map V.ref)) hg
  exact q g _ hg s1 ⟨ts, upd_same, pr.mono fun t p e => s1 _ _ e⟩
end
end S8

end Ps8I
section PSM3
set_option maxHeartbeats 4000000
/-! the least by a key, as min finds it; how many -/
namespace Sm
open PySem
def kN (i : Int) : PyData := .tuple [.int (natI i).1, .int (natI i).2]
theorem nat_total (i j : Int) : natLe i j ∨ natLe j i := by
  unfold natLe
  omega
theorem nat_trans {i j k : Int} (a : natLe i j) (b : natLe j k) : natLe i k := by
  unfold natLe at *
  omega
theorem kN_lt (i j : Int) : PySem.W.dataLt (kN i) (kN j) = true ↔ ¬ natLe j i := by
  have e1 : PySem.W.dataLe false (fun z : Int => kN z) = fun p q => decide ((natI p).1 < (natI q).1 ∨ ((natI p).1 = (natI q).1 ∧ (natI p).2 ≤ (natI q).2)) := PySem.W.dataLe_ii (fun z => (natI z).1) (fun z => (natI z).2)
  have e2 := congrFun (congrFun e1 j) i
  have e3 : PySem.W.dataLe false (fun z : Int => kN z) j i = !PySem.W.dataLt (kN i) (kN j) := rfl
  rw [e3] at e2
  have e4 : PySem.W.dataLt (kN i) (kN j) = !decide ((natI j).1 < (natI i).1 ∨ ((natI j).1 = (natI i).1 ∧ (natI j).2 ≤ (natI i).2)) := by
    rw [← e2, Bool.not_not]
  rw [e4, Bool.not_eq_true', decide_eq_false_iff_not]
  exact Iff.rfl
theorem first_least (f : Nat → Int) : ∀ k, L2.firstLt (fun i => kN (f i)) k ≤ k ∧ ∀ j, j ≤ k → natLe (f (L2.firstLt (fun i => kN (f i)) k)) (f j)
  | 0 => ⟨Nat.le_refl _, fun j hj => by
    have : j = 0 := by omega
    subst this
    exact .inr ⟨rfl, Int.le_refl _⟩⟩
  | k + 1 => by
    obtain ⟨h1, h2⟩ := first_least f k
    have e : L2.firstLt (fun i => kN (f i)) (k + 1) = if PySem.W.dataLt (kN (f (k + 1))) (kN (f (L2.firstLt (fun i => kN (f i)) k))) = true then k + 1 else L2.firstLt (fun i => kN (f i)) k := rfl
    rw [e]
    by_cases hb : PySem.W.dataLt (kN (f (k + 1))) (kN (f (L2.firstLt (fun i => kN (f i)) k))) = true
    · rw [if_pos hb]
      have hn := (kN_lt _ _).mp hb
      refine ⟨Nat.le_refl _, fun j hj => ?_⟩
      rcases Nat.lt_or_ge j (k + 1) with h | h
      · exact nat_trans ((nat_total _ _).resolve_left hn) (h2 j (by omega))
      · have : j = k + 1 := by omega
        subst this
        exact .inr ⟨rfl, Int.le_refl _⟩
    · rw [if_neg hb]
      have hn : natLe (f (L2.firstLt (fun i => kN (f i)) k)) (f (k + 1)) := Classical.byContradiction fun z => hb ((kN_lt _ _).mpr z)
      refine ⟨by omega, fun j hj => ?_⟩
      rcases Nat.lt_or_ge j (k + 1) with h | h
      · exact h2 j (by omega)
      · have : j = k + 1 := by omega
        subst this
        exact hn
/-- r is the first one of what lies in n -/
def LeastOf (n : List St2) (r : Option Int) : Prop := (n = [] ∧ r = none) ∨ ∃ w, r = some w ∧ memL n w = true ∧ (∀ u, memL n u = true → natLe w u) ∧ (w = 0 ∨ ∃ p ∈ n, p.1 = some w ∨ p.2 = some w)
theorem least_of {n : List St2} (ho : ∀ p ∈ n, okS p) {i : Nat} {p : St2} (hp : n[i]? = some p) (h : ∀ q ∈ n, natLe (nearS p) (nearS q)) : LeastOf n (some (nearS p)) := by
  have hm := List.mem_of_getElem? hp
  obtain ⟨a, b, c⟩ := near_ok (ho p hm)
  refine .inr ⟨_, rfl, memL_iff.mpr ⟨p, hm, a⟩, fun u hu => ?_, c.imp id fun z => ⟨p, hm, z⟩⟩
  obtain ⟨q, hq, hi⟩ := memL_iff.mp hu
  exact nat_trans (h q hq) ((near_ok (ho q hq)).2.1 u hi)
/-- how many: none where there is no bound -/
def cntS (n : List St2) : Option Int := if n.any (fun p => decide (p.1 = none) || decide (p.2 = none)) = true then none else some ((n.map fun p => (p.2.getD 0) - (p.1.getD 0) + 1).sum)
end Sm

end PSM3
section Ps8J
set_option maxHeartbeats 8000000
namespace S8
open PySem PySem.Spec L2 PyProof.Rows Sm
/-! ### what a set of numbers has, how many, the first one -/
abbrev nHas : List Str := ["self", "value", "first", "last"]
theorem sc_nhas : FnScope nHas ["self", "value"] (defScope s_nhas) := ⟨rfl, rfl, rfl, by decide +kernel, rfl, by decide +kernel, by decide +kernel⟩
abbrev nAmt : List Str := ["self", "first", "last"]
theorem sc_namount : FnScope nAmt ["self"] (defScope s_namount) := ⟨rfl, rfl, rfl, by decide +kernel, rfl, by decide +kernel, by decide +kernel⟩
theorem sc_nfirst : FnScope nAmt ["self"] (defScope s_nfirst) := ⟨rfl, rfl, rfl, by decide +kernel, rfl, by decide +kernel, by decide +kernel⟩
def spHasN (C : Addr) : Sp := fun vs H Q _ => ∃ (m : Addr) (n : List St2) (v : Int), vs = [.ref m, .int v] ∧ NSet C H m n ∧ n.length ≤ 1000 ∧ ∀ H', Same H H' → Q (.bl (memL n v)) H'
def spAmtN (C : Addr) : Sp := fun vs H Q _ => ∃ (m : Addr) (n : List St2), vs = [.ref m] ∧ NSet C H m n ∧ n.length ≤ 1000 ∧ ∀ H', Same H H' → Q (oV (cntS n)) H'
def spFirN (C : Addr) : Sp := fun vs H Q _ => ∃ (m : Addr) (n : List St2), vs = [.ref m] ∧ NSet C H m n ∧ (∀ p ∈ n, okS p) ∧ n.length ≤ 1000 ∧ ∀ r H', LeastOf n r → Same H H' → Q (oV r) H'
theorem ret_cb1 {r : List V → Hp → VK → Prop} {t : TE} {D : Ends} {σ : L2.St} {H : Hp} (h : t σ H fun x H1 => r [x] H1 D.rt) : tRet (tCB r (tCons t tNil)) D σ H := h
theorem tst_cb1 {r : List V → Hp → VK → Prop} {t : TE} {A B : TS} {D : Ends} {σ : L2.St} {H : Hp} (h : t σ H fun x H1 => r [x] H1 fun y H2 => ∃ c, y = .bl c ∧ if c = true then A D σ H2 else B D σ H2) : tIfS (tB (tCB r (tCons t tNil))) A B D σ H := h
/-- [f(first, last) for first, last in ..] over a tuple of stretches, f changes nothing that there is -/
theorem lc_sw {K : PySem.W.Frag} {σ : L2.St} {H : Hp} {Q : VK} {i j u : Nat} {ta : TE} {te : TE} {n : List St2} {g : St2 → V} (hs : ∀ y z : Option V, wipe (((wipe σ [i, j]).set i y).set j z) [i, j] = wipe σ [i, j])
    (hu : ∃ us : List Addr, H u = some (.tup (us.map V.ref)) ∧ Paired (SwAt H) us n) (hl : n.length ≤ 1000)
    (hta : ∀ R : VK, R (.ref u) H → ta σ H R)
    (el : ∀ p H', p ∈ n → Same H H' → ∀ R : VK, (∀ H'', Same H' H'' → R (g p) H'') → te (((wipe σ [i, j]).set i (some (oV p.1))).set j (some (oV p.2))) H' R)
    (q : ∀ D H', Same H H' → H' D = some (.lst (n.map g)) → Q (.ref D) H') : tLc (iTup K ta) (gTup K 2 (gCons (gName i) (gCons (gName j) gNil))) tYes te [i, j] σ H Q := by
  obtain ⟨us, hu, pr⟩ := hu
  have ul : us.length = n.length := pr.length
  refine hta _ ⟨u, rfl, ⟨_, SqT.of hu⟩, fun D hD => ?_⟩
  have nuD : u ≠ D := ne_of_none hu hD
  have e0 : (us.map V.ref).length = us.length := List.length_map ..
  have wk := walk_tup (K := K) (a := u) (xs := us.map V.ref)
  rw [e0] at wk
  refine lc_it wk (fun k H' => Bt D H H' ∧ H' D = some (.lst ((n.take k).map g))) ⟨bt_upd, upd_same⟩ (fun k H' _ ⟨bt, _⟩ => SqT.of (bt _ _ nuD hu)) (fun k x H2 H' hi ⟨bt, h1⟩ ⟨ee, hx⟩ => ?_) (fun H' ⟨bt, h1⟩ => ?_)
  · subst ee
    have ip : n[k]? = some (n[k]'(by omega)) := List.getElem?_eq_getElem (by omega)
    generalize n[k]'(by omega) = p at ip
    obtain ⟨t, e1, e2⟩ := paired_at pr ip
    rw [List.getElem?_map, e1] at hx
    cases (show V.ref t = x from Option.some.inj hx)
    have ht : SwAt H' t p := bt t _ (ne_of_none e2 hD) e2
    have sm : Same H H' := fun b o e => bt b o (ne_of_none e hD) e
    refine ⟨t, _, rfl, SqT.of ht, rfl, _, _, rfl, _, _, rfl, rfl, hs _ _, ?_⟩
    simp only [tYes, ↓reduceIte]
    refine el p H' (List.mem_of_getElem? ip) sm _ fun H3 s3 => ?_
    refine ⟨_, s3 _ _ h1, by rw [List.length_map, List.length_take]; exact Nat.lt_of_le_of_lt (show _ ≤ 1000 by omega) (by decide), (bt.trans (Same.bt s3)).trans bt_upd, ?_⟩
    rw [upd_same, List.take_add_one, ip, List.map_append]
    rfl
  · rw [ul, List.take_length] at h1
    exact q D H' (fun b o e => bt b o (ne_of_none e hD) e) h1
section
variable {P : Program} {w : World} {K : PySem.W.Frag} {mg : Str → Option Value} {base : Heap} {f fC fW fN fA C CM CT : Addr} {fd dC dW dN dA : FuncData} {kd : Str}
theorem ok_nhas (F : FM K "_has" "Numbers._has" s_nhas f fd) (N : NSc K C) (ta : mg "any" = none) (WI : Kn P w K mg base 1 "is_within" fW dW ["value", "first", "last"] spWithin) : FnOk P w K mg base CX0 2 f fd ["self", "value"] (spHasN C) := by
  refine F.ok sc_nhas (fun vs H Q E h => ?_) (fun cdv A outer s H vs Q E hr h => ?_)
  · obtain ⟨m, n, v, rfl, _⟩ := h
    rfl
  obtain ⟨m, n, v, rfl, ⟨dx, u, hm, hu⟩, hl, q⟩ := h
  refine ⟨_, PSs.nox (pss_one (ps_ret (pe_callB (cr_any rfl) (by rfl) ta (by decide +kernel) (pa_cons (pe_lc (own := [("first", 2), ("last", 3)]) (g := gTup K 2 (gCons (gName 2) (gCons (gName 3) gNil))) (tt := tYes) (te := tCall spWithin [] E0 (tCons (tVar 1) (tCons (tVar 2) (tCons (tVar 3) tNil)))) rfl sc_nhas.nd (pi_tup (pe_fld (pv 0) rfl)) (blkOk_by (N := nHas) (sc := defScope s_nhas) (by decide +kernel))
        (fun _ _ _ _ _ => by exact pg_tup (by rfl) (pgs_cons (pg_name (i := 2) sc_nhas.nd rfl (Or.inl rfl)) (pgs_cons (pg_name (i := 3) sc_nhas.nd rfl (Or.inl rfl)) pgs_nil))) (fun _ _ _ _ _ => pts_nil) (fun _ _ _ _ _ => by exact pe_call WI.f hr rfl WI.m WI.k WI.b .nil pass0 (pa_cons (pv 1) (pa_cons (pv 2) (pa_cons (pv 3) pa_nil))))) pa_nil)))), ?_⟩
  refine ret_cb1 ?_
  refine lc_sw (i := 2) (j := 3) (u := u) (σ := L2.start nHas [V.ref m, V.int v]) (g := fun p => V.bl (inS p v)) (fun y z => rfl) hu hl (fun R r => ⟨_, rfl, m, C, dx, _, .ref u, rfl, hm, N.cl, N.nS, rfl, r⟩) (fun p H' _ s1 R r => ?_) fun D H' s1 hD => ?_
  · exact ⟨_, rfl, _, rfl, _, rfl, v, p.1, p.2, rfl, r H' (Same.refl _)⟩
  · refine ⟨D, n.map fun p => inS p v, rfl, SqL.of (by rw [hD, List.map_map]; rfl), ?_⟩
    have e : (n.map fun p => inS p v).any id = memL n v := by
      rw [List.any_map]
      rfl
    rw [e]
    exact q H' s1
theorem ok_namount (F : FM K "_amount" "Numbers._amount" s_namount f fd) (N : NSc K C) (ta : mg "any" = none) (ts : mg "sum" = none) : FnOk P w K mg base CX0 1 f fd ["self"] (spAmtN C) := by
  refine F.ok sc_namount (fun vs H Q E h => ?_) (fun cdv A outer s H vs Q E hr h => ?_)
  · obtain ⟨m, n, rfl, _⟩ := h
    rfl
  obtain ⟨m, n, rfl, ⟨dx, u, hm, hu⟩, hl, q⟩ := h
  refine ⟨_, PSs.nox (pss_cons (ps_if (pt_val (pe_callB (cr_any rfl) (by rfl) ta (by decide +kernel) (pa_cons (pe_lc (own := [("first", 1), ("last", 2)]) (g := gTup K 2 (gCons (gName 1) (gCons (gName 2) gNil))) (tt := tYes) (te := tOrV (tIsN (tVar 1)) (tIsN (tVar 2))) rfl sc_namount.nd (pi_tup (pe_fld (pv 0) rfl)) (blkOk_by (N := nAmt) (sc := defScope s_namount) (by decide +kernel))
        (fun _ _ _ _ _ => by exact pg_tup (by rfl) (pgs_cons (pg_name (i := 1) sc_namount.nd rfl (Or.inl rfl)) (pgs_cons (pg_name (i := 2) sc_namount.nd rfl (Or.inl rfl)) pgs_nil))) (fun _ _ _ _ _ => pts_nil) (fun _ _ _ _ _ => by exact pe_or (pe_cmp (pc_isN (pv 1)) rfl) (pe_one (pe_cmp (pc_isN (pv 2)) rfl)))) pa_nil))) (pss_one (ps_ret pe_non)) pss_nil)
    (pss_one (ps_ret (pe_callB (cr_sum rfl) (by rfl) ts (by decide +kernel) (pa_cons (pe_lc (own := [("first", 1), ("last", 2)]) (g := gTup K 2 (gCons (gName 1) (gCons (gName 2) gNil))) (tt := tYes) (te := tOp (rI0 fun i j => V.int (i + j)) (tOp (rI0 fun i j => V.int (i - j)) (tVar 2) (tVar 1)) (tC (.int 1))) rfl sc_namount.nd (pi_tup (pe_fld (pv 0) rfl)) (blkOk_by (N := nAmt) (sc := defScope s_namount) (by decide +kernel))
        (fun _ _ _ _ _ => by exact pg_tup (by rfl) (pgs_cons (pg_name (i := 1) sc_namount.nd rfl (Or.inl rfl)) (pgs_cons (pg_name (i := 2) sc_namount.nd rfl (Or.inl rfl)) pgs_nil))) (fun _ _ _ _ _ => pts_nil) (fun _ _ _ _ _ => by exact pe_op op_add (pe_op op_sub (pv 2) (pv 1)) pe_int)) pa_nil))))), ?_⟩
  refine tst_cb1 ?_
  refine lc_sw (i := 1) (j := 2) (u := u) (σ := L2.start nAmt [V.ref m]) (g := fun p => V.bl (decide (p.1 = none) || decide (p.2 = none))) (fun y z => rfl) hu hl (fun R r => ⟨_, rfl, m, C, dx, _, .ref u, rfl, hm, N.cl, N.nS, rfl, r⟩) (fun p H' _ s1 R r => ?_) fun D H' s1 hD => ?_
  · refine ⟨_, rfl, decide (oV p.1 = V.non), rfl, ?_⟩
    have r0 := r H' (Same.refl _)
    rw [oV_none]
    refine ite2 (fun h => ?_) (fun h => ?_)
    · rw [h, Bool.true_or] at r0
      exact r0
    · rw [Bool.eq_false_iff.mpr h, Bool.false_or] at r0
      refine ⟨_, rfl, ?_⟩
      show R (V.bl (decide (oV p.2 = V.non))) H'
      rw [oV_none]
      exact r0
  · refine ⟨D, n.map fun p => decide (p.1 = none) || decide (p.2 = none), SqL.of (by rw [hD, List.map_map]; rfl) |> fun z => ⟨rfl, z, ?_⟩⟩
    refine ⟨_, rfl, ?_⟩
    have e0 : (n.map fun p => decide (p.1 = none) || decide (p.2 = none)).any id = n.any fun p => decide (p.1 = none) || decide (p.2 = none) := by
      rw [List.any_map]
      rfl
    rw [e0]
    have ec : cntS n = if n.any (fun p => decide (p.1 = none) || decide (p.2 = none)) = true then none else some ((n.map fun p => (p.2.getD 0) - (p.1.getD 0) + 1).sum) := rfl
    have hu1 : TupSw H' u n := TupSw.same s1 hu
    have hm1 := s1 _ _ hm
    refine ite2 (fun h => ?_) (fun h => ?_)
    · rw [if_pos h] at ec
      have z := q H' s1
      rw [ec] at z
      exact z
    · rw [if_neg h] at ec
      have bnd : ∀ p ∈ n, ∃ x y, p.1 = some x ∧ p.2 = some y := fun p hp => by
        have hf : ¬ (decide (p.1 = none) || decide (p.2 = none)) = true := fun z => h (List.any_eq_true.mpr ⟨p, hp, z⟩)
        cases e1 : p.1 with
        | none => exact absurd (by rw [e1]; rfl) hf
        | some x =>
          cases e2 : p.2 with
          | none => exact absurd (by rw [e2, Bool.or_comm]; rfl) hf
          | some y => exact ⟨x, y, rfl, rfl⟩
      unfold tNext
      dsimp only
      refine ret_cb1 ?_
      refine lc_sw (i := 1) (j := 2) (u := u) (σ := L2.start nAmt [V.ref m]) (g := fun p => V.int ((p.2.getD 0) - (p.1.getD 0) + 1)) (fun y z => rfl) hu1 hl (fun R r => ⟨_, rfl, m, C, dx, _, .ref u, rfl, hm1, N.cl, N.nS, rfl, r⟩) (fun p H2 hp s2 R r => ?_) fun D2 H2 s2 hD2 => ?_
      · obtain ⟨x, y, e1, e2⟩ := bnd p hp
        have r0 := r H2 (Same.refl _)
        rw [e1, e2] at r0 ⊢
        exact ⟨_, rfl, _, rfl, y, x, rfl, rfl, y - x, 1, rfl, rfl, r0⟩
      · refine ⟨D2, n.map fun p => (p.2.getD 0) - (p.1.getD 0) + 1, rfl, SqL.of (by rw [hD2, List.map_map]; rfl), ?_⟩
        have z := q H2 (s1.trans s2)
        rw [ec] at z
        exact z
theorem asStr_int {H : Hp} (i : Int) : ValV K H (.int i) "text" false := by
  have h : ValV K H (.int i) "text" (isWd (.int i) 12) := .txt ⟨.type "int", .base (.int i), kit_ty (show kitB "int" "str" = some false by decide +kernel)⟩ fun z e => nomatch e
  exact h
theorem ret_ckw {r : List V → List V → Hp → VK → Prop} {t : TE} {a b : V} {D : Ends} {σ : L2.St} {H : Hp} (h : t σ H fun x H1 => r [x] [a, b] H1 D.rt) : tRet (tCKw r (tCons t tNil) (tCons (tC a) (tCons (tC b) tNil))) D σ H := h
theorem ok_nfirst (F : FM K "_first_value" "Numbers._first_value" s_nfirst f fd) (N : NSc K C) (tm : mg "min" = none) (NE : Kn P w K mg base 1 "_nearest" fN dN ["first", "last"] spNearest) (NA : Kn P w K mg base 4 "natural" fA dA ["value"] (spNatural K)) : FnOk P w K mg base CX0 6 f fd ["self"] (spFirN C) := by
  refine F.ok sc_nfirst (fun vs H Q E h => ?_) (fun cdv A outer s H vs Q E hr h => ?_)
  · obtain ⟨m, n, rfl, _⟩ := h
    rfl
  obtain ⟨m, n, rfl, ⟨dx, u, hm, hu⟩, hok, hl, q⟩ := h
  refine ⟨_, PSs.nox (pss_one (ps_ret (pe_callBK (cr_minKey (by rfl) (call1_of NA.f cxNo0 (hr.in1.mono (by decide)) rfl NA.b .nil) (by exact hr.units)) (by rfl) tm (by decide +kernel) (pa_cons (pe_lc (own := [("first", 1), ("last", 2)]) (g := gTup K 2 (gCons (gName 1) (gCons (gName 2) gNil))) (tt := tYes) (te := tCall spNearest [] E0 (tCons (tVar 1) (tCons (tVar 2) tNil))) rfl sc_nfirst.nd (pi_tup (pe_fld (pv 0) rfl)) (blkOk_by (N := nAmt) (sc := defScope s_nfirst) (by decide +kernel))
        (fun _ _ _ _ _ => by exact pg_tup (by rfl) (pgs_cons (pg_name (i := 1) sc_nfirst.nd rfl (Or.inl rfl)) (pgs_cons (pg_name (i := 2) sc_nfirst.nd rfl (Or.inl rfl)) pgs_nil))) (fun _ _ _ _ _ => pts_nil) (fun _ _ _ _ _ => by exact pe_call NE.f (hr.mono (by decide)) rfl NE.m NE.k NE.b .nil pass0 (pa_cons (pv 1) (pa_cons (pv 2) pa_nil)))) pa_nil)
      (pk_cons (pe_glob (v := .ref fA) (by rfl) NA.m rfl) (pk_cons pe_non pk_nil))))), ?_⟩
  refine ret_ckw ?_
  refine lc_sw (i := 1) (j := 2) (u := u) (σ := L2.start nAmt [V.ref m]) (g := fun p => V.int (nearS p)) (fun y z => rfl) hu hl (fun R r => ⟨_, rfl, m, C, dx, _, .ref u, rfl, hm, N.cl, N.nS, rfl, r⟩) (fun p H' _ s1 R r => ?_) fun D H' s1 hD => ?_
  · exact ⟨_, rfl, _, rfl, p.1, p.2, rfl, r H' (Same.refl _)⟩
  have ln : (n.map fun p => V.int (nearS p)).length = n.length := List.length_map ..
  have at' : ∀ (i : Nat) x, (n.map fun p => V.int (nearS p))[i]? = some x → ∃ p, n[i]? = some p ∧ x = V.int (nearS p) := fun i x h => by
    rw [List.getElem?_map] at h
    cases e : n[i]? with
    | none =>
      rw [e] at h
      cases h
    | some p =>
      rw [e] at h
      exact ⟨p, rfl, (Option.some.inj h).symm⟩
  refine ⟨D, n.map fun p => V.int (nearS p), .non, fun i => kN (nearS (n.getD i (none, none))), fun ks H1 => Same H' H1 ∧ ∃ us : List Addr, ks = us.map V.ref ∧ Paired (fun u (p : St2) => H1 u = some (.tup [.int (natI (nearS p)).1, .int (natI (nearS p)).2])) us (n.take ks.length), rfl, rfl,
    ⟨Same.refl _, [], rfl, .nil⟩, .inl fun ks H1 ⟨z, _⟩ => SqL.of (z _ _ hD), fun ks H1 x ⟨z, us, e, h3⟩ hx => ?_, fun ks H1 ⟨z, us, e, h3⟩ i y hy => ?_, fun i j _ _ => ⟨rfl, (fun e => nomatch e), Nat.le_of_ble_eq_true rfl⟩, fun e => ?_, fun ks H1 x ⟨z, _⟩ _ hx => ?_⟩
  · subst e
    obtain ⟨p, ip, rfl⟩ := at' _ _ hx
    refine .inl ⟨nearS p, rfl, asStr_int _, fun H2 u s2 hu2 => ?_⟩
    have s3 := same_upd (o := HO.tup [.int (natI (nearS p)).1, .int (natI (nearS p)).2]) hu2
    refine ⟨(z.trans s2).trans s3, us ++ [u], by rw [List.map_append]; rfl, ?_⟩
    have et : n.take ((us.map V.ref ++ [V.ref u]).length) = n.take (us.map V.ref).length ++ [p] := by
      rw [List.length_append]
      show n.take ((us.map V.ref).length + 1) = _
      rw [List.take_add_one, ip]
      rfl
    rw [et]
    exact (h3.mono fun c p e => s3 _ _ (s2 _ _ e)).snoc upd_same
  · subst e
    rw [List.getElem?_map] at hy
    cases e : us[i]? with
    | none =>
      rw [e] at hy
      cases hy
    | some t =>
      rw [e] at hy
      cases (show V.ref t = y from Option.some.inj hy)
      have il : i < us.length := (List.getElem?_eq_some_iff.mp e).1
      have ul := h3.length
      have il2 : i < (n.take (us.map V.ref).length).length := by omega
      have ip : (n.take (us.map V.ref).length)[i]? = some ((n.take (us.map V.ref).length)[i]'il2) := List.getElem?_eq_getElem il2
      generalize (n.take (us.map V.ref).length)[i]'il2 = p at ip
      obtain ⟨t', e1, e2⟩ := paired_at h3 ip
      rw [e] at e1
      cases e1
      have ip2 : n[i]? = some p := by
        rw [List.getElem?_take] at ip
        split at ip
        · exact ip
        · cases ip
      have eg : n.getD i (none, none) = p := by
        rw [List.getD_eq_getElem?_getD, ip2]
        rfl
      show Dp K H1 (V.ref t) (kN (nearS (n.getD i (none, none))))
      rw [eg]
      exact .tup (SqT.of e2) (.cons (.int _) (.cons (.int _) .nil))
  · have n0 : n = [] := List.length_eq_zero_iff.mp (ln ▸ e)
    exact q none H' (.inl ⟨n0, rfl⟩) s1
  · obtain ⟨p, ip, rfl⟩ := at' _ _ hx
    refine q (some (nearS p)) H1 (least_of hok ip fun q' hq => ?_) (s1.trans z)
    obtain ⟨j, jl, ej⟩ := List.getElem_of_mem hq
    have fl := (first_least (fun i => nearS (n.getD i (none, none))) (n.length - 1)).2 j (by omega)
    have e1 : n.getD j (none, none) = q' := by
      rw [List.getD_eq_getElem?_getD, List.getElem?_eq_getElem jl, ej]
      rfl
    have e2 : n.getD (firstLt (fun i => kN (nearS (n.getD i (none, none)))) (n.length - 1)) (none, none) = p := by
      rw [List.getD_eq_getElem?_getD]
      rw [ln] at ip
      rw [ip]
      rfl
    rw [e1, e2] at fl
    exact fl
end
end S8

end Ps8J
section Ps8K
set_option maxHeartbeats 8000000
namespace S8
open PySem PySem.Spec L2 PyProof.Rows Sm
/-! ### numbers of up to forty digits: repr; what ValueSet tells of a set of numbers -/
def SmO (a : Option Int) : Prop := ∀ i, a = some i → i.natAbs < 10 ^ 40
def SmS (l : List St2) : Prop := ∀ p ∈ l, SmO p.1 ∧ SmO p.2
theorem small_log {i : Int} (h : i.natAbs < 10 ^ 40) : i.natAbs.log2 < 1920 := by
  by_cases z : i.natAbs = 0
  · rw [z]
    decide
  · exact (Nat.log2_lt z).mpr (Nat.lt_of_lt_of_le h (by decide))
theorem shown_oD {a : Option Int} (h : SmO a) : (oD a).shown.length ≤ 41 := by
  cases a with
  | none =>
    show (PyData.none).shown.length ≤ 41
    decide +kernel
  | some i =>
    have e := int_text_length_le10 (k := 40) (by decide) (h i rfl)
    show (Str.ofString (toString i)).length ≤ 41
    rw [PySem.ofString_length]
    exact e
theorem showable_oD {a : Option Int} (h : SmO a) : (oD a).showable = true := by
  cases a with
  | none => rfl
  | some i => exact decide_eq_true (small_log (h i rfl))
theorem shown_pD {p : St2} (h : SmO p.1 ∧ SmO p.2) : (pD p).shown.length ≤ 140 := by
  have a := shown_oD h.1
  have b := shown_oD h.2
  have t := tupleText_len_le [(oD p.1).shown, (oD p.2).shown]
  show (tupleText [(oD p.1).shown, (oD p.2).shown]).length ≤ 140
  simp only [List.map_cons, List.map_nil, List.sum_cons, List.sum_nil, List.length_cons, List.length_nil] at t
  omega
theorem showable_pD {p : St2} (h : SmO p.1 ∧ SmO p.2) : (pD p).showable = true := by
  show (PyData.showable (oD p.1) && (PyData.showable (oD p.2) && true)) = true
  rw [showable_oD h.1, showable_oD h.2] <;> rfl
theorem shown_sum : ∀ {l : List St2}, SmS l → ((PyData.shownAll (l.map pD)).map (·.length)).sum ≤ 140 * l.length ∧ (PyData.shownAll (l.map pD)).length = l.length
  | [], _ => ⟨Nat.le_refl _, rfl⟩
  | p :: l, h => by
    obtain ⟨a, b⟩ := shown_sum (l := l) fun q hq => h q (List.mem_cons_of_mem _ hq)
    have c := shown_pD (h p List.mem_cons_self)
    refine ⟨?_, ?_⟩
    · show ((pD p).shown.length :: (PyData.shownAll (l.map pD)).map (·.length)).sum ≤ _
      rw [List.sum_cons, List.length_cons]
      omega
    · show (PyData.shownAll (l.map pD)).length + 1 = l.length + 1
      rw [b]
theorem showable_all : ∀ {l : List St2}, SmS l → PyData.showableAll (l.map pD) = true
  | [], _ => rfl
  | p :: l, h => by
    show ((pD p).showable && PyData.showableAll (l.map pD)) = true
    rw [showable_pD (h p List.mem_cons_self), showable_all fun q hq => h q (List.mem_cons_of_mem _ hq)] <;> rfl
theorem lst_shown {l : List St2} (h : SmS l) (hl : l.length ≤ 100) : (PyData.list (l.map pD)).showable = true ∧ (PyData.list (l.map pD)).shown.length ≤ 15000 ∧ (PyData.list (l.map pD)).depth ≤ 60 := by
  obtain ⟨a, b⟩ := shown_sum h
  refine ⟨showable_all h, ?_, ?_⟩
  · have t := listText_len_le (PyData.shownAll (l.map pD))
    show (listText (PyData.shownAll (l.map pD))).length ≤ 15000
    omega
  · have := (lay_pDs l).2
    show PyData.depthAll (l.map pD) + 1 ≤ 60
    omega
def nsText (n : List St2) : Str := Str.empty ++ "Numbers(" ++ (PyData.list (n.map pD)).shown ++ ")"
def spReprN (C : Addr) : Sp := fun vs H Q _ => ∃ (m : Addr) (n : List St2), vs = [.ref m] ∧ NSet C H m n ∧ SmS n ∧ n.length ≤ 100 ∧ ∀ H', Same H H' → Q (.str (nsText n)) H'
/-- the set has this amount, whatever kind it is: what ValueSet leans on -/
def spEmpN (C : Addr) : Sp := fun vs H Q _ => ∃ (m : Addr) (n : List St2), vs = [.ref m] ∧ NSet C H m n ∧ n.length ≤ 1000 ∧ ∀ H', Same H H' → Q (.bl (decide (cntS n = some 0))) H'
def spInN (K : PySem.W.Frag) (C : Addr) : Sp := fun vs H Q _ => ∃ (m : Addr) (n : List St2) (x : V), vs = [.ref m, x] ∧ NSet C H m n ∧ n.length ≤ 1000 ∧ ((∃ v : Int, x = .int v ∧ ∀ H', Same H H' → Q (.bl (memL n v)) H') ∨ (ValV K H x "number" false ∧ ∀ H', Same H H' → Q (.bl false) H'))
def spEqN (K : PySem.W.Frag) (C CM CT : Addr) : Sp := fun vs H Q _ => ∃ (m : Addr) (n : List St2) (y : V), vs = [.ref m, y] ∧ NSet C H m n ∧
  ((∃ (m2 : Addr) (n2 : List St2), y = .ref m2 ∧ NSet C H m2 n2 ∧ Q (.bl (decide (n = n2))) H) ∨
    (∃ t, TyX K H y t ∧ PySem.W.kitOne K t (.ref CM) = some false ∧ Q (.bl false) H) ∨ ∃ (b dx : Addr) (fs : List (Str × V)), y = .ref b ∧ H b = some (.ins CT dx fs) ∧ fs.lookup ("KIND" : Str) = none ∧ Q (.bl false) H)
theorem sc_vempty : FnScope ["self"] ["self"] (defScope s_vempty) := ⟨rfl, rfl, rfl, by decide +kernel, rfl, by decide +kernel, by decide +kernel⟩
theorem sc_vsize : FnScope ["self"] ["self"] (defScope s_vsize) := ⟨rfl, rfl, rfl, by decide +kernel, rfl, by decide +kernel, by decide +kernel⟩
theorem sc_vleast : FnScope ["self"] ["self"] (defScope s_vleast) := ⟨rfl, rfl, rfl, by decide +kernel, rfl, by decide +kernel, by decide +kernel⟩
theorem sc_vhas : FnScope ["self", "value"] ["self", "value"] (defScope s_vhas) := ⟨rfl, rfl, rfl, by decide +kernel, rfl, by decide +kernel, by decide +kernel⟩
theorem sc_veq : FnScope ["self", "other"] ["self", "other"] (defScope s_veq) := ⟨rfl, rfl, rfl, by decide +kernel, rfl, by decide +kernel, by decide +kernel⟩
section
variable {P : Program} {w : World} {K : PySem.W.Frag} {mg : Str → Option Value} {base : Heap} {f fC fV fA C CM CT : Addr} {fd dC dV dA : FuncData} {kd : Str}
theorem ok_nrepr (F : FM K "__repr__" "Numbers.__repr__" s_nrepr f fd) (N : NSc K C) (tl : mg "list" = none) (hK : noMods K = true) : FnG P w K mg base CX0 1 f fd ["self"] (spReprN C) := by
  refine F.okG sc_nrepr (fun vs H Q E h => ?_) (fun cdv A outer s H vs Q E hg hr h => ?_)
  · obtain ⟨m, n, rfl, _⟩ := h
    rfl
  obtain ⟨m, n, rfl, ⟨dx, u, hm, ts, hu, pr⟩, sm, hl, q⟩ := h
  have hG := deeper_guards (env := PyProof.Rows.envOfC "Numbers.__repr__" (defScope s_nrepr) s.heap.objs.size f cdv) hg
  have hu' := hr.units
  refine ⟨_, PSs.nox (pss_one (ps_ret (pe_joined (.cons pe_str (.cons (pe_fmtD (by exact hG) (by exact hu') (by exact hK) (pe_callTy call_list_of (by rfl) tl (by decide +kernel) (pa_cons (pe_fld (pv 0) rfl) pa_nil))) (.cons pe_str .nil)))))), ?_⟩
  obtain ⟨a1, a2, a3⟩ := lst_shown sm hl
  have e1 : (Str.empty ++ "Numbers(" : Str).length = 8 := by decide +kernel
  have e2 : (")" : Str).length = 1 := by decide +kernel
  have big : 20000 ≤ sizeLine := by decide
  refine ⟨_, rfl, by rw [e1]; exact Nat.le_trans (by decide) big, _, rfl, m, C, dx, _, .ref u, rfl, hm, N.cl, N.nS, rfl, u, _, rfl, .inr (SqT.of hu), fun g hgg => ?_⟩
  have s1 := same_upd (o := HO.lst (ts.map V.ref)) hgg
  have lg : LstSw (upd H g (.lst (ts.map V.ref))) g n := ⟨ts, upd_same, pr.mono fun t p e => s1 _ _ e⟩
  refine ⟨_, rp_lst lg, a1, Nat.le_trans a2 (by decide), a3, _, rfl, ?_, _, rfl, ?_, q _ s1⟩
  · rw [strLen_append, e1]
    omega
  · rw [strLen_append, strLen_append, e1, e2]
    omega
theorem ok_vemptyN (F : FM K "is_empty" "ValueSet.is_empty" s_vempty f fd) (N : NSc K C) (GA : FnOk P w K mg base CX0 1 fA dA ["self"] (spAmtN C)) (bA : Binds K dA ["self"] []) (mA : Meth K C "_amount" fA) : FnOk P w K mg base CX0 2 f fd ["self"] (spEmpN C) := by
  refine F.ok sc_vempty (fun vs H Q E h => ?_) (fun cdv A outer s H vs Q E hr h => ?_)
  · obtain ⟨m, n, rfl, _⟩ := h
    rfl
  obtain ⟨m, n, rfl, ⟨dx, u, hm, hu⟩, hl, q⟩ := h
  refine ⟨_, PSs.nox (pss_one (ps_ret (pe_cmpR op_eq (pe_meth0 (pv 0) N.cl mA GA hr bA .nil pass0) pe_int (nomark _)))), ?_⟩
  refine ⟨_, rfl, m, dx, _, rfl, hm, rfl, m, n, rfl, ⟨dx, u, hm, hu⟩, hl, fun H1 s1 => ?_⟩
  have sc : scal (oV (cntS n)) (V.int 0) = true := by cases cntS n <;> rfl
  refine ⟨sc, ?_⟩
  show Q (V.bl (decide (oV (cntS n) = V.int 0))) H1
  have e : decide (oV (cntS n) = V.int 0) = decide (cntS n = some 0) := oV_dec (b := some 0)
  rw [e]
  exact q H1 s1
theorem ok_vsizeN (F : FM K "size" "ValueSet.size" s_vsize f fd) (N : NSc K C) (GA : FnOk P w K mg base CX0 1 fA dA ["self"] (spAmtN C)) (bA : Binds K dA ["self"] []) (mA : Meth K C "_amount" fA) : FnOk P w K mg base CX0 2 f fd ["self"] (spAmtN C) := by
  refine F.ok sc_vsize (fun vs H Q E h => ?_) (fun cdv A outer s H vs Q E hr h => ?_)
  · obtain ⟨m, n, rfl, _⟩ := h
    rfl
  obtain ⟨m, n, rfl, ⟨dx, u, hm, hu⟩, hl, q⟩ := h
  refine ⟨_, PSs.nox (pss_one (ps_ret (pe_meth0 (pv 0) N.cl mA GA hr bA .nil pass0))), ?_⟩
  exact ⟨_, rfl, m, dx, _, rfl, hm, rfl, m, n, rfl, ⟨dx, u, hm, hu⟩, hl, q⟩
theorem ok_vleastN (F : FM K "least" "ValueSet.least" s_vleast f fd) (N : NSc K C) (GA : FnOk P w K mg base CX0 6 fA dA ["self"] (spFirN C)) (bA : Binds K dA ["self"] []) (mA : Meth K C "_first_value" fA) : FnOk P w K mg base CX0 7 f fd ["self"] (spFirN C) := by
  refine F.ok sc_vleast (fun vs H Q E h => ?_) (fun cdv A outer s H vs Q E hr h => ?_)
  · obtain ⟨m, n, rfl, _⟩ := h
    rfl
  obtain ⟨m, n, rfl, ⟨dx, u, hm, hu⟩, ho, hl, q⟩ := h
  refine ⟨_, PSs.nox (pss_one (ps_ret (pe_meth0 (pv 0) N.cl mA GA hr bA .nil pass0))), ?_⟩
  exact ⟨_, rfl, m, dx, _, rfl, hm, rfl, m, n, rfl, ⟨dx, u, hm, hu⟩, ho, hl, q⟩
theorem ok_vhasN (F : FM K "__contains__" "ValueSet.__contains__" s_vhas f fd) (N : NSc K C) (O : TcO K C CM "number") (IV : Kn P w K mg base 2 "is_value" fV dV ["value", "kind"] (spValue K)) (GA : FnOk P w K mg base CX0 2 fA dA ["self", "value"] (spHasN C)) (bA : Binds K dA ["self", "value"] []) (mA : Meth K C "_has" fA) : FnOk P w K mg base CX0 3 f fd ["self", "value"] (spInN K C) := by
  refine F.ok sc_vhas (fun vs H Q E h => ?_) (fun cdv A outer s H vs Q E hr h => ?_)
  · obtain ⟨m, n, x, rfl, _⟩ := h
    rfl
  obtain ⟨m, n, x, rfl, ⟨dx, u, hm, hu⟩, hl, h⟩ := h
  obtain ⟨u1, k1⟩ := O.knd
  refine ⟨_, PSs.nox (pss_one (ps_ret (pe_and (pe_call IV.f hr rfl IV.m IV.k IV.b .nil pass0 (pa_cons (pv 1) (pa_cons (pe_con (pv 0) rfl) pa_nil))) (pe_one (pe_meth (pv 0) N.cl mA GA hr bA .nil pass0 (pa_cons (pv 1) pa_nil)))))), ?_⟩
  rcases h with ⟨v, rfl, q⟩ | ⟨hx, q⟩
  · refine ⟨_, rfl, _, rfl, m, C, dx, _, _, u1, rfl, hm, N.cl, k1, rfl, .int v, "number", true, rfl, .num (numV_int v), fun H1 s1 => ⟨true, rfl, ?_⟩⟩
    refine (show (if true = true then _ else _) from ?_)
    rw [if_pos rfl]
    exact ⟨_, rfl, m, dx, _, rfl, s1 _ _ hm, rfl, _, rfl, m, n, v, rfl, ⟨dx, u, s1 _ _ hm, hu.same s1⟩, hl, fun H2 s2 => q H2 (s1.trans s2)⟩
  · refine ⟨_, rfl, _, rfl, m, C, dx, _, _, u1, rfl, hm, N.cl, k1, rfl, x, "number", false, rfl, hx, fun H1 s1 => ⟨false, rfl, ?_⟩⟩
    refine (show (if false = true then _ else _) from ?_)
    rw [if_neg (by decide)]
    exact q H1 s1
theorem ok_veqN (F : FM K "__eq__" "ValueSet.__eq__" s_veq f fd) (N : NSc K C) (O : TcO K C CM "number") (OT : TcO K CT CM "text") (ti : mg "isinstance" = none) (tM : mg "ValueSet" = some (.ref CM))
    (GC : FnOk P w K mg base CX0 1 fC dC ["self"] (spContN C)) (bC : Binds K dC ["self"] []) (mC : Meth K C "_content" fC) : FnOk P w K mg base CX0 2 f fd ["self", "other"] (spEqN K C CM CT) := by
  refine F.ok sc_veq (fun vs H Q E h => ?_) (fun cdv A outer s H vs Q E hr h => ?_)
  · obtain ⟨m, n, y, rfl, _⟩ := h
    rfl
  obtain ⟨m, n, y, rfl, ⟨dx, u, hm, hu⟩, h⟩ := h
  have hun := hr.units
  obtain ⟨u1, k1⟩ := O.knd
  obtain ⟨u2, k2⟩ := OT.knd
  refine ⟨_, PSs.nox (pss_one (ps_ret (pe_and (pe_callB call_isi (by rfl) ti boot_isi (pa_cons (pv 1) (pa_cons (pe_glob (v := .ref CM) rfl tM rfl) pa_nil))) (pe_and (pe_cmpR op_eq (pe_con (pv 0) rfl) (pe_con (pv 1) rfl) (nomark _))
    (pe_one (pe_cmpR (op_eqD (by exact hun)) (pe_meth0 (pv 0) N.cl mC GC hr bC .nil pass0) (pe_meth0 (pv 1) N.cl mC GC hr bC .nil pass0) (nomark _))))))), ?_⟩
  rcases h with ⟨m2, n2, rfl, ⟨dy, v, hm2, hv⟩, q⟩ | ⟨t, ty, kt, q⟩ | ⟨b, dy, fs, rfl, hb, hl, q⟩
  · refine ⟨_, rfl, .ref m2, .ref CM, .ref C, _, _, rfl, .own _, O.ty hm2, O.kit, true, rfl, ?_⟩
    refine (show (if true = true then _ else _) from ?_)
    rw [if_pos rfl]
    refine ⟨_, rfl, m, C, dx, _, _, u1, rfl, hm, N.cl, k1, rfl, _, rfl, m2, C, dy, _, _, u1, rfl, hm2, N.cl, k1, rfl, rfl, true, ?_, ?_⟩
    · show V.bl (decide (V.str "number" = V.str "number")) = V.bl true
      rw [decide_eq_true rfl]
    refine (show (if true = true then _ else _) from ?_)
    rw [if_pos rfl]
    refine ⟨_, rfl, m, dx, _, rfl, hm, rfl, m, dx, u, rfl, hm, _, rfl, m2, dy, _, rfl, hm2, rfl, m2, dy, v, rfl, hm2, _, _, dp_tup hu, dp_tup hv, shaped_tup n, shaped_tup n2, ?_⟩
    show Q (V.bl (PyData.eqvAll (n.map pD) (n2.map pD))) H
    rw [eqv_pDs]
    exact q
  · refine ⟨_, rfl, y, .ref CM, t, _, _, rfl, .own _, ty, kt, false, rfl, ?_⟩
    refine (show (if false = true then _ else _) from ?_)
    rw [if_neg (by decide)]
    exact q
  · refine ⟨_, rfl, .ref b, .ref CM, .ref CT, _, _, rfl, .own _, OT.ty hb, OT.kit, true, rfl, ?_⟩
    refine (show (if true = true then _ else _) from ?_)
    rw [if_pos rfl]
    refine ⟨_, rfl, m, C, dx, _, _, u1, rfl, hm, N.cl, k1, rfl, _, rfl, b, CT, dy, _, _, u2, rfl, hb, OT.cl, k2, hl, rfl, false, ?_, ?_⟩
    · show V.bl (decide (V.str "number" = V.str "text")) = V.bl false
      rw [decide_eq_false (by decide +kernel)]
    refine (show (if false = true then _ else _) from ?_)
    rw [if_neg (by decide)]
    exact q
end
end S8

end Ps8K
section PM12
set_option maxHeartbeats 4000000
/-! sorted(set(xs)), xs a list of texts. -/
namespace TxSet
open PySem PySem.Spec PyProof.Rows L2
def keyT (e : Int × Value) : Str := match e.2 with
  | .str k _ => k
  | _ => Str.empty
def GoodT (P : Program) (w : World) (e : Int × Value) : Prop := ∃ k tk, e.2 = Value.str k tk ∧ e.1 = (PySem.strKind P w).hash k
/-- the entries es with the table t are those of a set of just the texts zs -/
structure Tb (P : Program) (w : World) (es : Array (Int × Value)) (t : SetTable) (zs : List Str) : Prop where
  good : ∀ e ∈ es.toList, GoodT P w e
  nd : (es.toList.map keyT).Nodup
  mem : ∀ k, k ∈ zs ↔ k ∈ es.toList.map keyT
  le : es.size ≤ zs.length
  fit : t.fits es.size = true
  ris : Ris t.place.toList
  led : w.params.followText "set-order" = true ∨ t.led = true
/-- at a: a set of the texts zs -/
def Tx (P : Program) (w : World) (h : Heap) (a : Addr) (zs : List Str) : Prop := ∃ o es ep t, h.get? a = some o ∧ o.ExactSet ∧ o.data = .set es ep t ∧ Tb P w es t zs
section
variable {P : Program} {w : World} {h h' : Heap} {a : Addr} {zs : List Str}
theorem Tx.at (R : Tx P w h a zs) (k : ∀ o, h.get? a = some o → h'.get? a = some o) : Tx P w h' a zs := by
  obtain ⟨o, es, ep, t, ho, r⟩ := R
  exact ⟨o, es, ep, t, k o ho, r⟩
theorem elemsT {l : List (Int × Value)} (g : ∀ e ∈ l, GoodT P w e) : ElemsOf (PySem.strKind P w) l := fun e he => by
  obtain ⟨k, tk, h1, h2⟩ := g e he
  exact ⟨⟨k, by rw [h1]; exact strKind_is P w k tk, h2⟩, by rw [h1] <;> rfl⟩
theorem isT {e : Int × Value} (g : GoodT P w e) (k : Str) : (PySem.strKind P w).is k e.2 = true ↔ keyT e = k := by
  obtain ⟨k0, tk, h1, _⟩ := g
  unfold keyT
  rw [h1]
  constructor
  · intro q
    obtain ⟨t, et⟩ := Value.isStrOf_shape (show Value.isStrOf k (.str k0 tk) = true from q)
    injection et
  · intro q
    have q' : k0 = k := q
    subst q'
    exact strKind_is P w k0 tk
theorem memT {l : List (Int × Value)} (g : ∀ e ∈ l, GoodT P w e) (k : Str) : k ∈ l.map keyT ↔ ∃ e ∈ l, (PySem.strKind P w).is k e.2 = true := by
  rw [List.mem_map]
  exact ⟨fun ⟨e, he, q⟩ => ⟨e, he, (isT (g e he) k).2 q⟩, fun ⟨e, he, q⟩ => ⟨e, he, (isT (g e he) k).1 q⟩⟩
theorem Tb.perm {es es2 : Array (Int × Value)} {t t2 : SetTable} (T : Tb P w es t zs) (pm : es2.toList.Perm es.toList) (hf : t2.fits es2.size = true) (hr : Ris t2.place.toList) (hl : t2.led = t.led) : Tb P w es2 t2 zs where
  good := fun e he => T.good e (pm.mem_iff.mp he)
  nd := (pm.map keyT).nodup_iff.mpr T.nd
  mem := fun k => (T.mem k).trans (pm.map keyT).mem_iff.symm
  le := by
    have e := pm.length_eq
    rw [Array.length_toList, Array.length_toList] at e
    rw [e]
    exact T.le
  fit := hf
  ris := hr
  led := T.led.imp id fun z => by rw [hl]; exact z
theorem Tb.table {es : Array (Int × Value)} {t t2 : SetTable} (T : Tb P w es t zs) (hf : t2.fits es.size = true) (hr : Ris t2.place.toList) (hl : w.params.followText "set-order" = true ∨ t2.led = true) : Tb P w es t2 zs := ⟨T.good, T.nd, T.mem, T.le, hf, hr, hl⟩
end
section
variable {P : Program} {w : World} {A : Around} {E : Value → Shared → Prop} {s : Shared} {a : Addr} {zs : List Str}
/-- the new entries stored, the table laid anew where it is too full -/
theorem tail_tx {g : Bool → Sem Unit} (hg : ∀ (b : Bool) (s₁ : Shared) (Q' : Unit → Shared → Prop), Q' () s₁ → wpAny (model P w) A (g b) Q' E s₁) {o : Obj} {es es1 : Array (Int × Value)} {ep : Nat} {t t2 : SetTable} (ho : s.heap.get? a = some o) (hex : o.ExactSet) (hd : o.data = .set es ep t)
    (T : Tb P w es1 t2 zs) (hz : zs.length < 64) {wasDummy : Bool} {R : Option Bool → Shared → Prop} (hR : ∀ h', Heap.SameBut a s.heap h' → Tx P w h' a zs → R (some true) { s with heap := h' }) :
    wpAny (model P w) A (storeSet a es1 t2 >>= fun _ => if (!wasDummy && t2.tooFull) = true then g (relayAll t2 es1 (SetTable.grown es1.size)).2.2 >>= fun _ => storeSet a (relayAll t2 es1 (SetTable.grown es1.size)).1 (relayAll t2 es1 (SetTable.grown es1.size)).2.1 >>= fun _ => pure (some true) else pure (some true)) R E s := by
  have hb1 : es1.size < scanBound := by
    have := T.le
    unfold scanBound
    omega
  refine wpAny_bind (wpAny_storeSet_of ho hd ?_ (fits_of_scanBound hb1))
  have ho1 := store_at (es' := es1) (t' := t2) ho hd
  have sb1 := Heap.SameBut.update s.heap a (Obj.putSet es1 t2)
  split
  · have T2 := T.perm (relayAll_perm t2 es1 (SetTable.grown es1.size)) (relayAll_fits t2 es1 (SetTable.grown es1.size)) (relayAll_ris t2 es1 (SetTable.grown es1.size)) (relayAll_led t2 es1 (SetTable.grown es1.size))
    generalize relayAll t2 es1 (SetTable.grown es1.size) = Z at T2 ⊢
    obtain ⟨es2, t3, gave⟩ := Z
    dsimp only at T2 ⊢
    have hb2 : es2.size < scanBound := by
      have := T2.le
      unfold scanBound
      omega
    refine wpAny_bind (hg _ _ _ (wpAny_bind (wpAny_storeSet_of ho1 rfl ?_ (fits_of_scanBound hb2))))
    exact wpAny_pure (hR _ (sb1.trans (Heap.SameBut.update _ a _)) ⟨_, es2, _, t3, store_at (es' := es2) (t' := t3) ho1 rfl, hex, rfl, T2⟩)
  · exact wpAny_pure (hR _ sb1 ⟨_, es1, _, t2, ho1, hex, rfl, T⟩)
/-- a text put in -/
theorem add_tx {k : Str} {tk : Tok} {Q : Bool → Shared → Prop} (R : Tx P w s.heap a zs) (room : zs.length + 1 < 64) (hQ : ∀ h' b, Heap.SameBut a s.heap h' → Tx P w h' a (zs ++ [k]) → Q b { s with heap := h' }) :
    wpAny (model P w) A (setAddHashed a (.str k tk) ((PySem.strKind P w).hash k)) Q E s := by
  obtain ⟨o, es, ep, t, ho, hex, hd, T⟩ := R
  have hkey : (PySem.strKind P w).is k (.str k tk) = true := strKind_is P w k tk
  have hsc : (Value.str k tk).scannable = true := rfl
  have hel : ElemsOf (PySem.strKind P w) es.toList := elemsT T.good
  have hb : es.size < scanBound := by
    have := T.le
    unfold scanBound
    omega
  have room2 : (zs ++ [k]).length < 64 := by
    rw [List.length_append, List.length_singleton]
    exact room
  unfold setAddHashed setAddHashedIn
  refine wpAny_holding (wpAny_bind (wpAny_setState_of ho hd T.fit ?_))
  dsimp only
  rw [byScan_of hsc hb hel]
  simp only [↓reduceIte]
  unfold setAddByScan
  refine wpAny_bind (wpAny_bind (wpAny_rule (wpAny_bind (wpAny_setScan_of hkey ho hd T.fit hel ?_))))
  cases hfi : List.findIdx? (fun e => (PySem.strKind P w).is k e.2) es.toList with
  | some j =>
    dsimp only
    obtain ⟨hj, pj, _⟩ := List.findIdx?_eq_some_iff_getElem.mp hfi
    have hk : k ∈ es.toList.map keyT := (memT (P := P) (w := w) T.good k).2 ⟨_, List.getElem_mem hj, pj⟩
    refine wpAny_pure (wpAny_pure (hQ s.heap _ (Heap.SameBut.refl a s.heap) ⟨o, es, ep, t, ho, hex, hd, T.good, T.nd, fun i => ?_, ?_, T.fit, T.ris, T.led⟩))
    · rw [List.mem_append, List.mem_singleton, ← T.mem i]
      exact ⟨fun z => z.elim id fun e => (T.mem i).2 (e ▸ hk), .inl⟩
    · rw [List.length_append]
      exact Nat.le_trans T.le (Nat.le_add_right _ _)
  | none =>
    dsimp only
    have hnk : k ∉ es.toList.map keyT := fun z => by
      obtain ⟨e, he, q⟩ := (memT (P := P) (w := w) T.good k).1 z
      have c := List.findIdx?_eq_none_iff.mp hfi e he
      rw [q] at c
      cases c
    have hgw : ∀ (b : Bool) {s₁ : Shared} {Q' : Unit → Shared → Prop}, Q' () s₁ → wpAny (model P w) A (match b with | true => rule "set.scan.the-table-gave-way" | false => pure ()) Q' E s₁ := fun b s₁ Q' q => by
      cases b
      · exact wpAny_pure q
      · exact wpAny_rule q
    have pm := layNew_perm t es ((PySem.strKind P w).hash k) (.str k tk)
    have hf1 := layNew_fits t es ((PySem.strKind P w).hash k) (.str k tk)
    have hr1 := layNew_ris t es ((PySem.strKind P w).hash k) (.str k tk) T.ris
    have hl1 := layNew_led t es ((PySem.strKind P w).hash k) (.str k tk)
    generalize layNew t es ((PySem.strKind P w).hash k) (.str k tk) = Z at pm hf1 hr1 hl1 ⊢
    obtain ⟨es1, t1, wasDummy, gave⟩ := Z
    dsimp only at pm hf1 hr1 hl1 ⊢
    rw [Array.toList_push] at pm
    have pc : es1.toList.Perm (((PySem.strKind P w).hash k, Value.str k tk) :: es.toList) := pm.trans (List.perm_append_singleton _ _)
    have pk : (es1.toList.map keyT).Perm (k :: es.toList.map keyT) := pc.map keyT
    have hsz : es1.size = es.size + 1 := by rw [← Array.length_toList, pc.length_eq, List.length_cons, Array.length_toList]
    have hled : w.params.followText "set-order" = true ∨ t1.led = true := T.led.imp id fun z => by rw [hl1]; exact z
    have T1 : Tb P w es1 t1 (zs ++ [k]) := {
      good := fun e he => by
        rcases List.mem_cons.mp (pc.mem_iff.mp he) with z | z
        · rw [z]
          exact ⟨k, tk, rfl, rfl⟩
        · exact T.good e z
      nd := pk.nodup_iff.mpr (List.nodup_cons.mpr ⟨hnk, T.nd⟩)
      mem := fun i => by
        rw [List.mem_append, List.mem_singleton, T.mem i, pk.mem_iff, List.mem_cons]
        exact Or.comm
      le := by
        rw [hsz, List.length_append, List.length_singleton]
        exact Nat.succ_le_succ T.le
      fit := hf1
      ris := hr1
      led := hled }
    refine wpAny_bind (hgw _ ?_)
    split
    · refine wpAny_bind ?_
      rw [hashByValue_scannable 8 hsc]
      refine wpAny_pure (tail_tx (fun b s₁ Q' q => ?_) ho hex hd (T1.table ?_ ?_ ?_) room2 fun h' sb r => ?_)
      · cases b
        · exact wpAny_pure q
        · exact wpAny_rule q
      · first
          | (split <;> first | exact hf1 | exact SetTable.fits_plain_off hf1)
          | exact hf1
      · first
          | (split <;> exact hr1)
          | exact hr1
      · first
          | (split <;> exact hled)
          | exact hled
      · dsimp only
        exact wpAny_pure (hQ h' _ sb r)
    · refine wpAny_bind (wpAny_pure ?_)
      simp only [↓reduceIte]
      refine tail_tx (fun b s₁ Q' q => ?_) ho hex hd T1 room2 fun h' sb r => ?_
      · cases b
        · exact wpAny_pure q
        · exact wpAny_rule q
      · dsimp only
        exact wpAny_pure (hQ h' _ sb r)
end
end TxSet

end PM12
section PN12
set_option maxHeartbeats 4000000
namespace TxSet
open PySem PySem.Spec PyProof.Rows L2
theorem new_tx {P : Program} {w : World} {h : Heap} {a : Addr} (ho : h.get? a = some { cls := .type "set", dict := none, data := .set #[] 0 (.fresh 0 0 (!w.params.followText "set-order")) }) : Tx P w h a [] :=
  ⟨_, #[], 0, _, ho, ⟨rfl, rfl, rfl⟩, rfl, (fun e he => by simp at he), (by simp), (fun k => by simp), Nat.le_refl _, (by rfl), List.Pairwise.nil, by
    show _ ∨ (!w.params.followText "set-order") = true
    cases w.params.followText "set-order"
    · exact .inr rfl
    · exact .inl rfl⟩
section
variable {P : Program} {w : World} {A : Around} {E : Value → Shared → Prop} {s : Shared}
/-- the loop that puts the texts in -/
theorem loop_tx {I : Addr} {fp wr : List Addr} {G : Array GenState → Array GenState → Prop} {n : Nat} {Pv : Nat → Value → Prop} {St : Nat → Shared → Prop} {R : Result → Shared → Prop} (W : WalksS P w A.in1 I fp wr G n Pv St) (S : Addr) (hSf : S ∉ fp) (xs : List Str) (hn : xs.length = n) (h64 : n < 64)
    (hval : ∀ i v, Pv i v → ∃ t, v = .str (xs.getD i Str.empty) t) :
    ∀ (k i : Nat) (s : Shared), n - i = k → i ≤ n → St i s → Tx P w s.heap S (xs.take i) → (∀ s', Moved (S :: wr) G s s' → Tx P w s'.heap S xs → R (.ok (.ret .none)) s') →
      codeAny (model P w) A (.builtin "set.update.loop" ⟨[.ref S, .ref I], []⟩) R s := by
  have hSw : S ∉ wr := fun z => hSf (W.sub _ z)
  have wider : ∀ b ∈ wr, b ∈ S :: wr := fun b hb => List.mem_cons_of_mem _ hb
  intro k
  induction k with
  | zero =>
    intro i s hk hi hst hS hR
    have hin : i = n := by omega
    subst hin
    rw [List.take_of_length_le (Nat.le_of_eq hn)] at hS
    refine codeAny_builtin F.entry_set_update_loop ?_
    rw [Around.under_plainId F.plain_set_update_loop _]
    show wpAny _ A.in1 (pyNext (.ref I) >>= _) _ _ s
    refine wpAny_bind (W.done s _ _ hst fun s' hm => ?_)
    show wpAny _ A.in1 (ret Value.none) _ _ s'
    exact wpAny_pure (hR s' (hm.mono wider) (hS.at fun o e => hm.heap S o hSw e))
  | succ k ih =>
    intro i s hk hi hst hS hR
    have hlt : i < n := by omega
    refine codeAny_builtin F.entry_set_update_loop ?_
    rw [Around.under_plainId F.plain_set_update_loop _]
    show wpAny _ A.in1 (pyNext (.ref I) >>= _) _ _ s
    refine wpAny_bind (W.item i s _ _ hlt hst fun v s' hP hst' hm => ?_)
    obtain ⟨t, rfl⟩ := hval i v hP
    have hS1 : Tx P w s'.heap S (xs.take i) := hS.at fun o e => hm.heap S o hSw e
    have hx : xs[i]? = some (xs.getD i Str.empty) := by
      rw [List.getD_eq_getElem?_getD, List.getElem?_eq_getElem (by omega)] <;> rfl
    show wpAny _ A.in1 (holding [Value.str (xs.getD i Str.empty) t] (setAdd S (.str (xs.getD i Str.empty) t)) >>= _) _ _ s'
    refine wpAny_bind (wpAny_holding ?_)
    unfold setAdd
    refine wpAny_holding (wpAny_bind ((PySem.strKind P w).pyHash (k := xs.getD i Str.empty) (strKind_is _ _ _ _) ?_))
    refine add_tx (s := { s' with toks := s'.toks + 1 }) hS1 (by rw [List.length_take]; omega) fun h' b hsb hS2 => ?_
    have hS3 : Tx P w h' S (xs.take (i + 1)) := by
      rw [List.take_add_one, hx]
      exact hS2
    refine wpAny_pure ⟨plainId_quiet F.plain_set_update_loop _, ih (i + 1) _ (by omega) hlt (W.frame _ s' _ _ hst' (Nat.le_succ _) fun b hb o e => ?_) hS3 fun s'' hm'' hS'' => ?_⟩
    · rw [hsb.2 b (fun z : b = S => hSf (by rw [← z]; exact hb))]
      exact e
    · refine hR s'' (Moved.trans W.gtrans ((hm.mono wider).then_heap (Nat.le_succ _) fun b o hb e => ?_) hm'') hS''
      rw [hsb.2 b (fun z : b = S => hb (by rw [z]; exact List.mem_cons_self))]
      exact e
abbrev newSet (w : World) : Obj := { cls := .type "set", dict := none, data := .set #[] 0 (.fresh 0 0 (!w.params.followText "set-order")) }
set_option maxHeartbeats 3200000 in
/-- set(xs) -/
theorem set_of {l : Addr} {items : Array Value} {xs : List Str} {Q : Value → Shared → Prop} (hh : A.handled = none) (hl : s.heap.IsList l items) (hi : StrsAre items.toList xs) (h64 : xs.length < 64)
    (h : ∀ (h' : Heap) (tk : Nat), Tx P w h' s.heap.objs.size xs → (∀ b o, b < s.heap.objs.size → s.heap.get? b = some o → h'.get? b = some o) → Q (.ref s.heap.objs.size) { s with heap := h', toks := tk }) :
    wpAny (model P w) A (call (.type "set") [.ref l]) Q E s := by
  obtain ⟨c, tl, hmro⟩ := PySem.F.called_set.mro
  have m1 := PySem.F.called_set.made
  have m2 := PySem.F.called_set.sub
  refine wpAny_call (codeAny_of_tree ?_)
  show wpAny _ _ (callAny (.type "set") _) _ _ _
  refine wpAny_pure ⟨Code.quiet_builtin _ (by decide +kernel), codeAny_builtin PySem.F.entry_type_call ?_⟩
  rw [Around.under_plain (weight_type_call_type "set" [.ref l] []) rfl]
  have m3 := PySem.F.called_set.notType
  have m4 := PySem.F.called_set.canCreate
  have m5 := PySem.F.typeCall_set_1 (.ref l)
  repeat (any_goals (first | assumption | wp_step))
  refine codeAny_mono (code_set_led1 (.ref l) (E := E) (Q₁ := fun obj s₁ => obj = .ref s.heap.objs.size ∧ s₁ = { s with heap := s.heap.push (newSet w) }) ⟨rfl, rfl⟩) fun r s₁ hr => ?_
  cases r with
  | error e => exact hr
  | ok fl =>
    cases fl with
    | ret obj =>
      obtain ⟨rfl, rfl⟩ := hr
      have hS : (s.heap.push (newSet w)).get? s.heap.objs.size = some (newSet w) := Heap.get?_push_size _ rfl
      have hT : Shared.TypeIs { s with heap := s.heap.push (newSet w) } (.ref s.heap.objs.size) "set" := ⟨_, hS, rfl⟩
      have m6 := PySem.F.called_set.init.lookup
      have m7 := PySem.F.called_set.init.bind (.ref s.heap.objs.size)
      repeat (any_goals (first | assumption | wp_step))
      refine codeAny_mono (codeAny_call_builtin (R := wants (fun r s₂ => r = .none ∧ ∃ h' tk, s₂ = { s with heap := h', toks := tk } ∧ Tx P w h' s.heap.objs.size xs ∧ (∀ b o, b < s.heap.objs.size → s.heap.get? b = some o → h'.get? b = some o)) E)
        PySem.F.called_set.init.plain PySem.F.entry_set_init (check_set_init_1 hT ?_)) fun r₂ s₂ hr₂ => ?_
      · obtain ⟨⟨ocls, odict, odata, oslots⟩, hol, hcl, nl, hdl⟩ := hl
        simp only at hcl hdl
        subst hcl hdl
        have hol' : (s.heap.push (newSet w)).get? l = some { cls := .type "list", dict := odict, data := .seq items nl, slots := oslots } := Heap.get?_push_of_some _ hol
        have hsls := PySem.F.sub_list_set
        have hslf := PySem.F.sub_list_frozenset
        have hne : (Value.type "list" == Value.type "dict") = false := by decide
        have hl1 : (s.heap.push (newSet w)).IsList l items := ⟨_, hol', rfl, nl, rfl⟩
        unfold Builtin.«set.__init__» noKeywords Builtin.Frozenset.updateFrom
        generalize hPI : pyIter = PI
        wp_walk
        subst hPI
        refine wpAny_pyIter_list hl1 ?_
        refine wpAny_bind (wpAny_runValue ?_)
        have hlS : l < s.heap.objs.size := Heap.lt_size hol
        have hh3 : A.in1.in1.in1.handled = none := by simp [hh]
        have hneI : l ≠ (s.heap.push (newSet w)).objs.size := by
          rw [Heap.size_push]
          exact Nat.ne_of_lt (Nat.lt_succ_of_lt hlS)
        have hSf : s.heap.objs.size ∉ [(s.heap.push (newSet w)).objs.size, l] := by
          rw [Heap.size_push]
          simp only [List.mem_cons, List.mem_singleton, List.not_mem_nil, or_false, not_or]
          exact ⟨Nat.ne_of_lt (Nat.lt_succ_self _), Nat.ne_of_gt hlS⟩
        have hsz : xs.length = items.size := by rw [← StrsAre.len_eq hi, Array.length_toList]
        refine loop_tx ((Walks.list hh3 _ l hneI items).toS) s.heap.objs.size hSf xs hsz (by rw [← hsz]; exact h64) (fun i v hv => SS.strs_at hi i v (by rw [Array.getElem?_toList]; exact hv)) (items.size - 0) 0 _ (by omega) (Nat.zero_le _)
          ⟨⟨_, Heap.get?_push_size _ rfl, rfl, rfl⟩, (hl1.push _)⟩ ?start ?last
        case start =>
          have z : ((s.heap.push (newSet w)).push { cls := .type "list_iterator", data := .fields #[.ref l, .int 0 0] }).get? s.heap.objs.size = some (newSet w) := Heap.get?_push_of_some _ hS
          exact new_tx z
        case last =>
          intro s' hm hS'
          obtain ⟨h', g', d', tk', os'⟩ := s'
          have eg : g' = s.gens := hm.gens
          have ed : d' = s.drawn := hm.drawn
          have eo : os' = s.os := hm.os
          subst eg ed eo
          show wpAny _ _ _ _ _ _
          refine wpAny_pure ?_
          show wpAny _ _ (ret Value.none) _ _ _
          refine wpAny_pure ⟨rfl, h', tk', rfl, hS', fun b o hb e => ?_⟩
          refine hm.heap b o ?_ (Heap.get?_push_of_some _ (Heap.get?_push_of_some _ e))
          rw [Heap.size_push]
          simp only [List.mem_cons, List.mem_singleton, List.not_mem_nil, or_false, not_or]
          exact ⟨Nat.ne_of_lt hb, Nat.ne_of_lt (Nat.lt_succ_of_lt hb)⟩
      · cases r₂ with
        | error e => exact hr₂
        | ok fl₂ =>
          cases fl₂ with
          | ret r =>
            obtain ⟨rfl, h', tk, rfl, hS', hk'⟩ := hr₂
            repeat (any_goals (first | assumption | wp_step))
            exact h _ _ hS' hk'
          | _ => exact hr₂.elim
    | _ => exact hr.elim
theorem strs_of : ∀ (l : List Value), (∀ v ∈ l, ∃ k tk, v = Value.str k tk) → StrsAre l (l.map fun v => match v with | .str k _ => k | _ => Str.empty)
  | [], _ => .nil
  | v :: l, h => by
    obtain ⟨k, tk, rfl⟩ := h v List.mem_cons_self
    exact .cons k tk (strs_of l fun u hu => h u (List.mem_cons_of_mem _ hu))
/-- sorted(s) -/
theorem sorted_of {a : Addr} {xs : List Str} {Q : Value → Shared → Prop} (R : Tx P w s.heap a xs) (hh : A.handled = none) (h64 : xs.length < 64)
    (hQ : ∀ s' p (out : Array Value) (c : Nat) (ys : List Str), (∀ b o, s.heap.get? b = some o → s'.heap.get? b = some o) → s'.gens = s.gens → s'.os = s.os → s.heap.objs.size ≤ p →
      s'.heap.get? p = some (seqObj "list" out c) → StrsAre out.toList ys → sortedS ys = true → ys.Nodup → (∀ k, k ∈ ys ↔ k ∈ xs) → ys.length ≤ xs.length → Q (.ref p) s') :
    wpAny (model P w) A (call (.builtin "sorted") [.ref a]) Q E s := by
  obtain ⟨o, es, ep, t, ho, hex, hd, T⟩ := R
  have hn : es.size < 64 := Nat.lt_of_le_of_lt T.le h64
  refine Calls.call_function_entry kind_sorted plain_sorted entry_sorted (args_sorted1 _) ?_
  unfold Builtin.«sorted»
  refine wpAny_bind (m := checkCount "sorted" 1 1 _) (wpAny_pure ?_)
  refine wpAny_bind (collect_set (A := A.in1) hh ⟨o, ho, hex.1, hd⟩ T.fit (by unfold scanBound; omega) T.ris T.led fun s1 vs k1 hz g1 o1 pm => ?_)
  have hvl : vs.length = es.size := by rw [pm.length_eq, List.length_map, Array.length_toList]
  have hI := strs_of vs fun v hv => by
    obtain ⟨e, he, q⟩ := List.mem_map.mp (pm.mem_iff.mp hv)
    obtain ⟨k, tk, h1, _⟩ := T.good e he
    exact ⟨k, tk, by rw [← q]; exact h1⟩
  have pk : (vs.map fun v => match v with | .str k _ => k | _ => Str.empty).Perm (es.toList.map keyT) := by
    have q := pm.map fun v : Value => match v with | .str k _ => k | _ => Str.empty
    rw [List.map_map] at q
    exact q
  generalize (vs.map fun v => match v with | .str k _ => k | _ => Str.empty) = zs at hI pk
  refine wpAny_bind (wpAny_newList ?_ (by rw [hvl, sizeLine_eq]; omega))
  have hoL : (s1.heap.push (seqObj "list" vs.toArray 0)).get? s1.heap.objs.size = some (seqObj "list" vs.toArray 0) := Heap.get?_push_size _ rfl
  refine wpAny_bind (wpAny_holding (wpAny_call_entry slot_list_sort ⟨_, hoL, rfl⟩ entry_list_sort (list_sort_treeK strKind_oneLt hoL hI.keysOf (fun v₁ v₂ rest e => keyKind_strs (by rw [← e]; exact hI)) (by rw [hvl]; exact hn) fun st' hp hs => ?_) (args_list_sort _)))
  obtain ⟨ys, a1, a2, a3⟩ := sorted_out_str hI hp hs
  have pn : ys.Perm (es.toList.map keyT) := a2.trans pk
  obtain ⟨c, hc⟩ := sortedHeap_at (vs := vs) (out := (arrOf st').map (·.2)) hoL
  refine ⟨_, rfl, wpAny_pure ⟨_, rfl, hQ _ s1.heap.objs.size _ c ys (fun b u e => ?_) g1 o1 hz hc a1 a3 (pn.nodup_iff.mpr T.nd) (fun k => by rw [pn.mem_iff, ← T.mem k]) ?_⟩⟩
  · have q := k1 b u e
    have hlt := Heap.lt_size q
    show (sortedHeap (s1.heap.push (seqObj "list" vs.toArray 0)) s1.heap.objs.size vs _).get? b = some u
    rw [sortedHeap_old (Nat.ne_of_lt hlt) (by rw [size_push']; exact Nat.lt_succ_of_lt hlt)]
    exact Heap.get?_push_of_some _ q
  · rw [pn.length_eq, List.length_map, Array.length_toList]
    exact T.le
end
end TxSet

end PN12
section PO12
set_option maxHeartbeats 4000000
namespace L2
open PySem PySem.Spec PyProof.Rows TxSet
/-- a set of the texts xs -/
def TxO (P : Program) (w : World) (a : Addr) (xs : List Str) : HO := .ext fun h => Tx P w h a xs
theorem txO_new {w : World} {P : Program} {H : Hp} {h : Heap} {a : Addr} {xs : List Str} (R : Tx P w h a xs) : ObjOk P w H h a (TxO P w a xs) := by
  have ⟨o, _, _, _, ho, _⟩ := R
  exact ⟨R, ⟨o, ho⟩, fun h1 h2 p k => Tx.at p k⟩
section
variable {X : Cx}
/-- set(xs), texts -/
def rSetTx (K : PySem.W.Frag) (P : Program) (w : World) : List V → Hp → VK → Prop := fun vs H Q => ∃ (l : Addr) (xs : List Str), vs = [V.ref l] ∧ SqL K H l (xs.map V.str) ∧ xs.length < 64 ∧ ∀ a, H a = none → Q (.ref a) (upd H a (TxO P w a xs))
theorem cr_setTx (hc : X.calm = true) : CallR X (.type "set") (rSetTx X.K X.prog X.w) := by
  intro pins s σ H vs us Q I r h
  obtain ⟨l, xs, rfl, hs, h64, q⟩ := h
  obtain ⟨its, rv, hl, _⟩ := I.list hs
  rw [Vals.ref1 r]
  refine set_of (I.ok.hd hc) hl.isList rv.strs h64 fun h' tk hS k => ?_
  have kk : ∀ b o, s.heap.get? b = some o → h'.get? b = some o := fun b o e => k b o (Heap.lt_size e) e
  exact ⟨.ref _, upd H s.heap.objs.size (TxO X.prog X.w s.heap.objs.size xs), I.laid (t' := tk) kk (Nat.le_refl _) (txO_new hS), rfl, q _ (I.hok.fresh (Nat.le_refl _))⟩
/-- sorted(s), s a set of texts -/
def rSortedTx (P : Program) (w : World) : List V → Hp → VK → Prop := fun vs H Q => ∃ (a : Addr) (xs : List Str), vs = [V.ref a] ∧ H a = some (TxO P w a xs) ∧ xs.length < 64 ∧
  ∀ (ys : List Str) (p : Addr), sortedS ys = true → ys.Nodup → (∀ k, k ∈ ys ↔ k ∈ xs) → ys.length ≤ xs.length → H p = none → Q (.ref p) (upd H p (.lst (ys.map V.str)))
theorem cr_sortedTx (hc : X.calm = true) : CallR X (.builtin "sorted") (rSortedTx X.prog X.w) := by
  intro pins s σ H vs us Q I r h
  obtain ⟨a, xs, rfl, ha, h64, q⟩ := h
  have R : Tx X.prog X.w s.heap a xs := (I.hok a _ ha).1
  rw [Vals.ref1 r]
  refine sorted_of R (I.ok.hd hc) h64 fun s' p out c ys k g o hp hg hi hs nd hm hl => ?_
  have hlen : (ys.map V.str).length ≤ sizeLine := by
    rw [List.length_map, sizeLine_eq]
    omega
  have hn : H p = none := I.hok.fresh hp
  have J : Inv X pins σ (upd H p (.lst (ys.map V.str))) { s with heap := s'.heap, gens := s'.gens, drawn := s'.drawn, toks := s'.toks } :=
    I.call (ch := []) (Un.laid k hp hn) (I.hok.laid k hp ⟨hlen, out.toList, c, vals_of_strs hi, hg⟩) (by rw [g]; exact I.bare) (fun _ z => nomatch z)
  have e : s' = { s with heap := s'.heap, gens := s'.gens, drawn := s'.drawn, toks := s'.toks } := by
    cases s'
    cases s
    cases o
    rfl
  rw [e]
  exact ⟨.ref p, _, J, rfl, q ys p hs nd hm hl hn⟩
end
end L2

end PO12
section Ps8L
set_option maxHeartbeats 8000000
namespace S8
open PySem PySem.Spec L2 PyProof.Rows Sm
/-! ### Texts(words, others=..) -/
structure TSc (K : PySem.W.Frag) (C : Addr) : Prop where
  cl : Cls K C
  nW : NoAttr K C "_words"
  nO : NoAttr K C "_others"
/-- at m: a set of texts of the class at C: these words, or all but these -/
def WSet (C : Addr) (H : Hp) (m : Addr) (ws : List Str) (ot : Bool) : Prop := ∃ dx u, H m = some (.ins C dx [("_words", .ref u), ("_others", .bl ot)]) ∧ H u = some (.tup (ws.map V.str))
theorem WSet.same {C : Addr} {H H' : Hp} {m : Addr} {ws : List Str} {ot : Bool} (s : Same H H') (h : WSet C H m ws ot) : WSet C H' m ws ot := by
  obtain ⟨dx, u, a, b⟩ := h
  exact ⟨dx, u, s _ _ a, s _ _ b⟩
/-- the different words, sorted -/
def SrtW (n : List Str) : Prop := sortedS n = true ∧ n.Nodup ∧ ∀ k ∈ n, wordB k 12 = true
/-- what may be handed over -/
def Giv (K : PySem.W.Frag) (H : Hp) (L : Addr) (xs : List V) : Prop := H L = some (.lst xs) ∨ H L = some (.tup xs) ∨ (xs = [] ∧ EmpT K L)
theorem Giv.same {K : PySem.W.Frag} {H H' : Hp} {L : Addr} {xs : List V} (s : Same H H') (h : Giv K H L xs) : Giv K H' L xs := h.imp (s _ _) fun h => h.imp (s _ _) id
theorem Giv.seq {K : PySem.W.Frag} {H : Hp} {L : Addr} {xs : List V} (h : Giv K H L xs) : SqL K H L xs ∨ SqT K H L xs := by
  rcases h with a | a | ⟨rfl, o, its, n, e⟩
  · exact .inl (SqL.of a)
  · exact .inr (SqT.of a)
  · exact .inr (.inr ⟨o, its, n, e⟩)
theorem Giv.ty {K : PySem.W.Frag} {H : Hp} {L : Addr} {xs : List V} (h : Giv K H L xs) : ∃ t, TyX K H (.ref L) t ∧ PySem.W.kitAny K t [.type "list", .type "tuple"] = some true := by
  rcases h with a | a | ⟨_, o, its, n, e, c, _⟩
  · exact ⟨_, .base (.lst a), isok_seq (.inl rfl)⟩
  · exact ⟨_, .base (.tup a), isok_seq (.inr rfl)⟩
  · exact ⟨_, .kTuple e c, isok_seq (.inr rfl)⟩
theorem Giv.enum {K : PySem.W.Frag} {H : Hp} {L : Addr} {xs : List V} (h : Giv K H L xs) {i : Nat} {σ : L2.St} {R : It → Hp → Prop} (hi : σ[i]? = some (some (.ref L)))
    (q : ∀ J, Walk J xs.length (fun H' => Same H H') (YPair (fun i => some (.int (i : Nat))) fun i => xs[i]?) → R J H) : iEnumS K (tCons (tVar i) tNil) σ H R := by
  rcases h with a | a | ⟨rfl, o, its, n, e⟩
  · exact .inl ⟨_, hi, L, _, rfl, SqL.of a, q _ (walk_enum.mono (fun H' z => SqL.of (z _ _ a)) fun _ _ _ _ _ _ y => y)⟩
  · exact .inr ⟨_, hi, L, _, rfl, SqT.of a, q _ (walk_enumT.mono (fun H' z => SqT.of (z _ _ a)) fun _ _ _ _ _ _ y => y)⟩
  · exact .inr ⟨_, hi, L, [], rfl, .inr ⟨o, its, n, e⟩, q _ (walk_enumT.mono (fun H' _ => .inr ⟨o, its, n, e⟩) fun _ _ _ _ _ _ y => y)⟩
theorem val_word {K : PySem.W.Frag} {H : Hp} {z : Str} (h : wordB z 12 = true) : ValV K H (.str z) "text" true := by
  have v : ValV K H (.str z) "text" (isWd (.str z) 12) := .txt ⟨.type "str", .base (.str z), kit_ty (show kitB "str" "str" = some true by decide +kernel)⟩ fun y e => by
    cases e
    exact Nat.le_trans (word_asc (m := 12) h).1 (by decide)
  rw [show isWd (.str z) 12 = true from h] at v
  exact v
def spTInit (K : PySem.W.Frag) (C : Addr) : Sp := fun vs H Q _ => ∃ (m dx L : Addr) (ws : List Str) (ot : Bool), vs = [.ref m, .ref L, .bl ot] ∧ H m = some (.ins C dx []) ∧ Giv K H L (ws.map V.str) ∧ (∀ k ∈ ws, wordB k 12 = true) ∧ ws.length < 64 ∧
  (ws ≠ [] → H L = some (.lst (ws.map V.str))) ∧ ∀ H' u n, SrtW n → (∀ k, k ∈ n ↔ k ∈ ws) → n.length ≤ ws.length → H' m = some (.ins C dx [("_words", .ref u), ("_others", .bl ot)]) → H' u = some (.tup (n.map V.str)) → Bt m H H' → Q .non H'
abbrev nTin : List Str := ["self", "words", "others", "position", "word"]
theorem sc_tinit : FnScope nTin ["self", "words", "others"] (defScope s_tinit) := ⟨rfl, rfl, rfl, by decide +kernel, rfl, by decide +kernel, by decide +kernel⟩
section
variable {P : Program} {w : World} {K : PySem.W.Frag} {mg : Str → Option Value} {base : Heap} {f fV : Addr} {fd dV : FuncData}
theorem ok_tinit {d0 : V} (F : FunD K "__init__" "Texts.__init__" (defArgs s_tinit) (defBody s_tinit) (defScope s_tinit) [d0] [("others", .bl false)] f fd) (T : TW mg) (tt : mg "tuple" = none) (tl : mg "list" = none) (te : mg "enumerate" = none) (tb : mg "bool" = none) (ts : mg "sorted" = none) (tz : mg "set" = none) {C : Addr} (N : TSc K C)
    (IV : Kn P w K mg base 2 "is_value" fV dV ["value", "kind"] (spValue K)) : FnOk P w K mg base CX0 5 f fd ["self", "words", "others"] (spTInit K C) := by
  refine F.ok sc_tinit (fun vs H Q E h => ?_) (fun cdv A outer s H vs Q E hr h => ?_)
  · obtain ⟨m, dx, L, ws, ot, rfl, _⟩ := h
    rfl
  obtain ⟨m, dx, L, ws, ot, rfl, hm, hl, hok, hlen, hLl, q⟩ := h
  refine ⟨_, PSs.nox (pss_cons (ps_if (PW.pt (pw_or (pt_not (pt_val (pe_callB call_isiT (by rfl) T.isi boot_isi (pa_cons (pv 1) (pa_cons (pe_tup (pa_cons (pe_bltn (v := .ty "list") (by rfl) tl (by decide +kernel) rfl) (pa_cons (pe_bltn (v := .ty "tuple") (by rfl) tt (by decide +kernel) rfl) pa_nil))) pa_nil)))))
      (pw_or1 (pt_not (pt_val (pe_callB call_isi (by rfl) T.isi boot_isi (pa_cons (pv 2) (pa_cons (pe_bltn (v := .ty "bool") (by rfl) tb (by decide +kernel) rfl) pa_nil)))))))) pss_never pss_nil)
    (pss_cons (ps_for .never (by rfl) (pi_enumS (by rfl) te (pa_cons (pv 1) pa_nil)) (pg_tup (by rfl) (pgs_cons (pg_name (i := 3) sc_tinit.nd rfl (Or.inl rfl)) (pgs_cons (pg_name (i := 4) sc_tinit.nd rfl (Or.inl rfl)) pgs_nil)))
      (pss_one (ps_if (pt_not (pt_val (pe_call IV.f (hr.mono (by decide)) rfl IV.m IV.k IV.b .nil pass0 (pa_cons (pv 4) (pa_cons pe_str pa_nil))))) pss_never pss_nil)))
    (pss_cons (ps_fld (pv 0) (pe_ifExp (pt_truth (pv 1) (fun _ => rfl)) (pe_callTy call_tuple_of (by rfl) tt (by decide +kernel) (pa_cons (pe_callB (cr_sortedTx rfl) (by rfl) ts (by decide +kernel) (pa_cons (pe_callTy (cr_setTx rfl) (by rfl) tz (by decide +kernel) (pa_cons (pv 1) pa_nil)) pa_nil)) pa_nil)) (pe_tup pa_nil)) rfl)
    (pss_one (ps_fld (pv 0) (pv 2) rfl))))), ?_⟩
  refine ⟨_, rfl, by show 2 ≤ sizeLine; decide, fun p hp' => ?_⟩
  have s1 : Same H (upd H p (.tup [.ty "list", .ty "tuple"])) := same_upd hp'
  have hp1 : (upd H p (.tup [.ty "list", .ty "tuple"])) p = some (.tup [.ty "list", .ty "tuple"]) := upd_same
  have hm1 := s1 _ _ hm
  have hl1 := hl.same s1
  generalize upd H p (.tup [.ty "list", .ty "tuple"]) = H1 at s1 hp1 hm1 hl1 ⊢
  obtain ⟨t, ty, kt⟩ := hl1.ty
  refine ⟨.ref L, p, _, t, [.type "list", .type "tuple"], true, rfl, hp1, .cons (.ty _) (.cons (.ty _) .nil), ty, kt, true, rfl, ?_⟩
  refine (show (if (!true) = true then _ else _) from ?_)
  rw [if_neg (by decide)]
  refine ⟨_, rfl, .bl ot, .ty "bool", .type "bool", _, true, rfl, .ty _, .base (.bl ot), kit_ty (show kitB "bool" "bool" = some true by decide +kernel), true, rfl, ?_⟩
  refine (show (if (!true) = true then _ else _) from ?_)
  rw [if_neg (by decide)]
  refine hl1.enum rfl fun J wk => ?_
  refine for_it wk (fun i σ' H' => Same H1 H' ∧ ∃ y z : Option V, σ' = [some (.ref m), some (.ref L), some (.bl ot), y, z]) ⟨Same.refl _, none, none, rfl⟩ (fun i σ' H' _ ⟨z, _⟩ => z) (fun i x σ' H2 H3 hi ⟨z, y1, y2, eσ⟩ ⟨T1, a, b, ex, hT, eH, ea, eb⟩ => ?_) (fun σ' H2 ⟨z, y1, y2, eσ⟩ => ?_)
  · subst eσ ex eH
    cases (show V.int (i : Nat) = a from Option.some.inj ea)
    have eb : (ws.map V.str)[i]? = some b := eb
    have il : i < ws.length := by
      rw [List.length_map] at hi
      exact hi
    rw [List.getElem?_map, List.getElem?_eq_getElem il] at eb
    cases (show V.str ws[i] = b from Option.some.inj eb)
    have s2 := same_upd (o := HO.tup [V.int (i : Nat), V.str ws[i]]) hT
    refine ⟨T1, _, rfl, SqT.of upd_same, rfl, _, _, rfl, _, _, rfl, rfl, ?_⟩
    refine ⟨_, rfl, .str ws[i], "text", true, rfl, val_word (hok _ (List.getElem_mem il)), fun H4 s4 => ⟨true, rfl, ?_⟩⟩
    refine (show (if (!true) = true then _ else _) from ?_)
    rw [if_neg (by decide)]
    exact ⟨(z.trans s2).trans s4, _, _, rfl⟩
  · subst eσ
    have fin : ∀ (u : Addr) (n : List Str) (H3 : Hp), Same H2 H3 → H3 u = some (.tup (n.map V.str)) → SrtW n → (∀ k, k ∈ n ↔ k ∈ ws) → n.length ≤ ws.length → Q .non (upd (upd H3 m (.ins C dx [("_words", .ref u)])) m (.ins C dx [("_words", .ref u), ("_others", .bl ot)])) := fun u n H3 s3 tu ha hn hle => by
      have hm3 := s3 _ _ (z _ _ hm1)
      rw [upd_upd]
      have um : u ≠ m := fun y => by
        rw [y, hm3] at tu
        cases tu
      refine q _ u n ha hn hle upd_same (by rw [upd_ne um]; exact tu) fun b o nb eb => ?_
      rw [upd_ne nb]
      exact s3 _ _ (z _ _ (s1 _ _ eb))
    have tru : TruV K (.ref L) H2 (!(ws.map V.str).isEmpty) := (hl1.same z).seq.elim (fun e => .inl ⟨_, e, rfl⟩) fun e => .inr (.inl ⟨_, e, rfl⟩)
    refine ⟨_, rfl, _, tru, ?_⟩
    refine ite2 (fun hb => ?_) (fun hb => ?_)
    · have wn : ws ≠ [] := fun e => by
        rw [e] at hb
        cases hb
      refine ⟨_, rfl, L, ws, rfl, SqL.of (z _ _ (s1 _ _ (hLl wn))), hlen, fun a ha => ?_⟩
      have s3 := same_upd (o := TxO P w a ws) ha
      refine ⟨a, ws, rfl, upd_same, hlen, fun ys p hs hn hmem hle hp => ⟨p, _, rfl, .inl ⟨SqL.of upd_same, fun u hu => ?_⟩⟩⟩
      have s4 := s3.trans (same_upd (o := HO.lst (ys.map V.str)) hp)
      have s5 := s4.trans (same_upd (o := HO.tup (ys.map V.str)) hu)
      refine ⟨_, rfl, m, C, dx, _, rfl, s5 _ _ (z _ _ hm1), N.cl, N.nW, by decide, ?_⟩
      exact ⟨_, rfl, _, rfl, m, C, dx, _, rfl, upd_same, N.cl, N.nO, (by show 1 < 1000; decide), fin u ys _ s5 upd_same ⟨hs, hn, fun k h => hok k ((hmem k).mp h)⟩ hmem hle⟩
    · have l0 : ws = [] := by
        cases ws with
        | nil => rfl
        | cons a b => exact absurd rfl hb
      subst l0
      refine ⟨Nat.zero_le _, fun u hu => ?_⟩
      have s3 := same_upd (o := HO.tup []) hu
      refine ⟨_, rfl, m, C, dx, _, rfl, s3 _ _ (z _ _ hm1), N.cl, N.nW, by decide, ?_⟩
      exact ⟨_, rfl, _, rfl, m, C, dx, _, rfl, upd_same, N.cl, N.nO, (by show 1 < 1000; decide), fin u [] _ s3 upd_same ⟨rfl, .nil, fun k h => nomatch h⟩ (fun k => Iff.rfl) (Nat.le_refl _)⟩
end
end S8

end Ps8L
section Ps8M
set_option maxHeartbeats 8000000
namespace S8
open PySem PySem.Spec L2 PyProof.Rows Sm
/-! ### words as data; the methods of Texts -/
theorem word_ok {z : Str} (h : wordB z 12 = true) : PyData.strOk z = true := by
  unfold PyData.strOk
  rw [← Array.all_toList, List.all_eq_true]
  intro c hc
  have := (word_asc (m := 12) h).2 c hc
  exact decide_eq_true (by omega)
theorem canLay_strs : ∀ {ks : List Str}, (∀ k ∈ ks, wordB k 12 = true) → PyData.canLayAll0 (ks.map PyData.str) = true
  | [], _ => rfl
  | k :: r, h => by
    show (PyData.strOk k && PyData.canLayAll0 (r.map PyData.str)) = true
    rw [word_ok (h k List.mem_cons_self), canLay_strs fun x hx => h x (List.mem_cons_of_mem _ hx)] <;> rfl
theorem depth_strs : ∀ ks : List Str, PyData.depthAll (ks.map PyData.str) ≤ 1
  | [] => by simp [PyData.depthAll]
  | k :: r => by
    have := depth_strs r
    simp only [List.map_cons, PyData.depthAll, PyData.depth]
    omega
theorem eqv_strs : ∀ (ks ls : List Str), PyData.eqvAll (ks.map PyData.str) (ls.map PyData.str) = decide (ks = ls)
  | [], [] => rfl
  | [], _ :: _ => by
    rw [decide_eq_false (fun e => nomatch e)] <;> rfl
  | _ :: _, [] => by
    rw [decide_eq_false (fun e => nomatch e)] <;> rfl
  | k :: ks, l :: ls => by
    show ((k == l) && PyData.eqvAll (ks.map PyData.str) (ls.map PyData.str)) = _
    rw [eqv_strs ks ls]
    by_cases e : k = l
    · subst e
      rw [beq_self_eq_true, Bool.true_and]
      by_cases g : ks = ls
      · subst g
        rw [decide_eq_true rfl, decide_eq_true rfl]
      · rw [decide_eq_false g, decide_eq_false fun z => g (List.cons.inj z).2]
    · rw [beq_eq_false_iff_ne.mpr e, Bool.false_and, decide_eq_false fun z => e (List.cons.inj z).1]
theorem dp_strs {K : PySem.W.Frag} {H : Hp} : ∀ ks : List Str, DpAll K H (ks.map V.str) (ks.map PyData.str)
  | [] => .nil
  | k :: r => .cons (.str k) (dp_strs r)
theorem rp_strs {H : Hp} : ∀ ks : List Str, RpAll H (ks.map V.str) (ks.map PyData.str)
  | [] => .nil
  | k :: r => .cons (.str k) (rp_strs r)
theorem shaped_strs {ks : List Str} (h : ∀ k ∈ ks, wordB k 12 = true) : SeqAt.shaped (.list (ks.map PyData.str)) = true := by
  have h1 := depth_strs ks
  have h2 : PyData.depth (.list (ks.map PyData.str)) ≤ 64 := by
    simp only [PyData.depth]
    omega
  show (PyData.canLayAll0 (ks.map PyData.str) && decide (PyData.depth (.list (ks.map PyData.str)) ≤ 64)) = true
  rw [canLay_strs h, decide_eq_true h2] <;> rfl
theorem eqV_str {a b : Str} : eqV (.str a) (.str b) = decide (a = b) := by
  show (a == b) = _
  by_cases e : a = b
  · rw [e, beq_self_eq_true, decide_eq_true rfl]
  · rw [beq_eq_false_iff_ne.mpr e, decide_eq_false e]
theorem inV_strs {z : Str} {l : List Str} : inV (.str z) (l.map V.str) = decide (z ∈ l) := by
  unfold inV
  rw [List.any_map]
  by_cases h : z ∈ l
  · rw [decide_eq_true h]
    exact List.any_eq_true.mpr ⟨z, h, by show eqV (.str z) (.str z) = true; rw [eqV_str, decide_eq_true rfl]⟩
  · rw [decide_eq_false h]
    refine List.any_eq_false.mpr fun x hx => ?_
    show ¬ eqV (.str x) (.str z) = true
    rw [eqV_str, decide_eq_true_eq]
    rintro rfl
    exact h hx
theorem flat_strs : ∀ l : List Str, (l.map V.str).all flatV = true
  | [] => rfl
  | _ :: r => flat_strs r
/-- what it holds, as data -/
def cT (ws : List Str) (ot : Bool) : PyData := .tuple [.tuple (ws.map PyData.str), .bool ot]
theorem shaped_cT {ws : List Str} (ot : Bool) (h : ∀ k ∈ ws, wordB k 12 = true) : SeqAt.shaped (cT ws ot) = true := by
  have h1 := depth_strs ws
  have h2 : PyData.depth (cT ws ot) ≤ 64 := by
    unfold cT
    simp only [PyData.depth, PyData.depthAll]
    omega
  have h3 : PyData.canLay0 (cT ws ot) = true := by
    show (PyData.canLayAll0 (ws.map PyData.str) && (true && true)) = true
    rw [canLay_strs h] <;> rfl
  show (PyData.canLay0 (cT ws ot) && decide (PyData.depth (cT ws ot) ≤ 64)) = true
  rw [h3, decide_eq_true h2] <;> rfl
theorem eqv_cT (ws us : List Str) (a b : Bool) : PyData.eqv (cT ws a) (cT us b) = (decide (ws = us) && (a == b)) := by
  show (PyData.eqvAll (ws.map PyData.str) (us.map PyData.str) && ((a == b) && true)) = _
  rw [eqv_strs, Bool.and_true]
def spOthT (C : Addr) : Sp := fun vs H Q _ => ∃ (m : Addr) (ws : List Str) (ot : Bool), vs = [.ref m] ∧ WSet C H m ws ot ∧ Q (.bl ot) H
def spWrdT (C : Addr) : Sp := fun vs H Q _ => ∃ (m : Addr) (ws : List Str) (ot : Bool), vs = [.ref m] ∧ WSet C H m ws ot ∧ ∀ g, H g = none → Q (.ref g) (upd H g (.lst (ws.map V.str)))
def amtT (ws : List Str) (ot : Bool) : Option Int := if ot = true then none else some ws.length
def spAmtT (C : Addr) : Sp := fun vs H Q _ => ∃ (m : Addr) (ws : List Str) (ot : Bool), vs = [.ref m] ∧ WSet C H m ws ot ∧ Q (oV (amtT ws ot)) H
def spHasT (C : Addr) : Sp := fun vs H Q _ => ∃ (m : Addr) (ws : List Str) (ot : Bool) (z : Str), vs = [.ref m, .str z] ∧ WSet C H m ws ot ∧ Q (.bl (decide (z ∈ ws) != ot)) H
def spConT (C : Addr) : Sp := fun vs H Q _ => ∃ (m : Addr) (ws : List Str) (ot : Bool), vs = [.ref m] ∧ WSet C H m ws ot ∧ ∀ u c H', H' c = some (.tup [.ref u, .bl ot]) → H' u = some (.tup (ws.map V.str)) → Same H H' → Q (.ref c) H'
theorem sc_tothers : FnScope ["self"] ["self"] (defScope s_tothers) := ⟨rfl, rfl, rfl, by decide +kernel, rfl, by decide +kernel, by decide +kernel⟩
theorem sc_twords : FnScope ["self"] ["self"] (defScope s_twords) := ⟨rfl, rfl, rfl, by decide +kernel, rfl, by decide +kernel, by decide +kernel⟩
theorem sc_tamount : FnScope ["self"] ["self"] (defScope s_tamount) := ⟨rfl, rfl, rfl, by decide +kernel, rfl, by decide +kernel, by decide +kernel⟩
theorem sc_thas : FnScope ["self", "value"] ["self", "value"] (defScope s_thas) := ⟨rfl, rfl, rfl, by decide +kernel, rfl, by decide +kernel, by decide +kernel⟩
theorem sc_tcontent : FnScope ["self"] ["self"] (defScope s_tcontent) := ⟨rfl, rfl, rfl, by decide +kernel, rfl, by decide +kernel, by decide +kernel⟩
section
variable {P : Program} {w : World} {K : PySem.W.Frag} {mg : Str → Option Value} {base : Heap} {f C : Addr} {fd : FuncData}
theorem ok_tothers (F : FM K "others" "Texts.others" s_tothers f fd) (N : TSc K C) : FnOk P w K mg base CX0 1 f fd ["self"] (spOthT C) := by
  refine F.ok sc_tothers (fun vs H Q E h => ?_) (fun cdv A outer s H vs Q E hr h => ?_)
  · obtain ⟨m, ws, ot, rfl, _⟩ := h
    rfl
  obtain ⟨m, ws, ot, rfl, ⟨dx, u, hm, hu⟩, q⟩ := h
  exact ⟨_, PSs.nox (pss_one (ps_ret (pe_fld (pv 0) rfl))), _, rfl, m, C, dx, _, .bl ot, rfl, hm, N.cl, N.nO, rfl, q⟩
theorem ok_twords (F : FM K "words" "Texts.words" s_twords f fd) (N : TSc K C) (tl : mg "list" = none) : FnOk P w K mg base CX0 1 f fd ["self"] (spWrdT C) := by
  refine F.ok sc_twords (fun vs H Q E h => ?_) (fun cdv A outer s H vs Q E hr h => ?_)
  · obtain ⟨m, ws, ot, rfl, _⟩ := h
    rfl
  obtain ⟨m, ws, ot, rfl, ⟨dx, u, hm, hu⟩, q⟩ := h
  refine ⟨_, PSs.nox (pss_one (ps_ret (pe_callTy call_list_of (by rfl) tl (by decide +kernel) (pa_cons (pe_fld (pv 0) rfl) pa_nil)))), ?_⟩
  exact ⟨_, rfl, m, C, dx, _, .ref u, rfl, hm, N.cl, N.nW, rfl, u, _, rfl, .inr (SqT.of hu), q⟩
theorem ok_tamount (F : FM K "_amount" "Texts._amount" s_tamount f fd) (N : TSc K C) (tl : mg "len" = none) : FnOk P w K mg base CX0 1 f fd ["self"] (spAmtT C) := by
  refine F.ok sc_tamount (fun vs H Q E h => ?_) (fun cdv A outer s H vs Q E hr h => ?_)
  · obtain ⟨m, ws, ot, rfl, _⟩ := h
    rfl
  obtain ⟨m, ws, ot, rfl, ⟨dx, u, hm, hu⟩, q⟩ := h
  refine ⟨_, PSs.nox (pss_one (ps_ret (pe_ifExp (pt_val (pe_fld (pv 0) rfl)) pe_non (pe_callB call_len_seq (by rfl) tl boot_len (pa_cons (pe_fld (pv 0) rfl) pa_nil))))), ?_⟩
  refine ⟨_, rfl, m, C, dx, _, .bl ot, rfl, hm, N.cl, N.nO, rfl, ot, rfl, ?_⟩
  unfold amtT at q
  refine ite2 (fun h => ?_) (fun h => ?_)
  · rw [if_pos h] at q
    exact q
  · rw [if_neg h] at q
    refine ⟨_, rfl, m, C, dx, _, .ref u, rfl, hm, N.cl, N.nW, rfl, u, _, rfl, .inr (SqT.of hu), ?_⟩
    rw [List.length_map]
    exact q
theorem ok_thas (F : FM K "_has" "Texts._has" s_thas f fd) (N : TSc K C) : FnOk P w K mg base CX0 1 f fd ["self", "value"] (spHasT C) := by
  refine F.ok sc_thas (fun vs H Q E h => ?_) (fun cdv A outer s H vs Q E hr h => ?_)
  · obtain ⟨m, ws, ot, z, rfl, _⟩ := h
    rfl
  obtain ⟨m, ws, ot, z, rfl, ⟨dx, u, hm, hu⟩, q⟩ := h
  refine ⟨_, PSs.nox (pss_one (ps_ret (pe_cmpR op_ne (pe_cmpR op_in_seq (pv 1) (pe_fld (pv 0) rfl) (by rfl)) (pe_fld (pv 0) rfl) (nomark _)))), ?_⟩
  refine ⟨_, rfl, _, rfl, m, C, dx, _, .ref u, rfl, hm, N.cl, N.nW, rfl, u, _, rfl, .inr (SqT.of hu), rfl, flat_strs ws, ?_⟩
  refine ⟨_, rfl, m, C, dx, _, .bl ot, rfl, hm, N.cl, N.nO, rfl, rfl, ?_⟩
  show Q (V.bl (!decide (V.bl (inV (.str z) (ws.map V.str)) = V.bl ot))) H
  rw [inV_strs]
  have e : (!decide (V.bl (decide (z ∈ ws)) = V.bl ot)) = (decide (z ∈ ws) != ot) := by
    by_cases h : decide (z ∈ ws) = ot
    · rw [h, decide_eq_true rfl, bne_self_eq_false] <;> rfl
    · rw [decide_eq_false fun z => h (V.bl.inj z), bne_iff_ne.mpr h] <;> rfl
  rw [e]
  exact q
theorem ok_tcontent (F : FM K "_content" "Texts._content" s_tcontent f fd) (N : TSc K C) : FnOk P w K mg base CX0 1 f fd ["self"] (spConT C) := by
  refine F.ok sc_tcontent (fun vs H Q E h => ?_) (fun cdv A outer s H vs Q E hr h => ?_)
  · obtain ⟨m, ws, ot, rfl, _⟩ := h
    rfl
  obtain ⟨m, ws, ot, rfl, ⟨dx, u, hm, hu⟩, q⟩ := h
  refine ⟨_, PSs.nox (pss_one (ps_ret (pe_tup (pa_cons (pe_fld (pv 0) rfl) (pa_cons (pe_fld (pv 0) rfl) pa_nil))))), ?_⟩
  refine ⟨_, rfl, m, C, dx, _, .ref u, rfl, hm, N.cl, N.nW, rfl, _, rfl, m, C, dx, _, .bl ot, rfl, hm, N.cl, N.nO, rfl, by show 2 ≤ sizeLine; decide, fun c hc => ?_⟩
  have s1 := same_upd (o := HO.tup [.ref u, .bl ot]) hc
  exact q u c _ upd_same (s1 _ _ hu) s1
end
end S8

end Ps8M
section Ps8N
set_option maxHeartbeats 8000000
namespace S8
open PySem PySem.Spec L2 PyProof.Rows Sm
/-! ### repr of a set of texts; what ValueSet tells of it -/
theorem word_shown {z : Str} (h : wordB z 12 = true) : (PyData.str z).shown.length ≤ 122 := by
  obtain ⟨l, c⟩ := word_asc (m := 12) h
  have := PySem.StrLaws.reprText_len z fun x hx => Nat.lt_trans (c x hx) (by decide)
  show (reprText z).length ≤ 122
  omega
theorem strs_sum : ∀ {l : List Str}, (∀ k ∈ l, wordB k 12 = true) → ((PyData.shownAll (l.map PyData.str)).map (·.length)).sum ≤ 122 * l.length ∧ (PyData.shownAll (l.map PyData.str)).length = l.length ∧ PyData.showableAll (l.map PyData.str) = true
  | [], _ => ⟨Nat.le_refl _, rfl, rfl⟩
  | p :: l, h => by
    obtain ⟨a, b, c⟩ := strs_sum (l := l) fun q hq => h q (List.mem_cons_of_mem _ hq)
    have d := word_shown (h p List.mem_cons_self)
    refine ⟨?_, ?_, ?_⟩
    · show ((PyData.str p).shown.length :: (PyData.shownAll (l.map PyData.str)).map (·.length)).sum ≤ _
      rw [List.sum_cons, List.length_cons]
      omega
    · show (PyData.shownAll (l.map PyData.str)).length + 1 = l.length + 1
      rw [b]
    · show (true && PyData.showableAll (l.map PyData.str)) = true
      rw [c] <;> rfl
theorem strs_shown {l : List Str} (h : ∀ k ∈ l, wordB k 12 = true) (hl : l.length ≤ 100) : (PyData.list (l.map PyData.str)).showable = true ∧ (PyData.list (l.map PyData.str)).shown.length ≤ 15000 ∧ (PyData.list (l.map PyData.str)).depth ≤ 60 := by
  obtain ⟨a, b, c⟩ := strs_sum h
  refine ⟨c, ?_, ?_⟩
  · have t := listText_len_le (PyData.shownAll (l.map PyData.str))
    show (listText (PyData.shownAll (l.map PyData.str))).length ≤ 15000
    omega
  · have := depth_strs l
    show PyData.depthAll (l.map PyData.str) + 1 ≤ 60
    omega
def tsText (ws : List Str) (ot : Bool) : Str := Str.empty ++ "Texts(" ++ (PyData.list (ws.map PyData.str)).shown ++ ", others=" ++ (PyData.bool ot).shown ++ ")"
def spReprT (C : Addr) : Sp := fun vs H Q _ => ∃ (m : Addr) (ws : List Str) (ot : Bool), vs = [.ref m] ∧ WSet C H m ws ot ∧ (∀ k ∈ ws, wordB k 12 = true) ∧ ws.length ≤ 100 ∧ ∀ H', Same H H' → Q (.str (tsText ws ot)) H'
theorem sc_trepr : FnScope ["self"] ["self"] (defScope s_trepr) := ⟨rfl, rfl, rfl, by decide +kernel, rfl, by decide +kernel, by decide +kernel⟩
def spEmpT (C : Addr) : Sp := fun vs H Q _ => ∃ (m : Addr) (ws : List Str) (ot : Bool), vs = [.ref m] ∧ WSet C H m ws ot ∧ Q (.bl (decide (amtT ws ot = some 0))) H
def spInT (K : PySem.W.Frag) (C : Addr) : Sp := fun vs H Q _ => ∃ (m : Addr) (ws : List Str) (ot : Bool) (x : V), vs = [.ref m, x] ∧ WSet C H m ws ot ∧ ((∃ z : Str, x = .str z ∧ wordB z 12 = true ∧ ∀ H', Same H H' → Q (.bl (decide (z ∈ ws) != ot)) H') ∨ (ValV K H x "text" false ∧ ∀ H', Same H H' → Q (.bl false) H'))
def spEqT (K : PySem.W.Frag) (C CM CN : Addr) : Sp := fun vs H Q _ => ∃ (m : Addr) (ws : List Str) (ot : Bool) (y : V), vs = [.ref m, y] ∧ WSet C H m ws ot ∧ (∀ k ∈ ws, wordB k 12 = true) ∧
  ((∃ (m2 : Addr) (us : List Str) (o2 : Bool), y = .ref m2 ∧ WSet C H m2 us o2 ∧ (∀ k ∈ us, wordB k 12 = true) ∧ ∀ H', Same H H' → Q (.bl (decide (ws = us) && (ot == o2))) H') ∨
    (∃ t, TyX K H y t ∧ PySem.W.kitOne K t (.ref CM) = some false ∧ Q (.bl false) H) ∨ ∃ (b dx : Addr) (fs : List (Str × V)), y = .ref b ∧ H b = some (.ins CN dx fs) ∧ fs.lookup ("KIND" : Str) = none ∧ Q (.bl false) H)
section
variable {P : Program} {w : World} {K : PySem.W.Frag} {mg : Str → Option Value} {base : Heap} {f fC fV fA C CM CN : Addr} {fd dC dV dA : FuncData}
theorem ok_trepr (F : FM K "__repr__" "Texts.__repr__" s_trepr f fd) (N : TSc K C) (tl : mg "list" = none) (hK : noMods K = true) : FnG P w K mg base CX0 1 f fd ["self"] (spReprT C) := by
  refine F.okG sc_trepr (fun vs H Q E h => ?_) (fun cdv A outer s H vs Q E hg hr h => ?_)
  · obtain ⟨m, ws, ot, rfl, _⟩ := h
    rfl
  obtain ⟨m, ws, ot, rfl, ⟨dx, u, hm, hu⟩, hw, hl, q⟩ := h
  have hG := deeper_guards (env := PyProof.Rows.envOfC "Texts.__repr__" (defScope s_trepr) s.heap.objs.size f cdv) hg
  have hu' := hr.units
  refine ⟨_, PSs.nox (pss_one (ps_ret (pe_joined (.cons pe_str (.cons (pe_fmtD (by exact hG) (by exact hu') (by exact hK) (pe_callTy call_list_of (by rfl) tl (by decide +kernel) (pa_cons (pe_fld (pv 0) rfl) pa_nil))) (.cons pe_str (.cons (pe_fmtD (by exact hG) (by exact hu') (by exact hK) (pe_fld (pv 0) rfl)) (.cons pe_str .nil)))))))), ?_⟩
  obtain ⟨a1, a2, a3⟩ := strs_shown hw hl
  have e1 : (Str.empty ++ "Texts(" : Str).length = 6 := by decide +kernel
  have e2 : (")" : Str).length = 1 := by decide +kernel
  have e3 : (", others=" : Str).length = 9 := by decide +kernel
  have e4 : (PyData.bool ot).shown.length ≤ 5 := by cases ot <;> decide +kernel
  have big : 20000 ≤ sizeLine := by decide
  refine ⟨_, rfl, by rw [e1]; exact Nat.le_trans (by decide) big, _, rfl, m, C, dx, _, .ref u, rfl, hm, N.cl, N.nW, rfl, u, _, rfl, .inr (SqT.of hu), fun g hgg => ?_⟩
  have s1 := same_upd (o := HO.lst (ws.map V.str)) hgg
  refine ⟨_, .lst upd_same (rp_strs ws), a1, Nat.le_trans a2 (by decide), a3, _, rfl, ?_, _, rfl, ?_, ?_⟩
  · rw [strLen_append, e1]
    omega
  · rw [strLen_append, strLen_append, e1, e3]
    omega
  refine ⟨_, rfl, m, C, dx, _, .bl ot, rfl, s1 _ _ hm, N.cl, N.nO, rfl, _, .bl ot, by cases ot <;> rfl, Nat.le_trans e4 (by decide), by cases ot <;> decide, _, rfl, ?_, _, rfl, ?_, q _ s1⟩
  · rw [strLen_append, strLen_append, strLen_append, e1, e3]
    omega
  · rw [strLen_append, strLen_append, strLen_append, strLen_append, e1, e2, e3]
    omega
theorem ok_vemptyT (F : FM K "is_empty" "ValueSet.is_empty" s_vempty f fd) (N : TSc K C) (GA : FnOk P w K mg base CX0 1 fA dA ["self"] (spAmtT C)) (bA : Binds K dA ["self"] []) (mA : Meth K C "_amount" fA) : FnOk P w K mg base CX0 2 f fd ["self"] (spEmpT C) := by
  refine F.ok sc_vempty (fun vs H Q E h => ?_) (fun cdv A outer s H vs Q E hr h => ?_)
  · obtain ⟨m, ws, ot, rfl, _⟩ := h
    rfl
  obtain ⟨m, ws, ot, rfl, ⟨dx, u, hm, hu⟩, q⟩ := h
  refine ⟨_, PSs.nox (pss_one (ps_ret (pe_cmpR op_eq (pe_meth0 (pv 0) N.cl mA GA hr bA .nil pass0) pe_int (nomark _)))), ?_⟩
  refine ⟨_, rfl, m, dx, _, rfl, hm, rfl, m, ws, ot, rfl, ⟨dx, u, hm, hu⟩, ?_⟩
  have sc : scal (oV (amtT ws ot)) (V.int 0) = true := by cases amtT ws ot <;> rfl
  refine ⟨sc, ?_⟩
  show Q (V.bl (decide (oV (amtT ws ot) = V.int 0))) H
  have e : decide (oV (amtT ws ot) = V.int 0) = decide (amtT ws ot = some 0) := oV_dec (b := some 0)
  rw [e]
  exact q
theorem ok_vsizeT (F : FM K "size" "ValueSet.size" s_vsize f fd) (N : TSc K C) (GA : FnOk P w K mg base CX0 1 fA dA ["self"] (spAmtT C)) (bA : Binds K dA ["self"] []) (mA : Meth K C "_amount" fA) : FnOk P w K mg base CX0 2 f fd ["self"] (spAmtT C) := by
  refine F.ok sc_vsize (fun vs H Q E h => ?_) (fun cdv A outer s H vs Q E hr h => ?_)
  · obtain ⟨m, ws, ot, rfl, _⟩ := h
    rfl
  obtain ⟨m, ws, ot, rfl, ⟨dx, u, hm, hu⟩, q⟩ := h
  refine ⟨_, PSs.nox (pss_one (ps_ret (pe_meth0 (pv 0) N.cl mA GA hr bA .nil pass0))), ?_⟩
  exact ⟨_, rfl, m, dx, _, rfl, hm, rfl, m, ws, ot, rfl, ⟨dx, u, hm, hu⟩, q⟩
theorem ok_vhasT (F : FM K "__contains__" "ValueSet.__contains__" s_vhas f fd) (N : TSc K C) (O : TcO K C CM "text") (IV : Kn P w K mg base 2 "is_value" fV dV ["value", "kind"] (spValue K)) (GA : FnOk P w K mg base CX0 1 fA dA ["self", "value"] (spHasT C)) (bA : Binds K dA ["self", "value"] []) (mA : Meth K C "_has" fA) : FnOk P w K mg base CX0 3 f fd ["self", "value"] (spInT K C) := by
  refine F.ok sc_vhas (fun vs H Q E h => ?_) (fun cdv A outer s H vs Q E hr h => ?_)
  · obtain ⟨m, ws, ot, x, rfl, _⟩ := h
    rfl
  obtain ⟨m, ws, ot, x, rfl, ⟨dx, u, hm, hu⟩, h⟩ := h
  obtain ⟨u1, k1⟩ := O.knd
  refine ⟨_, PSs.nox (pss_one (ps_ret (pe_and (pe_call IV.f hr rfl IV.m IV.k IV.b .nil pass0 (pa_cons (pv 1) (pa_cons (pe_con (pv 0) rfl) pa_nil))) (pe_one (pe_meth (pv 0) N.cl mA GA (hr.mono (by decide)) bA .nil pass0 (pa_cons (pv 1) pa_nil)))))), ?_⟩
  rcases h with ⟨z, rfl, hz, q⟩ | ⟨hx, q⟩
  · refine ⟨_, rfl, _, rfl, m, C, dx, _, _, u1, rfl, hm, N.cl, k1, rfl, .str z, "text", true, rfl, val_word hz, fun H1 s1 => ⟨true, rfl, ?_⟩⟩
    refine (show (if true = true then _ else _) from ?_)
    rw [if_pos rfl]
    exact ⟨_, rfl, m, dx, _, rfl, s1 _ _ hm, rfl, _, rfl, m, ws, ot, z, rfl, ⟨dx, u, s1 _ _ hm, s1 _ _ hu⟩, q H1 s1⟩
  · refine ⟨_, rfl, _, rfl, m, C, dx, _, _, u1, rfl, hm, N.cl, k1, rfl, x, "text", false, rfl, hx, fun H1 s1 => ⟨false, rfl, ?_⟩⟩
    refine (show (if false = true then _ else _) from ?_)
    rw [if_neg (by decide)]
    exact q H1 s1
theorem ok_veqT (F : FM K "__eq__" "ValueSet.__eq__" s_veq f fd) (N : TSc K C) (O : TcO K C CM "text") (ON : TcO K CN CM "number") (ti : mg "isinstance" = none) (tM : mg "ValueSet" = some (.ref CM))
    (GC : FnOk P w K mg base CX0 1 fC dC ["self"] (spConT C)) (bC : Binds K dC ["self"] []) (mC : Meth K C "_content" fC) : FnOk P w K mg base CX0 2 f fd ["self", "other"] (spEqT K C CM CN) := by
  refine F.ok sc_veq (fun vs H Q E h => ?_) (fun cdv A outer s H vs Q E hr h => ?_)
  · obtain ⟨m, ws, ot, y, rfl, _⟩ := h
    rfl
  obtain ⟨m, ws, ot, y, rfl, ⟨dx, u, hm, hu⟩, w1, h⟩ := h
  have hun := hr.units
  obtain ⟨u1, k1⟩ := O.knd
  obtain ⟨u2, k2⟩ := ON.knd
  refine ⟨_, PSs.nox (pss_one (ps_ret (pe_and (pe_callB call_isi (by rfl) ti boot_isi (pa_cons (pv 1) (pa_cons (pe_glob (v := .ref CM) rfl tM rfl) pa_nil))) (pe_and (pe_cmpR op_eq (pe_con (pv 0) rfl) (pe_con (pv 1) rfl) (nomark _))
    (pe_one (pe_cmpR (op_eqD (by exact hun)) (pe_meth0 (pv 0) N.cl mC GC hr bC .nil pass0) (pe_meth0 (pv 1) N.cl mC GC hr bC .nil pass0) (nomark _))))))), ?_⟩
  rcases h with ⟨m2, us, o2, rfl, ⟨dy, v, hm2, hv⟩, w2, q⟩ | ⟨t, ty, kt, q⟩ | ⟨b, dy, fs, rfl, hb, hl, q⟩
  · refine ⟨_, rfl, .ref m2, .ref CM, .ref C, _, _, rfl, .own _, O.ty hm2, O.kit, true, rfl, ?_⟩
    refine (show (if true = true then _ else _) from ?_)
    rw [if_pos rfl]
    refine ⟨_, rfl, m, C, dx, _, _, u1, rfl, hm, N.cl, k1, rfl, _, rfl, m2, C, dy, _, _, u1, rfl, hm2, N.cl, k1, rfl, rfl, true, ?_, ?_⟩
    · show V.bl (decide (V.str "text" = V.str "text")) = V.bl true
      rw [decide_eq_true rfl]
    refine (show (if true = true then _ else _) from ?_)
    rw [if_pos rfl]
    refine ⟨_, rfl, m, dx, _, rfl, hm, rfl, m, ws, ot, rfl, ⟨dx, u, hm, hu⟩, fun v1 c1 H1 hc1 hv1 s1 => ?_⟩
    refine ⟨_, rfl, m2, dy, _, rfl, s1 _ _ hm2, rfl, m2, us, o2, rfl, ⟨dy, v, s1 _ _ hm2, s1 _ _ hv⟩, fun v2 c2 H2 hc2 hv2 s2 => ?_⟩
    refine ⟨cT ws ot, cT us o2, .tup (SqT.of (s2 _ _ hc1)) (.cons (.tup (SqT.of (s2 _ _ hv1)) (dp_strs ws)) (.cons (.bl _) .nil)), .tup (SqT.of hc2) (.cons (.tup (SqT.of hv2) (dp_strs us)) (.cons (.bl _) .nil)), shaped_cT _ w1, shaped_cT _ w2, ?_⟩
    rw [eqv_cT]
    exact q H2 (s1.trans s2)
  · refine ⟨_, rfl, y, .ref CM, t, _, _, rfl, .own _, ty, kt, false, rfl, ?_⟩
    refine (show (if false = true then _ else _) from ?_)
    rw [if_neg (by decide)]
    exact q
  · refine ⟨_, rfl, .ref b, .ref CM, .ref CN, _, _, rfl, .own _, ON.ty hb, ON.kit, true, rfl, ?_⟩
    refine (show (if true = true then _ else _) from ?_)
    rw [if_pos rfl]
    refine ⟨_, rfl, m, C, dx, _, _, u1, rfl, hm, N.cl, k1, rfl, _, rfl, b, CN, dy, _, _, u2, rfl, hb, ON.cl, k2, hl, rfl, false, ?_, ?_⟩
    · show V.bl (decide (V.str "text" = V.str "number")) = V.bl false
      rw [decide_eq_false (by decide +kernel)]
    refine (show (if false = true then _ else _) from ?_)
    rw [if_neg (by decide)]
    exact q
end
end S8

end Ps8N
section Ps8O
set_option maxHeartbeats 8000000
namespace S8
open PySem PySem.Spec L2 PyProof.Rows Sm
/-! ### Numbers.full(), Numbers.of(..), Texts.full(), Texts.of() -/
theorem made_same {H H' : Hp} {m dx : Addr} {o : HO} {H0 : Hp} (hx : H m = none) (hd : H dx = none) (ne : dx ≠ m) (e : H0 = upd (upd H dx (.own m)) m o) (b : Bt m H0 H') : Same H H' := fun c u z => by
  have n1 : c ≠ m := ne_of_none z hx
  have n2 : c ≠ dx := ne_of_none z hd
  refine b _ _ n1 ?_
  rw [e, upd_ne n1, upd_ne n2]
  exact z
/-- what is known of Numbers, of Texts: they may be made -/
structure MkN (P : Program) (w : World) (K : PySem.W.Frag) (mg : Str → Option Value) (base : Heap) (C fI : Addr) (dI : FuncData) (d0 : Addr) : Prop where
  mkC : Mk K C fI
  g : FnOk P w K mg base CX0 5 fI dI ["self", "stretches"] (spNInit K C)
  b : Binds K dI ["self", "stretches"] []
  b0 : Binds K dI ["self", "stretches"] [.ref d0]
  e : EmpT K d0
  m : mg "Numbers" = some (.ref C)
/-- what comes of a call that makes a set of these stretches, of these words -/
def NewN (C : Addr) (l : List St2) (H : Hp) (Q : VK) : Prop := ∀ m n H', NSet C H' m n → ascS n → (∀ v, memL n v = memL l v) → n.length ≤ l.length → Same H H' → Q (.ref m) H'
def NewT (C : Addr) (ws : List Str) (ot : Bool) (H : Hp) (Q : VK) : Prop := ∀ m n H', WSet C H' m n ot → SrtW n → (∀ k, k ∈ n ↔ k ∈ ws) → n.length ≤ ws.length → Same H H' → Q (.ref m) H'
theorem made_n {K : PySem.W.Frag} {C L : Addr} {l : List St2} {H : Hp} {Q : VK} (hl : SwsX K H L l) (ho : ∀ p ∈ l, okS p) (hn : l.length ≤ 1000) (q : NewN C l H Q) : ∀ m dx, H m = none → H dx = none → dx ≠ m → spNInit K C [.ref m, .ref L] (upd (upd H dx (.own m)) m (.ins C dx [])) (fun v H' => v = .non ∧ Q (.ref m) H') E0 := fun m dx hm hdx ne => by
  have keep : Same H (upd (upd H dx (.own m)) m (.ins C dx [])) := fun c o e => by
    rw [upd_ne (ne_of_none e hm), upd_ne (ne_of_none e hdx)]
    exact e
  exact ⟨m, dx, L, l, rfl, upd_same, hl.same keep, ho, hn, fun H' u n ha hv hle e1 tu hB => ⟨rfl, q m n H' ⟨dx, u, e1, tu⟩ ha hv hle (made_same hm hdx ne rfl hB)⟩⟩
theorem made_t {K : PySem.W.Frag} {C L : Addr} {ws : List Str} {ot : Bool} {H : Hp} {Q : VK} (hl : Giv K H L (ws.map V.str)) (hw : ∀ k ∈ ws, wordB k 12 = true) (hn : ws.length < 64) (hL : ws ≠ [] → H L = some (.lst (ws.map V.str))) (q : NewT C ws ot H Q) :
    ∀ m dx, H m = none → H dx = none → dx ≠ m → spTInit K C [.ref m, .ref L, .bl ot] (upd (upd H dx (.own m)) m (.ins C dx [])) (fun v H' => v = .non ∧ Q (.ref m) H') E0 := fun m dx hm hdx ne => by
  have keep : Same H (upd (upd H dx (.own m)) m (.ins C dx [])) := fun c o e => by
    rw [upd_ne (ne_of_none e hm), upd_ne (ne_of_none e hdx)]
    exact e
  exact ⟨m, dx, L, ws, ot, rfl, upd_same, hl.same keep, hw, hn, fun z => keep _ _ (hL z), fun H' u n hs hv hle e1 tu hB => ⟨rfl, q m n H' ⟨dx, u, e1, tu⟩ hs hv hle (made_same hm hdx ne rfl hB)⟩⟩
theorem sc_nfull : FnScope ["cls"] ["cls"] (defScope s_nfull) := ⟨rfl, rfl, rfl, by decide +kernel, rfl, by decide +kernel, by decide +kernel⟩
abbrev nOf : List Str := ["cls", "values", "position", "value"]
theorem sc_nof : FnScope nOf ["cls", "values"] (defScope s_nof) := ⟨rfl, rfl, rfl, by decide +kernel, rfl, by decide +kernel, by decide +kernel⟩
def spFullN (C : Addr) : Sp := fun vs H Q _ => vs = [.ref C] ∧ NewN C [(none, none)] H Q
def spOfN0 (C : Addr) : Sp := fun vs H Q _ => ∃ (p : Addr) (is : List Int), vs = [.ref C, .ref p] ∧ H p = some (.tup (is.map V.int)) ∧ is.length ≤ 1000 ∧ NewN C (is.map fun i => (some i, some i)) H Q
section
variable {P : Program} {w : World} {K : PySem.W.Frag} {mg : Str → Option Value} {base : Heap} {f fI fN C d0 : Addr} {fd dI dN : FuncData}
theorem ok_nfull (F : FM K "full" "Numbers.full" s_nfull f fd) (M : MkN P w K mg base C fI dI d0) : FnOk P w K mg base CX0 7 f fd ["cls"] (spFullN C) := by
  refine F.ok sc_nfull (fun vs H Q E h => ?_) (fun cdv A outer s H vs Q E hr h => ?_)
  · obtain ⟨rfl, _⟩ := h
    rfl
  obtain ⟨rfl, q⟩ := h
  refine ⟨_, PSs.nox (pss_one (ps_ret (pe_makeL (i := 0) M.mkC M.g hr rfl (.inl rfl) M.b .nil pass0 (pa_cons (pe_lst (pa_cons (pe_tup (pa_cons pe_non (pa_cons pe_non pa_nil))) pa_nil)) pa_nil)))), ?_⟩
  refine ⟨rfl, by show 2 ≤ sizeLine; decide, fun t ht => ⟨by show 1 ≤ sizeLine; decide, fun g hg => ?_⟩⟩
  have s1 : Same H (upd (upd H t (.tup [.non, .non])) g (.lst [.ref t])) := (same_upd ht).trans (same_upd hg)
  have l1 : SwsAt (upd (upd H t (.tup [.non, .non])) g (.lst [.ref t])) g [(none, none)] := ⟨[t], .inl upd_same, .cons ((same_upd hg) _ _ upd_same) .nil⟩
  exact made_n (.inl l1) (fun p hp x y e => by rw [List.mem_singleton.mp hp] at e; cases e) (by decide) fun m n H' a b c d e => q m n H' a b c d (s1.trans e)
theorem ok_nof (F : FM K "of" "Numbers.of" s_nof f fd) (M : MkN P w K mg base C fI dI d0) (te : mg "enumerate" = none) (N : Kn P w K mg base 1 "is_number" fN dN ["value"] (spIsNumber K)) :
    FnR P w K mg base CX0 7 f (fun vs H Q E => ∃ ws rest, vs = ws ++ rest ∧ ws.length = ["cls"].length ∧ rest.length ≤ sizeLine ∧ ∀ p, H p = Option.none → spOfN0 C (ws ++ [V.ref p]) (upd H p (.tup rest)) Q E) := by
  obtain ⟨oc, od, dV, kV, doc, pm, an, cdv, ct, osl, rfl, lk, hcd, hd, _⟩ := F.ex
  obtain rfl : dV = .none := by
    rcases hd with ⟨_, e⟩ | ⟨e, _⟩
    · exact e
    · exact absurd rfl e
  refine StX.fn_star (pv := "values") (ps := ["cls"]) lk hcd sc_nof StX.cxUp_none ?_ fun A outer s H vs Q E hr h => ?_
  · exact StX.bind_star1 (B := fun us => bindArgs (PySem.W.fnOf "of" "Numbers.of" (defArgs s_nof) (defBody s_nof) (defScope s_nof) .none kV doc pm an cdv ct) ⟨us, []⟩) (p1 := "cls") (pv := "values") (fun a => rfl) (fun a r rs => rfl)
  obtain ⟨p, is, rfl, hp, hl, q⟩ := h
  refine ⟨_, PSs.nox (pss_cons (ps_for .never (by rfl) (pi_enumT (by rfl) te (pa_cons (pv 1) pa_nil)) (pg_tup (by rfl) (pgs_cons (pg_name (i := 2) sc_nof.nd rfl (Or.inl rfl)) (pgs_cons (pg_name (i := 3) sc_nof.nd rfl (Or.inl rfl)) pgs_nil)))
      (pss_one (ps_if (pt_not (pt_val (pe_call N.f (hr.mono (by decide)) rfl N.m N.k N.b .nil pass0 (pa_cons (pv 3) pa_nil)))) pss_never pss_nil)))
    (pss_one (ps_ret (pe_makeL (i := 0) M.mkC M.g hr rfl (.inl rfl) M.b .nil pass0 (pa_cons (pe_lc (own := [("value", 3)]) (g := gName 3) (tt := tYes) (te := tTup (tCons (tVar 3) (tCons (tVar 3) tNil))) rfl sc_nof.nd (pi_tup (pv 1)) (blkOk_by (N := nOf) (sc := defScope s_nof) (by decide +kernel))
        (fun _ _ _ _ _ => by exact pg_name (i := 3) sc_nof.nd rfl (Or.inl rfl)) (fun _ _ _ _ _ => pts_nil) (fun _ _ _ _ _ => by exact pe_tup (pa_cons (pv 3) (pa_cons (pv 3) pa_nil)))) pa_nil))))), ?_⟩
  refine ⟨_, rfl, p, _, rfl, SqT.of hp, ?_⟩
  have el : (is.map V.int).length = is.length := List.length_map ..
  refine for_it (walk_enumT (xs := is.map V.int)) (fun i σ' H' => Same H H' ∧ ∃ y z : Option V, σ' = [some (.ref C), some (.ref p), y, z]) ⟨Same.refl _, none, none, rfl⟩ (fun i σ' H' _ ⟨z, _⟩ => SqT.of (z _ _ hp)) (fun i x σ' H2 H3 hi ⟨z, y1, y2, eσ⟩ ⟨T1, a, b, ex, hT, eH, ea, eb⟩ => ?_) (fun σ' H2 ⟨z, y1, y2, eσ⟩ => ?_)
  · subst eσ ex eH
    cases (show V.int (i : Nat) = a from Option.some.inj ea)
    have eb : (is.map V.int)[i]? = some b := eb
    have il : i < is.length := by omega
    rw [List.getElem?_map, List.getElem?_eq_getElem il] at eb
    cases (show V.int is[i] = b from Option.some.inj eb)
    have s2 := same_upd (o := HO.tup [V.int (i : Nat), V.int is[i]]) hT
    refine ⟨T1, _, rfl, SqT.of upd_same, rfl, _, _, rfl, _, _, rfl, rfl, ?_⟩
    refine ⟨_, rfl, .int is[i], .type "int", true, false, rfl, .base (.int _), kit_ty (show kitB "int" "int" = some true by decide +kernel), kit_ty (show kitB "int" "bool" = some false by decide +kernel), fun H4 s4 => ⟨true, rfl, ?_⟩⟩
    refine (show (if (!true) = true then _ else _) from ?_)
    rw [if_neg (by decide)]
    exact ⟨(z.trans s2).trans s4, _, _, rfl⟩
  · subst eσ
    have hp2 := z _ _ hp
    refine ⟨rfl, _, rfl, p, rfl, ⟨_, SqT.of hp2⟩, fun D hD => ?_⟩
    have npD : p ≠ D := ne_of_none hp2 hD
    refine lc_it (walk_tup (K := K) (a := p) (xs := is.map V.int)) (fun k H' => Bt D H2 H' ∧ ∃ us : List Addr, H' D = some (.lst (us.map V.ref)) ∧ us.length = k ∧ Paired (SwAt H') us ((is.take k).map fun i => (some i, some i))) ⟨bt_upd, [], upd_same, rfl, .nil⟩
      (fun k H' _ ⟨bt, _⟩ => SqT.of (bt _ _ npD hp2)) (fun k x H3 H' hi ⟨bt, us, h1, h2, h3⟩ ⟨ee, hx⟩ => ?_) (fun H' ⟨bt, us, h1, h2, h3⟩ => ?_)
    · subst ee
      have il : k < is.length := by omega
      rw [List.getElem?_map, List.getElem?_eq_getElem il] at hx
      cases (show V.int is[k] = x from Option.some.inj hx)
      refine ⟨rfl, ?_⟩
      simp only [tYes, ↓reduceIte]
      refine ⟨_, rfl, _, rfl, by show 2 ≤ sizeLine; decide, fun u hu => ?_⟩
      have s2 := same_upd (o := HO.tup [V.int is[k], V.int is[k]]) hu
      have hu1 : SwAt (upd H' u (.tup [V.int is[k], V.int is[k]])) u (some is[k], some is[k]) := upd_same
      have hD1 := s2 _ _ h1
      have pr1 := h3.mono fun t q e => SwAt.same s2 e
      refine ⟨_, hD1, by rw [List.length_map, h2]; exact Nat.lt_of_lt_of_le (show k < 1000 by omega) (by decide), ?_⟩
      have bt2 := bt.trans (Same.bt s2)
      generalize upd H' u (.tup [V.int is[k], V.int is[k]]) = H4 at hu1 hD1 pr1 bt2 ⊢
      have keep : ∀ c q, SwAt H4 c q → SwAt (upd H4 D (.lst (us.map V.ref ++ [.ref u]))) c q := fun c q e => by
        have n : c ≠ D := fun z => by
          unfold SwAt at e
          rw [z, hD1] at e
          cases e
        exact (upd_ne n).trans e
      refine ⟨bt2.trans bt_upd, us ++ [u], by rw [upd_same, List.map_append]; rfl, by rw [List.length_append, h2]; rfl, ?_⟩
      rw [List.take_add_one, List.getElem?_eq_getElem il, List.map_append]
      exact (pr1.mono fun c q e => keep c q e).snoc (keep _ _ hu1)
    · rw [el, List.take_length] at h3
      have sm : Same H H' := fun b o e => bt b o (ne_of_none (z _ _ e) hD) (z _ _ e)
      refine made_n (.inl ⟨us, .inl h1, h3⟩) (fun pp hpp x y e1 e2 => ?_) (by rw [List.length_map]; exact hl) fun m n H'' a b c d e => q m n H'' a b c d (sm.trans e)
      obtain ⟨i, _, rfl⟩ := List.mem_map.mp hpp
      cases e1
      cases e2
      exact Int.le_refl _
end
end S8

end Ps8O
section PMKL
set_option maxHeartbeats 4000000
namespace L2
open PySem PySem.Spec PyProof.Rows
/-- C(.., k = v, ..), C in the i-th slot -/
def tMakeKL (i : Nat) (C : Addr) (n m : Nat) (sp : Sp) (gV : List V → List V → List V) (E : XK) (t tk : TA) : TE := fun σ H Q => σ[i]? = some (some (.ref C)) ∧ tMakeK C n m sp gV E t tk σ H Q
section
variable {X : Cx} {CX : CXT} {k n i : Nat} {f C : Addr} {fd : FuncData} {ps ks : List Str} {sp : Sp} {E : XK} {x : Str} {p pos : Pos} {e : Expr} {es : List Expr} {kws : List Keyword} {t tk : TA} {g : List Value → List Value → List Value} {gV : List V → List V → List V}
theorem pe_makeKL (M : Mk X.K C f) (F : FnOk X.prog X.w X.K X.mg X.base CX k f fd ps sp) (hr : Room (k + 1) X.A) (hN : X.N[i]? = some x) (hv : Vis X.env.scope x) (hb : KBn X.K fd ps (n + 1) ks g gV) (hx : Passes CX X E) (ha : PA X (e :: es) t) (hkw : PK X kws tk)
    (hall : (backToKw pos (keywordEach kws X.env)).all (·.1.isSome) = true := by rfl) (hks : (backToKw pos (keywordEach kws X.env)).filterMap (·.1) = ks := by rfl) (hdb : (x == ("__debug__" : Str)) = false := by decide) (hcd : (x == ("__classdict__" : Str)) = false := by decide)
    (he : starEach (e :: es) X.env = (false, eval e X.env) :: starEach es X.env := by rfl) (hpl : ((backTo pos (starEach (e :: es) X.env)).any (·.1) || (backToKw pos (keywordEach kws X.env)).any (·.1.isNone)) = false := by rfl) :
    PE X (.Call (.Name x p) (e :: es) kws pos) (tMakeKL i C n ks.length sp gV E t tk) := by
  refine ⟨fun pins s σ H Q I h => ?_⟩
  obtain ⟨hs, ht⟩ := h
  refine wpAny_Call_Name_kw (thn ((pe_var (pos := p) hN hv hdb hcd).run pins s σ H (fun v H1 => v = .ref C ∧ H1 = H) I ⟨.ref C, hs, rfl, rfl⟩) fun u s1 ⟨v, H1, I1, r1, q1⟩ => ?_)
  obtain ⟨rfl, rfl⟩ := q1
  cases r1
  refine PySem.W.callWith_KW (h₀ := X.base) I.ok.mod.kin M.kp hall (thn (ha.run pos pins s1 σ _ _ I1 ht) fun us s2 ⟨vs, H2, I2, r, q⟩ => ?_) hpl he
  refine thn (hkw.run pos pins s2 σ H2 _ I2 q) fun ws s3 ⟨zs, H3, I3, rz, l1, l2, q2⟩ => ⟨I3.kIn, ?_⟩
  rw [hks]
  exact run_makeK M F hr hb hx I3 r rz l1 l2 q2
end
end L2

end PMKL
section Ps8P
set_option maxHeartbeats 8000000
namespace S8
open PySem PySem.Spec L2 PyProof.Rows Sm
/-! ### Texts.full(), Texts.of() -/
abbrev psT : List Str := ["self", "words", "others"]
structure MkT (P : Program) (w : World) (K : PySem.W.Frag) (mg : Str → Option Value) (base : Heap) (C fI : Addr) (dI : FuncData) (d0 : Addr) (g1 g2 g3 g4 : List Value → List Value → List Value) : Prop where
  mkC : Mk K C fI
  g : FnOk P w K mg base CX0 5 fI dI psT (spTInit K C)
  b1 : KBn K dI psT 2 ["others"] g1 fun vs zs => vs ++ zs
  b2 : KBn K dI psT 1 ["others"] g2 fun vs zs => vs ++ (.ref d0 :: zs)
  b3 : KBn K dI psT 2 [] g3 fun vs _ => vs ++ [.bl false]
  b4 : KBn K dI psT 1 [] g4 fun vs _ => vs ++ [.ref d0, .bl false]
  e : EmpT K d0
  m : mg "Texts" = some (.ref C)
theorem sc_tfull : FnScope ["cls"] ["cls"] (defScope s_tfull) := ⟨rfl, rfl, rfl, by decide +kernel, rfl, by decide +kernel, by decide +kernel⟩
theorem sc_tof : FnScope ["cls", "values"] ["cls", "values"] (defScope s_tof) := ⟨rfl, rfl, rfl, by decide +kernel, rfl, by decide +kernel, by decide +kernel⟩
def spFullT (C : Addr) : Sp := fun vs H Q _ => vs = [.ref C] ∧ NewT C [] true H Q
def spOfT0 (C : Addr) : Sp := fun vs H Q _ => ∃ p : Addr, vs = [.ref C, .ref p] ∧ H p = some (.tup []) ∧ NewT C [] false H Q
section
variable {P : Program} {w : World} {K : PySem.W.Frag} {mg : Str → Option Value} {base : Heap} {f fI C d0 : Addr} {fd dI : FuncData} {g1 g2 g3 g4 : List Value → List Value → List Value}
theorem ok_tfull (F : FM K "full" "Texts.full" s_tfull f fd) (M : MkT P w K mg base C fI dI d0 g1 g2 g3 g4) : FnOk P w K mg base CX0 7 f fd ["cls"] (spFullT C) := by
  refine F.ok sc_tfull (fun vs H Q E h => ?_) (fun cdv A outer s H vs Q E hr h => ?_)
  · obtain ⟨rfl, _⟩ := h
    rfl
  obtain ⟨rfl, q⟩ := h
  refine ⟨_, PSs.nox (pss_one (ps_ret (pe_makeKL (i := 0) M.mkC M.g hr rfl (.inl rfl) M.b1 pass0 (pa_cons (pe_tup pa_nil) pa_nil) (pk_cons pe_bl pk_nil)))), ?_⟩
  refine ⟨rfl, Nat.zero_le _, fun t ht => ⟨rfl, rfl, ?_⟩⟩
  exact made_t (ws := []) (.inr (.inl upd_same)) (fun k h => nomatch h) (by decide) (fun z => absurd rfl z) fun m n H' a b c d e => q m n H' a b c d ((same_upd ht).trans e)
theorem ok_tof (F : FM K "of" "Texts.of" s_tof f fd) (M : MkT P w K mg base C fI dI d0 g1 g2 g3 g4) :
    FnR P w K mg base CX0 7 f (fun vs H Q E => ∃ ws rest, vs = ws ++ rest ∧ ws.length = ["cls"].length ∧ rest.length ≤ sizeLine ∧ ∀ p, H p = Option.none → spOfT0 C (ws ++ [V.ref p]) (upd H p (.tup rest)) Q E) := by
  obtain ⟨oc, od, dV, kV, doc, pm, an, cdv, ct, osl, rfl, lk, hcd, hd, _⟩ := F.ex
  obtain rfl : dV = .none := by
    rcases hd with ⟨_, e⟩ | ⟨e, _⟩
    · exact e
    · exact absurd rfl e
  refine StX.fn_star (pv := "values") (ps := ["cls"]) lk hcd sc_tof StX.cxUp_none ?_ fun A outer s H vs Q E hr h => ?_
  · exact StX.bind_star1 (B := fun us => bindArgs (PySem.W.fnOf "of" "Texts.of" (defArgs s_tof) (defBody s_tof) (defScope s_tof) .none kV doc pm an cdv ct) ⟨us, []⟩) (p1 := "cls") (pv := "values") (fun a => rfl) (fun a r rs => rfl)
  obtain ⟨p, rfl, hp, q⟩ := h
  refine ⟨_, PSs.nox (pss_one (ps_ret (pe_makeKL (i := 0) M.mkC M.g hr rfl (.inl rfl) M.b3 pass0 (pa_cons (pv 1) pa_nil) pk_nil))), ?_⟩
  refine ⟨rfl, _, rfl, rfl, rfl, ?_⟩
  exact made_t (ws := []) (.inr (.inl hp)) (fun k h => nomatch h) (by decide) (fun z => absurd rfl z) q
end
end S8

end Ps8P
section PSW
set_option maxHeartbeats 4000000
/-! texts by length and letters; the first one as min finds it -/
namespace Sm
open PySem
def kW (z : Str) : PyData := .tuple [.int (z.length : Nat), .str z]
/-- shorter, or as long and ahead -/
def wLt (a b : Str) : Prop := a.length < b.length ∨ (a.length = b.length ∧ a.cps.toList < b.cps.toList)
def wLe (a b : Str) : Prop := ¬ wLt b a
theorem kW_lt (a b : Str) : PySem.W.dataLt (kW a) (kW b) = true ↔ wLt a b := by
  unfold kW
  rw [PySem.W.dataLt_pair (by simp [PySem.W.alike]) (by simp [PySem.W.alike]), PySem.W.dataLt_int, PySem.W.dataLt_str]
  simp only [PyData.eqv, beq_iff_eq]
  by_cases h1 : a.length = b.length
  · rw [if_pos (by rw [h1])]
    by_cases h2 : a = b
    · subst h2
      rw [if_pos rfl]
      refine ⟨fun z => (nomatch z), ?_⟩
      rintro (h | ⟨_, h⟩)
      · omega
      · exact absurd h (List.lt_irrefl _)
    · rw [if_neg h2, decide_eq_true_eq]
      refine ⟨fun z => .inr ⟨h1, z⟩, ?_⟩
      rintro (h | ⟨_, h⟩)
      · omega
      · exact h
  · rw [if_neg (by omega), decide_eq_true_eq]
    refine ⟨fun z => .inl (by omega), ?_⟩
    rintro (h | ⟨h, _⟩) <;> omega
theorem wLe_total (a b : Str) : wLe a b ∨ wLe b a := by
  by_cases h : wLt b a
  · refine .inr fun z => ?_
    rcases h with h | ⟨e, h⟩
    · rcases z with z | ⟨e2, _⟩ <;> omega
    · rcases z with z | ⟨_, z⟩
      · omega
      · exact absurd (List.lt_trans h z) (List.lt_irrefl _)
  · exact .inl h
theorem wLe_trans {a b c : Str} (h1 : wLe a b) (h2 : wLe b c) : wLe a c := by
  unfold wLe wLt at *
  intro h
  have l1 : a.length ≤ b.length := by omega
  have l2 : b.length ≤ c.length := by omega
  rcases h with h | ⟨e, h⟩
  · omega
  · have e1 : b.length = a.length := by omega
    have e2 : c.length = b.length := by omega
    have n1 : ¬ b.cps.toList < a.cps.toList := fun z => h1 (.inr ⟨e1, z⟩)
    have n2 : ¬ c.cps.toList < b.cps.toList := fun z => h2 (.inr ⟨e2, z⟩)
    exact absurd h (List.not_lt.mpr (List.le_trans (List.not_lt.mp n1) (List.not_lt.mp n2)))
theorem first_leastW (f : Nat → Str) : ∀ k, L2.firstLt (fun i => kW (f i)) k ≤ k ∧ ∀ j, j ≤ k → wLe (f (L2.firstLt (fun i => kW (f i)) k)) (f j)
  | 0 => ⟨Nat.le_refl _, fun j hj => by
    have : j = 0 := by omega
    subst this
    exact (wLe_total _ _).elim id id⟩
  | k + 1 => by
    obtain ⟨h1, h2⟩ := first_leastW f k
    have e : L2.firstLt (fun i => kW (f i)) (k + 1) = if PySem.W.dataLt (kW (f (k + 1))) (kW (f (L2.firstLt (fun i => kW (f i)) k))) = true then k + 1 else L2.firstLt (fun i => kW (f i)) k := rfl
    rw [e]
    by_cases hb : wLt (f (k + 1)) (f (L2.firstLt (fun i => kW (f i)) k))
    · rw [if_pos ((kW_lt _ _).mpr hb)]
      have hn : wLe (f (k + 1)) (f (L2.firstLt (fun i => kW (f i)) k)) := (wLe_total _ _).elim id fun z => absurd hb z
      refine ⟨Nat.le_refl _, fun j hj => ?_⟩
      rcases Nat.lt_or_ge j (k + 1) with h | h
      · exact wLe_trans hn (h2 j (by omega))
      · have : j = k + 1 := by omega
        subst this
        exact (wLe_total _ _).elim id id
    · rw [if_neg fun z => hb ((kW_lt _ _).mp z)]
      refine ⟨by omega, fun j hj => ?_⟩
      rcases Nat.lt_or_ge j (k + 1) with h | h
      · exact h2 j (by omega)
      · have : j = k + 1 := by omega
        subst this
        exact hb
/-- r is the first one of these words -/
def LeastW (ws : List Str) (r : Option Str) : Prop := (ws = [] ∧ r = none) ∨ ∃ z, r = some z ∧ z ∈ ws ∧ ∀ y ∈ ws, wLe z y
/-- so many different ones can't all be among fewer -/
theorem nodup_le {α : Type} [DecidableEq α] : ∀ {l ws : List α}, l.Nodup → (∀ x ∈ l, x ∈ ws) → l.length ≤ ws.length
  | [], _, _, _ => Nat.zero_le _
  | x :: l, ws, hn, h => by
    obtain ⟨h1, h2⟩ := List.nodup_cons.mp hn
    have hx := h x List.mem_cons_self
    have := nodup_le (l := l) (ws := ws.erase x) h2 fun y hy => (List.mem_erase_of_ne (fun e : y = x => h1 (e ▸ hy))).mpr (h y (List.mem_cons_of_mem _ hy))
    rw [List.length_erase_of_mem hx] at this
    have : 0 < ws.length := List.length_pos_of_mem hx
    rw [List.length_cons]
    omega
theorem one_missing {α : Type} [DecidableEq α] {l ws : List α} (hn : l.Nodup) (h : ws.length < l.length) : ∃ x ∈ l, x ∉ ws := by
  by_cases hz : ∃ x ∈ l, x ∉ ws
  · exact hz
  · have := nodup_le (ws := ws) hn fun x hx => Classical.byContradiction fun z => hz ⟨x, hx, z⟩
    omega
end Sm

end PSW
section Ps8Q
set_option maxHeartbeats 8000000
namespace S8
open PySem PySem.Spec L2 PyProof.Rows Sm
/-! ### the first text -/
def sV : Option Str → V
  | none => .non
  | some z => .str z
/-- the first text that isn't there: its number is the first -/
def FirstFree (ws : List Str) (z : Str) : Prop := ∃ k, k < 78 ∧ z = textAt k ∧ textAt k ∉ ws ∧ ∀ j, j < k → textAt j ∈ ws
theorem text_nodup : ((List.range 78).map textAt).Nodup := by decide +kernel
theorem free_some {ws : List Str} (h : ws.length < 64) : ∃ k, k < 78 ∧ textAt k ∉ ws := by
  obtain ⟨x, hx, n⟩ := one_missing (ws := ws) text_nodup (by rw [List.length_map, List.length_range]; omega)
  obtain ⟨k, hk, rfl⟩ := List.mem_map.mp hx
  exact ⟨k, List.mem_range.mp hk, n⟩
def spFirT (K : PySem.W.Frag) (C : Addr) : Sp := fun vs H Q _ => ∃ (m : Addr) (ws : List Str) (ot : Bool), vs = [.ref m] ∧ WSet C H m ws ot ∧ (∀ k ∈ ws, wordB k 12 = true) ∧ ws.length < 64 ∧
  ((ot = false ∧ ∀ r H', LeastW ws r → Same H H' → Q (sV r) H') ∨ (ot = true ∧ ∀ z, FirstFree ws z → Q (.str z) H))
abbrev nTf : List Str := ["self", "index"]
theorem sc_tfirst : FnScope nTf ["self"] (defScope s_tfirst) := ⟨rfl, rfl, rfl, by decide +kernel, rfl, by decide +kernel, by decide +kernel⟩
theorem strs_num {K : PySem.W.Frag} {H : Hp} (z : Str) : ValV K H (.str z) "number" false :=
  .num ⟨.type "str", false, false, .base (.str z), kit_ty (show kitB "str" "int" = some false by decide +kernel), kit_ty (show kitB "str" "bool" = some false by decide +kernel), rfl⟩
section
variable {P : Program} {w : World} {K : PySem.W.Frag} {mg : Str → Option Value} {base : Heap} {f fA fT C : Addr} {fd dA dT : FuncData}
theorem ret_ckwE {r : List V → List V → Hp → VK → Prop} {t : TE} {a b : V} {u : TS} {D : Ends} {σ : L2.St} {H : Hp} (h : t σ H fun x H1 => r [x] [a, b] H1 D.rt) : tSeq (tRet (tCKw r (tCons t tNil) (tCons (tC a) (tCons (tC b) tNil)))) u D σ H := h
theorem ok_tfirst (F : FM K "_first_value" "Texts._first_value" s_tfirst f fd) (N : TSc K C) (tm : mg "min" = none) (NA : Kn P w K mg base 4 "natural" fA dA ["value"] (spNatural K)) (TA : Kn P w K mg base 1 "_text_at" fT dT ["index"] spTextAt) : FnOk P w K mg base CX0 6 f fd ["self"] (spFirT K C) := by
  refine F.ok sc_tfirst (fun vs H Q E h => ?_) (fun cdv A outer s H vs Q E hr h => ?_)
  · obtain ⟨m, ws, ot, rfl, _⟩ := h
    rfl
  obtain ⟨m, ws, ot, rfl, ⟨dx, u, hm, hu⟩, hw, hl, h⟩ := h
  refine ⟨_, PSs.nox (pss_cons (ps_if (pt_not (pt_val (pe_fld (pv 0) rfl))) (pss_one (ps_ret (pe_callBK (cr_minKey (by rfl) (call1_of NA.f cxNo0 (hr.in1.mono (by decide)) rfl NA.b .nil) (by exact hr.units)) (by rfl) tm (by decide +kernel) (pa_cons (pe_fld (pv 0) rfl) pa_nil)
      (pk_cons (pe_glob (v := .ref fA) (by rfl) NA.m rfl) (pk_cons pe_non pk_nil))))) pss_nil)
    (pss_cons (ps_set (i := 1) sc_tfirst.nd rfl (Or.inl rfl) pe_int)
    (pss_cons (ps_while PassesOwn.never (pt_cmpR op_in_seq (pe_call TA.f (hr.mono (by decide)) rfl TA.m TA.k TA.b .nil pass0 (pa_cons (pv 1) pa_nil)) (pe_fld (pv 0) rfl) (by rfl)) (pss_one (ps_aug (i := 1) sc_tfirst.nd rfl (Or.inl rfl) pe_int ip_add)))
    (pss_one (ps_ret (pe_call TA.f (hr.mono (by decide)) rfl TA.m TA.k TA.b .nil pass0 (pa_cons (pv 1) pa_nil))))))), ?_⟩
  refine ⟨_, rfl, m, C, dx, _, .bl ot, rfl, hm, N.cl, N.nO, rfl, ot, rfl, ?_⟩
  have ln : (ws.map V.str).length = ws.length := List.length_map ..
  rcases h with ⟨rfl, q⟩ | ⟨rfl, q⟩
  · refine (show (if (!false) = true then _ else _) from ?_)
    rw [if_pos (by decide)]
    have at' : ∀ (i : Nat) x, (ws.map V.str)[i]? = some x → ∃ p, ws[i]? = some p ∧ x = V.str p := fun i x h => by
      rw [List.getElem?_map] at h
      cases e : ws[i]? with
      | none =>
        rw [e] at h
        cases h
      | some p =>
        rw [e] at h
        exact ⟨p, rfl, (Option.some.inj h).symm⟩
    refine ⟨_, rfl, m, C, dx, _, .ref u, rfl, hm, N.cl, N.nW, rfl, ?_⟩
    refine ⟨u, ws.map V.str, .non, fun i => kW (ws.getD i ""), fun ks H1 => Same H H1 ∧ ∃ us : List Addr, ks = us.map V.ref ∧ Paired (fun u (p : Str) => H1 u = some (.tup [.int (p.length : Nat), .str p])) us (ws.take ks.length), rfl, rfl,
      ⟨Same.refl _, [], rfl, .nil⟩, .inr fun ks H1 ⟨z, _⟩ => SqT.of (z _ _ hu), fun ks H1 x ⟨z, us, e, h3⟩ hx => ?_, fun ks H1 ⟨z, us, e, h3⟩ i y hy => ?_, fun i j _ _ => ⟨rfl, (fun e => nomatch e), Nat.le_of_ble_eq_true rfl⟩, fun e => ?_, fun ks H1 x ⟨z, _⟩ _ hx => ?_⟩
    · subst e
      obtain ⟨p, ip, rfl⟩ := at' _ _ hx
      have wp := hw p (List.mem_of_getElem? ip)
      refine .inr ⟨p, rfl, strs_num p, val_word wp, (word_asc (m := 12) wp).1, fun H2 u s2 hu2 => ?_⟩
      have s3 := same_upd (o := HO.tup [.int (p.length : Nat), .str p]) hu2
      refine ⟨(z.trans s2).trans s3, us ++ [u], by rw [List.map_append]; rfl, ?_⟩
      have et : ws.take ((us.map V.ref ++ [V.ref u]).length) = ws.take (us.map V.ref).length ++ [p] := by
        rw [List.length_append]
        show ws.take ((us.map V.ref).length + 1) = _
        rw [List.take_add_one, ip]
        rfl
      rw [et]
      exact (h3.mono fun c p e => s3 _ _ (s2 _ _ e)).snoc upd_same
    · subst e
      rw [List.getElem?_map] at hy
      cases e : us[i]? with
      | none =>
        rw [e] at hy
        cases hy
      | some t =>
        rw [e] at hy
        cases (show V.ref t = y from Option.some.inj hy)
        have il : i < us.length := (List.getElem?_eq_some_iff.mp e).1
        have ul := h3.length
        have il2 : i < (ws.take (us.map V.ref).length).length := by omega
        have ip : (ws.take (us.map V.ref).length)[i]? = some ((ws.take (us.map V.ref).length)[i]'il2) := List.getElem?_eq_getElem il2
        generalize (ws.take (us.map V.ref).length)[i]'il2 = p at ip
        obtain ⟨t', e1, e2⟩ := paired_at h3 ip
        rw [e] at e1
        cases e1
        have ip2 : ws[i]? = some p := by
          rw [List.getElem?_take] at ip
          split at ip
          · exact ip
          · cases ip
        have eg : ws.getD i "" = p := by
          rw [List.getD_eq_getElem?_getD, ip2]
          rfl
        show Dp K H1 (V.ref t) (kW (ws.getD i ""))
        rw [eg]
        exact .tup (SqT.of e2) (.cons (.int _) (.cons (.str _) .nil))
    · have n0 : ws = [] := List.length_eq_zero_iff.mp (ln ▸ e)
      exact q none H (.inl ⟨n0, rfl⟩) (Same.refl H)
    · obtain ⟨p, ip, rfl⟩ := at' _ _ hx
      refine q (some p) H1 (.inr ⟨p, rfl, List.mem_of_getElem? ip, fun q' hq => ?_⟩) z
      obtain ⟨j, jl, ej⟩ := List.getElem_of_mem hq
      have fl := (first_leastW (fun i => ws.getD i "") (ws.length - 1)).2 j (by omega)
      have e1 : ws.getD j "" = q' := by
        rw [List.getD_eq_getElem?_getD, List.getElem?_eq_getElem jl, ej]
        rfl
      have e2 : ws.getD (firstLt (fun i => kW (ws.getD i "")) (ws.length - 1)) "" = p := by
        rw [List.getD_eq_getElem?_getD]
        rw [ln] at ip
        rw [ip]
        rfl
      rw [e1, e2] at fl
      exact fl
  · refine (show (if (!true) = true then _ else _) from ?_)
    rw [if_neg (by decide)]
    obtain ⟨k0, kl, kn⟩ := free_some hl
    refine (show tSeq _ _ _ _ _ from ?_)
    refine ⟨fun mm σ' H' => ∃ k : Nat, mm = 78 - k ∧ σ' = [some (.ref m), some (.int k)] ∧ H' = H ∧ k ≤ k0 ∧ ∀ j, j < k → textAt j ∈ ws, ⟨78, 0, rfl, rfl, rfl, Nat.zero_le _, fun j hj => absurd hj (Nat.not_lt_zero _)⟩, ?_⟩
    rintro mm σ' H' ⟨k, rfl, rfl, rfl, kk, hj⟩
    refine ⟨_, rfl, k, rfl, by omega, ?_⟩
    refine ⟨_, rfl, m, C, dx, _, .ref u, rfl, hm, N.cl, N.nW, rfl, u, _, rfl, .inr (SqT.of hu), rfl, flat_strs ws, _, rfl, ?_⟩
    refine (show (if inV (.str (textAt k)) (ws.map V.str) = true then _ else _) from ?_)
    rw [inV_strs]
    refine ite2 (fun h => ?_) (fun h => ?_)
    · have hk := of_decide_eq_true h
      have kk2 : k ≠ k0 := fun e => kn (e ▸ hk)
      refine ⟨fun σ2 H2 => ∃ k2 : Nat, k2 = k + 1 ∧ σ2 = [some (.ref m), some (.int k2)] ∧ H2 = H', fun σ2 H2 ⟨k2, e1, e2, e3⟩ => ⟨78 - k2, by omega, k2, rfl, e2, e3, by omega, fun j hj2 => ?_⟩, ?_⟩
      · by_cases hjk : j = k
        · exact hjk ▸ hk
        · exact hj j (by omega)
      · exact ⟨_, rfl, _, _, rfl, rfl, k + 1, rfl, rfl, rfl⟩
    · have hk : textAt k ∉ ws := fun z => h (decide_eq_true z)
      refine ⟨_, rfl, k, rfl, by omega, ?_⟩
      exact q (textAt k) ⟨k, by omega, rfl, hk, hj⟩
theorem ok_vleastT (F : FM K "least" "ValueSet.least" s_vleast f fd) (N : TSc K C) (GA : FnOk P w K mg base CX0 6 fA dA ["self"] (spFirT K C)) (bA : Binds K dA ["self"] []) (mA : Meth K C "_first_value" fA) : FnOk P w K mg base CX0 7 f fd ["self"] (spFirT K C) := by
  refine F.ok sc_vleast (fun vs H Q E h => ?_) (fun cdv A outer s H vs Q E hr h => ?_)
  · obtain ⟨m, ws, ot, rfl, _⟩ := h
    rfl
  obtain ⟨m, ws, ot, rfl, ⟨dx, u, hm, hu⟩, hw, hl, q⟩ := h
  refine ⟨_, PSs.nox (pss_one (ps_ret (pe_meth0 (pv 0) N.cl mA GA hr bA .nil pass0))), ?_⟩
  exact ⟨_, rfl, m, dx, _, rfl, hm, rfl, m, ws, ot, rfl, ⟨dx, u, hm, hu⟩, hw, hl, q⟩
end
end S8

end Ps8Q
section PW11x
set_option maxHeartbeats 4000000
/-! set(xs), xs a list of integers. -/
namespace InSet
open PySem PySem.Spec PyProof.Rows L2
abbrev newSet (w : World) : Obj := { cls := .type "set", dict := none, data := .set #[] 0 (.fresh 0 0 (!w.params.followText "set-order")) }
theorem new_setI {w : World} {h : Heap} {a : Addr} (ho : h.get? a = some (newSet w)) : SetR w h a (fun j => decide (j ∈ ([] : List Int).take 0)) 0 :=
  ⟨_, #[], 0, _, ho, ⟨rfl, rfl, rfl⟩, rfl, (fun e he => by simp at he), (by simp), (fun k => by simp), (by decide), (by rfl), rfl, List.Pairwise.nil, by
    show _ ∨ (!w.params.followText "set-order") = true
    cases w.params.followText "set-order"
    · exact .inr rfl
    · exact .inl rfl⟩
section
variable {P : Program} {w : World} {A : Around} {E : Value → Shared → Prop} {s : Shared}
set_option maxHeartbeats 6400000 in
theorem set_ofI {l : Addr} {items : Array Value} {ns : List Int} {Q : Value → Shared → Prop} (hh : A.handled = none) (hl : s.heap.IsList l items) (hi : IntsAre items.toList ns) (hb : ns.length + 1 < scanBound)
    (h : ∀ (h' : Heap) (tk c : Nat), SetR w h' s.heap.objs.size (fun j => decide (j ∈ ns)) c → c ≤ ns.length → (∀ b o, b < s.heap.objs.size → s.heap.get? b = some o → h'.get? b = some o) → Q (.ref s.heap.objs.size) { s with heap := h', toks := tk }) :
    wpAny (model P w) A (call (.type "set") [.ref l]) Q E s := by
  obtain ⟨c, tl, hmro⟩ := PySem.F.called_set.mro
  have m1 := PySem.F.called_set.made
  have m2 := PySem.F.called_set.sub
  refine wpAny_call (codeAny_of_tree ?_)
  show wpAny _ _ (callAny (.type "set") _) _ _ _
  refine wpAny_pure ⟨Code.quiet_builtin _ (by decide +kernel), codeAny_builtin PySem.F.entry_type_call ?_⟩
  rw [Around.under_plain (weight_type_call_type "set" [.ref l] []) rfl]
  have m3 := PySem.F.called_set.notType
  have m4 := PySem.F.called_set.canCreate
  have m5 := PySem.F.typeCall_set_1 (.ref l)
  repeat (any_goals (first | assumption | wp_step))
  refine codeAny_mono (code_set_led1 (.ref l) (E := E) (Q₁ := fun obj s₁ => obj = .ref s.heap.objs.size ∧ s₁ = { s with heap := s.heap.push (newSet w) }) ⟨rfl, rfl⟩) fun r s₁ hr => ?_
  cases r with
  | error e => exact hr
  | ok fl =>
    cases fl with
    | ret obj =>
      obtain ⟨rfl, rfl⟩ := hr
      have hS : (s.heap.push (newSet w)).get? s.heap.objs.size = some (newSet w) := Heap.get?_push_size _ rfl
      have hT : Shared.TypeIs { s with heap := s.heap.push (newSet w) } (.ref s.heap.objs.size) "set" := ⟨_, hS, rfl⟩
      have m6 := PySem.F.called_set.init.lookup
      have m7 := PySem.F.called_set.init.bind (.ref s.heap.objs.size)
      repeat (any_goals (first | assumption | wp_step))
      refine codeAny_mono (codeAny_call_builtin (R := wants (fun r s₂ => r = .none ∧ ∃ h' tk c, s₂ = { s with heap := h', toks := tk } ∧ SetR w h' s.heap.objs.size (fun j => decide (j ∈ ns)) c ∧ c ≤ ns.length ∧ (∀ b o, b < s.heap.objs.size → s.heap.get? b = some o → h'.get? b = some o)) E)
        PySem.F.called_set.init.plain PySem.F.entry_set_init (check_set_init_1 hT ?_)) fun r₂ s₂ hr₂ => ?_
      · obtain ⟨⟨ocls, odict, odata, oslots⟩, hol, hcl, nl, hdl⟩ := hl
        simp only at hcl hdl
        subst hcl hdl
        have hol' : (s.heap.push (newSet w)).get? l = some { cls := .type "list", dict := odict, data := .seq items nl, slots := oslots } := Heap.get?_push_of_some _ hol
        have hsls := PySem.F.sub_list_set
        have hslf := PySem.F.sub_list_frozenset
        have hne : (Value.type "list" == Value.type "dict") = false := by decide
        have hl1 : (s.heap.push (newSet w)).IsList l items := ⟨_, hol', rfl, nl, rfl⟩
        unfold Builtin.«set.__init__» noKeywords Builtin.Frozenset.updateFrom
        generalize hPI : pyIter = PI
        wp_walk
        subst hPI
        refine wpAny_pyIter_list hl1 ?_
        refine wpAny_bind (wpAny_runValue ?_)
        have hlS : l < s.heap.objs.size := Heap.lt_size hol
        have hh3 : A.in1.in1.in1.handled = none := by simp [hh]
        have hneI : l ≠ (s.heap.push (newSet w)).objs.size := by
          rw [Heap.size_push]
          exact Nat.ne_of_lt (Nat.lt_succ_of_lt hlS)
        have hSf : s.heap.objs.size ∉ [(s.heap.push (newSet w)).objs.size, l] := by
          rw [Heap.size_push]
          simp only [List.mem_cons, List.mem_singleton, List.not_mem_nil, or_false, not_or]
          exact ⟨Nat.ne_of_lt (Nat.lt_succ_self _), Nat.ne_of_gt hlS⟩
        have hisz : items.size = ns.length := by
          have q := IntsAre.length hi
          rw [Array.length_toList] at q
          exact q
        have hval : ∀ (i : Nat) (v : Value), items[i]? = some v → ∃ k t, ns[i]? = some k ∧ v = .int k t := fun i v hv => by
          have hlt : i < ns.length := by rw [← hisz]; exact (Array.getElem?_eq_some_iff.mp hv).1
          obtain ⟨t, e⟩ := PyProof.Rows.IntsAre.int_at hi i v (by rw [Array.getElem?_toList]; exact hv)
          refine ⟨ns[i], t, List.getElem?_eq_getElem hlt, ?_⟩
          rw [e, List.getD_eq_getElem?_getD, List.getElem?_eq_getElem hlt] <;> rfl
        refine set_update_ints ((Walks.list hh3 _ l hneI items).toS) s.heap.objs.size hSf ns hisz hb hval (items.size - 0) 0 _ (by omega) (Nat.zero_le _)
          ⟨⟨_, Heap.get?_push_size _ rfl, rfl, rfl⟩, (hl1.push _)⟩ ?start ?last
        case start =>
          have z : ((s.heap.push (newSet w)).push { cls := .type "list_iterator", data := .fields #[.ref l, .int 0 0] }).get? s.heap.objs.size = some (newSet w) := Heap.get?_push_of_some _ hS
          exact ⟨0, Nat.le_refl _, new_setI z⟩
        case last =>
          intro s' c0 hm hc0 hS'
          obtain ⟨h', g', d', tk', os'⟩ := s'
          have eg : g' = s.gens := hm.gens
          have ed : d' = s.drawn := hm.drawn
          have eo : os' = s.os := hm.os
          subst eg ed eo
          show wpAny _ _ _ _ _ _
          refine wpAny_pure ?_
          show wpAny _ _ (ret Value.none) _ _ _
          refine wpAny_pure ⟨rfl, h', tk', c0, rfl, hS', by rw [← hisz]; exact hc0, fun b o hb e => ?_⟩
          refine hm.heap b o ?_ (Heap.get?_push_of_some _ (Heap.get?_push_of_some _ e))
          rw [Heap.size_push]
          simp only [List.mem_cons, List.mem_singleton, List.not_mem_nil, or_false, not_or]
          exact ⟨Nat.ne_of_lt hb, Nat.ne_of_lt (Nat.lt_succ_of_lt hb)⟩
      · cases r₂ with
        | error e => exact hr₂
        | ok fl₂ =>
          cases fl₂ with
          | ret r =>
            obtain ⟨rfl, h', tk, c0, rfl, hS', hc0, hk'⟩ := hr₂
            repeat (any_goals (first | assumption | wp_step))
            exact h _ _ _ hS' hc0 hk'
          | _ => exact hr₂.elim
    | _ => exact hr.elim
end
end InSet
namespace L2
open PySem PySem.Spec PyProof.Rows
def rSetIn (K : PySem.W.Frag) (w : World) : List V → Hp → VK → Prop := fun vs H Q => ∃ (l : Addr) (ns : List Int), vs = [V.ref l] ∧ SqL K H l (ns.map V.int) ∧ ns.length ≤ 4000 ∧ ∀ a c, H a = none → c ≤ ns.length → Q (.ref a) (upd H a (SetO w a (fun j => decide (j ∈ ns)) c))
theorem cr_setIn {X : Cx} (hc : X.calm = true) : CallR X (.type "set") (rSetIn X.K X.w) := by
  intro pins s σ H vs us Q I r h
  obtain ⟨l, ns, rfl, hs, hb, q⟩ := h
  obtain ⟨its, rv, hl, _⟩ := I.list hs
  rw [Vals.ref1 r]
  refine InSet.set_ofI (I.ok.hd hc) hl.isList rv.ints (by unfold scanBound; omega) fun h' tk c hS hle k => ?_
  have kk : ∀ b o, s.heap.get? b = some o → h'.get? b = some o := fun b o e => k b o (Heap.lt_size e) e
  exact ⟨.ref _, upd H s.heap.objs.size (SetO X.w s.heap.objs.size (fun j => decide (j ∈ ns)) c), I.laid (t' := tk) kk (Nat.le_refl _) (setO_new hS), rfl, q _ c (I.hok.fresh (Nat.le_refl _)) hle⟩
end L2
namespace L2
open PySem PySem.Spec PyProof.Rows
theorem nodup_len {α : Type} [BEq α] [LawfulBEq α] : ∀ {l m : List α}, l.Nodup → (∀ x ∈ l, x ∈ m) → l.length ≤ m.length
  | [], _, _, _ => Nat.zero_le _
  | a :: l, m, nd, h => by
    obtain ⟨n1, n2⟩ := List.nodup_cons.mp nd
    have pm := List.perm_cons_erase (h a List.mem_cons_self)
    have z := nodup_len (m := m.erase a) n2 fun x hx => (List.mem_erase_of_ne (show x ≠ a from fun z => n1 (z ▸ hx))).mpr (h x (List.mem_cons_of_mem _ hx))
    have q := pm.length_eq
    rw [List.length_cons] at q ⊢
    omega
/-- set(xs), ints: no more members than any list that holds them has -/
def rSetIz (K : PySem.W.Frag) (w : World) : List V → Hp → VK → Prop := fun vs H Q => ∃ (l : Addr) (ns : List Int), vs = [V.ref l] ∧ SqL K H l (ns.map V.int) ∧ ns.length ≤ 4000 ∧ ∀ a c, H a = none → (∀ zs : List Int, (∀ k ∈ ns, k ∈ zs) → c ≤ zs.length) → Q (.ref a) (upd H a (SetO w a (fun j => decide (j ∈ ns)) c))
theorem cr_setIz {X : Cx} (hc : X.calm = true) : CallR X (.type "set") (rSetIz X.K X.w) := by
  intro pins s σ H vs us Q I r h
  obtain ⟨l, ns, rfl, hs, hb, q⟩ := h
  obtain ⟨its, rv, hl, _⟩ := I.list hs
  rw [Vals.ref1 r]
  refine InSet.set_ofI (I.ok.hd hc) hl.isList rv.ints (by unfold scanBound; omega) fun h' tk c hS hle k => ?_
  have kk : ∀ b o, s.heap.get? b = some o → h'.get? b = some o := fun b o e => k b o (Heap.lt_size e) e
  have cnt : ∀ zs : List Int, (∀ k ∈ ns, k ∈ zs) → c ≤ zs.length := fun zs hz => by
    obtain ⟨o, es, ep, t, ho, hx, hd, g, nd, hm, hb, hf, hn, _⟩ := hS
    have e : (es.toList.map keyOf).length = c := by rw [List.length_map, Array.length_toList, hn]
    rw [← e]
    exact nodup_len nd fun x hx => hz x (of_decide_eq_true ((hm x).mpr hx))
  exact ⟨.ref _, upd H s.heap.objs.size (SetO X.w s.heap.objs.size (fun j => decide (j ∈ ns)) c), I.laid (t' := tk) kk (Nat.le_refl _) (setO_new hS), rfl, q _ c (I.hok.fresh (Nat.le_refl _)) cnt⟩
end L2

end PW11x
section Ps8a
set_option maxHeartbeats 8000000
namespace S8
open PySem PySem.Spec L2 PyProof.Rows Sm
/-! ### the law's numbers and rows -/
abbrev s_limit : Stmt := top 37
abbrev s_mixed : Stmt := top 38
abbrev s_row : Stmt := top 39
abbrev s_has : Stmt := top 40
abbrev s_points : Stmt := top 41
abbrev s_stated : Stmt := top 42
abbrev s_counted : Stmt := top 43
abbrev s_least : Stmt := top 44
abbrev s_odd : Stmt := top 45
def limV : List Int := [0, 1, -1, 2, 5, -3, 9, 10, 10 ^ 20, -(10 ^ 20), 10 ^ 20 + 1, 10 ^ 29, -(10 ^ 29)]
def Lim (v : Int) : Prop := v ∈ limV
def spLimit : Sp := fun vs H Q _ => ∃ (p : Addr), vs = [.ref p] ∧ PotAt H p ∧ ∀ (v : Int) (H' : Hp), Lim v → Bt p H H' → PotAt H' p → Q (.int v) H'
theorem sc_limit : FnScope ["_law_pot_here"] ["_law_pot_here"] (defScope s_limit) := ⟨rfl, rfl, rfl, by decide +kernel, rfl, by decide +kernel, by decide +kernel⟩
/-- a drawn row: its bounds are limits, it isn't empty -/
def RowL (p : St2) : Prop := okS p ∧ (∀ x, p.1 = some x → Lim x) ∧ ∀ y, p.2 = some y → Lim y
def spRow : Sp := fun vs H Q _ => ∃ (p : Addr), vs = [.ref p] ∧ PotAt H p ∧ ∀ (t : Addr) (r : St2) (H' : Hp), RowL r → SwAt H' t r → H t = none → Bt p H H' → PotAt H' p → Q (.ref t) H'
def spHas : Sp := fun vs H Q _ => ∃ (L : Addr) (l : List St2) (v : Int), vs = [.ref L, .int v] ∧ SwsAt H L l ∧ l.length ≤ 1000 ∧ ∀ H', Same H H' → Q (.bl (memL l v)) H'
section
variable {P : Program} {w : World} {K : PySem.W.Frag} {mg : Str → Option Value} {base : Heap} {f fD fP fL : Addr} {fd dD dP dL : FuncData}
theorem ok_limit (F : FD K "_law_limit" s_limit f fd) (D : Kn P w K mg base 1 "_law_draw" fD dD ["_law_pot_here", "_law_many"] spDraw) (PK : Kn P w K mg base 2 "_law_pick" fP dP ["_law_pot_here", "_law_some"] (spPick K)) : FnOk P w K mg base CX0 3 f fd ["_law_pot_here"] spLimit := by
  refine F.ok sc_limit (fun vs H Q E h => ?_) (fun cdv A outer s H vs Q E hr h => ?_)
  · obtain ⟨p, rfl, _⟩ := h
    rfl
  obtain ⟨p, rfl, hP, q⟩ := h
  refine ⟨_, PSs.nox (pss_cons (ps_if (pt_cmpR op_eq (pe_call D.f (hr.mono (by decide)) rfl D.m D.k D.b .nil pass0 (pa_cons (pv 0) (pa_cons pe_int pa_nil))) pe_int (nomark _))
      (pss_one (ps_ret (pe_call PK.f hr rfl PK.m PK.k PK.b .nil pass0 (pa_cons (pv 0) (pa_cons (pe_lst (pa_cons (pe_op op_pow pe_int pe_int) (pa_cons (pe_un un_neg (pe_op op_pow pe_int pe_int)) (pa_cons (pe_op op_add (pe_op op_pow pe_int pe_int) pe_int) (pa_cons (pe_op op_pow pe_int pe_int) (pa_cons (pe_un un_neg (pe_op op_pow pe_int pe_int)) pa_nil)))))) pa_nil))))) pss_nil)
    (pss_one (ps_ret (pe_call PK.f hr rfl PK.m PK.k PK.b .nil pass0 (pa_cons (pv 0) (pa_cons (pe_lst (pa_cons pe_int (pa_cons pe_int (pa_cons (pe_un un_neg pe_int) (pa_cons pe_int (pa_cons pe_int (pa_cons (pe_un un_neg pe_int) (pa_cons pe_int (pa_cons pe_int pa_nil))))))))) pa_nil)))))), ?_⟩
  have cp20 : CPow 10 20 := ⟨by decide, by decide, by decide⟩
  have cp29 : CPow 10 29 := ⟨by decide, by decide, by decide⟩
  have fin : ∀ (H1 : Hp) (xs : List Int), Bt p H H1 → PotAt H1 p → 0 < xs.length → xs.length ≤ 1000 → (∀ v ∈ xs, Lim v) → ∀ l, l ≠ p → H1 l = some (.lst (xs.map V.int)) → spPick K [.ref p, .ref l] H1 Q E0 := fun H1 xs b1 hP1 x0 x1 hx l nl hl => by
    refine ⟨p, l, _, rfl, hP1, nl, hl, by rw [List.length_map]; exact x0, by rw [List.length_map]; exact x1, fun i v H2 hi b2 hP2 => ?_⟩
    rw [List.getElem?_map] at hi
    cases e : xs[i]? with
    | none =>
      rw [e] at hi
      cases hi
    | some u =>
      rw [e] at hi
      cases (show V.int u = v from Option.some.inj hi)
      exact q u H2 (hx u (List.mem_of_getElem? e)) (b1.trans b2) hP2
  refine ⟨_, rfl, p, 12, rfl, hP, by decide, by decide, fun n H1 n0 n1 b1 hP1 => ⟨rfl, _, rfl, ?_⟩⟩
  refine ite2 (fun h => ?_) (fun h => ?_)
  · refine ⟨_, rfl, 10, 20, rfl, rfl, cp20, 10, 20, rfl, rfl, cp20, _, rfl, 10, 20, rfl, rfl, cp20, _, _, rfl, rfl, 10, 29, rfl, rfl, cp29, 10, 29, rfl, rfl, cp29, _, rfl, by show 5 ≤ sizeLine; decide, fun l2 hl2 => ?_⟩
    have s2 := same_upd (o := HO.lst (([10 ^ 20, -(10 ^ 20), 10 ^ 20 + 1, 10 ^ 29, -(10 ^ 29)] : List Int).map V.int)) hl2
    refine fin _ [10 ^ 20, -(10 ^ 20), 10 ^ 20 + 1, 10 ^ 29, -(10 ^ 29)] (b1.trans (Same.bt s2)) (hP1.bt s2) (by decide) (by decide) (fun v hv => ?_) l2 (pot_ne hP1 hl2) upd_same
    simp only [List.mem_cons, List.not_mem_nil, or_false] at hv
    rcases hv with rfl | rfl | rfl | rfl | rfl <;> (show _ ∈ limV; decide)
  · refine ⟨_, rfl, _, rfl, _, rfl, by show 8 ≤ sizeLine; decide, fun l hl => ?_⟩
    have s1 := same_upd (o := HO.lst (([0, 1, -1, 2, 5, -3, 9, 10] : List Int).map V.int)) hl
    refine fin _ [0, 1, -1, 2, 5, -3, 9, 10] (b1.trans (Same.bt s1)) (hP1.bt s1) (by decide) (by decide) (fun v hv => ?_) l (pot_ne hP1 hl) upd_same
    simp only [List.mem_cons, List.not_mem_nil, or_false] at hv
    rcases hv with rfl | rfl | rfl | rfl | rfl | rfl | rfl | rfl <;> (show _ ∈ limV; decide)
theorem two_of {a b : Int} {ns : List Int} (pm : ns.Perm [a, b]) (ps : ns.Pairwise (· ≤ ·)) (la : Lim a) (lb : Lim b) : ∃ x y, ns = [x, y] ∧ x ≤ y ∧ Lim x ∧ Lim y := by
  match ns, pm.length_eq with
  | [x, y], _ =>
    have m : ∀ z ∈ [x, y], Lim z := fun z hz => by
      rcases List.mem_cons.mp (pm.mem_iff.mp hz) with e | h
      · exact e ▸ la
      · rw [List.mem_singleton.mp h]
        exact lb
    exact ⟨x, y, rfl, (List.pairwise_cons.mp ps).1 y (List.mem_singleton.mpr rfl), m x (by simp), m y (by simp)⟩
abbrev nRow : List Str := ["_law_pot_here", "_law_low", "_law_high", "_law_way"]
theorem sc_row : FnScope nRow ["_law_pot_here"] (defScope s_row) := ⟨rfl, rfl, rfl, by decide +kernel, rfl, by decide +kernel, by decide +kernel⟩
theorem ok_row (F : FD K "_law_row" s_row f fd) (ts : mg "sorted" = none) (ti : mg "int" = none) (D : Kn P w K mg base 1 "_law_draw" fD dD ["_law_pot_here", "_law_many"] spDraw) (LM : Kn P w K mg base 3 "_law_limit" fL dL ["_law_pot_here"] spLimit) : FnOk P w K mg base CX0 4 f fd ["_law_pot_here"] spRow := by
  refine F.ok sc_row (fun vs H Q E h => ?_) (fun cdv A outer s H vs Q E hr h => ?_)
  · obtain ⟨p, rfl, _⟩ := h
    rfl
  obtain ⟨p, rfl, hP, q⟩ := h
  refine ⟨_, PSs.nox (pss_cons (ps_asg (pe_callB cr_sortedI (by rfl) ts (by decide +kernel) (pa_cons (pe_lst (pa_cons (pe_call LM.f hr rfl LM.m LM.k LM.b .nil pass0 (pa_cons (pv 0) pa_nil)) (pa_cons (pe_call LM.f hr rfl LM.m LM.k LM.b .nil pass0 (pa_cons (pv 0) pa_nil)) pa_nil))) pa_nil)) (pg_unl (by rfl) (pgs_cons (pg_name (i := 1) sc_row.nd rfl (Or.inl rfl)) (pgs_cons (pg_name (i := 2) sc_row.nd rfl (Or.inl rfl)) pgs_nil))))
    (pss_cons (ps_set (i := 3) sc_row.nd rfl (Or.inl rfl) (pe_call D.f (hr.mono (by decide)) rfl D.m D.k D.b .nil pass0 (pa_cons (pv 0) (pa_cons pe_int pa_nil))))
    (pss_cons (ps_if (pt_cmpR op_eq (pv 3) pe_int (nomark _)) (pss_one (ps_ret (pe_tup (pa_cons pe_non (pa_cons (pv 2) pa_nil))))) pss_nil)
    (pss_cons (ps_if (pt_cmpR op_eq (pv 3) pe_int (nomark _)) (pss_one (ps_ret (pe_tup (pa_cons (pv 1) (pa_cons pe_non pa_nil))))) pss_nil)
    (pss_one (ps_ret (pe_ix ix_list (pe_lst (pa_cons (pe_tup (pa_cons (pv 1) (pa_cons (pv 2) pa_nil))) (pa_cons (pe_tup (pa_cons (pv 1) (pa_cons (pv 1) pa_nil))) (pa_cons (pe_tup (pa_cons (pv 1) (pa_cons (pv 2) pa_nil))) (pa_cons (pe_tup (pa_cons pe_non (pa_cons pe_non pa_nil))) pa_nil)))))
      (pe_call D.f (hr.mono (by decide)) rfl D.m D.k D.b .nil pass0 (pa_cons (pv 0) (pa_cons (pe_op op_add pe_int (pe_callTy call_int1 (by rfl) ti (by decide +kernel) (pa_cons (pe_cmpR op_eq (pv 3) pe_int (nomark _)) pa_nil))) pa_nil))) (fun _ _ => rfl)))))))), ?_⟩
  refine ⟨_, rfl, p, rfl, hP, fun v1 H2 l1 b2 hP2 => ⟨_, rfl, p, rfl, hP2, fun v2 H3 l2 b3 hP3 => ⟨by show 2 ≤ sizeLine; decide, fun L hL => ?_⟩⟩⟩
  have s4 := same_upd (o := HO.lst ([v1, v2].map V.int)) hL
  refine ⟨L, [v1, v2], rfl, SqL.of upd_same, fun ns S pm ps hS => ?_⟩
  have s5 := s4.trans (same_upd (o := HO.lst (ns.map V.int)) hS)
  have hS5 : (upd (upd H3 L (.lst [V.int v1, V.int v2])) S (.lst (ns.map V.int))) S = some (.lst (ns.map V.int)) := upd_same
  have c5 : Bt p H (upd (upd H3 L (.lst [V.int v1, V.int v2])) S (.lst (ns.map V.int))) := (b2.trans b3).trans (Same.bt s5)
  have hP5 : PotAt (upd (upd H3 L (.lst [V.int v1, V.int v2])) S (.lst (ns.map V.int))) p := hP3.bt s5
  generalize upd (upd H3 L (.lst [V.int v1, V.int v2])) S (.lst (ns.map V.int)) = H5 at s5 hS5 c5 hP5 ⊢
  obtain ⟨a, b, rfl, hab, la, lb⟩ := two_of pm ps l1 l2
  refine ⟨S, _, rfl, SqL.of hS5, rfl, _, _, rfl, _, _, rfl, rfl, ?_⟩
  refine normS (σ' := [some (.ref p), some (.int a), some (.int b), none]) rfl ?_
  refine ⟨_, rfl, p, 8, rfl, hP5, by decide, by decide, fun n H6 n0 n1 b6 hP6 => ?_⟩
  have c6 := c5.trans b6
  refine normS (σ' := [some (.ref p), some (.int a), some (.int b), some (.int n)]) rfl ?_
  have fin : ∀ (r : St2) (t : Addr) (Hx : Hp), RowL r → Bt p H Hx → PotAt Hx p → Hx t = none → Q (.ref t) (upd Hx t (.tup [oV r.1, oV r.2])) := fun r t Hx hr bx hx ht =>
    q t r _ hr upd_same (bx.free (pot_ne hx ht) ht) (bx.trans (Same.bt (same_upd ht))) (hx.bt (same_upd ht))
  have r1 : RowL (some a, some b) := ⟨fun x y e1 e2 => by cases e1; cases e2; exact hab, fun x e => by cases e; exact la, fun y e => by cases e; exact lb⟩
  have r2 : RowL (some a, some a) := ⟨fun x y e1 e2 => by cases e1; cases e2; exact Int.le_refl _, fun x e => by cases e; exact la, fun y e => by cases e; exact la⟩
  have r3 : RowL (none, none) := ⟨fun x y e => (nomatch e), fun x e => (nomatch e), fun y e => (nomatch e)⟩
  have r4 : RowL (none, some b) := ⟨fun x y e => (nomatch e), fun x e => (nomatch e), fun y e => by cases e; exact lb⟩
  have r5 : RowL (some a, none) := ⟨fun x y e1 e2 => (nomatch e2), fun x e => by cases e; exact la, fun y e => (nomatch e)⟩
  refine ⟨_, rfl, rfl, _, rfl, ?_⟩
  refine ite2 (fun _ => ⟨_, rfl, by show 2 ≤ sizeLine; decide, fun t ht => fin (none, some b) t _ r4 c6 hP6 ht⟩) (fun _ => ?_)
  refine ⟨_, rfl, rfl, _, rfl, ?_⟩
  refine ite2 (fun _ => ⟨_, rfl, by show 2 ≤ sizeLine; decide, fun t ht => fin (some a, none) t _ r5 c6 hP6 ht⟩) (fun _ => ?_)
  refine ⟨_, rfl, _, rfl, by show 2 ≤ sizeLine; decide, fun t1 h1 => ?_⟩
  have z1 := same_upd (o := HO.tup [V.int a, V.int b]) h1
  have e1 : SwAt (upd H6 t1 (.tup [V.int a, V.int b])) t1 (some a, some b) := upd_same
  refine ⟨_, rfl, _, rfl, by show 2 ≤ sizeLine; decide, fun t2 h2 => ?_⟩
  have z2 := same_upd (o := HO.tup [V.int a, V.int a]) h2
  have e2 : SwAt (upd (upd H6 t1 (.tup [V.int a, V.int b])) t2 (.tup [V.int a, V.int a])) t2 (some a, some a) := upd_same
  refine ⟨_, rfl, _, rfl, by show 2 ≤ sizeLine; decide, fun t3 h3 => ?_⟩
  have z3 := same_upd (o := HO.tup [V.int a, V.int b]) h3
  have e3 : SwAt (upd (upd (upd H6 t1 (.tup [V.int a, V.int b])) t2 (.tup [V.int a, V.int a])) t3 (.tup [V.int a, V.int b])) t3 (some a, some b) := upd_same
  refine ⟨by show 2 ≤ sizeLine; decide, fun t4 h4 => ?_⟩
  have z4 := same_upd (o := HO.tup [V.non, V.non]) h4
  have e4 : SwAt (upd (upd (upd (upd H6 t1 (.tup [V.int a, V.int b])) t2 (.tup [V.int a, V.int a])) t3 (.tup [V.int a, V.int b])) t4 (.tup [V.non, V.non])) t4 (none, none) := upd_same
  have zz := ((z1.trans z2).trans z3).trans z4
  have a1 := ((z2.trans z3).trans z4) _ _ e1
  have a2 := (z3.trans z4) _ _ e2
  have a3 := z4 _ _ e3
  generalize upd (upd (upd (upd H6 t1 (.tup [V.int a, V.int b])) t2 (.tup [V.int a, V.int a])) t3 (.tup [V.int a, V.int b])) t4 (.tup [V.non, V.non]) = H7 at e4 zz a1 a2 a3 ⊢
  have c7 := c6.trans (Same.bt zz)
  have hP7 := hP6.bt zz
  have f1 : H t1 = none := c6.free (pot_ne hP6 h1) h1
  have f2 : H t2 = none := (c6.trans (Same.bt z1)).free (pot_ne (hP6.bt z1) h2) h2
  have f3 : H t3 = none := (c6.trans (Same.bt (z1.trans z2))).free (pot_ne (hP6.bt (z1.trans z2)) h3) h3
  have f4 : H t4 = none := (c6.trans (Same.bt ((z1.trans z2).trans z3))).free (pot_ne (hP6.bt ((z1.trans z2).trans z3)) h4) h4
  refine ⟨by show 4 ≤ sizeLine; decide, fun Z hZ => ?_⟩
  have z8 := same_upd (o := HO.lst [V.ref t1, V.ref t2, V.ref t3, V.ref t4]) hZ
  have hZ8 : (upd H7 Z (.lst [V.ref t1, V.ref t2, V.ref t3, V.ref t4])) Z = some (.lst [V.ref t1, V.ref t2, V.ref t3, V.ref t4]) := upd_same
  refine ⟨_, rfl, _, rfl, rfl, .inr ⟨_, rfl, 3, _, rfl, rfl, p, _, rfl, hP7.bt z8, ?_, ?_, fun d H8 d0 d1 b8 hP8 => ?_⟩⟩
  · split <;> decide
  · split <;> decide
  have nZ : Z ≠ p := pot_ne hP7 hZ
  have hZ9 := b8 _ _ nZ hZ8
  have d4 : d < 4 := by
    have : (3 : Int) + (if decide (V.int n = V.int 2) = true then 1 else 0) ≤ 4 := by split <;> decide
    omega
  have c8 := (c7.trans (Same.bt z8)).trans b8
  have np : ∀ {t : Addr} {r : St2}, SwAt H7 t r → SwAt H8 t r := fun {t r} e => b8 t _ (fun y => by
    obtain ⟨x, y', e', _⟩ := hP7
    unfold SwAt at e
    rw [y, e'] at e
    cases e) (z8 _ _ e)
  obtain ⟨j, rfl⟩ : ∃ j : Nat, d = j := ⟨d.toNat, by omega⟩
  match j, d4 with
  | 0, _ => exact ⟨Z, _, 0, _, rfl, rfl, SqL.of hZ9, rfl, q t1 (some a, some b) H8 r1 (np a1) f1 c8 hP8⟩
  | 1, _ => exact ⟨Z, _, 1, _, rfl, rfl, SqL.of hZ9, rfl, q t2 (some a, some a) H8 r2 (np a2) f2 c8 hP8⟩
  | 2, _ => exact ⟨Z, _, 2, _, rfl, rfl, SqL.of hZ9, rfl, q t3 (some a, some b) H8 r1 (np a3) f3 c8 hP8⟩
  | 3, _ => exact ⟨Z, _, 3, _, rfl, rfl, SqL.of hZ9, rfl, q t4 (none, none) H8 r3 (np e4) f4 c8 hP8⟩
end
end S8

end Ps8a
section Ps8b
set_option maxHeartbeats 8000000
namespace S8
open PySem PySem.Spec L2 PyProof.Rows Sm
/-! ### what rows have; the points -/
abbrev nHasL : List Str := ["_law_rows", "_law_number", "_law_low", "_law_high"]
theorem sc_has : FnScope nHasL ["_law_rows", "_law_number"] (defScope s_has) := ⟨rfl, rfl, rfl, by decide +kernel, rfl, by decide +kernel, by decide +kernel⟩
def spHasL : Sp := fun vs H Q _ => ∃ (L : Addr) (l : List St2) (v : Int), vs = [.ref L, .int v] ∧ LstSw H L l ∧ l.length ≤ 1000 ∧ ∀ H', Same H H' → Q (.bl (memL l v)) H'
/-- lc_sw over a list -/
theorem lc_swL {K : PySem.W.Frag} {σ : L2.St} {H : Hp} {Q : VK} {i j u : Nat} {ta : TE} {te : TE} {n : List St2} {g : St2 → V} (hs : ∀ y z : Option V, wipe (((wipe σ [i, j]).set i y).set j z) [i, j] = wipe σ [i, j])
    (hu : LstSw H u n) (hl : n.length ≤ 1000) (hta : ∀ R : VK, R (.ref u) H → ta σ H R)
    (el : ∀ p H', p ∈ n → Same H H' → ∀ R : VK, (∀ H'', Same H' H'' → R (g p) H'') → te (((wipe σ [i, j]).set i (some (oV p.1))).set j (some (oV p.2))) H' R)
    (q : ∀ D H', Same H H' → H' D = some (.lst (n.map g)) → Q (.ref D) H') : tLc (iList K ta) (gTup K 2 (gCons (gName i) (gCons (gName j) gNil))) tYes te [i, j] σ H Q := by
  obtain ⟨us, hu, pr⟩ := hu
  have ul : us.length = n.length := pr.length
  refine hta _ ⟨u, rfl, ⟨_, SqL.of hu⟩, fun D hD => ?_⟩
  have nuD : u ≠ D := ne_of_none hu hD
  have e0 : (us.map V.ref).length = us.length := List.length_map ..
  have wk := walk_list (K := K) (a := u) (xs := us.map V.ref)
  rw [e0] at wk
  refine lc_it wk (fun k H' => Bt D H H' ∧ H' D = some (.lst ((n.take k).map g))) ⟨bt_upd, upd_same⟩ (fun k H' _ ⟨bt, _⟩ => SqL.of (bt _ _ nuD hu)) (fun k x H2 H' hi ⟨bt, h1⟩ ⟨ee, hx⟩ => ?_) (fun H' ⟨bt, h1⟩ => ?_)
  · subst ee
    have ip : n[k]? = some (n[k]'(by omega)) := List.getElem?_eq_getElem (by omega)
    generalize n[k]'(by omega) = p at ip
    obtain ⟨t, e1, e2⟩ := paired_at pr ip
    rw [List.getElem?_map, e1] at hx
    cases (show V.ref t = x from Option.some.inj hx)
    have ht : SwAt H' t p := bt t _ (ne_of_none e2 hD) e2
    have sm : Same H H' := fun b o e => bt b o (ne_of_none e hD) e
    refine ⟨t, _, rfl, SqT.of ht, rfl, _, _, rfl, _, _, rfl, rfl, hs _ _, ?_⟩
    simp only [tYes, ↓reduceIte]
    refine el p H' (List.mem_of_getElem? ip) sm _ fun H3 s3 => ?_
    refine ⟨_, s3 _ _ h1, by rw [List.length_map, List.length_take]; exact Nat.lt_of_le_of_lt (show _ ≤ 1000 by omega) (by decide), (bt.trans (Same.bt s3)).trans bt_upd, ?_⟩
    rw [upd_same, List.take_add_one, ip, List.map_append]
    rfl
  · rw [ul, List.take_length] at h1
    exact q D H' (fun b o e => bt b o (ne_of_none e hD) e) h1
section
variable {P : Program} {w : World} {K : PySem.W.Frag} {mg : Str → Option Value} {base : Heap} {f : Addr} {fd : FuncData}
theorem ok_has (F : FD K "_law_has" s_has f fd) (ta : mg "any" = none) : FnOk P w K mg base CX0 1 f fd ["_law_rows", "_law_number"] spHasL := by
  refine F.ok sc_has (fun vs H Q E h => ?_) (fun cdv A outer s H vs Q E hr h => ?_)
  · obtain ⟨L, l, v, rfl, _⟩ := h
    rfl
  obtain ⟨L, l, v, rfl, hl, ll, q⟩ := h
  refine ⟨_, PSs.nox (pss_one (ps_ret (pe_callB (cr_any rfl) (by rfl) ta (by decide +kernel) (pa_cons (pe_lc (own := [("_law_low", 2), ("_law_high", 3)]) (g := gTup K 2 (gCons (gName 2) (gCons (gName 3) gNil))) (tt := tYes)
        (te := tAndV (tOrV (tIsN (tVar 2)) (tOp (rI0 fun i j => V.bl (decide (i ≤ j))) (tVar 2) (tVar 1))) (tOrV (tIsN (tVar 3)) (tOp (rI0 fun i j => V.bl (decide (i ≤ j))) (tVar 1) (tVar 3)))) rfl sc_has.nd (pi_list (pv 0)) (blkOk_by (N := nHasL) (sc := defScope s_has) (by decide +kernel))
        (fun _ _ _ _ _ => by exact pg_tup (by rfl) (pgs_cons (pg_name (i := 2) sc_has.nd rfl (Or.inl rfl)) (pgs_cons (pg_name (i := 3) sc_has.nd rfl (Or.inl rfl)) pgs_nil))) (fun _ _ _ _ _ => pts_nil)
        (fun _ _ _ _ _ => by exact pe_and (pe_or (pe_cmp (pc_isN (pv 2)) rfl) (pe_one (pe_cmpR op_le (pv 2) (pv 1) (nomark _)))) (pe_one (pe_or (pe_cmp (pc_isN (pv 3)) rfl) (pe_one (pe_cmpR op_le (pv 1) (pv 3) (nomark _))))))) pa_nil)))), ?_⟩
  refine ret_cb1 ?_
  refine lc_swL (i := 2) (j := 3) (u := L) (σ := L2.start nHasL [V.ref L, V.int v]) (g := fun p => V.bl (inS p v)) (fun y z => rfl) hl ll (fun R r => ⟨_, rfl, r⟩) (fun p H' _ s1 R r => ?_) fun D H' s1 hD => ?_
  · obtain ⟨a, b⟩ := p
    have r0 := r H' (Same.refl _)
    rw [show inS (a, b) v = (lowB a v && highB b v) from rfl] at r0
    have high : ∀ (R : VK), R (.bl (highB b v)) H' → tOrV (tIsN (tVar 3)) (tOp (rI0 fun i j => .bl (decide (i ≤ j))) (tVar 1) (tVar 3)) (((wipe (L2.start nHasL [V.ref L, V.int v]) [2, 3]).set 2 (some (oV a))).set 3 (some (oV b))) H' R := fun R r => by
      refine ⟨_, rfl, decide (oV b = V.non), rfl, ?_⟩
      cases b with
      | none =>
        rw [oV_non, if_pos rfl]
        exact r
      | some y =>
        rw [oV_some, if_neg (by decide)]
        exact ⟨_, rfl, _, rfl, v, y, rfl, rfl, r⟩
    have low : ∀ (R : VK), R (.bl (lowB a v)) H' → tOrV (tIsN (tVar 2)) (tOp (rI0 fun i j => .bl (decide (i ≤ j))) (tVar 2) (tVar 1)) (((wipe (L2.start nHasL [V.ref L, V.int v]) [2, 3]).set 2 (some (oV a))).set 3 (some (oV b))) H' R := fun R r => by
      refine ⟨_, rfl, decide (oV a = V.non), rfl, ?_⟩
      cases a with
      | none =>
        rw [oV_non, if_pos rfl]
        exact r
      | some x =>
        rw [oV_some, if_neg (by decide)]
        exact ⟨_, rfl, _, rfl, x, v, rfl, rfl, r⟩
    refine low _ ⟨_, rfl, ?_⟩
    refine ite2 (fun h => ?_) (fun h => ?_)
    · refine high _ ?_
      rw [h, Bool.true_and] at r0
      exact r0
    · rw [Bool.eq_false_iff.mpr h, Bool.false_and] at r0
      exact r0
  · refine ⟨D, l.map fun p => inS p v, rfl, SqL.of (by rw [hD, List.map_map]; rfl), ?_⟩
    have e : (l.map fun p => inS p v).any id = memL l v := by
      rw [List.any_map]
      rfl
    rw [e]
    exact q H' s1
end
end S8

end Ps8b
section Ps8c
set_option maxHeartbeats 8000000
namespace S8
open PySem PySem.Spec L2 PyProof.Rows Sm
/-! ### how many numbers rows have; the points -/
abbrev nCnt : List Str := ["_law_rows", "_law_low", "_law_high"]
theorem sc_counted : FnScope nCnt ["_law_rows"] (defScope s_counted) := ⟨rfl, rfl, rfl, by decide +kernel, rfl, by decide +kernel, by decide +kernel⟩
def spCnt : Sp := fun vs H Q _ => ∃ (L : Addr) (n : List St2), vs = [.ref L] ∧ LstSw H L n ∧ n.length ≤ 1000 ∧ ∀ H', Same H H' → Q (oV (cntS n)) H'
/-- the points of rows -/
def edgesS (p : St2) : List Int := p.1.toList ++ p.2.toList
def near3 (e : Int) : List Int := [e - 1, e, e + 1]
def farI : Int := 9 * 10 ^ 29
def ptsOf (l : List St2) : List Int := [0, 1, -1, farI, -farI] ++ l.flatMap fun p => (edgesS p).flatMap near3
/-- all of l is among these few rows -/
def Cov (l l0 : List St2) : Prop := (∀ p ∈ l, p ∈ l0) ∧ l0.length ≤ 8
theorem pts_cov {l l0 : List St2} (h : ∀ p ∈ l, p ∈ l0) : ∀ k ∈ ptsOf l, k ∈ ptsOf l0 := fun k hk => by
  unfold ptsOf at *
  rcases List.mem_append.mp hk with h1 | h1
  · exact List.mem_append_left _ h1
  · obtain ⟨p, hp, hq⟩ := List.mem_flatMap.mp h1
    exact List.mem_append_right _ (List.mem_flatMap.mpr ⟨p, h p hp, hq⟩)
theorem edges_len (p : St2) : ((edgesS p).flatMap near3).length ≤ 6 := by
  obtain ⟨a, b⟩ := p
  cases a <;> cases b <;> simp [edgesS, near3]
theorem flat6 : ∀ l : List St2, (l.flatMap fun p => (edgesS p).flatMap near3).length ≤ 6 * l.length
  | [] => by simp
  | p :: l => by
    have h := edges_len p
    have ih := flat6 l
    rw [List.flatMap_cons, List.length_append, List.length_cons]
    omega
theorem pts_len {l : List St2} (h : l.length ≤ 8) : (ptsOf l).length < 64 := by
  have := flat6 l
  unfold ptsOf
  rw [List.length_append]
  show 5 + _ < 64
  omega
section
variable {P : Program} {w : World} {K : PySem.W.Frag} {mg : Str → Option Value} {base : Heap} {f : Addr} {fd : FuncData}
theorem ok_counted (F : FD K "_law_counted" s_counted f fd) (ta : mg "any" = none) (ts : mg "sum" = none) : FnOk P w K mg base CX0 1 f fd ["_law_rows"] spCnt := by
  refine F.ok sc_counted (fun vs H Q E h => ?_) (fun cdv A outer s H vs Q E hr h => ?_)
  · obtain ⟨L, n, rfl, _⟩ := h
    rfl
  obtain ⟨L, n, rfl, hn, hl, q⟩ := h
  refine ⟨_, PSs.nox (pss_cons (ps_if (pt_val (pe_callB (cr_any rfl) (by rfl) ta (by decide +kernel) (pa_cons (pe_lc (own := [("_law_low", 1), ("_law_high", 2)]) (g := gTup K 2 (gCons (gName 1) (gCons (gName 2) gNil))) (tt := tYes) (te := tOrV (tIsN (tVar 1)) (tIsN (tVar 2))) rfl sc_counted.nd (pi_list (pv 0)) (blkOk_by (N := nCnt) (sc := defScope s_counted) (by decide +kernel))
        (fun _ _ _ _ _ => by exact pg_tup (by rfl) (pgs_cons (pg_name (i := 1) sc_counted.nd rfl (Or.inl rfl)) (pgs_cons (pg_name (i := 2) sc_counted.nd rfl (Or.inl rfl)) pgs_nil))) (fun _ _ _ _ _ => pts_nil) (fun _ _ _ _ _ => by exact pe_or (pe_cmp (pc_isN (pv 1)) rfl) (pe_one (pe_cmp (pc_isN (pv 2)) rfl)))) pa_nil))) (pss_one (ps_ret pe_non)) pss_nil)
    (pss_one (ps_ret (pe_callB (cr_sum rfl) (by rfl) ts (by decide +kernel) (pa_cons (pe_lc (own := [("_law_low", 1), ("_law_high", 2)]) (g := gTup K 2 (gCons (gName 1) (gCons (gName 2) gNil))) (tt := tYes) (te := tOp (rI0 fun i j => V.int (i + j)) (tOp (rI0 fun i j => V.int (i - j)) (tVar 2) (tVar 1)) (tC (.int 1))) rfl sc_counted.nd (pi_list (pv 0)) (blkOk_by (N := nCnt) (sc := defScope s_counted) (by decide +kernel))
        (fun _ _ _ _ _ => by exact pg_tup (by rfl) (pgs_cons (pg_name (i := 1) sc_counted.nd rfl (Or.inl rfl)) (pgs_cons (pg_name (i := 2) sc_counted.nd rfl (Or.inl rfl)) pgs_nil))) (fun _ _ _ _ _ => pts_nil) (fun _ _ _ _ _ => by exact pe_op op_add (pe_op op_sub (pv 2) (pv 1)) pe_int)) pa_nil))))), ?_⟩
  refine tst_cb1 ?_
  refine lc_swL (i := 1) (j := 2) (u := L) (σ := L2.start nCnt [V.ref L]) (g := fun p => V.bl (decide (p.1 = none) || decide (p.2 = none))) (fun y z => rfl) hn hl (fun R r => ⟨_, rfl, r⟩) (fun p H' _ s1 R r => ?_) fun D H' s1 hD => ?_
  · refine ⟨_, rfl, decide (oV p.1 = V.non), rfl, ?_⟩
    have r0 := r H' (Same.refl _)
    rw [oV_none]
    refine ite2 (fun h => ?_) (fun h => ?_)
    · rw [h, Bool.true_or] at r0
      exact r0
    · rw [Bool.eq_false_iff.mpr h, Bool.false_or] at r0
      refine ⟨_, rfl, ?_⟩
      show R (V.bl (decide (oV p.2 = V.non))) H'
      rw [oV_none]
      exact r0
  · refine ⟨D, n.map fun p => decide (p.1 = none) || decide (p.2 = none), SqL.of (by rw [hD, List.map_map]; rfl) |> fun z => ⟨rfl, z, ?_⟩⟩
    refine ⟨_, rfl, ?_⟩
    have e0 : (n.map fun p => decide (p.1 = none) || decide (p.2 = none)).any id = n.any fun p => decide (p.1 = none) || decide (p.2 = none) := by
      rw [List.any_map]
      rfl
    rw [e0]
    have ec : cntS n = if n.any (fun p => decide (p.1 = none) || decide (p.2 = none)) = true then none else some ((n.map fun p => (p.2.getD 0) - (p.1.getD 0) + 1).sum) := rfl
    refine ite2 (fun h => ?_) (fun h => ?_)
    · rw [if_pos h] at ec
      have z := q H' s1
      rw [ec] at z
      exact z
    · rw [if_neg h] at ec
      have bnd : ∀ p ∈ n, ∃ x y, p.1 = some x ∧ p.2 = some y := fun p hp => by
        have hf : ¬ (decide (p.1 = none) || decide (p.2 = none)) = true := fun z => h (List.any_eq_true.mpr ⟨p, hp, z⟩)
        cases e1 : p.1 with
        | none => exact absurd (by rw [e1]; rfl) hf
        | some x =>
          cases e2 : p.2 with
          | none => exact absurd (by rw [e2, Bool.or_comm]; rfl) hf
          | some y => exact ⟨x, y, rfl, rfl⟩
      unfold tNext
      dsimp only
      refine ret_cb1 ?_
      refine lc_swL (i := 1) (j := 2) (u := L) (σ := L2.start nCnt [V.ref L]) (g := fun p => V.int ((p.2.getD 0) - (p.1.getD 0) + 1)) (fun y z => rfl) (hn.same s1) hl (fun R r => ⟨_, rfl, r⟩) (fun p H2 hp s2 R r => ?_) fun D2 H2 s2 hD2 => ?_
      · obtain ⟨x, y, e1, e2⟩ := bnd p hp
        have r0 := r H2 (Same.refl _)
        rw [e1, e2] at r0 ⊢
        exact ⟨_, rfl, _, rfl, y, x, rfl, rfl, y - x, 1, rfl, rfl, r0⟩
      · refine ⟨D2, n.map fun p => (p.2.getD 0) - (p.1.getD 0) + 1, rfl, SqL.of (by rw [hD2, List.map_map]; rfl), ?_⟩
        have z := q H2 (s1.trans s2)
        rw [ec] at z
        exact z
end
end S8

end Ps8c
section Ps8d
set_option maxHeartbeats 8000000
namespace S8
open PySem PySem.Spec L2 PyProof.Rows Sm
/-! ### the points near the edges of rows -/
abbrev nPtsL : List Str := ["_law_rows", "_law_points_here", "_law_row_here", "_law_edge", "_law_one"]
theorem sc_points : FnScope nPtsL ["_law_rows"] (defScope s_points) := ⟨rfl, rfl, rfl, by decide +kernel, rfl, by decide +kernel, by decide +kernel⟩
def spPts : Sp := fun vs H Q _ => ∃ (L : Addr) (l l0 : List St2), vs = [.ref L] ∧ LstSw H L l ∧ l.length ≤ 20 ∧ Cov l l0 ∧ ∀ (S : Addr) (ys : List Int) (H' : Hp), ys.Pairwise (· < ·) → (∀ k, k ∈ ys ↔ k ∈ ptsOf l) → ys.length < 64 → H' S = some (.lst (ys.map V.int)) → H S = none → Same H H' → Q (.ref S) H'
theorem edges_fm (p : St2) : edgesS p = [p.1, p.2].filterMap id := by
  obtain ⟨a, b⟩ := p
  cases a <;> cases b <;> rfl
section
variable {P : Program} {w : World} {K : PySem.W.Frag} {mg : Str → Option Value} {base : Heap} {f : Addr} {fd : FuncData}
theorem ok_points (F : FD K "_law_points" s_points f fd) (ts : mg "sorted" = none) (tz : mg "set" = none) : FnOk P w K mg base CX0 1 f fd ["_law_rows"] spPts := by
  refine F.ok sc_points (fun vs H Q E h => ?_) (fun cdv A outer s H vs Q E hr h => ?_)
  · obtain ⟨L, l, l0, rfl, _⟩ := h
    rfl
  obtain ⟨L, l, l0, rfl, ⟨ts', hL, pr⟩, ll, cov, q⟩ := h
  have tl : ts'.length = l.length := pr.length
  refine ⟨_, PSs.nox (pss_cons (ps_set (i := 1) sc_points.nd rfl (Or.inl rfl) (pe_lst (pa_cons pe_int (pa_cons pe_int (pa_cons (pe_un un_neg pe_int) (pa_cons (pe_op op_mul pe_int (pe_op op_pow pe_int pe_int)) (pa_cons (pe_un un_neg (pe_op op_mul pe_int (pe_op op_pow pe_int pe_int))) pa_nil)))))))
    (pss_cons (ps_for .never (by rfl) (pi_list (pv 0)) (pg_name (i := 2) sc_points.nd rfl (Or.inl rfl))
      (pss_one (ps_for .never (by rfl) (pi_list (pe_lc (own := [("_law_one", 4)]) (g := gName 4) (tt := tB (tNotN (tVar 4))) (te := tVar 4) rfl sc_points.nd (pi_tup (pv 2)) (blkOk_by (N := nPtsL) (sc := defScope s_points) (by decide +kernel)) (fun _ _ _ _ _ => by exact pg_name (i := 4) sc_points.nd rfl (Or.inl rfl)) (fun _ _ _ _ _ => pts_one (pt_cmp (pc_notN (pv 4)))) (fun _ _ _ _ _ => by exact pv 4)))
        (pg_name (i := 3) sc_points.nd rfl (Or.inl rfl))
        (pss_one (ps_expr (pe_bm PySem.F.plainAttrs_list PySem.F.slot_list_extend PySem.F.type_list_extend mt_extend (pv 1) (pa_cons (pe_lst (pa_cons (pe_op op_sub (pv 3) pe_int) (pa_cons (pv 3) (pa_cons (pe_op op_add (pv 3) pe_int) pa_nil)))) pa_nil)))))))
    (pss_one (ps_ret (pe_callB (cr_sortedSet rfl) (by rfl) ts (by decide +kernel) (pa_cons (pe_callTy (cr_setIz rfl) (by rfl) tz (by decide +kernel) (pa_cons (pv 1) pa_nil)) pa_nil)))))), ?_⟩
  have cp29 : CPow 10 29 := ⟨by decide, by decide, by decide⟩
  have cm : CMul 9 (10 ^ (29 : Int).toNat) := .inl ⟨by decide, by decide⟩
  refine ⟨_, rfl, 10, 29, rfl, rfl, cp29, 9, _, rfl, rfl, cm, 10, 29, rfl, rfl, cp29, 9, _, rfl, rfl, cm, _, rfl, by show 5 ≤ sizeLine; decide, fun g hg => ?_⟩
  have s1 := same_upd (o := HO.lst (([0, 1, -1, farI, -farI] : List Int).map V.int)) hg
  have hg1 : (upd H g (.lst (([0, 1, -1, farI, -farI] : List Int).map V.int))) g = some (.lst (([0, 1, -1, farI, -farI] : List Int).map V.int)) := upd_same
  show tSeq _ _ _ _ (upd H g (.lst (([0, 1, -1, farI, -farI] : List Int).map V.int)))
  generalize upd H g (.lst (([0, 1, -1, farI, -farI] : List Int).map V.int)) = H1 at s1 hg1 ⊢
  refine normS (σ' := [some (.ref L), some (.ref g), none, none, none]) rfl ?_
  have hL1 := s1 _ _ hL
  have nLg : L ≠ g := ne_of_none hL hg
  have pr1 : Paired (SwAt H1) ts' l := pr.mono fun t p e => SwAt.same s1 e
  refine ⟨_, rfl, L, rfl, ⟨_, SqL.of hL1⟩, ?_⟩
  have acc : ∀ i, ([0, 1, -1, farI, -farI] ++ (l.take i).flatMap fun p => (edgesS p).flatMap near3).length ≤ 125 := fun i => by
    have := flat6 (l.take i)
    rw [List.length_take] at this
    rw [List.length_append]
    show 5 + _ ≤ 125
    omega
  refine for_list (K := K) (a := L) (xs := ts'.map V.ref) (fun i σ' H' => Bt g H1 H' ∧ (∃ x y : Option V, σ' = [some (.ref L), some (.ref g), x, y, none]) ∧ H' g = some (.lst (([0, 1, -1, farI, -farI] ++ (l.take i).flatMap fun p => (edgesS p).flatMap near3).map V.int)))
    ⟨fun _ _ _ e => e, ⟨none, none, rfl⟩, hg1⟩ (fun i σ' H' _ ⟨bt, _⟩ => SqL.of (bt _ _ nLg hL1)) (fun i x σ' H' hx ⟨bt, ⟨x2, y2, eσ⟩, hg2⟩ => ?_) (fun σ' H' ⟨bt, ⟨x2, y2, eσ⟩, hg2⟩ => ?_)
  · subst eσ
    have il : i < l.length := by
      have := (List.getElem?_eq_some_iff.mp hx).1
      rw [List.length_map] at this
      omega
    have ip : l[i]? = some (l[i]'il) := List.getElem?_eq_getElem il
    generalize l[i]'il = p at ip
    obtain ⟨t, e1, e2⟩ := paired_at pr1 ip
    rw [List.getElem?_map, e1] at hx
    cases (show V.ref t = x from Option.some.inj hx)
    have ntg : t ≠ g := fun z => by
      unfold SwAt at e2
      rw [z, hg1] at e2
      cases e2
    have ht : SwAt H' t p := bt _ _ ntg e2
    have ef : l.take (i + 1) = l.take i ++ [p] := by
      rw [List.take_add_one, ip]
      rfl
    refine ⟨_, rfl, t, rfl, ⟨_, SqT.of ht⟩, fun D hD => ?_⟩
    have ntD : t ≠ D := ne_of_none ht hD
    have ngD : g ≠ D := ne_of_none hg2 hD
    refine lc_it (walk_tup (K := K) (a := t) (xs := [oV p.1, oV p.2])) (fun k H2 => Bt D H' H2 ∧ H2 D = some (.lst ((([p.1, p.2].take k).filterMap id).map V.int))) ⟨bt_upd, upd_same⟩ (fun k H2 _ ⟨b2, _⟩ => SqT.of (b2 _ _ ntD ht))
      (fun k x H3 H2 hi ⟨b2, h1⟩ ⟨ee, hx⟩ => ?_) (fun H2 ⟨b2, h1⟩ => ?_)
    · subst ee
      obtain ⟨o, eo, xo⟩ : ∃ o : Option Int, [p.1, p.2][k]? = some o ∧ x = oV o := by
        have ex : ([p.1, p.2].map oV)[k]? = some x := hx
        rw [List.getElem?_map] at ex
        cases e : [p.1, p.2][k]? with
        | none =>
          rw [e] at ex
          cases ex
        | some o =>
          rw [e] at ex
          exact ⟨o, rfl, (Option.some.inj ex).symm⟩
      subst xo
      have et : [p.1, p.2].take (k + 1) = [p.1, p.2].take k ++ [o] := by
        rw [List.take_add_one, eo]
        rfl
      have len : (([p.1, p.2].take k).filterMap id).length ≤ 2 := Nat.le_trans (List.length_filterMap_le _ _) (by rw [List.length_take]; exact Nat.min_le_right _ _)
      refine ⟨rfl, ?_⟩
      refine ⟨_, rfl, !decide (oV o = V.non), rfl, ?_⟩
      refine ite2 (fun hb => ?_) (fun hb => ?_)
      · cases o with
        | none => cases hb
        | some e =>
          refine ⟨_, rfl, _, h1, by rw [List.length_map]; exact Nat.lt_of_le_of_lt len (by decide), b2.trans bt_upd, ?_⟩
          rw [upd_same, et, List.filterMap_append, List.map_append]
          rfl
      · cases o with
        | some e => exact absurd (by rw [oV_some]; rfl) hb
        | none =>
          refine ⟨b2, ?_⟩
          rw [h1, et, List.filterMap_append]
          simp
    · have e5 : ([p.1, p.2].take [oV p.1, oV p.2].length).filterMap id = edgesS p := (edges_fm p).symm
      rw [e5] at h1
      have sm : ∀ c o, c ≠ g → H1 c = some o → H2 c = some o := fun c o n e => b2 _ _ (ne_of_none (bt _ _ n e) hD) (bt _ _ n e)
      have hg3 : H2 g = some _ := b2 _ _ ngD hg2
      refine ⟨D, rfl, ⟨_, SqL.of h1⟩, ?_⟩
      refine for_list (K := K) (a := D) (xs := (edgesS p).map V.int) (fun j σ' H4 => Bt g H2 H4 ∧ (∃ x y : Option V, σ' = [some (.ref L), some (.ref g), x, y, none]) ∧ H4 g = some (.lst ((([0, 1, -1, farI, -farI] ++ (l.take i).flatMap fun p => (edgesS p).flatMap near3) ++ ((edgesS p).take j).flatMap near3).map V.int)))
        ⟨fun _ _ _ e => e, ⟨_, _, rfl⟩, by rw [hg3, List.take_zero, List.flatMap_nil, List.append_nil]⟩ (fun j σ' H4 _ ⟨b4, _⟩ => SqL.of (b4 _ _ ngD.symm h1)) (fun j x σ' H4 hx ⟨b4, ⟨x4, y4, eσ⟩, hg4⟩ => ?_) (fun σ' H4 ⟨b4, ⟨x4, y4, eσ⟩, hg4⟩ => ?_)
      · subst eσ
        rw [List.getElem?_map] at hx
        cases ej : (edgesS p)[j]? with
        | none =>
          rw [ej] at hx
          cases hx
        | some e =>
          rw [ej] at hx
          cases (show V.int e = x from Option.some.inj hx)
          refine ⟨_, rfl, .inl ⟨rfl, _, SqL.of hg4⟩, _, rfl, _, _, rfl, rfl, _, rfl, _, rfl, _, _, rfl, rfl, by show 3 ≤ sizeLine; decide, fun Z hZ => ?_⟩
          have s5 := same_upd (o := HO.lst ((near3 e).map V.int)) hZ
          have hg5 := s5 _ _ hg4
          have l1 := acc i
          have l2 : (((edgesS p).take j).flatMap near3).length ≤ 6 := by
            have h0 : ((edgesS p).take j).length ≤ 2 := by
              have e0 : (edgesS p).length ≤ 2 := by
                obtain ⟨a, b⟩ := p
                cases a <;> cases b <;> simp [edgesS]
              rw [List.length_take]
              omega
            have h2 : ∀ q : List Int, (q.flatMap near3).length = 3 * q.length := fun q => by
              induction q with
              | nil => rfl
              | cons a r ih =>
                rw [List.flatMap_cons, List.length_append, ih, List.length_cons]
                show 3 + _ = _
                omega
            rw [h2]
            omega
          refine ⟨g, Z, _, _, rfl, rfl, hg5, upd_same, ?_, ?_⟩
          · rw [List.length_map, List.length_append]
            refine Nat.le_trans (show _ ≤ 200 from ?_) (by decide)
            show (_ + _) + 3 ≤ 200
            omega
          refine ⟨(b4.trans (Same.bt s5)).trans bt_upd, ⟨_, _, rfl⟩, ?_⟩
          have ez : (edgesS p).take (j + 1) = (edgesS p).take j ++ [e] := by
            rw [List.take_add_one, ej]
            rfl
          rw [upd_same, ez, List.flatMap_append]
          generalize [0, 1, -1, farI, -farI] ++ (l.take i).flatMap (fun p => (edgesS p).flatMap near3) = X0
          rw [← List.append_assoc]
          exact congrArg (fun z => some (HO.lst z)) (List.map_append (f := V.int) (l₁ := X0 ++ ((edgesS p).take j).flatMap near3) (l₂ := [e].flatMap near3)).symm
      · subst eσ
        rw [List.length_map, List.take_length] at hg4
        refine ⟨fun b o nb e => b4 b o nb (sm b o nb e), ⟨_, _, rfl⟩, ?_⟩
        have e9 : [p].flatMap (fun p => (edgesS p).flatMap near3) = (edgesS p).flatMap near3 := by simp
        rw [hg4, ef, List.flatMap_append, e9]
        generalize (l.take i).flatMap (fun p => (edgesS p).flatMap near3) = F0
        rw [List.append_assoc [0, 1, -1, farI, -farI] F0]
  · subst eσ
    have e0 : l.take (ts'.map V.ref).length = l := by rw [List.length_map, tl, List.take_length]
    rw [e0] at hg2
    have hgp : H' g = some (.lst ((ptsOf l).map V.int)) := hg2
    have lp : (ptsOf l).length ≤ 125 := by
      have := acc l.length
      rw [List.take_length] at this
      exact this
    have sm : Same H H' := fun b o e => bt b o (ne_of_none e hg) (s1 _ _ e)
    refine ⟨_, rfl, g, ptsOf l, rfl, SqL.of hgp, by omega, fun a c ha hc => ?_⟩
    have c64 : c < 64 := Nat.lt_of_le_of_lt (hc (ptsOf l0) (pts_cov cov.1)) (pts_len cov.2)
    refine ⟨a, _, c, rfl, upd_same, c64, fun ns S hn hm hl hS => ?_⟩
    have s6 := (same_upd (o := SetO w a (fun j => decide (j ∈ ptsOf l)) c) ha).trans (same_upd (o := HO.lst (ns.map V.int)) hS)
    have hSH : H S = none := by
      cases e : H S with
      | none => rfl
      | some o =>
        have := (sm.trans (same_upd (o := SetO w a (fun j => decide (j ∈ ptsOf l)) c) ha)) _ _ e
        have hS' : (upd H' a (SetO w a (fun j => decide (j ∈ ptsOf l)) c)) S = none := hS
        rw [hS'] at this
        cases this
    exact q S ns _ hn (fun k => (hm k).trans decide_eq_true_iff) (by omega) upd_same hSH (sm.trans s6)
end
end S8

end Ps8d
section Ps8e
set_option maxHeartbeats 8000000
namespace S8
open PySem PySem.Spec L2 PyProof.Rows Sm
/-! ### told rows ascend and don't touch -/
abbrev nStd : List Str := ["_law_rows", "_law_one", "_law_other", "_law_row_here", "_law_low", "_law_high"]
theorem sc_stated : FnScope nStd ["_law_rows"] (defScope s_stated) := ⟨rfl, rfl, rfl, by decide +kernel, rfl, by decide +kernel, by decide +kernel⟩
def spStd : Sp := fun vs H Q _ => ∃ (L : Addr) (n : List St2), vs = [.ref L] ∧ LstSw H L n ∧ ascS n ∧ n.length ≤ 100 ∧ ∀ H', Same H H' → Q (.bl true) H'
theorem cut_tail (xs : List V) : cutV xs (some 1) none = xs.drop 1 := by
  by_cases h : xs.length = 0
  · rw [List.length_eq_zero_iff.mp h]
    rfl
  · have e : (HT.sIx xs.length 0 (some 1)) = 1 := by
      unfold HT.sIx
      simp
      omega
    have e2 : HT.sIx xs.length xs.length none = xs.length := rfl
    unfold cutV
    rw [e, e2]
    exact List.take_of_length_le (by rw [List.length_drop]; exact Nat.le_refl _)
theorem cut_front (xs : List V) : cutV xs none (some (-1)) = xs.dropLast := by
  have e : HT.sIx xs.length xs.length (some (-1)) - HT.sIx xs.length 0 none = xs.length - 1 ∧ HT.sIx xs.length 0 none = 0 := by
    unfold HT.sIx
    refine ⟨?_, ?_⟩
    · simp
      omega
    · simp
  unfold cutV
  rw [e.1, e.2, List.drop_zero, List.dropLast_eq_take]
section
variable {P : Program} {w : World} {K : PySem.W.Frag} {mg : Str → Option Value} {base : Heap} {f : Addr} {fd : FuncData}
theorem seq_not_cb1 {r : List V → Hp → VK → Prop} {t : TE} {A B u : TS} {D : Ends} {σ : L2.St} {H : Hp} (h : t σ H fun x H1 => r [x] H1 fun y H2 => ∃ c, y = .bl c ∧ if (!c) = true then A { D with nx := u D } σ H2 else B { D with nx := u D } σ H2) : tSeq (tIfS (tNot (tB (tCB r (tCons t tNil)))) A B) u D σ H := h
theorem ok_stated (F : FD K "_law_is_stated" s_stated f fd) (T : TW mg) (tl : mg "list" = none) (tt : mg "tuple" = none) (ta : mg "all" = none) (tz : mg "zip" = none) : FnOk P w K mg base CX0 1 f fd ["_law_rows"] spStd := by
  refine F.ok sc_stated (fun vs H Q E h => ?_) (fun cdv A outer s H vs Q E hr h => ?_)
  · obtain ⟨L, n, rfl, _⟩ := h
    rfl
  obtain ⟨L, n, rfl, hn, ha, hl, q⟩ := h
  obtain ⟨ts, hL, pr⟩ := id hn
  have tln : ts.length = n.length := pr.length
  refine ⟨_, PSs.nox (pss_cons (ps_if (PW.pt (pw_or (pt_not (pt_val (pe_callB call_isi (by rfl) T.isi boot_isi (pa_cons (pv 0) (pa_cons (pe_bltn (v := .ty "list") (by rfl) tl (by decide +kernel) rfl) pa_nil)))))
      (pw_or1 (pt_not (pt_val (pe_callB (cr_all rfl) (by rfl) ta boot_all (pa_cons (pe_lc (own := [("_law_row_here", 3)]) (g := gName 3) (tt := tYes) (te := tAndV (tCB (rIsi K) (tCons (tVar 3) (tCons (tC (.ty "tuple")) tNil))) (tOp rEq (tCB (fun xs H Q => ∃ p ys, xs = [.ref p] ∧ (SqL K H p ys ∨ SqT K H p ys) ∧ Q (.int ys.length) H) (tCons (tVar 3) tNil)) (tC (.int 2)))) rfl sc_stated.nd (pi_list (pv 0)) (blkOk_by (N := nStd) (sc := defScope s_stated) (by decide +kernel))
        (fun _ _ _ _ _ => by exact pg_name (i := 3) sc_stated.nd rfl (Or.inl rfl)) (fun _ _ _ _ _ => pts_nil)
        (fun _ _ _ _ _ => by exact (pe_and (pe_callB call_isi (by rfl) T.isi boot_isi (pa_cons (pv 3) (pa_cons (pe_bltn (v := .ty "tuple") (by rfl) tt (by decide +kernel) rfl) pa_nil))) (pe_one (pe_cmpR op_eq (pe_callB call_len_seq (by rfl) T.len boot_len (pa_cons (pv 3) pa_nil)) pe_int (nomark _)))))) pa_nil))))))) pss_never pss_nil)
    (pss_cons (ps_if (pt_not (pt_val (pe_callB (cr_all rfl) (by rfl) ta boot_all (pa_cons (pe_lc (own := [("_law_low", 4), ("_law_high", 5)]) (g := gTup K 2 (gCons (gName 4) (gCons (gName 5) gNil))) (tt := tYes) (te := tOrV (tIsN (tVar 4)) (tOrV (tIsN (tVar 5)) (tOp (rI0 fun i j => V.bl (decide (i ≤ j))) (tVar 4) (tVar 5)))) rfl sc_stated.nd (pi_list (pv 0)) (blkOk_by (N := nStd) (sc := defScope s_stated) (by decide +kernel))
        (fun _ _ _ _ _ => by exact pg_tup (by rfl) (pgs_cons (pg_name (i := 4) sc_stated.nd rfl (Or.inl rfl)) (pgs_cons (pg_name (i := 5) sc_stated.nd rfl (Or.inl rfl)) pgs_nil))) (fun _ _ _ _ _ => pts_nil)
        (fun _ _ _ _ _ => by exact pe_or (pe_cmp (pc_isN (pv 4)) rfl) (pe_or (pe_cmp (pc_isN (pv 5)) rfl) (pe_one (pe_cmpR op_le (pv 4) (pv 5) (nomark _)))))) pa_nil)))) pss_never pss_nil)
    (pss_cons (ps_for .never (by rfl) (pi_zip (by rfl) tz (pa_cons (pe_slice sl_list (pv 0) po_none (po_some (pe_un un_neg pe_int))) (pa_cons (pe_slice sl_list (pv 0) (po_some pe_int) po_none) pa_nil))) (pg_tup (by rfl) (pgs_cons (pg_name (i := 1) sc_stated.nd rfl (Or.inl rfl)) (pgs_cons (pg_name (i := 2) sc_stated.nd rfl (Or.inl rfl)) pgs_nil)))
      (pss_one (ps_if (PW.pt (pw_or (pt_cmp (pc_isN (pe_ix ix_tup (pv 1) pe_int (fun _ _ => rfl)))) (pw_or (pt_cmp (pc_isN (pe_ix ix_tup (pv 2) pe_int (fun _ _ => rfl)))) (pw_or1 (pt_cmpR op_ge (pe_op op_add (pe_ix ix_tup (pv 1) pe_int (fun _ _ => rfl)) pe_int) (pe_ix ix_tup (pv 2) pe_int (fun _ _ => rfl)) (nomark _)))))) pss_never pss_nil)))
    (pss_one (ps_ret pe_bl))))), ?_⟩
  refine ⟨_, rfl, .ref L, .ty "list", .type "list", _, true, rfl, .ty _, .base (.lst hL), kit_ty (by decide +kernel), true, rfl, ?_⟩
  refine (show (if (!true) = true then _ else _) from ?_)
  rw [if_neg (by decide)]
  refine ⟨_, rfl, L, rfl, ⟨_, SqL.of hL⟩, fun D hD => ?_⟩
  refine lc_list (xs := ts.map V.ref) (fun i H' => Same H H' ∧ H' D = some (.lst (List.replicate i (V.bl true)))) ⟨same_upd hD, upd_same⟩ (fun i H' _ ⟨z, _⟩ => SqL.of (z _ _ hL)) (fun i x H1 hx ⟨z1, hD1⟩ => ?_) fun H1 ⟨z1, hD1⟩ => ?_
  · have il : i < n.length := by
      have := (List.getElem?_eq_some_iff.mp hx).1
      rw [List.length_map] at this
      omega
    have hp : n[i]? = some (n[i]'il) := List.getElem?_eq_getElem il
    generalize n[i]'il = p at hp
    obtain ⟨t, e1, e2⟩ := paired_at pr hp
    rw [List.getElem?_map, e1] at hx
    cases (show V.ref t = x from Option.some.inj hx)
    have ht : SwAt H1 t p := SwAt.same z1 e2
    refine ⟨rfl, ?_⟩
    simp only [tYes, ↓reduceIte]
    refine ⟨_, rfl, .ref t, .ty "tuple", .type "tuple", _, true, rfl, .ty _, .base (.tup ht), kit_ty (by decide +kernel), true, rfl, ?_⟩
    refine (show (if true = true then _ else _) from ?_)
    rw [if_pos rfl]
    refine ⟨_, rfl, t, _, rfl, .inr (SqT.of ht), rfl, ?_⟩
    refine ⟨_, hD1, by rw [List.length_replicate]; exact Nat.lt_of_lt_of_le (show i < 100 by omega) (by decide), same_over z1 hD, ?_⟩
    show (upd H1 D (.lst (List.replicate i (V.bl true) ++ [V.bl (decide (V.int ((([oV p.1, oV p.2] : List V).length : Nat) : Int) = V.int 2))]))) D = _
    rw [decide_eq_true (by rfl), upd_same, List.replicate_succ']
  have allT : ∀ k : Nat, (List.replicate k true).all id = true := all_true
  refine ⟨D, List.replicate (ts.map V.ref).length true, rfl, SqL.of (by rw [hD1, List.map_replicate]), _, rfl, ?_⟩
  rw [allT]
  refine (show (if (!true) = true then _ else _) from ?_)
  rw [if_neg (by decide)]
  have hn1 := hn.same z1
  unfold tNext
  dsimp only
  refine seq_not_cb1 ?_
  refine lc_swL (i := 4) (j := 5) (u := L) (σ := L2.start nStd [V.ref L]) (g := fun _ => V.bl true) (fun y z => rfl) hn1 (by omega) (fun R r => ⟨_, rfl, r⟩) (fun p H' hp s2 R r => ?_) fun D2 H2 s2 hD2 => ?_
  · have ok := ha.1 p hp
    obtain ⟨a, b⟩ := p
    have r0 := r H' (Same.refl _)
    refine ⟨_, rfl, decide (oV a = V.non), rfl, ?_⟩
    cases a with
    | none =>
      rw [oV_non, if_pos rfl]
      exact r0
    | some x =>
      rw [oV_some, if_neg (by decide)]
      refine ⟨_, rfl, decide (oV b = V.non), rfl, ?_⟩
      cases b with
      | none =>
        rw [oV_non, if_pos rfl]
        exact r0
      | some y =>
        rw [oV_some, if_neg (by decide)]
        refine ⟨_, rfl, _, rfl, x, y, rfl, rfl, ?_⟩
        show R (V.bl (decide (x ≤ y))) H'
        rw [decide_eq_true (ok x y rfl rfl)]
        exact r0
  refine ⟨D2, List.replicate n.length true, rfl, SqL.of (by rw [hD2, List.map_replicate, List.map_const']), _, rfl, ?_⟩
  rw [allT]
  refine (show (if (!true) = true then _ else _) from ?_)
  rw [if_neg (by decide)]
  have z2 := z1.trans s2
  have hL2 := z2 _ _ hL
  refine ⟨_, rfl, 1, rfl, -1, rfl, L, _, rfl, SqL.of hL2, fun A0 hA => ?_⟩
  rw [show -(1 : Int) = -1 from rfl, cut_front]
  have s3 := same_upd (o := HO.lst (ts.map V.ref).dropLast) hA
  have hA3 : (upd H2 A0 (.lst (ts.map V.ref).dropLast)) A0 = some (.lst (ts.map V.ref).dropLast) := upd_same
  generalize upd H2 A0 (.lst (ts.map V.ref).dropLast) = H3 at s3 hA3 ⊢
  refine ⟨_, rfl, 1, rfl, L, _, rfl, SqL.of (s3 _ _ hL2), fun B0 hB => ?_⟩
  rw [cut_tail]
  have s4 := same_upd (o := HO.lst ((ts.map V.ref).drop 1)) hB
  have hB4 : (upd H3 B0 (.lst ((ts.map V.ref).drop 1))) B0 = some (.lst ((ts.map V.ref).drop 1)) := upd_same
  have hA4 := s4 _ _ hA3
  generalize upd H3 B0 (.lst ((ts.map V.ref).drop 1)) = H4 at s4 hA4 hB4 ⊢
  have z4 := (z2.trans s3).trans s4
  refine ⟨A0, B0, _, _, rfl, SqL.of hA4, SqL.of hB4, ?_⟩
  have pr4 : Paired (SwAt H4) ts n := pr.mono fun t p e => SwAt.same z4 e
  refine for_it (walk_zip (K := K) rfl) (fun i σ' H' => Same H4 H' ∧ ∃ y z : Option V, σ' = [some (.ref L), y, z, none, none, none]) ⟨Same.refl _, none, none, rfl⟩ (fun i σ' H' _ ⟨z, _⟩ => ⟨SqL.of (z _ _ hA4), SqL.of (z _ _ hB4)⟩) (fun i x σ' H5 H6 hi ⟨z, y1, y2, eσ⟩ ⟨T1, a, b, ex, hT, eH, ea, eb⟩ => ?_) (fun σ' H5 ⟨z, y1, y2, eσ⟩ => ?_)
  · subst eσ ex eH
    rw [List.length_dropLast, List.length_drop, List.length_map] at hi
    have i1 : i + 1 < n.length := by omega
    have ea : (ts.map V.ref).dropLast[i]? = some a := ea
    have eb : ((ts.map V.ref).drop 1)[i]? = some b := eb
    rw [List.getElem?_drop, Nat.add_comm 1 i] at eb
    rw [List.getElem?_dropLast] at ea
    split at ea
    · have hp : n[i]? = some (n[i]'(by omega)) := List.getElem?_eq_getElem (by omega)
      have hq : n[i + 1]? = some (n[i + 1]'i1) := List.getElem?_eq_getElem i1
      have gp : gapS (n[i]'(by omega)) (n[i + 1]'i1) := List.pairwise_iff_getElem.mp ha.2 i (i + 1) (by omega) i1 (by omega)
      generalize n[i]'(by omega) = p1 at hp gp
      generalize n[i + 1]'i1 = p2 at hq gp
      obtain ⟨t1, e1, f1⟩ := paired_at pr4 hp
      obtain ⟨t2, e2, f2⟩ := paired_at pr4 hq
      rw [List.getElem?_map, e1] at ea
      rw [List.getElem?_map, e2] at eb
      cases (show V.ref t1 = a from Option.some.inj ea)
      cases (show V.ref t2 = b from Option.some.inj eb)
      obtain ⟨u, v, g1, g2, g3⟩ := gp
      have s7 := z.trans (same_upd (o := HO.tup [V.ref t1, V.ref t2]) hT)
      have h1 := SwAt.same s7 f1
      have h2 := SwAt.same s7 f2
      refine ⟨T1, _, rfl, SqT.of upd_same, rfl, _, _, rfl, _, _, rfl, rfl, ?_⟩
      refine ⟨_, rfl, t1, _, 1, _, rfl, rfl, SqT.of h1, rfl, _, rfl, ?_⟩
      rw [g1, oV_some]
      refine (show (if false = true then _ else _) from ?_)
      rw [if_neg (by decide)]
      refine ⟨_, rfl, t2, _, 0, _, rfl, rfl, SqT.of h2, rfl, _, rfl, ?_⟩
      rw [g2, oV_some]
      refine (show (if false = true then _ else _) from ?_)
      rw [if_neg (by decide)]
      refine ⟨_, rfl, t1, _, 1, _, rfl, rfl, SqT.of h1, rfl, ?_⟩
      rw [g1]
      refine ⟨u, 1, rfl, rfl, ?_⟩
      refine ⟨_, rfl, t2, _, 0, _, rfl, rfl, SqT.of h2, rfl, ?_⟩
      rw [g2]
      refine ⟨u + 1, v, rfl, rfl, false, ?_, ?_⟩
      · show V.bl (decide (v ≤ u + 1)) = V.bl false
        rw [decide_eq_false (by omega)]
      refine (show (if false = true then _ else _) from ?_)
      rw [if_neg (by decide)]
      exact ⟨s7, _, _, rfl⟩
    · cases ea
  · subst eσ
    exact q H5 (z4.trans z)
end
end S8

end Ps8e
section PSM4
set_option maxHeartbeats 4000000
/-! numbers sorted by amount, by sorted triples -/
namespace Sm
open PySem
def kT (i : Int) : PyData := .tuple [.int (natI i).1, .int (natI i).2, .int i]
instance (i j : Int) : Decidable (natLe i j) := by unfold natLe; infer_instance
theorem nat_eq {i j : Int} (h1 : (natI i).1 = (natI j).1) (h2 : (natI i).2 = (natI j).2) : i = j := nat_anti (.inr ⟨h1, by omega⟩) (.inr ⟨h1.symm, by omega⟩)
theorem kT_lt (i j : Int) : PySem.W.dataLt (kT i) (kT j) = true ↔ ¬ natLe j i := by
  have a1 : PySem.W.alike (.int (natI i).1) (.int (natI j).1) = true := rfl
  have a2 : PySem.W.alike (.int (natI i).2) (.int (natI j).2) = true := rfl
  have a3 : PySem.W.alike (.int i) (.int j) = true := rfl
  have e0 : PyProof.Rows.lexLt PyProof.Rows.itemOrd (PySem.W.keyToksAll []) (PySem.W.keyToksAll []) = false := PyProof.Rows.lex_irrefl _
  unfold kT
  rw [PySem.W.dataLt_tuple, PySem.W.dataLt_cons a1, PySem.W.dataLt_cons a2, PySem.W.dataLt_cons a3, PySem.W.dataLt_int, PySem.W.dataLt_int, PySem.W.dataLt_int, e0]
  simp only [PyData.eqv, beq_iff_eq]
  by_cases h1 : (natI i).1 = (natI j).1
  · rw [if_pos h1]
    by_cases h2 : (natI i).2 = (natI j).2
    · have e := nat_eq h1 h2
      subst e
      rw [if_pos rfl, if_pos rfl]
      exact ⟨fun z => (nomatch z), fun z => absurd (show natLe i i from .inr ⟨rfl, Int.le_refl _⟩) z⟩
    · rw [if_neg h2, decide_eq_true_eq]
      unfold natLe
      omega
  · rw [if_neg h1, decide_eq_true_eq]
    unfold natLe
    omega
theorem kT_le : PySem.W.dataLe false (fun i : Int => kT i) = fun i j => decide (natLe i j) := by
  funext i j
  show (!PySem.W.dataLt (kT j) (kT i)) = _
  by_cases h : natLe i j
  · rw [decide_eq_true h, Bool.eq_false_iff.mpr fun z => (kT_lt j i).mp z h] <;> rfl
  · rw [decide_eq_false h, (kT_lt j i).mpr h] <;> rfl
/-- r is the first one of these numbers -/
def LeastI (is : List Int) (r : Option Int) : Prop := (is = [] ∧ r = none) ∨ ∃ w, r = some w ∧ w ∈ is ∧ ∀ u ∈ is, natLe w u
/-- a sorted list of the pairs of what there is and its key: the first one is the first -/
theorem sorted_first {α : Type} {xs : List (α × Int)} : ∃ ss : List (α × Int), ss.Perm xs ∧ ss.Pairwise (fun a b => natLe a.2 b.2) ∧ ((xs.map fun q => (q.1, kT q.2)).mergeSort (PySem.W.dataLe false Prod.snd)).map Prod.fst = ss.map Prod.fst := by
  refine ⟨xs.mergeSort fun a b => decide (natLe a.2 b.2), List.mergeSort_perm _ _, ?_, ?_⟩
  · refine (List.pairwise_mergeSort (fun a b c h1 h2 => ?_) (fun a b => ?_) _).imp fun {a b} h => of_decide_eq_true h
    · exact decide_eq_true (nat_trans (of_decide_eq_true h1) (of_decide_eq_true h2))
    · rw [Bool.or_eq_true]
      exact (nat_total a.2 b.2).imp decide_eq_true decide_eq_true
  · have e2 : PySem.W.dataLe false (fun q : α × Int => kT q.2) = fun a b => decide (natLe a.2 b.2) := by
      funext a b
      exact congrFun (congrFun kT_le a.2) b.2
    have e3 : (xs.map fun q => (q.1, kT q.2)).mergeSort (PySem.W.dataLe false Prod.snd) = (xs.mergeSort fun a b => decide (natLe a.2 b.2)).map fun q => (q.1, kT q.2) := by
      rw [← e2]
      exact (List.map_mergeSort (f := fun q : α × Int => (q.1, kT q.2)) (r := PySem.W.dataLe false fun q : α × Int => kT q.2) (s := PySem.W.dataLe false Prod.snd) (fun a _ b _ => rfl)).symm
    rw [e3, List.map_map]
    rfl
end Sm

end PSM4
section Ps8f
set_option maxHeartbeats 8000000
namespace S8
open PySem PySem.Spec L2 PyProof.Rows Sm
/-! ### the least of numbers, by amount -/
abbrev nLst : List Str := ["_law_numbers", "_law_ranked", "_law_number"]
theorem sc_least : FnScope nLst ["_law_numbers"] (defScope s_least) := ⟨rfl, rfl, rfl, by decide +kernel, rfl, by decide +kernel, by decide +kernel⟩
def spLst : Sp := fun vs H Q _ => ∃ (L : Addr) (is : List Int), vs = [.ref L] ∧ H L = some (.lst (is.map V.int)) ∧ is.length ≤ 100 ∧ ∀ r H', LeastI is r → Same H H' → Q (oV r) H'
def rAbs : List V → Hp → VK → Prop := fun xs H Q => ∃ i, xs = [.int i] ∧ Q (.int (if i < 0 then -i else i)) H
def rInt1 : List V → Hp → VK → Prop := fun xs H Q => (∃ i, xs = [.int i] ∧ Q (.int i) H) ∨ ∃ k, xs = [.bl k] ∧ Q (.int (if k then 1 else 0)) H
def TrAt (H : Hp) (t : Addr) (i : Int) : Prop := H t = some (.tup [.int (natI i).1, .int (natI i).2, .int i])
theorem dp_tr {K : PySem.W.Frag} {H : Hp} : ∀ {us : List Addr} {is : List Int}, Paired (TrAt H) us is → DpAll K H (us.map V.ref) (is.map kT)
  | _, _, .nil => .nil
  | _, _, .cons r t => .cons (.tup (SqT.of r) (.cons (.int _) (.cons (.int _) (.cons (.int _) .nil)))) (dp_tr t)
theorem lay_kTs : ∀ l : List Int, PyData.canLayAll0 (l.map kT) = true ∧ PyData.depthAll (l.map kT) ≤ 2
  | [] => ⟨rfl, by simp [PyData.depthAll]⟩
  | i :: l => by
    obtain ⟨a, b⟩ := lay_kTs l
    refine ⟨?_, ?_⟩
    · show (true && PyData.canLayAll0 (l.map kT)) = true
      rw [a] <;> rfl
    · simp only [List.map_cons, kT, PyData.depthAll, PyData.depth]
      omega
theorem shaped_kTs (l : List Int) : SeqAt.shaped (.list (l.map kT)) = true := by
  obtain ⟨a, b⟩ := lay_kTs l
  have h2 : PyData.depth (.list (l.map kT)) ≤ 64 := by
    simp only [PyData.depth]
    omega
  show (PyData.canLayAll0 (l.map kT) && decide (PyData.depth (.list (l.map kT)) ≤ 64)) = true
  rw [a, decide_eq_true h2] <;> rfl
theorem dp_of {K : PySem.W.Frag} {H : Hp} : ∀ {ss : List (V × Int)}, (∀ q ∈ ss, Dp K H q.1 (kT q.2)) → DpAll K H (ss.map Prod.fst) ((ss.map Prod.snd).map kT)
  | [], _ => .nil
  | q :: r, h => .cons (h q List.mem_cons_self) (dp_of fun p hp => h p (List.mem_cons_of_mem _ hp))
theorem as_cb1 {r : List V → Hp → VK → Prop} {t : TE} {i : Nat} {w : TS} {D : Ends} {σ : L2.St} {H : Hp} (h : t σ H fun x H1 => r [x] H1 fun y H2 => w D (σ.set i (some y)) H2) : tSeq (tAsg (tCB r (tCons t tNil)) (gName i)) w D σ H := h
section
variable {P : Program} {w : World} {K : PySem.W.Frag} {mg : Str → Option Value} {base : Heap} {f : Addr} {fd : FuncData}
theorem ok_least (F : FD K "_law_least" s_least f fd) (ts : mg "sorted" = none) (ta : mg "abs" = none) (ti : mg "int" = none) : FnOk P w K mg base CX0 1 f fd ["_law_numbers"] spLst := by
  refine F.ok sc_least (fun vs H Q E h => ?_) (fun cdv A outer s H vs Q E hr h => ?_)
  · obtain ⟨L, is, rfl, _⟩ := h
    rfl
  obtain ⟨L, is, rfl, hL, hl, q⟩ := h
  have hu := hr.units
  refine ⟨_, PSs.nox (pss_cons (ps_set (i := 1) sc_least.nd rfl (Or.inl rfl) (pe_callB (cr_sortedD (by exact hu)) (by rfl) ts (by decide +kernel) (pa_cons (pe_lc (own := [("_law_number", 2)]) (g := gName 2) (tt := tYes) (te := tTup (tCons (tCB rAbs (tCons (tVar 2) tNil)) (tCons (tCB rInt1 (tCons (tOp (rI0 fun i j => V.bl (decide (i < j))) (tVar 2) (tC (.int 0))) tNil)) (tCons (tVar 2) tNil)))) rfl sc_least.nd (pi_list (pv 0)) (blkOk_by (N := nLst) (sc := defScope s_least) (by decide +kernel))
        (fun _ _ _ _ _ => by exact pg_name (i := 2) sc_least.nd rfl (Or.inl rfl)) (fun _ _ _ _ _ => pts_nil)
        (fun _ _ _ _ _ => by exact pe_tup (pa_cons (pe_callB call_abs (by rfl) ta (by decide +kernel) (pa_cons (pv 2) pa_nil)) (pa_cons (pe_callTy call_int1 (by rfl) ti (by decide +kernel) (pa_cons (pe_cmpR op_lt (pv 2) pe_int (nomark _)) pa_nil)) (pa_cons (pv 2) pa_nil))))) pa_nil)))
    (pss_one (ps_ret (pe_ifExp (pt_cmpR (op_neD (by exact hu)) (pv 1) (pe_lst pa_nil) (nomark _)) (pe_ix ix_tup (pe_ix ix_list (pv 1) pe_int (fun _ _ => rfl)) pe_int (fun _ _ => rfl)) pe_non)))), ?_⟩
  refine ⟨_, rfl, L, rfl, ⟨_, SqL.of hL⟩, fun D hD => ?_⟩
  have nLD : L ≠ D := ne_of_none hL hD
  refine lc_list (xs := is.map V.int) (fun i H' => Bt D H H' ∧ ∃ us : List Addr, H' D = some (.lst (us.map V.ref)) ∧ us.length = i ∧ Paired (TrAt H') us (is.take i)) ⟨bt_upd, [], upd_same, rfl, .nil⟩ (fun i H' _ ⟨b, _⟩ => SqL.of (b _ _ nLD hL)) (fun i x H' hx ⟨bt, us, h1, h2, h3⟩ => ?_) fun H1 ⟨bt, us, h1, h2, h3⟩ => ?_
  · rw [List.getElem?_map] at hx
    cases ei : is[i]? with
    | none =>
      rw [ei] at hx
      cases hx
    | some z =>
      rw [ei] at hx
      cases (show V.int z = x from Option.some.inj hx)
      have il := (List.getElem?_eq_some_iff.mp ei).1
      refine ⟨rfl, ?_⟩
      simp only [tYes, ↓reduceIte]
      refine ⟨_, rfl, z, rfl, _, rfl, z, 0, rfl, rfl, .inr ⟨_, rfl, ?_⟩⟩
      have en : (if decide (z < 0) = true then (1 : Int) else 0) = (natI z).2 := by
        show _ = (if z < 0 then (1 : Int) else 0)
        by_cases hz : z < 0 <;> simp [hz]
      rw [en]
      refine ⟨_, rfl, by show 3 ≤ sizeLine; decide, fun u hu => ?_⟩
      have s2 := same_upd (o := HO.tup [.int (if z < 0 then -z else z), .int (natI z).2, .int z]) hu
      have hu1 : TrAt (upd H' u (.tup [.int (if z < 0 then -z else z), .int (natI z).2, .int z])) u z := upd_same
      have hD1 := s2 _ _ h1
      have pr1 := h3.mono fun t q e => (show TrAt (upd H' u (.tup [.int (if z < 0 then -z else z), .int (natI z).2, .int z])) t q from s2 _ _ e)
      have bt2 := bt.trans (Same.bt s2)
      refine ⟨us.map V.ref, hD1, by rw [List.length_map, h2]; exact Nat.lt_of_lt_of_le (show i < 100 by omega) (by decide), ?_⟩
      generalize upd H' u (.tup [.int (if z < 0 then -z else z), .int (natI z).2, .int z]) = H4 at hu1 hD1 pr1 bt2 ⊢
      have keep : ∀ c q, TrAt H4 c q → TrAt (upd H4 D (.lst (us.map V.ref ++ [.ref u]))) c q := fun c q e => by
        have n : c ≠ D := fun y => by
          unfold TrAt at e
          rw [y, hD1] at e
          cases e
        exact (upd_ne n).trans e
      refine ⟨bt2.trans bt_upd, us ++ [u], by rw [upd_same, List.map_append]; rfl, by rw [List.length_append, h2]; rfl, ?_⟩
      have et : is.take (i + 1) = is.take i ++ [z] := by
        rw [List.take_add_one, ei]
        rfl
      rw [et]
      exact (pr1.mono fun c q e => keep c q e).snoc (keep _ _ hu1)
  · rw [List.length_map, List.take_length] at h3
    rw [List.length_map] at h2
    have sm : Same H H1 := fun b o e => bt b o (ne_of_none e hD) e
    refine ⟨D, us.map V.ref, is.map kT, rfl, SqL.of h1, dp_tr h3, PySem.W.AllAlike.of fun p q => rfl, PySem.W.Sortable.tuples fun p => ⟨_, _, rfl⟩, fun d hd => ?_, fun S hS => ?_⟩
    · obtain ⟨p, _, rfl⟩ := List.mem_map.mp hd
      exact Nat.le_of_ble_eq_true rfl
    have ez : (us.map V.ref).zip (is.map kT) = ((us.map V.ref).zip is).map fun q => (q.1, kT q.2) := by
      rw [List.zip_map_right]
      rfl
    obtain ⟨ss, sp, sw, es⟩ := sorted_first (xs := (us.map V.ref).zip is)
    rw [ez, es]
    have s4 := same_upd (o := HO.lst (ss.map Prod.fst)) hS
    have hS1 : (upd H1 S (.lst (ss.map Prod.fst))) S = some (.lst (ss.map Prod.fst)) := upd_same
    have each : ∀ p ∈ ss, ∃ u, p.1 = V.ref u ∧ TrAt (upd H1 S (.lst (ss.map Prod.fst))) u p.2 ∧ p.2 ∈ is := fun p hp => by
      have hz := sp.mem_iff.mp hp
      have pz : Paired (fun (v : V) (i : Int) => ∃ u, v = V.ref u ∧ TrAt (upd H1 S (.lst (ss.map Prod.fst))) u i) (us.map V.ref) is := by
        have gen : ∀ {us : List Addr} {is : List Int}, Paired (TrAt H1) us is → Paired (fun (v : V) (i : Int) => ∃ u, v = V.ref u ∧ TrAt (upd H1 S (.lst (ss.map Prod.fst))) u i) (us.map V.ref) is := fun {us is} h => by
          induction h with
          | nil => exact .nil
          | cons r _ ih => exact .cons ⟨_, rfl, s4 _ _ r⟩ ih
        exact gen h3
      obtain ⟨u, e1, e2⟩ := paired_zip pz p hz
      exact ⟨u, e1, e2, (List.of_mem_zip hz).2⟩
    have mem : ∀ z ∈ is, ∃ p ∈ ss, p.2 = z := fun z hz => by
      have l1 : is.length ≤ (us.map V.ref).length := by rw [List.length_map, h2]; exact Nat.le_refl _
      have e1 : ((us.map V.ref).zip is).map Prod.snd = is := List.map_snd_zip l1
      rw [← e1] at hz
      obtain ⟨p, hp, rfl⟩ := List.mem_map.mp hz
      exact ⟨p, sp.mem_iff.mpr hp, rfl⟩
    generalize upd H1 S (.lst (ss.map Prod.fst)) = H2 at s4 hS1 each ⊢
    have sm2 := sm.trans s4
    refine ⟨_, rfl, Nat.zero_le _, fun Z hZ => ?_⟩
    have s5 := same_upd (o := HO.lst []) hZ
    have sm3 := sm2.trans s5
    refine ⟨.list ((ss.map Prod.snd).map kT), .list [], .lst (SqL.of (s5 _ _ hS1)) (dp_of fun p hp => ?_), .lst (SqL.of upd_same) .nil, shaped_kTs _, rfl, _, rfl, ?_⟩
    · obtain ⟨u, e1, e2, _⟩ := each p hp
      rw [e1]
      exact .tup (SqT.of (s5 _ _ e2)) (.cons (.int _) (.cons (.int _) (.cons (.int _) .nil)))
    cases ss with
    | nil =>
      have n0 : is = [] := by
        cases is with
        | nil => rfl
        | cons a r =>
          obtain ⟨p, hp, _⟩ := mem a List.mem_cons_self
          cases hp
      refine (show (if (!true) = true then _ else _) from ?_)
      rw [if_neg (by decide)]
      exact q none _ (.inl ⟨n0, rfl⟩) sm3
    | cons p r =>
      refine (show (if (!false) = true then _ else _) from ?_)
      rw [if_pos (by decide)]
      obtain ⟨u, e1, e2, e3⟩ := each p List.mem_cons_self
      refine ⟨_, rfl, S, _, 0, p.1, rfl, rfl, SqL.of (s5 _ _ hS1), atI_nat (j := 0) rfl, ?_⟩
      rw [e1]
      refine ⟨u, _, 2, _, rfl, rfl, SqT.of (s5 _ _ e2), rfl, ?_⟩
      refine q (some p.2) _ (.inr ⟨p.2, rfl, e3, fun z hz => ?_⟩) sm3
      obtain ⟨p', hp', rfl⟩ := mem z hz
      rcases List.mem_cons.mp hp' with rfl | h
      · exact .inr ⟨rfl, Int.le_refl _⟩
      · exact (List.pairwise_cons.mp sw).1 p' h
end
end S8

end Ps8f
section Ps8g
set_option maxHeartbeats 8000000
namespace S8
open PySem PySem.Spec L2 PyProof.Rows Sm
/-! ### a list in another order -/
abbrev nMix : List Str := ["_law_pot_here", "_law_given", "_law_left", "_law_mixed_here", "_law_one"]
theorem sc_mixed : FnScope nMix ["_law_pot_here", "_law_given"] (defScope s_mixed) := ⟨rfl, rfl, rfl, by decide +kernel, rfl, by decide +kernel, by decide +kernel⟩
theorem erase_perm : ∀ (as : List V) (k : Nat) (h : k < as.length), (as[k] :: as.eraseIdx k).Perm as
  | a :: as, 0, _ => List.Perm.refl _
  | a :: as, k + 1, h => (List.Perm.swap _ _ _).trans ((erase_perm as k (Nat.lt_of_succ_lt_succ h)).cons a)
def spMix : Sp := fun vs H Q _ => ∃ (p L : Addr) (xs : List V), vs = [.ref p, .ref L] ∧ PotAt H p ∧ L ≠ p ∧ H L = some (.lst xs) ∧ xs.length ≤ 100 ∧ ∀ (R : Addr) (ys : List V) (H' : Hp), ys.Perm xs → H' R = some (.lst ys) → H R = none → Bt p H H' → PotAt H' p → Q (.ref R) H'
section
variable {P : Program} {w : World} {K : PySem.W.Frag} {mg : Str → Option Value} {base : Heap} {f fD : Addr} {fd dD : FuncData}
theorem ok_mixed (F : FD K "_law_mixed" s_mixed f fd) (tl : mg "list" = none) (tn : mg "len" = none) (D : Kn P w K mg base 1 "_law_draw" fD dD ["_law_pot_here", "_law_many"] spDraw) : FnOk P w K mg base CX0 2 f fd ["_law_pot_here", "_law_given"] spMix := by
  refine F.ok sc_mixed (fun vs H Q E h => ?_) (fun cdv A outer s H vs Q E hr h => ?_)
  · obtain ⟨p, L, xs, rfl, _⟩ := h
    rfl
  obtain ⟨p, L, xs, rfl, hP, nL, hL, hl, q⟩ := h
  refine ⟨_, PSs.nox (pss_cons (ps_par (i := 2) (j := 3) (by rfl) sc_mixed.nd rfl rfl (by decide) rfl rfl (pa_cons (pe_callTy call_list_of (by rfl) tl (by decide +kernel) (pa_cons (pv 1) pa_nil)) (pa_cons (pe_lst pa_nil) pa_nil)) (by rfl))
    (pss_cons (ps_for .never (by rfl) (pi_list (pv 1)) (pg_name (i := 4) sc_mixed.nd rfl (Or.inl rfl))
      (pss_one (ps_expr (pe_bm PySem.F.plainAttrs_list PySem.F.slot_list_append PySem.F.type_list_append mt_append (pv 3) (pa_cons (pe_bm PySem.F.plainAttrs_list PySem.F.slot_list_pop PySem.F.type_list_pop mt_popAt (pv 2) (pa_cons (pe_call D.f hr rfl D.m D.k D.b .nil pass0 (pa_cons (pv 0) (pa_cons (pe_callB call_len_seq (by rfl) tn boot_len (pa_cons (pv 2) pa_nil)) pa_nil))) pa_nil)) pa_nil)))))
    (pss_one (ps_ret (pv 3))))), ?_⟩
  refine ⟨_, rfl, L, xs, rfl, .inl (SqL.of hL), fun A0 hA => ⟨Nat.zero_le _, fun B0 hB => ⟨_, _, rfl, ?_⟩⟩⟩
  have s1 := same_upd (o := HO.lst xs) hA
  have s2 := same_upd (o := HO.lst []) hB
  have hA2 := s2 A0 _ (upd_same (H := H) (a := A0) (o := HO.lst xs))
  have hB2 : (upd (upd H A0 (.lst xs)) B0 (.lst [])) B0 = some (.lst []) := upd_same
  have nAB : A0 ≠ B0 := ne_of_none (upd_same (H := H) (a := A0) (o := HO.lst xs)) hB
  have nA : A0 ≠ p := pot_ne hP hA
  have nB : B0 ≠ p := pot_ne (hP.bt s1) hB
  have hBH : H B0 = none := Same.free s1 hB
  have z := s1.trans s2
  have hP2 := hP.bt z
  generalize upd (upd H A0 (.lst xs)) B0 (.lst []) = H2 at s2 hA2 hB2 z hP2 ⊢
  refine normS (σ' := [some (.ref p), some (.ref L), some (.ref A0), some (.ref B0), none]) rfl ?_
  refine ⟨_, rfl, L, rfl, ⟨_, SqL.of (z _ _ hL)⟩, ?_⟩
  refine for_list (K := K) (a := L) (xs := xs) (fun i σ' H' => Bt p H H' ∧ PotAt H' p ∧ (∃ y : Option V, σ' = [some (.ref p), some (.ref L), some (.ref A0), some (.ref B0), y]) ∧ ∃ as bs : List V, H' A0 = some (.lst as) ∧ H' B0 = some (.lst bs) ∧ (as ++ bs).Perm xs ∧ as.length + i = xs.length)
    ⟨Same.bt z, hP2, ⟨none, rfl⟩, xs, [], hA2, hB2, by rw [List.append_nil], rfl⟩ (fun i σ' H' _ ⟨b, _⟩ => SqL.of (b _ _ nL hL)) (fun i x σ' H' hx ⟨bt, hP', ⟨y, eσ⟩, as, bs, h1, h2, pm, le⟩ => ?_) (fun σ' H' ⟨bt, hP', ⟨y, eσ⟩, as, bs, h1, h2, pm, le⟩ => ?_)
  · subst eσ
    have il := (List.getElem?_eq_some_iff.mp hx).1
    have pl := pm.length_eq
    rw [List.length_append] at pl
    refine ⟨_, rfl, .inl ⟨rfl, _, SqL.of h2⟩, _, rfl, .inl ⟨rfl, _, SqL.of h1⟩, _, rfl, _, rfl, A0, as, rfl, .inl (SqL.of h1), ?_⟩
    refine ⟨p, as.length, rfl, hP', by omega, by omega, fun d H3 d0 d1 b3 hP3 => ?_⟩
    have h13 := b3 _ _ nA h1
    have h23 := b3 _ _ nB h2
    obtain ⟨k, rfl⟩ : ∃ k : Nat, d = k := ⟨d.toNat, by omega⟩
    have kl : k < as.length := by omega
    refine ⟨A0, as, k, k, as[k], rfl, rfl, h13, by omega, by omega, ?_, List.getElem?_eq_getElem kl, ?_⟩
    · first | exact seqIndex_of (by omega) (by omega) | exact PyProof.seqIndex_of (by omega) (by omega)
    · refine ⟨B0, bs, as[k], rfl, rfl, (upd_ne nAB.symm).trans h23, by rw [sizeLine_eq]; omega, ?_⟩
      obtain ⟨u, v, ePt, uv⟩ := hP3
      have b4 : Bt p H (upd (upd H3 A0 (.lst (as.eraseIdx k))) B0 (.lst (bs ++ [as[k]]))) := fun c o n e => by
        rw [upd_ne (ne_of_none e hBH), upd_ne (ne_of_none e hA)]
        exact b3 _ _ n (bt _ _ n e)
      refine ⟨b4, ⟨u, v, ?_, uv⟩, ⟨some x, rfl⟩, as.eraseIdx k, bs ++ [as[k]], ?_, upd_same, ?_, ?_⟩
      · rw [upd_ne nB.symm, upd_ne nA.symm]
        exact ePt
      · rw [upd_ne nAB]
        exact upd_same
      · refine List.Perm.trans ?_ pm
        refine List.Perm.trans ?_ ((erase_perm as k kl).append_right bs)
        rw [← List.append_assoc]
        exact List.perm_append_comm
      · rw [List.length_eraseIdx_of_lt kl]
        omega
  · subst eσ
    have a0 : as = [] := List.length_eq_zero_iff.mp (by omega)
    subst a0
    exact ⟨_, rfl, q B0 bs H' pm h2 hBH bt hP'⟩
end
end S8

end Ps8g
section Ps8h
set_option maxHeartbeats 8000000
namespace S8
open PySem PySem.Spec L2 PyProof.Rows Sm
/-! ### what is in no set -/
theorem sc_odd : FnScope ["_law_pot_here"] ["_law_pot_here"] (defScope s_odd) := ⟨rfl, rfl, rfl, by decide +kernel, rfl, by decide +kernel, by decide +kernel⟩
def OddV (K : PySem.W.Frag) (H : Hp) (x : V) : Prop := ValV K H x "number" false ∧ ValV K H x "text" false
theorem OddV.same {K : PySem.W.Frag} {H H' : Hp} {x : V} (s : Same H H') (h : OddV K H x) : OddV K H' x := ⟨h.1.same s, h.2.same s⟩
/-- no built-in type stands under the class -/
structure NoB (K : PySem.W.Frag) (C : Addr) : Prop where
  i : PySem.W.kitOne K (.ref C) (.type "int") = some false
  b : PySem.W.kitOne K (.ref C) (.type "bool") = some false
  s : PySem.W.kitOne K (.ref C) (.type "str") = some false
  l : PySem.W.kitOne K (.ref C) (.type "list") = some false
theorem notW {K : PySem.W.Frag} {H : Hp} {x : V} (a : AsStr K H x) (l : ∀ z, x = .str z → z.length ≤ sizeLine) (e : isWd x 12 = false) : ValV K H x "text" false := e ▸ .txt a l
theorem odd_ty {K : PySem.W.Frag} {H : Hp} {x : V} {t : Value} {b1 b2 : Bool} (h : TyX K H x t) (a : PySem.W.kitOne K t (.type "int") = some b1) (b : PySem.W.kitOne K t (.type "bool") = some b2) (e : (b1 && !b2) = false) (s : PySem.W.kitOne K t (.type "str") = some (strB x)) (l : ∀ z, x = .str z → z.length ≤ sizeLine) (w : isWd x 12 = false) : OddV K H x :=
  ⟨e ▸ .num ⟨t, b1, b2, h, a, b, rfl⟩, notW ⟨t, h, s⟩ l w⟩
theorem odd_all {K : PySem.W.Frag} {H : Hp} {C CM m t t1 l g dx : Addr} {fs : List (Str × V)} {x : V} (O : TcO K C CM "number") (B : NoB K C) (hm : H m = some (.ins C dx fs)) (ht : H t = some (.tup [])) (ht1 : H t1 = some (.tup [.int 0])) (hl : H l = some (.lst [.str "a"])) (hg : H g = some (.dK []))
    (h : x ∈ [V.bl true, .bl false, .non, .str "", .str "A", .str "a b", .str "abcdefghijklm", .ref t, .ref t1, .ref l, .ref g, .ref m]) : OddV K H x := by
  have big : 100 ≤ sizeLine := by decide
  have no : ∀ {a : Addr} (z : Str), V.ref a = .str z → z.length ≤ sizeLine := fun z e => nomatch e
  have st : ∀ (u z : Str), u.length ≤ 100 → V.str u = .str z → z.length ≤ sizeLine := fun u z hu e => by
    cases e
    exact Nat.le_trans hu big
  have s1 : PySem.W.kitOne K (.type "str") (.type "int") = some false := kit_ty (show kitB "str" "int" = some false by decide +kernel)
  have s2 : PySem.W.kitOne K (.type "str") (.type "bool") = some false := kit_ty (show kitB "str" "bool" = some false by decide +kernel)
  have s3 : PySem.W.kitOne K (.type "str") (.type "str") = some true := kit_ty (show kitB "str" "str" = some true by decide +kernel)
  have bb : ∀ b : Bool, OddV K H (.bl b) := fun b => odd_ty (b1 := true) (b2 := true) (.base (.bl b)) (kit_ty (show kitB "bool" "int" = some true by decide +kernel)) (kit_ty (show kitB "bool" "bool" = some true by decide +kernel)) rfl (kit_ty (show kitB "bool" "str" = some false by decide +kernel)) (fun z e => nomatch e) rfl
  have ss : ∀ u : Str, u.length ≤ 100 → isWd (.str u) 12 = false → OddV K H (.str u) := fun u hu e => odd_ty (b1 := false) (b2 := false) (.base (.str u)) s1 s2 rfl s3 (fun z => st u z hu) e
  simp only [List.mem_cons, List.not_mem_nil, or_false] at h
  rcases h with rfl | rfl | rfl | rfl | rfl | rfl | rfl | rfl | rfl | rfl | rfl | rfl
  · exact bb true
  · exact bb false
  · exact odd_ty (b1 := false) (b2 := false) (.base .non) (kit_ty (show kitB "NoneType" "int" = some false by decide +kernel)) (kit_ty (show kitB "NoneType" "bool" = some false by decide +kernel)) rfl (kit_ty (show kitB "NoneType" "str" = some false by decide +kernel)) (fun z e => nomatch e) rfl
  · exact ss _ (by decide +kernel) (by decide +kernel)
  · exact ss _ (by decide +kernel) (by decide +kernel)
  · exact ss _ (by decide +kernel) (by decide +kernel)
  · exact ss _ (by decide +kernel) (by decide +kernel)
  · exact odd_ty (b1 := false) (b2 := false) (.base (.tup ht)) (kit_ty (show kitB "tuple" "int" = some false by decide +kernel)) (kit_ty (show kitB "tuple" "bool" = some false by decide +kernel)) rfl (kit_ty (show kitB "tuple" "str" = some false by decide +kernel)) no rfl
  · exact odd_ty (b1 := false) (b2 := false) (.base (.tup ht1)) (kit_ty (show kitB "tuple" "int" = some false by decide +kernel)) (kit_ty (show kitB "tuple" "bool" = some false by decide +kernel)) rfl (kit_ty (show kitB "tuple" "str" = some false by decide +kernel)) no rfl
  · exact odd_ty (b1 := false) (b2 := false) (.base (.lst hl)) (kit_ty (show kitB "list" "int" = some false by decide +kernel)) (kit_ty (show kitB "list" "bool" = some false by decide +kernel)) rfl (kit_ty (show kitB "list" "str" = some false by decide +kernel)) no rfl
  · exact odd_ty (b1 := false) (b2 := false) (.base (.dK hg)) (kit_ty (show kitB "dict" "int" = some false by decide +kernel)) (kit_ty (show kitB "dict" "bool" = some false by decide +kernel)) rfl (kit_ty (show kitB "dict" "str" = some false by decide +kernel)) no rfl
  · exact odd_ty (b1 := false) (b2 := false) (O.ty hm) B.i B.b rfl B.s no rfl
/-- the class methods -/
structure CMo (P : Program) (w : World) (K : PySem.W.Frag) (mg : Str → Option Value) (base : Heap) (C : Addr) (mc : Value) (x : Str) (p f : Addr) (sp : Sp) : Prop where
  r : ClX.CRead K C mc
  c : ClX.CMet K C mc x p f
  g : FnR P w K mg base CX0 7 f sp
def spOfN (C : Addr) : Sp := fun vs H Q E => ∃ ws rest, vs = ws ++ rest ∧ ws.length = ["cls"].length ∧ rest.length ≤ sizeLine ∧ ∀ p, H p = Option.none → spOfN0 C (ws ++ [V.ref p]) (upd H p (.tup rest)) Q E
def spOfT (C : Addr) : Sp := fun vs H Q E => ∃ ws rest, vs = ws ++ rest ∧ ws.length = ["cls"].length ∧ rest.length ≤ sizeLine ∧ ∀ p, H p = Option.none → spOfT0 C (ws ++ [V.ref p]) (upd H p (.tup rest)) Q E
theorem of_is {C : Addr} {is : List Int} {vs : List V} {H : Hp} {Q : VK} {E : XK} (ev : vs = .ref C :: is.map V.int) (hl : is.length ≤ 1000) (q : NewN C (is.map fun i => (some i, some i)) H Q) : spOfN C vs H Q E :=
  ⟨[.ref C], is.map V.int, ev, rfl, by rw [List.length_map]; exact Nat.le_trans hl (by decide), fun p hp => ⟨p, is, rfl, upd_same, hl, fun m n H' a b c d e => q m n H' a b c d ((same_upd hp).trans e)⟩⟩
theorem of_none {C : Addr} {H : Hp} {Q : VK} {E : XK} (q : NewT C [] false H Q) : spOfT C [.ref C] H Q E :=
  ⟨[.ref C], [], rfl, rfl, Nat.zero_le _, fun p hp => ⟨p, rfl, upd_same, fun m n H' a b c d e => q m n H' a b c d ((same_upd hp).trans e)⟩⟩
def spOdd (K : PySem.W.Frag) : Sp := fun vs H Q _ => ∃ (p : Addr), vs = [.ref p] ∧ PotAt H p ∧ ∀ x H', OddV K H' x → Bt p H H' → PotAt H' p → Q x H'
section
variable {P : Program} {w : World} {K : PySem.W.Frag} {mg : Str → Option Value} {base : Heap} {f fP C CM pO fO : Addr} {fd dP : FuncData} {mc : Value}
theorem NSet.ins {C : Addr} {H : Hp} {m : Addr} {n : List St2} (h : NSet C H m n) : ∃ dx fs, H m = some (.ins C dx fs) := by
  obtain ⟨dx, u, a, _⟩ := h
  exact ⟨dx, _, a⟩
theorem ok_odd (F : FD K "_law_odd" s_odd f fd) (O : TcO K C CM "number") (B : NoB K C) (PK : Kn P w K mg base 2 "_law_pick" fP dP ["_law_pot_here", "_law_some"] (spPick K)) (mN : mg "Numbers" = some (.ref C)) (CO : CMo P w K mg base C mc "of" pO fO (spOfN C)) : FnOk P w K mg base CX0 8 f fd ["_law_pot_here"] (spOdd K) := by
  refine F.ok sc_odd (fun vs H Q E h => ?_) (fun cdv A outer s H vs Q E hr h => ?_)
  · obtain ⟨p, rfl, _⟩ := h
    rfl
  obtain ⟨p, rfl, hP, q⟩ := h
  refine ⟨_, PSs.nox (pss_one (ps_ret (pe_call PK.f (hr.mono (by decide)) rfl PK.m PK.k PK.b .nil pass0 (pa_cons (pv 0) (pa_cons (pe_lst (pa_cons pe_bl (pa_cons pe_bl (pa_cons pe_non (pa_cons pe_str (pa_cons pe_str (pa_cons pe_str (pa_cons pe_str (pa_cons (pe_tup pa_nil) (pa_cons (pe_tup (pa_cons pe_int pa_nil)) (pa_cons (pe_lst (pa_cons pe_str pa_nil)) (pa_cons pe_dnewK (pa_cons (ClX.pe_cmeth (pe_glob (v := .ref C) rfl mN rfl) CO.r CO.c CO.g hr pass0 (pa_cons pe_int pa_nil)) pa_nil))))))))))))) pa_nil))))), ?_⟩
  refine ⟨_, rfl, Nat.zero_le _, fun t0 ht0 => ⟨by show 1 ≤ sizeLine; decide, fun t1 ht1 => ⟨by show 1 ≤ sizeLine; decide, fun l0 hl0 => fun d0 hd0 => ⟨rfl, of_is (is := [0]) rfl (by decide) fun m n H1 hm _ _ _ s1 => ⟨by show 12 ≤ sizeLine; decide, fun L hL => ?_⟩⟩⟩⟩⟩
  have a0 : (upd H t0 (.tup [])) t0 = some (.tup []) := upd_same
  have z0 := same_upd (o := HO.tup []) ht0
  generalize upd H t0 (.tup []) = G0 at a0 z0 ht1 hl0 hd0 s1
  have a1 : (upd G0 t1 (.tup [V.int 0])) t1 = some (.tup [V.int 0]) := upd_same
  have z1 := same_upd (o := HO.tup [V.int 0]) ht1
  generalize upd G0 t1 (.tup [V.int 0]) = G1 at a1 z1 hl0 hd0 s1
  have a2 : (upd G1 l0 (.lst [V.str "a"])) l0 = some (.lst [V.str "a"]) := upd_same
  have z2 := same_upd (o := HO.lst [V.str "a"]) hl0
  generalize upd G1 l0 (.lst [V.str "a"]) = G2 at a2 z2 hd0 s1
  have a3 : (upd G2 d0 (.dK [])) d0 = some (.dK []) := upd_same
  have z3 := same_upd (o := HO.dK []) hd0
  generalize upd G2 d0 (.dK []) = G3 at a3 z3 s1
  have hL1 : (upd H1 L (.lst [V.bl true, .bl false, .non, .str "", .str "A", .str "a b", .str "abcdefghijklm", .ref t0, .ref t1, .ref l0, .ref d0, .ref m])) L = some (.lst [V.bl true, .bl false, .non, .str "", .str "A", .str "a b", .str "abcdefghijklm", .ref t0, .ref t1, .ref l0, .ref d0, .ref m]) := upd_same
  have z4 := same_upd (o := HO.lst [V.bl true, .bl false, .non, .str "", .str "A", .str "a b", .str "abcdefghijklm", .ref t0, .ref t1, .ref l0, .ref d0, .ref m]) hL
  have nL : L ≠ p := pot_ne (hP.bt ((((z0.trans z1).trans z2).trans z3).trans s1)) hL
  obtain ⟨dx, fs, hmi⟩ := hm.ins
  generalize upd H1 L (.lst [V.bl true, .bl false, .non, .str "", .str "A", .str "a b", .str "abcdefghijklm", .ref t0, .ref t1, .ref l0, .ref d0, .ref m]) = H2 at hL1 z4 ⊢
  have zz := ((((z0.trans z1).trans z2).trans z3).trans s1).trans z4
  have w0 := ((((z1.trans z2).trans z3).trans s1).trans z4) _ _ a0
  have w1 := (((z2.trans z3).trans s1).trans z4) _ _ a1
  have w2 := ((z3.trans s1).trans z4) _ _ a2
  have w3 := (s1.trans z4) _ _ a3
  have wm := z4 _ _ hmi
  have hP2 := hP.bt zz
  refine ⟨p, L, _, rfl, hP2, nL, hL1, (show 0 < 12 by decide), (show 12 ≤ 1000 by decide), fun i v H3 hi b hP3 => ?_⟩
  have np : ∀ {c : Addr} {o : HO}, H2 c = some o → (∀ x y : Int, o ≠ .lst [.int x, .int y]) → H3 c = some o := fun {c o} e n => b _ _ (fun z => by
    obtain ⟨x, y, e', _⟩ := hP2
    rw [z, e'] at e
    exact n x y (Option.some.inj e).symm) e
  exact q v H3 (odd_all O B (np wm fun x y e => nomatch e) (np w0 fun x y e => nomatch e) (np w1 fun x y e => nomatch e) (np w2 fun x y e => nomatch e) (np w3 fun x y e => nomatch e) (List.mem_of_getElem? hi)) ((Same.bt zz).trans b) hP3
end
end S8

end Ps8h
section PSM5
set_option maxHeartbeats 4000000
/-! stretches: edges of what was merged, amounts, the first one -/
namespace Sm
theorem asc_tri : ∀ {n : List St2}, n.Pairwise gapS → ∀ {p q : St2}, p ∈ n → q ∈ n → p = q ∨ gapS p q ∨ gapS q p
  | a :: n, h, p, q, hp, hq => by
    obtain ⟨h1, h2⟩ := List.pairwise_cons.mp h
    rcases List.mem_cons.mp hp with e | hp1
    · rcases List.mem_cons.mp hq with e2 | hq1
      · exact .inl (e.trans e2.symm)
      · exact .inr (.inl (e ▸ h1 q hq1))
    · rcases List.mem_cons.mp hq with e2 | hq1
      · exact .inr (.inr (e2 ▸ h1 p hp1))
      · exact asc_tri h2 hp1 hq1
theorem high_in {p : St2} {x : Int} (h : okS p) (hx : p.2 = some x) : inS p x = true :=
  inS_iff.mpr ⟨fun y e => h y x e hx, fun y e => (by rw [hx] at e; cases e; exact Int.le_refl _)⟩
theorem asc_edge1 {n l : List St2} (ha : ascS n) (hv : ∀ v, memL n v = memL l v) {p : St2} (hp : p ∈ n) {x : Int} (hx : p.1 = some x) : ∃ q ∈ l, q.1 = some x := by
  have okp := ha.1 p hp
  have m1 : memL l x = true := by
    rw [← hv]
    exact memL_iff.mpr ⟨p, hp, low_in okp hx⟩
  have m0 : ∀ q ∈ l, inS q (x - 1) = false := fun q hq => by
    cases e : inS q (x - 1) with
    | false => rfl
    | true =>
      have m : memL n (x - 1) = true := by
        rw [hv]
        exact memL_iff.mpr ⟨q, hq, e⟩
      obtain ⟨r, hr, hi⟩ := memL_iff.mp m
      obtain ⟨i1, i2⟩ := inS_iff.mp hi
      rcases asc_tri ha.2 hp hr with rfl | ⟨y, z, e1, e2, l1⟩ | ⟨y, z, e1, e2, l1⟩
      · have := i1 x hx
        omega
      · have a1 := okp x y hx e1
        have a2 := i1 z e2
        omega
      · rw [hx] at e2
        cases e2
        have := i2 y e1
        omega
  obtain ⟨q, hq, hi⟩ := memL_iff.mp m1
  obtain ⟨i1, i2⟩ := inS_iff.mp hi
  refine ⟨q, hq, ?_⟩
  have no := m0 q hq
  cases e : q.1 with
  | none =>
    have : inS q (x - 1) = true := inS_iff.mpr ⟨fun y e' => (by rw [e] at e'; cases e'), fun y e' => by have := i2 y e'; omega⟩
    rw [no] at this
    cases this
  | some z =>
    have h1 := i1 z e
    by_cases h : z ≤ x - 1
    · have : inS q (x - 1) = true := inS_iff.mpr ⟨fun y e' => (by rw [e] at e'; cases e'; exact h), fun y e' => by have := i2 y e'; omega⟩
      rw [no] at this
      cases this
    · have : z = x := by omega
      rw [this]
theorem asc_edge2 {n l : List St2} (ha : ascS n) (hv : ∀ v, memL n v = memL l v) {p : St2} (hp : p ∈ n) {x : Int} (hx : p.2 = some x) : ∃ q ∈ l, q.2 = some x := by
  have okp := ha.1 p hp
  have m1 : memL l x = true := by
    rw [← hv]
    exact memL_iff.mpr ⟨p, hp, high_in okp hx⟩
  have m0 : ∀ q ∈ l, inS q (x + 1) = false := fun q hq => by
    cases e : inS q (x + 1) with
    | false => rfl
    | true =>
      have m : memL n (x + 1) = true := by
        rw [hv]
        exact memL_iff.mpr ⟨q, hq, e⟩
      obtain ⟨r, hr, hi⟩ := memL_iff.mp m
      obtain ⟨i1, i2⟩ := inS_iff.mp hi
      rcases asc_tri ha.2 hp hr with rfl | ⟨y, z, e1, e2, l1⟩ | ⟨y, z, e1, e2, l1⟩
      · have := i2 x hx
        omega
      · rw [hx] at e1
        cases e1
        have := i1 z e2
        omega
      · have a1 := okp z x e2 hx
        have a2 := i2 y e1
        omega
  obtain ⟨q, hq, hi⟩ := memL_iff.mp m1
  obtain ⟨i1, i2⟩ := inS_iff.mp hi
  refine ⟨q, hq, ?_⟩
  have no := m0 q hq
  cases e : q.2 with
  | none =>
    have : inS q (x + 1) = true := inS_iff.mpr ⟨fun y e' => (by have := i1 y e'; omega), fun y e' => by rw [e] at e'; cases e'⟩
    rw [no] at this
    cases this
  | some z =>
    have h1 := i2 z e
    by_cases h : x + 1 ≤ z
    · have : inS q (x + 1) = true := inS_iff.mpr ⟨fun y e' => (by have := i1 y e'; omega), fun y e' => by rw [e] at e'; cases e'; exact h⟩
      rw [no] at this
      cases this
    · have : z = x := by omega
      rw [this]
/-- the bounds lie within B of 0 -/
def BdS (B : Nat) (p : St2) : Prop := (∀ x, p.1 = some x → x.natAbs ≤ B) ∧ ∀ x, p.2 = some x → x.natAbs ≤ B
theorem asc_bd {B : Nat} {n l : List St2} (ha : ascS n) (hv : ∀ v, memL n v = memL l v) (hb : ∀ p ∈ l, BdS B p) : ∀ p ∈ n, BdS B p := fun p hp =>
  ⟨fun x hx => by
    obtain ⟨q, hq, e⟩ := asc_edge1 ha hv hp hx
    exact (hb q hq).1 x e, fun x hx => by
    obtain ⟨q, hq, e⟩ := asc_edge2 ha hv hp hx
    exact (hb q hq).2 x e⟩
theorem cnt_some {n : List St2} {c : Int} (h : cntS n = some c) : (∀ p ∈ n, p.1 ≠ none ∧ p.2 ≠ none) ∧ c = (n.map fun p : St2 => (p.2.getD 0) - (p.1.getD 0) + 1).sum := by
  unfold cntS at h
  split at h
  · cases h
  · rename_i e
    refine ⟨fun p hp => ?_, (Option.some.inj h).symm⟩
    have := List.any_eq_false.mp (Bool.eq_false_iff.mpr e) p hp
    rw [Bool.or_eq_true, decide_eq_true_iff, decide_eq_true_iff] at this
    exact ⟨fun z => this (.inl z), fun z => this (.inr z)⟩
theorem cnt_bd {B : Nat} : ∀ {n : List St2}, (∀ p ∈ n, BdS B p) → ((n.map fun p : St2 => (p.2.getD 0) - (p.1.getD 0) + 1).sum).natAbs ≤ n.length * (2 * B + 1)
  | [], _ => Nat.zero_le _
  | p :: n, h => by
    have ih := cnt_bd fun q hq => h q (List.mem_cons_of_mem _ hq)
    obtain ⟨h1, h2⟩ := h p List.mem_cons_self
    have e1 : (p.1.getD 0).natAbs ≤ B := by
      cases e : p.1 with
      | none => exact Nat.zero_le _
      | some x => exact h1 x e
    have e2 : (p.2.getD 0).natAbs ≤ B := by
      cases e : p.2 with
      | none => exact Nat.zero_le _
      | some x => exact h2 x e
    rw [List.map_cons, List.sum_cons, List.length_cons, Nat.add_mul, Nat.one_mul]
    generalize n.length * (2 * B + 1) = M at ih ⊢
    omega
theorem cnt_pos : ∀ {n : List St2}, (∀ p ∈ n, okS p) → (∀ p ∈ n, p.1 ≠ none ∧ p.2 ≠ none) → (n.length : Int) ≤ (n.map fun p : St2 => (p.2.getD 0) - (p.1.getD 0) + 1).sum
  | [], _, _ => Int.le_refl _
  | p :: n, h, k => by
    have ih := cnt_pos (fun q hq => h q (List.mem_cons_of_mem _ hq)) fun q hq => k q (List.mem_cons_of_mem _ hq)
    have o := h p List.mem_cons_self
    obtain ⟨k1, k2⟩ := k p List.mem_cons_self
    obtain ⟨a, b⟩ := p
    cases a with
    | none => exact absurd rfl k1
    | some x =>
      cases b with
      | none => exact absurd rfl k2
      | some y =>
        have := o x y rfl rfl
        rw [List.map_cons, List.sum_cons, List.length_cons]
        show ((n.length + 1 : Nat) : Int) ≤ (y - x + 1) + _
        omega
theorem cnt_zero {n : List St2} (h : ∀ p ∈ n, okS p) : decide (cntS n = some 0) = decide (n = []) := by
  rw [decide_eq_decide]
  constructor
  · intro e
    obtain ⟨k, s⟩ := cnt_some e
    have := cnt_pos h k
    have l0 : n.length = 0 := by omega
    exact List.length_eq_zero_iff.mp l0
  · rintro rfl
    rfl
theorem least_same {n l : List St2} {is : List Int} {r r' : Option Int} (ha : ascS n) (hv : ∀ v, memL n v = memL l v) (hp : ∀ k, k ∈ is ↔ (memL l k = true ∧ (k = 0 ∨ (∃ p ∈ l, p.1 = some k ∨ p.2 = some k) ∨ k ∈ is)))
    (h1 : LeastOf n r) (h2 : LeastI is r') : r = r' := by
  rcases h1 with ⟨rfl, rfl⟩ | ⟨w, rfl, mw, lw, ew⟩
  · rcases h2 with ⟨_, rfl⟩ | ⟨w', rfl, hw', _⟩
    · rfl
    · have := ((hp w').mp hw').1
      rw [← hv] at this
      cases this
  · have wi : w ∈ is := by
      refine (hp w).mpr ⟨by rw [← hv]; exact mw, ?_⟩
      rcases ew with e | ⟨p, hpn, e | e⟩
      · exact .inl e
      · obtain ⟨q, hq, e'⟩ := asc_edge1 ha hv hpn e
        exact .inr (.inl ⟨q, hq, .inl e'⟩)
      · obtain ⟨q, hq, e'⟩ := asc_edge2 ha hv hpn e
        exact .inr (.inl ⟨q, hq, .inr e'⟩)
    rcases h2 with ⟨e, _⟩ | ⟨w', rfl, hw', lw'⟩
    · rw [e] at wi
      cases wi
    · have m' := ((hp w').mp hw').1
      rw [← hv] at m'
      rw [nat_anti (lw w' m') (lw' w wi)]
end Sm

end PSM5
section Ps8i
set_option maxHeartbeats 8000000
namespace S8
open PySem PySem.Spec L2 PyProof.Rows Sm
/-! ### what the law's own defs rest on -/
theorem cut_take (xs : List V) {d : Int} (h : 0 ≤ d) : cutV xs none (some d) = xs.take d.toNat := by
  have e : HT.sIx xs.length 0 none = 0 := by
    unfold HT.sIx
    simp
  have e2 : HT.sIx xs.length xs.length (some d) = min d.toNat xs.length := by
    unfold HT.sIx
    simp
    omega
  unfold cutV
  rw [e, e2, List.drop_zero, Nat.sub_zero]
  by_cases c : d.toNat ≤ xs.length
  · rw [Nat.min_eq_left c]
  · rw [Nat.min_eq_right (by omega), List.take_length, List.take_of_length_le (by omega)]
theorem paired_app {α β : Type} {F : α → β → Prop} : ∀ {a c : List α} {b d : List β}, Paired F a b → Paired F c d → Paired F (a ++ c) (b ++ d)
  | _, _, _, _, .nil, h => h
  | _, _, _, _, .cons r t, h => .cons r (paired_app t h)
theorem paired_take {α β : Type} {F : α → β → Prop} : ∀ {xs : List α} {ys : List β} (n : Nat), Paired F xs ys → Paired F (xs.take n) (ys.take n)
  | _, _, 0, _ => .nil
  | _, _, _ + 1, .nil => .nil
  | _, _, n + 1, .cons r t => .cons r (paired_take n t)
theorem perm_paired {β : Type} {F : Addr → β → Prop} {ys xs : List V} (h : ys.Perm xs) : ∀ {ts : List Addr} {l : List β}, xs = ts.map V.ref → Paired F ts l → ∃ ts' l', ys = ts'.map V.ref ∧ l'.Perm l ∧ Paired F ts' l' := by
  induction h with
  | nil =>
    intro ts l e pr
    cases pr with
    | nil => exact ⟨[], [], rfl, .nil, .nil⟩
    | cons r t => cases e
  | cons x _ ih =>
    intro ts l e pr
    cases pr with
    | nil => cases e
    | cons r t =>
      rw [List.map_cons] at e
      obtain ⟨e1, e2⟩ := List.cons.inj e
      obtain ⟨ts', l', e3, p', pr'⟩ := ih e2 t
      exact ⟨_ :: ts', _ :: l', by rw [e1, e3, List.map_cons], p'.cons _, .cons r pr'⟩
  | swap x y zs =>
    intro ts l e pr
    cases pr with
    | nil => cases e
    | cons r t =>
      cases t with
      | nil =>
        rw [List.map_cons] at e
        cases (List.cons.inj e).2
      | cons r2 t =>
        rw [List.map_cons, List.map_cons] at e
        obtain ⟨e1, e2⟩ := List.cons.inj e
        obtain ⟨e3, e4⟩ := List.cons.inj e2
        exact ⟨_ :: _ :: _, _ :: _ :: _, by rw [e1, e3, e4]; rfl, .swap _ _ _, .cons r2 (.cons r t)⟩
  | trans _ _ ih1 ih2 =>
    intro ts l e pr
    obtain ⟨t2, l2, e2, p2, pr2⟩ := ih2 e pr
    obtain ⟨t1, l1, e1, p1, pr1⟩ := ih1 e2 pr2
    exact ⟨t1, l1, e1, p1.trans p2, pr1⟩
theorem memL_more {l l' : List St2} (h : l'.Perm l) (k : Nat) (v : Int) : memL (l' ++ l.take k) v = memL l v := by
  rw [memL_append, memL_perm h]
  cases e : memL l v with
  | true => rfl
  | false =>
    rw [Bool.false_or]
    cases e2 : memL (l.take k) v with
    | false => rfl
    | true =>
      obtain ⟨p, hp, hi⟩ := memL_iff.mp e2
      have : memL l v = true := memL_iff.mpr ⟨p, List.mem_of_mem_take hp, hi⟩
      rw [e] at this
      cases this
/-! a comprehension over a list -/
abbrev LcW (J : It) (g : TG) (tt : TT) (te : TE) (vs : List Nat) (σ : L2.St) (H1 : Hp) (D : Addr) (Qd : Hp → Prop) : Prop :=
  ∃ W : Nat → Nat → Hp → Prop, (∃ m, W 0 m (upd H1 D (.lst []))) ∧ ∀ i m H, W i m H →
    (J.stop i H ∧ Qd H) ∨ (J.go i H ∧ ∃ Nx : Hp → Prop, (∀ H', Nx H' → ∃ m', m' < m ∧ W (i + 1) m' H') ∧ ∀ x H', J.yld i H x H' → g x (wipe σ vs) H' fun σ2 H2 => wipe σ2 vs = wipe σ vs ∧ tt σ2 H2 fun b H3 =>
      if b = true then te σ2 H3 fun y H4 => ∃ acc, H4 D = some (.lst acc) ∧ acc.length < sizeLine ∧ Nx (upd H4 D (.lst (acc ++ [y]))) else Nx H3)
theorem lc_filt {α : Type} {K : PySem.W.Frag} {σ : L2.St} {H : Hp} {Qd : Hp → Prop} {i u D : Addr} {tt : TT} {f : α → V} {is : List α} {g : α → Bool} (hs : ∀ y : Option V, wipe ((wipe σ [i]).set i y) [i] = wipe σ [i]) (hv : ∀ y : V, ((wipe σ [i]).set i (some y))[i]? = some (some y))
    (hu : H u = some (.lst (is.map f))) (hl : is.length ≤ 1000) (hD : H D = none)
    (el : ∀ a H', a ∈ is → Same H H' → ∀ R : Bool → Hp → Prop, (∀ H'', Same H' H'' → R (g a) H'') → tt ((wipe σ [i]).set i (some (f a))) H' R)
    (q : ∀ H', Same H H' → H' D = some (.lst ((is.filter g).map f)) → Qd H') : LcW (Itl K u) (gName i) tt (tVar i) [i] σ H D Qd := by
  have nuD : u ≠ D := ne_of_none hu hD
  have e0 : (is.map f).length = is.length := List.length_map ..
  have wk := walk_list (K := K) (a := u) (xs := is.map f)
  rw [e0] at wk
  refine lc_it wk (fun k H' => Bt D H H' ∧ H' D = some (.lst (((is.take k).filter g).map f))) ⟨bt_upd, upd_same⟩ (fun k H' _ ⟨bt, _⟩ => SqL.of (bt _ _ nuD hu)) (fun k x H2 H' hi ⟨bt, h1⟩ ⟨ee, hx⟩ => ?_) (fun H' ⟨bt, h1⟩ => ?_)
  · subst ee
    have ip : is[k]? = some (is[k]'(by omega)) := List.getElem?_eq_getElem (by omega)
    generalize is[k]'(by omega) = a at ip
    rw [List.getElem?_map, ip] at hx
    cases (show f a = x from Option.some.inj hx)
    have sm : Same H H' := fun b o e => bt b o (ne_of_none e hD) e
    refine ⟨hs _, ?_⟩
    refine el a H' (List.mem_of_getElem? ip) sm _ fun H3 s3 => ?_
    refine ite2 (fun hb => ?_) (fun hb => ?_)
    · refine ⟨_, hv _, _, s3 _ _ h1, ?_, (bt.trans (Same.bt s3)).trans bt_upd, ?_⟩
      · rw [List.length_map]
        have : ((is.take k).filter g).length ≤ (is.take k).length := List.length_filter_le _ _
        rw [List.length_take] at this
        exact Nat.lt_of_le_of_lt (show _ ≤ 1000 by omega) (by decide)
      · rw [upd_same, List.take_add_one, ip, List.filter_append, List.map_append]
        show some (HO.lst (_ ++ [f a])) = some (HO.lst (_ ++ List.map f (List.filter g [a])))
        rw [List.filter_cons_of_pos hb]
        rfl
    · refine ⟨bt.trans (Same.bt s3), ?_⟩
      rw [s3 _ _ h1, List.take_add_one, ip, List.filter_append, List.map_append]
      show some (HO.lst _) = some (HO.lst (_ ++ List.map f (List.filter g [a])))
      rw [List.filter_cons_of_neg hb]
      simp
  · rw [List.take_length] at h1
    exact q H' (fun b o e => bt b o (ne_of_none e hD) e) h1
theorem lc_each {α : Type} {K : PySem.W.Frag} {σ : L2.St} {H : Hp} {Qd : Hp → Prop} {i u D : Addr} {te : TE} {f h : α → V} {is : List α} (hs : ∀ y : Option V, wipe ((wipe σ [i]).set i y) [i] = wipe σ [i])
    (hu : H u = some (.lst (is.map f))) (hl : is.length ≤ 1000) (hD : H D = none)
    (el : ∀ a H', a ∈ is → Same H H' → ∀ R : VK, (∀ H'', Same H' H'' → R (h a) H'') → te ((wipe σ [i]).set i (some (f a))) H' R)
    (q : ∀ H', Same H H' → H' D = some (.lst (is.map h)) → Qd H') : LcW (Itl K u) (gName i) tYes te [i] σ H D Qd := by
  have nuD : u ≠ D := ne_of_none hu hD
  have e0 : (is.map f).length = is.length := List.length_map ..
  have wk := walk_list (K := K) (a := u) (xs := is.map f)
  rw [e0] at wk
  refine lc_it wk (fun k H' => Bt D H H' ∧ H' D = some (.lst ((is.take k).map h))) ⟨bt_upd, upd_same⟩ (fun k H' _ ⟨bt, _⟩ => SqL.of (bt _ _ nuD hu)) (fun k x H2 H' hi ⟨bt, h1⟩ ⟨ee, hx⟩ => ?_) (fun H' ⟨bt, h1⟩ => ?_)
  · subst ee
    have ip : is[k]? = some (is[k]'(by omega)) := List.getElem?_eq_getElem (by omega)
    generalize is[k]'(by omega) = a at ip
    rw [List.getElem?_map, ip] at hx
    cases (show f a = x from Option.some.inj hx)
    have sm : Same H H' := fun b o e => bt b o (ne_of_none e hD) e
    refine ⟨hs _, ?_⟩
    simp only [tYes, ↓reduceIte]
    refine el a H' (List.mem_of_getElem? ip) sm _ fun H3 s3 => ?_
    refine ⟨_, s3 _ _ h1, by rw [List.length_map, List.length_take]; exact Nat.lt_of_le_of_lt (show _ ≤ 1000 by omega) (by decide), (bt.trans (Same.bt s3)).trans bt_upd, ?_⟩
    rw [upd_same, List.take_add_one, ip, List.map_append]
    rfl
  · rw [List.take_length] at h1
    exact q H' (fun b o e => bt b o (ne_of_none e hD) e) h1
/-! lists of ints, of bools as data -/
theorem dp_ints {K : PySem.W.Frag} {H : Hp} : ∀ ks : List Int, DpAll K H (ks.map V.int) (ks.map PyData.int)
  | [] => .nil
  | k :: r => .cons (.int k) (dp_ints r)
theorem dp_bls {K : PySem.W.Frag} {H : Hp} : ∀ ks : List Bool, DpAll K H (ks.map V.bl) (ks.map PyData.bool)
  | [] => .nil
  | k :: r => .cons (.bl k) (dp_bls r)
theorem shaped_ints (ks : List Int) : SeqAt.shaped (.list (ks.map PyData.int)) = true := by
  have h : ∀ ks : List Int, PyData.canLayAll0 (ks.map PyData.int) = true := fun ks => by
    induction ks with
    | nil => rfl
    | cons k r ih =>
      show (PyData.canLay0 (.int k) && PyData.canLayAll0 (r.map PyData.int)) = true
      rw [ih] <;> rfl
  have h2 : PyData.depth (.list (ks.map PyData.int)) ≤ 64 := by
    simp only [PyData.depth]
    rw [PySem.W.depth_ints]
    omega
  show (PyData.canLayAll0 (ks.map PyData.int) && decide (PyData.depth (.list (ks.map PyData.int)) ≤ 64)) = true
  rw [h, decide_eq_true h2] <;> rfl
theorem depth_bls : ∀ ks : List Bool, PyData.depthAll (ks.map PyData.bool) ≤ 1
  | [] => by simp [PyData.depthAll]
  | k :: r => by
    have := depth_bls r
    simp only [List.map_cons, PyData.depthAll, PyData.depth]
    omega
theorem shaped_bls (ks : List Bool) : SeqAt.shaped (.list (ks.map PyData.bool)) = true := by
  have h : ∀ ks : List Bool, PyData.canLayAll0 (ks.map PyData.bool) = true := fun ks => by
    induction ks with
    | nil => rfl
    | cons k r ih =>
      show (PyData.canLay0 (.bool k) && PyData.canLayAll0 (r.map PyData.bool)) = true
      rw [ih] <;> rfl
  have h2 : PyData.depth (.list (ks.map PyData.bool)) ≤ 64 := by
    have := depth_bls ks
    simp only [PyData.depth]
    omega
  show (PyData.canLayAll0 (ks.map PyData.bool) && decide (PyData.depth (.list (ks.map PyData.bool)) ≤ 64)) = true
  rw [h, decide_eq_true h2] <;> rfl
theorem eqv_ints : ∀ (ks ls : List Int), PyData.eqvAll (ks.map PyData.int) (ls.map PyData.int) = decide (ks = ls)
  | [], [] => rfl
  | [], _ :: _ => by
    rw [decide_eq_false (fun e => nomatch e)] <;> rfl
  | _ :: _, [] => by
    rw [decide_eq_false (fun e => nomatch e)] <;> rfl
  | k :: ks, l :: ls => by
    show ((k == l) && PyData.eqvAll (ks.map PyData.int) (ls.map PyData.int)) = _
    rw [eqv_ints ks ls]
    by_cases e : k = l
    · subst e
      rw [beq_self_eq_true, Bool.true_and]
      by_cases g : ks = ls
      · subst g
        rw [decide_eq_true rfl, decide_eq_true rfl]
      · rw [decide_eq_false g, decide_eq_false fun z => g (List.cons.inj z).2]
    · rw [beq_eq_false_iff_ne.mpr e, Bool.false_and, decide_eq_false fun z => e (List.cons.inj z).1]
theorem eqv_bls : ∀ (ks ls : List Bool), PyData.eqvAll (ks.map PyData.bool) (ls.map PyData.bool) = decide (ks = ls)
  | [], [] => rfl
  | [], _ :: _ => by
    rw [decide_eq_false (fun e => nomatch e)] <;> rfl
  | _ :: _, [] => by
    rw [decide_eq_false (fun e => nomatch e)] <;> rfl
  | k :: ks, l :: ls => by
    have e0 : PyData.eqv (.bool k) (.bool l) = (k == l) := by cases k <;> cases l <;> rfl
    show (PyData.eqv (.bool k) (.bool l) && PyData.eqvAll (ks.map PyData.bool) (ls.map PyData.bool)) = _
    rw [eqv_bls ks ls, e0]
    by_cases e : k = l
    · subst e
      rw [beq_self_eq_true, Bool.true_and]
      by_cases g : ks = ls
      · subst g
        rw [decide_eq_true rfl, decide_eq_true rfl]
      · rw [decide_eq_false g, decide_eq_false fun z => g (List.cons.inj z).2]
    · rw [beq_eq_false_iff_ne.mpr e, Bool.false_and, decide_eq_false fun z => e (List.cons.inj z).1]
/-! rows that are handed over -/
def Hnd (H : Hp) (h : Addr) (l : List St2) : Prop := LstSw H h l ∨ TupSw H h l
theorem Hnd.same {H H' : Hp} {h : Addr} {l : List St2} (s : Same H H') (x : Hnd H h l) : Hnd H' h l := x.imp (LstSw.same s) (TupSw.same s)
theorem Hnd.sws {H : Hp} {h : Addr} {l : List St2} (x : Hnd H h l) : SwsAt H h l := x.elim LstSw.sws TupSw.sws
theorem tup_shown {l : List St2} (h : SmS l) (hl : l.length ≤ 100) : (PyData.tuple (l.map pD)).showable = true ∧ (PyData.tuple (l.map pD)).shown.length ≤ 15000 ∧ (PyData.tuple (l.map pD)).depth ≤ 60 := by
  obtain ⟨a, b⟩ := shown_sum h
  refine ⟨showable_all h, ?_, ?_⟩
  · have t := tupleText_len_le (PyData.shownAll (l.map pD))
    show (tupleText (PyData.shownAll (l.map pD))).length ≤ 15000
    omega
  · have := (lay_pDs l).2
    show PyData.depthAll (l.map pD) + 1 ≤ 60
    omega
/-- it can be told -/
def RpOk (H : Hp) (x : V) : Prop := ∃ d : PyData, Rp H x d ∧ d.showable = true ∧ d.shown.length ≤ sizeLine ∧ d.depth ≤ 60
theorem Hnd.rp {H : Hp} {h : Addr} {l : List St2} (x : Hnd H h l) (sm : SmS l) (n : l.length ≤ 100) : ∃ d : PyData, (∀ H', Same H H' → Rp H' (.ref h) d) ∧ d.showable = true ∧ d.shown.length ≤ sizeLine ∧ d.depth ≤ 60 := by
  have big : 15000 ≤ sizeLine := by decide
  rcases x with x | x
  · obtain ⟨a, b, c⟩ := lst_shown sm n
    exact ⟨_, fun H' s => rp_lst (x.same s), a, Nat.le_trans b big, c⟩
  · obtain ⟨a, b, c⟩ := tup_shown sm n
    exact ⟨_, fun H' s => rp_tup (x.same s), a, Nat.le_trans b big, c⟩
/-! drawn rows -/
theorem lim_abs {v : Int} (h : Lim v) : v.natAbs ≤ 10 ^ 29 := by
  have : ∀ v ∈ limV, v.natAbs ≤ 10 ^ 29 := by decide +kernel
  exact this v h
theorem rowL_bd {p : St2} (h : RowL p) : BdS (10 ^ 29) p := ⟨fun x e => lim_abs (h.2.1 x e), fun x e => lim_abs (h.2.2 x e)⟩
theorem bd_sm {n : List St2} (h : ∀ p ∈ n, BdS (10 ^ 29) p) : SmS n := fun p hp =>
  ⟨fun i e => Nat.lt_of_le_of_lt ((h p hp).1 i e) (by decide), fun i e => Nat.lt_of_le_of_lt ((h p hp).2 i e) (by decide)⟩
theorem edge_pt {l : List St2} {p : St2} {x : Int} (hp : p ∈ l) (h : p.1 = some x ∨ p.2 = some x) : x ∈ ptsOf l ∧ x + 1 ∈ ptsOf l := by
  have hx : x ∈ edgesS p := by
    unfold edgesS
    rcases h with h | h
    · rw [h]
      exact List.mem_append_left _ (List.mem_singleton.mpr rfl)
    · rw [h]
      exact List.mem_append_right _ (List.mem_singleton.mpr rfl)
  have g : ∀ y, y ∈ near3 x → y ∈ ptsOf l := fun y hy => List.mem_append_right _ (List.mem_flatMap.mpr ⟨p, hp, List.mem_flatMap.mpr ⟨x, hx, hy⟩⟩)
  exact ⟨g x (by unfold near3; simp), g (x + 1) (by unfold near3; simp)⟩
/-- alike at the points of both: alike everywhere -/
theorem pts_alike {l m k : List St2} (hl : ∀ p ∈ l, RowL p) (hm : ∀ p ∈ m, RowL p) (sl : ∀ p ∈ l, p ∈ k) (sm : ∀ p ∈ m, p ∈ k) (h : ∀ x ∈ ptsOf k, memL l x = memL m x) (v : Int) : memL l v = memL m v := by
  have far : -farI ∈ ptsOf k := List.mem_append_left _ (by simp)
  have fl : ∀ {e : Int}, Lim e → -farI < e := fun {e} he => by
    have : ∀ v ∈ limV, -farI < v := by decide +kernel
    exact this e he
  have ed : ∀ p, (p ∈ l ∨ p ∈ m) → ∀ x ∈ edgesS p, Lim x ∧ x ∈ ptsOf k ∧ x + 1 ∈ ptsOf k := fun p hp x hx => by
    have r : RowL p := hp.elim (hl p) (hm p)
    have pk : p ∈ k := hp.elim (sl p) (sm p)
    unfold edgesS at hx
    rcases List.mem_append.mp hx with hx | hx
    · have e : p.1 = some x := Option.mem_toList.mp hx
      exact ⟨r.2.1 x e, edge_pt pk (.inl e)⟩
    · have e : p.2 = some x := Option.mem_toList.mp hx
      exact ⟨r.2.2 x e, edge_pt pk (.inr e)⟩
  have inE : ∀ p, (p ∈ l ∨ p ∈ m) → Edge ((l ++ m).flatMap edgesS) p := fun p hp => by
    have pm : p ∈ l ++ m := List.mem_append.mpr hp
    refine ⟨fun x e => List.mem_flatMap.mpr ⟨p, pm, ?_⟩, fun x e => List.mem_flatMap.mpr ⟨p, pm, ?_⟩⟩
    · unfold edgesS
      rw [e]
      exact List.mem_append_left _ (List.mem_singleton.mpr rfl)
    · unfold edgesS
      rw [e]
      exact List.mem_append_right _ (List.mem_singleton.mpr rfl)
  have all : ∀ x ∈ (l ++ m).flatMap edgesS, Lim x ∧ x ∈ ptsOf k ∧ x + 1 ∈ ptsOf k := fun x hx => by
    obtain ⟨p, hp, hx⟩ := List.mem_flatMap.mp hx
    exact ed p (List.mem_append.mp hp) x hx
  refine memL_same (E := (l ++ m).flatMap edgesS) (far := -farI) (fun e he => fl (all e he).1) (fun p hp => inE p (.inl hp)) (fun p hp => inE p (.inr hp)) (fun w hw => ?_) v
  rcases hw with rfl | hw | ⟨e, he, rfl⟩
  · exact h _ far
  · exact h _ (all w hw).2.1
  · exact h _ (all e he).2.2
/-! a set that is made: what is wanted is a state of the heap -/
theorem made_nW {K : PySem.W.Frag} {C L m dx : Addr} {l : List St2} {H : Hp} {QQ : VK} (hl : SwsX K H L l) (ho : ∀ p ∈ l, okS p) (hn : l.length ≤ 1000) (hm : H m = none) (hdx : H dx = none) (ne : dx ≠ m) (q : ∀ n H', NSet C H' m n → ascS n → (∀ v, memL n v = memL l v) → n.length ≤ l.length → Same H H' → QQ .non H') :
    spNInit K C [.ref m, .ref L] (upd (upd H dx (.own m)) m (.ins C dx [])) QQ E0 := by
  have keep : Same H (upd (upd H dx (.own m)) m (.ins C dx [])) := fun c o e => by
    rw [upd_ne (ne_of_none e hm), upd_ne (ne_of_none e hdx)]
    exact e
  exact ⟨m, dx, L, l, rfl, upd_same, hl.same keep, ho, hn, fun H' u n ha hv hle e1 tu hB => q n H' ⟨dx, u, e1, tu⟩ ha hv hle (made_same hm hdx ne rfl hB)⟩
theorem made_tW {K : PySem.W.Frag} {C L m dx : Addr} {ws : List Str} {ot : Bool} {H : Hp} {QQ : VK} (hl : Giv K H L (ws.map V.str)) (hw : ∀ k ∈ ws, wordB k 12 = true) (hn : ws.length < 64) (hL : ws ≠ [] → H L = some (.lst (ws.map V.str))) (hm : H m = none) (hdx : H dx = none) (ne : dx ≠ m)
    (q : ∀ n H', WSet C H' m n ot → SrtW n → (∀ k, k ∈ n ↔ k ∈ ws) → n.length ≤ ws.length → Same H H' → QQ .non H') : spTInit K C [.ref m, .ref L, .bl ot] (upd (upd H dx (.own m)) m (.ins C dx [])) QQ E0 := by
  have keep : Same H (upd (upd H dx (.own m)) m (.ins C dx [])) := fun c o e => by
    rw [upd_ne (ne_of_none e hm), upd_ne (ne_of_none e hdx)]
    exact e
  exact ⟨m, dx, L, ws, ot, rfl, upd_same, hl.same keep, hw, hn, fun z => keep _ _ (hL z), fun H' u n hs hv hle e1 tu hB => q n H' ⟨dx, u, e1, tu⟩ hs hv hle (made_same hm hdx ne rfl hB)⟩
/-! what is known of methods -/
structure MtF (P : Program) (w : World) (K : PySem.W.Frag) (mg : Str → Option Value) (base : Heap) (k : Nat) (C : Addr) (nm : Str) (f : Addr) (d : FuncData) (sp : Sp) : Prop where
  m : Meth K C nm f
  g : FnOk P w K mg base CX0 k f d ["self"] sp
  b : Binds K d ["self"] []
structure PrF (P : Program) (w : World) (K : PySem.W.Frag) (mg : Str → Option Value) (base : Heap) (k : Nat) (C : Addr) (nm : Str) (p f : Addr) (d : FuncData) (sp : Sp) : Prop where
  p : PropOf K C nm p f
  g : FnOk P w K mg base CX0 k f d ["self"] sp
  b : Binds K d ["self"] []
structure CtF (P : Program) (w : World) (K : PySem.W.Frag) (mg : Str → Option Value) (base : Heap) (C f : Addr) (d : FuncData) (sp : Sp) : Prop where
  s : PySem.W.findIn K (.ref C) "__contains__" = some (some (.ref f))
  fn : PySem.W.isFn K (.ref f) = true
  g : FnOk P w K mg base CX0 3 f d ["self", "value"] sp
  b : Binds K d ["self", "value"] []
structure EqF (P : Program) (w : World) (K : PySem.W.Frag) (mg : Str → Option Value) (base : Heap) (C f : Addr) (d : FuncData) (sp : Sp) : Prop where
  o : EqO K C f
  g : FnOk P w K mg base CX0 2 f d ["self", "other"] sp
  b : Binds K d ["self", "other"] []
structure ReF (P : Program) (w : World) (K : PySem.W.Frag) (mg : Str → Option Value) (base : Heap) (C f : Addr) (d : FuncData) (sp : Sp) : Prop where
  s : PySem.W.findIn K (.ref C) "__repr__" = some (some (.ref f))
  fn : PySem.W.isFn K (.ref f) = true
  g : FnG P w K mg base CX0 1 f d ["self"] sp
  b : Binds K d ["self"] []
theorem notFirst_self {K : PySem.W.Frag} {C : Addr} : PySem.W.notFirst K C (.ref C) = true := by simp [PySem.W.notFirst]
theorem NSet.nb {C : Addr} {H H' : Hp} {p m : Addr} {n : List St2} (hP : PotAt H p) (b : Bt p H H') (h : NSet C H m n) : NSet C H' m n := by
  obtain ⟨x, y, e, _⟩ := hP
  obtain ⟨dx, u, e1, us, e2, pr⟩ := h
  have n1 : ∀ {c : Addr} {o : HO}, H c = some o → (∀ xs, o ≠ .lst xs) → c ≠ p := fun {c o} e' no z => by
    rw [z, e] at e'
    exact no _ (Option.some.inj e').symm
  exact ⟨dx, u, b _ _ (n1 e1 fun xs z => by cases z) e1, us, b _ _ (n1 e2 fun xs z => by cases z) e2, pr.mono fun c q f => b _ _ (n1 f fun xs z => by cases z) f⟩
theorem sw_np {H : Hp} {p t : Addr} {q : St2} (hP : PotAt H p) (h : SwAt H t q) : t ≠ p := fun z => by
  obtain ⟨x, y, e, _⟩ := hP
  unfold SwAt at h
  rw [z, e] at h
  cases h
theorem LstSw.nb {H H' : Hp} {p L : Addr} {l : List St2} (hP : PotAt H p) (b : Bt p H H') (h : LstSw H L l) : LstSw H' L l := by
  obtain ⟨ts, e, pr⟩ := h
  refine ⟨ts, b _ _ (fun z => ?_) e, pr.mono fun c q f => b _ _ (sw_np hP f) f⟩
  obtain ⟨x, y, e', _⟩ := hP
  rw [z, e'] at e
  have e2 := Option.some.inj e
  cases ts with
  | nil => cases e2
  | cons t ts => cases e2
theorem TupSw.nb {H H' : Hp} {p L : Addr} {l : List St2} (hP : PotAt H p) (b : Bt p H H') (h : TupSw H L l) : TupSw H' L l := by
  obtain ⟨ts, e, pr⟩ := h
  refine ⟨ts, b _ _ (fun z => ?_) e, pr.mono fun c q f => b _ _ (sw_np hP f) f⟩
  obtain ⟨x, y, e', _⟩ := hP
  rw [z, e'] at e
  cases e
theorem bt_over {p l : Addr} {H H' : Hp} {o : HO} (b : Bt p H H') (h : H l = none) : Bt p H (upd H' l o) := fun c u n e => by
  rw [upd_ne (ne_of_none e h)]
  exact b c u n e
theorem pot_over {p l : Addr} {H : Hp} {o : HO} (h : PotAt H p) (n : p ≠ l) : PotAt (upd H l o) p := by
  obtain ⟨x, y, e, r⟩ := h
  exact ⟨x, y, by rw [upd_ne n]; exact e, r⟩
/-- isinstance(h, list): h.append((None, None)) -/
theorem if_app {K : PySem.W.Frag} {h : Addr} {l : List St2} {σ : L2.St} {i : Nat} {H : Hp} {u : TS} {D : Ends} (e : σ[i]? = some (some (.ref h))) (hh : Hnd H h l) (n : l.length ≤ 100) (k : ∀ H', (∀ c o, c ≠ h → H c = some o → H' c = some o) → (∀ c o, H c = some o → (∀ xs, o ≠ .lst xs) → H' c = some o) → u D σ H') :
    tSeq (tIfS (tB (tCB (rIsi K) (tCons (tVar i) (tCons (tC (V.ty "list")) tNil)))) (tDrop (tBM K "list" rAppend (tVar i) (tCons (tTup (tCons (tC V.non) (tCons (tC V.non) tNil))) tNil))) tNext) u D σ H := by
  obtain ⟨ts, a, b⟩ | ⟨ts, a, b⟩ := hh
  · refine ⟨_, e, .ref h, .ty "list", .type "list", _, true, rfl, .ty _, .base (.lst a), kit_ty (show kitB "list" "list" = some true by decide +kernel), true, rfl, ?_⟩
    refine (show (if true = true then _ else _) from ?_)
    rw [if_pos rfl]
    refine ⟨_, e, .inl ⟨rfl, _, SqL.of a⟩, by show 2 ≤ sizeLine; decide, fun t ht => ?_⟩
    have s1 := same_upd (o := HO.tup [V.non, V.non]) ht
    refine ⟨h, _, _, rfl, rfl, s1 _ _ a, by rw [List.length_map, b.length]; exact Nat.lt_of_le_of_lt n (by decide), ?_⟩
    exact k _ (fun c o nc e => by rw [upd_ne nc]; exact s1 _ _ e) fun c o e nn => by
      have nc : c ≠ h := fun z => by
        rw [z, a] at e
        exact nn _ (Option.some.inj e).symm
      rw [upd_ne nc]
      exact s1 _ _ e
  · refine ⟨_, e, .ref h, .ty "list", .type "tuple", _, false, rfl, .ty _, .base (.tup a), kit_ty (show kitB "tuple" "list" = some false by decide +kernel), false, rfl, ?_⟩
    refine (show (if false = true then _ else _) from ?_)
    rw [if_neg (by decide)]
    exact k _ (fun c o nc e => e) fun c o e nn => e
/-- an amount, a flag, a number that may be none, told -/
theorem three_shown {a b : Option Int} {k : Bool} (ha : SmO a) (hb : SmO b) : (PyData.list [oD a, .bool k, oD b]).showable = true ∧ (PyData.list [oD a, .bool k, oD b]).shown.length ≤ sizeLine ∧ (PyData.list [oD a, .bool k, oD b]).depth ≤ 60 := by
  refine ⟨?_, ?_, ?_⟩
  · show ((oD a).showable && (true && ((oD b).showable && true))) = true
    rw [showable_oD ha, showable_oD hb] <;> rfl
  · have t := listText_len_le (PyData.shownAll [oD a, .bool k, oD b])
    have e1 := shown_oD ha
    have e2 := shown_oD hb
    have e3 : (PyData.bool k).shown.length ≤ 5 := by cases k <;> decide +kernel
    have es : PyData.shownAll [oD a, .bool k, oD b] = [(oD a).shown, (PyData.bool k).shown, (oD b).shown] := rfl
    rw [es] at t
    simp only [List.map_cons, List.map_nil, List.sum_cons, List.sum_nil, List.length_cons, List.length_nil] at t
    show (listText (PyData.shownAll [oD a, .bool k, oD b])).length ≤ sizeLine
    rw [es]
    exact Nat.le_trans (show _ ≤ 200 by omega) (by decide)
  · have h1 := (lay_oD a).2
    have h2 := (lay_oD b).2
    simp only [PyData.depth, PyData.depthAll]
    omega
end S8

end Ps8i
section Ps8j
set_option maxHeartbeats 32000000
namespace S8
open PySem PySem.Spec L2 PyProof.Rows Sm
/-! ### a set of numbers, right -/
abbrev s_numR : Stmt := top 46
abbrev nNumR : List Str := ["_law_pot_here", "_law_rows", "_law_mixed_here", "_law_handed", "_law_made", "_law_points_here", "_law_spoken", "_law_inside", "_law_told", "_law_again", "_law_number"]
theorem sc_numR : FnScope nNumR ["_law_pot_here", "_law_rows"] (defScope s_numR) := ⟨rfl, rfl, rfl, by decide +kernel, rfl, by decide +kernel, by decide +kernel⟩
structure TNR (mg : Str → Option Value) : Prop where
  tup : mg "tuple" = none
  list : mg "list" = none
  rep : mg "repr" = none
  isi : mg "isinstance" = none
def spNumR : Sp := fun vs H Q _ => ∃ (p R : Addr) (l : List St2), vs = [.ref p, .ref R] ∧ PotAt H p ∧ LstSw H R l ∧ (∀ x ∈ l, RowL x) ∧ l.length ≤ 5 ∧ ∀ H', Bt p H H' → PotAt H' p → Q (.bl true) H'
section
variable {P : Program} {w : World} {K : PySem.W.Frag} {mg : Str → Option Value} {base : Heap} {f fD fMX fPO fHS fS fST fCT fOD fR pS fSZ pE fEM pK fKI fLS fCN fLE fE fI C CM CT d0 : Addr} {fd dD dMX dPO dHS dS dST dCT dOD dR dSZ dEM dKI dLS dCN dLE dE dI : FuncData}
theorem ok_numR (F : FD K "_law_numbers_right" s_numR f fd) (T : TNR mg) (hK : noMods K = true) (N : NSc K C) (O : TcO K C CM "number") (B : NoB K C) (tM : mg "ValueSet" = some (.ref CM)) (D : Kn P w K mg base 1 "_law_draw" fD dD ["_law_pot_here", "_law_many"] spDraw) (MX : Kn P w K mg base 2 "_law_mixed" fMX dMX ["_law_pot_here", "_law_given"] spMix)
    (MN : MkN P w K mg base C fI dI d0) (PO : Kn P w K mg base 1 "_law_points" fPO dPO ["_law_rows"] spPts) (HS : Kn P w K mg base 1 "_law_has" fHS dHS ["_law_rows", "_law_number"] spHasL) (GS : MtF P w K mg base 1 C "stretches" fS dS (spStrN C)) (ST : Kn P w K mg base 1 "_law_is_stated" fST dST ["_law_rows"] spStd)
    (CT' : CtF P w K mg base C fCT dCT (spInN K C)) (OD : Kn P w K mg base 8 "_law_odd" fOD dOD ["_law_pot_here"] (spOdd K)) (RF : ReF P w K mg base C fR dR (spReprN C)) (SZ : PrF P w K mg base 2 C "size" pS fSZ dSZ (spAmtN C)) (EM : PrF P w K mg base 2 C "is_empty" pE fEM dEM (spEmpN C)) (KI : PrF P w K mg base 1 C "kind" pK fKI dKI (spKd C "number"))
    (LS : MtF P w K mg base 7 C "least" fLS dLS (spFirN C)) (CN : Kn P w K mg base 1 "_law_counted" fCN dCN ["_law_rows"] spCnt) (LE : Kn P w K mg base 1 "_law_least" fLE dLE ["_law_numbers"] spLst) (EF : EqF P w K mg base C fE dE (spEqN K C CM CT)) :
    FnG P w K mg base CX0 9 f fd ["_law_pot_here", "_law_rows"] spNumR := by
  refine F.okG sc_numR (fun vs H Q E h => ?_) (fun cdv A outer s H vs Q E hg hr h => ?_)
  · obtain ⟨p, R, l, rfl, _⟩ := h
    rfl
  obtain ⟨p, R, l, rfl, hP, hR, hrow, ll, q⟩ := h
  have hG := deeper_guards (env := PyProof.Rows.envOfC "_law_numbers_right" (defScope s_numR) s.heap.objs.size f cdv) hg
  have hu := hr.units
  have nd := sc_numR.nd
  refine ⟨_, PSs.nox (pss_cons (ps_set (i := 2) nd rfl (Or.inl rfl) (pe_op op_cat (pe_call MX.f (hr.mono (by decide)) rfl MX.m MX.k MX.b .nil pass0 (pa_cons (pv 0) (pa_cons (pv 1) pa_nil))) (pe_slice sl_list (pv 1) po_none (po_some (pe_call D.f (hr.mono (by decide)) rfl D.m D.k D.b .nil pass0 (pa_cons (pv 0) (pa_cons pe_int pa_nil)))))))
    (pss_cons (ps_set (i := 3) nd rfl (Or.inl rfl) (pe_ix ix_list (pe_lst (pa_cons (pe_callTy call_tuple_of (by rfl) T.tup (by decide +kernel) (pa_cons (pv 2) pa_nil)) (pa_cons (pe_callTy call_list_of (by rfl) T.list (by decide +kernel) (pa_cons (pv 2) pa_nil)) pa_nil))) (pe_call D.f (hr.mono (by decide)) rfl D.m D.k D.b .nil pass0 (pa_cons (pv 0) (pa_cons pe_int pa_nil))) (fun _ _ => rfl)))
    (pss_cons (ps_asg (pe_tup (pa_cons (pe_make MN.mkC MN.g (hr.mono (by decide)) rfl MN.m MN.b .nil pass0 (pa_cons (pv 3) pa_nil)) (pa_cons (pe_call PO.f (hr.mono (by decide)) rfl PO.m PO.k PO.b .nil pass0 (pa_cons (pv 1) pa_nil)) (pa_cons (pe_callB (call_reprD (by exact hG) (by exact hu) (by exact hK)) (by rfl) T.rep boot_repr (pa_cons (pv 3) pa_nil)) pa_nil)))) (pg_tup (by rfl) (pgs_cons (pg_name (i := 4) nd rfl (Or.inr rfl)) (pgs_cons (pg_name (i := 5) nd rfl (Or.inl rfl)) (pgs_cons (pg_name (i := 6) nd rfl (Or.inl rfl)) pgs_nil)))))
    (pss_cons (ps_setLc (i := 7) (own := [("_law_number", 10)]) (g := gName 10) (tt := tB (tCall spHasL [] E0 (tCons (tVar 1) (tCons (tVar 10) tNil)))) (te := tVar 10) rfl nd rfl rfl (sw_true rfl rfl rfl (by decide +kernel)) (pi_list (pv 5)) (blkOk_by (N := nNumR) (sc := defScope s_numR) (by decide +kernel)) (fun _ _ _ _ _ => by exact pg_name (i := 10) nd rfl (Or.inl rfl)) (fun _ _ _ _ _ => pts_one (pt_val (by exact pe_call HS.f (hr.mono (by decide)) rfl HS.m HS.k HS.b .nil pass0 (pa_cons (pv 1) (pa_cons (pv 10) pa_nil))))) (fun _ _ _ _ _ => by exact pv 10))
    (pss_cons (ps_if (PW.pt (pw_or (pt_not (pt_val (pe_callB call_isi (by rfl) T.isi boot_isi (pa_cons (pv 4) (pa_cons (pe_glob (v := .ref CM) rfl tM rfl) pa_nil))))) (pw_or1 (pt_cmpR op_ne (pe_callB (call_reprD (by exact hG) (by exact hu) (by exact hK)) (by rfl) T.rep boot_repr (pa_cons (pv 3) pa_nil)) (pv 6) (nomark _))))) pss_never pss_nil)
    (pss_cons (ps_if (pt_val (pe_callB call_isi (by rfl) T.isi boot_isi (pa_cons (pv 3) (pa_cons (pe_bltn (v := .ty "list") (by rfl) T.list (by decide +kernel) rfl) pa_nil)))) (pss_one (ps_expr (pe_bm PySem.F.plainAttrs_list PySem.F.slot_list_append PySem.F.type_list_append mt_append (pv 3) (pa_cons (pe_tup (pa_cons pe_non (pa_cons pe_non pa_nil))) pa_nil)))) pss_nil)
    (pss_cons (ps_set (i := 8) nd rfl (Or.inr rfl) (pe_meth0 (pv 4) N.cl GS.m GS.g (hr.mono (by decide)) GS.b .nil pass0))
    (pss_cons (ps_if (pt_not (pt_val (pe_call ST.f (hr.mono (by decide)) rfl ST.m ST.k ST.b .nil pass0 (pa_cons (pv 8) pa_nil)))) pss_never pss_nil)
    (pss_cons (ps_if (PW.pt (pw_or (pt_cmpR (op_neD (by exact hu)) (pe_lc (own := [("_law_number", 10)]) (g := gName 10) (tt := tB (tOp (rInO C (spInN K C) false) (tVar 10) (tVar 4))) (te := tVar 10) rfl nd (pi_list (pv 5)) (blkOk_by (N := nNumR) (sc := defScope s_numR) (by decide +kernel)) (fun _ _ _ _ _ => by exact pg_name (i := 10) nd rfl (Or.inl rfl)) (fun _ _ _ _ _ => pts_one (by exact pt_cmpR (op_inO CT'.s CT'.fn CT'.g CT'.b (hr.mono (by decide))) (pv 10) (pv 4) (by rfl))) (fun _ _ _ _ _ => by exact pv 10)) (pv 7) (nomark _))
        (pw_or (pt_cmpR (op_inO CT'.s CT'.fn CT'.g CT'.b (hr.mono (by decide))) (pe_call OD.f (hr.mono (by decide)) rfl OD.m OD.k OD.b .nil pass0 (pa_cons (pv 0) pa_nil)) (pv 4) (by rfl)) (pw_or1 (pt_cmpR (op_inO CT'.s CT'.fn CT'.g CT'.b (hr.mono (by decide))) pe_str (pv 4) (by rfl)))))) pss_never pss_nil)
    (pss_cons (ps_if (pt_cmpR (op_neD (by exact hu)) (pe_lc (own := [("_law_number", 10)]) (g := gName 10) (tt := tB (tCall spHasL [] E0 (tCons (tVar 8) (tCons (tVar 10) tNil)))) (te := tVar 10) rfl nd (pi_list (pv 5)) (blkOk_by (N := nNumR) (sc := defScope s_numR) (by decide +kernel)) (fun _ _ _ _ _ => by exact pg_name (i := 10) nd rfl (Or.inl rfl)) (fun _ _ _ _ _ => pts_one (pt_val (by exact pe_call HS.f (hr.mono (by decide)) rfl HS.m HS.k HS.b .nil pass0 (pa_cons (pv 8) (pa_cons (pv 10) pa_nil))))) (fun _ _ _ _ _ => by exact pv 10)) (pv 7) (nomark _)) pss_never pss_nil)
    (pss_cons (ps_if (PW.pt (pw_or (pt_cmpR op_ne (pe_callB (call_reprO RF.s RF.fn RF.g (by exact hG) RF.b (hr.mono (by decide))) (by rfl) T.rep boot_repr (pa_cons (pv 4) pa_nil)) (pe_op op_add_str (pe_op op_add_str pe_str (pe_callB (call_reprD (by exact hG) (by exact hu) (by exact hK)) (by rfl) T.rep boot_repr (pa_cons (pv 8) pa_nil))) pe_str) (nomark _))
        (pw_or1 (pt_cmpR op_ne (pe_prop (pv 4) N.cl KI.p KI.g (hr.mono (by decide)) KI.b .nil pass0 (by rfl)) pe_str (nomark _))))) pss_never pss_nil)
    (pss_cons (ps_if (pt_cmpR op_ne (pe_callB (call_reprD (by exact hG) (by exact hu) (by exact hK)) (by rfl) T.rep boot_repr (pa_cons (pe_lst (pa_cons (pe_prop (pv 4) N.cl SZ.p SZ.g (hr.mono (by decide)) SZ.b .nil pass0 (by rfl)) (pa_cons (pe_prop (pv 4) N.cl EM.p EM.g (hr.mono (by decide)) EM.b .nil pass0 (by rfl)) (pa_cons (pe_meth0 (pv 4) N.cl LS.m LS.g (hr.mono (by decide)) LS.b .nil pass0) pa_nil)))) pa_nil))
        (pe_callB (call_reprD (by exact hG) (by exact hu) (by exact hK)) (by rfl) T.rep boot_repr (pa_cons (pe_lst (pa_cons (pe_call CN.f (hr.mono (by decide)) rfl CN.m CN.k CN.b .nil pass0 (pa_cons (pv 8) pa_nil)) (pa_cons (pe_cmpR (op_eqD (by exact hu)) (pv 8) (pe_lst pa_nil) (nomark _)) (pa_cons (pe_call LE.f (hr.mono (by decide)) rfl LE.m LE.k LE.b .nil pass0 (pa_cons (pv 7) pa_nil)) pa_nil)))) pa_nil)) (nomark _)) pss_never pss_nil)
    (pss_cons (ps_set (i := 9) nd rfl (Or.inl rfl) (pe_make MN.mkC MN.g (hr.mono (by decide)) rfl MN.m MN.b .nil pass0 (pa_cons (pe_callTy call_list_of (by rfl) T.list (by decide +kernel) (pa_cons (pv 8) pa_nil)) pa_nil)))
    (pss_cons (ps_expr (pe_bm PySem.F.plainAttrs_list PySem.F.slot_list_append PySem.F.type_list_append mt_append (pv 8) (pa_cons (pe_tup (pa_cons pe_non (pa_cons pe_non pa_nil))) pa_nil)))
    (pss_cons (ps_if (PW.pt (pw_or (pt_cmpR (op_neD (by exact hu)) (pe_meth0 (pv 4) N.cl GS.m GS.g (hr.mono (by decide)) GS.b .nil pass0) (pe_slice sl_list (pv 8) po_none (po_some (pe_un un_neg pe_int))) (nomark _)) (pw_or1 (pt_cmpR (op_neO EF.o EF.g EF.b (hr.mono (by decide))) (pv 4) (pv 9) (nomark _))))) pss_never pss_nil)
    (pss_one (ps_ret (pe_and (pe_cmpR (op_eqO EF.o EF.g EF.b (hr.mono (by decide))) (pv 9) (pv 4) (nomark _)) (pe_one (pe_cmpR (op_eqO EF.o EF.g EF.b (hr.mono (by decide))) (pe_make MN.mkC MN.g (hr.mono (by decide)) rfl MN.m MN.b .nil pass0 (pa_cons (pv 1) pa_nil)) (pv 4) (nomark _))))))))))))))))))))), ?_⟩
  obtain ⟨ts, hRl, pr⟩ := id hR
  have tl : ts.length = l.length := pr.length
  have nRp : R ≠ p := fun z => by
    obtain ⟨x, y, e, _⟩ := hP
    rw [z, e] at hRl
    have e2 := Option.some.inj hRl
    cases ts with
    | nil => cases e2
    | cons t ts => cases e2
  refine ⟨_, rfl, _, rfl, p, R, ts.map V.ref, rfl, hP, nRp, hRl, by rw [List.length_map]; omega, fun M ys H1 pm hM hMn b1 hP1 => ?_⟩
  obtain ⟨ts', l', rfl, pl, pr'⟩ := perm_paired pm rfl pr
  have nMp : M ≠ p := fun z => by
    obtain ⟨x, y, e, _⟩ := hP
    rw [z, e] at hMn
    cases hMn
  refine ⟨_, rfl, _, rfl, p, 2, rfl, hP1, by decide, by decide, fun d H2 d0' d1 b2 hP2 => ⟨d, rfl, R, _, rfl, SqL.of ((b1.trans b2) _ _ nRp hRl), fun Z hZ => ?_⟩⟩
  rw [cut_take _ d0', ← List.map_take]
  have c2 := b1.trans b2
  have hM2 := b2 _ _ nMp hM
  have sZ := same_upd (o := HO.lst ((ts.take d.toNat).map V.ref)) hZ
  refine ⟨M, Z, _, _, rfl, rfl, sZ _ _ hM2, upd_same, ?_, fun A0 hA => ?_⟩
  · have : ts'.length = ts.length := by rw [← List.length_map (as := ts') (f := V.ref), pm.length_eq, List.length_map]
    rw [List.length_map, List.length_map, List.length_take]
    exact Nat.le_trans (show _ ≤ 100 by omega) (by decide)
  rw [← List.map_append]
  have sA := sZ.trans (same_upd (o := HO.lst ((ts' ++ ts.take d.toNat).map V.ref)) hA)
  have hA3 : (upd (upd H2 Z (.lst ((ts.take d.toNat).map V.ref))) A0 (.lst ((ts' ++ ts.take d.toNat).map V.ref))) A0 = some (.lst ((ts' ++ ts.take d.toNat).map V.ref)) := upd_same
  generalize upd (upd H2 Z (.lst ((ts.take d.toNat).map V.ref))) A0 (.lst ((ts' ++ ts.take d.toNat).map V.ref)) = H3 at sA hA3 ⊢
  have c3 : Bt p H H3 := c2.trans (Same.bt sA)
  have hP3 := hP2.bt sA
  have lx : LstSw H3 A0 (l' ++ l.take d.toNat) := ⟨_, hA3, paired_app (pr'.mono fun t q e => c3 _ _ (sw_np hP e) e) (paired_take _ (pr.mono fun t q e => c3 _ _ (sw_np hP e) e))⟩
  have hv2 : ∀ v, memL (l' ++ l.take d.toNat) v = memL l v := memL_more pl _
  have hr2 : ∀ x ∈ l' ++ l.take d.toNat, RowL x := fun x hx => (List.mem_append.mp hx).elim (fun h => hrow x (pl.mem_iff.mp h)) fun h => hrow x (List.mem_of_mem_take h)
  have len2 : (l' ++ l.take d.toNat).length ≤ 6 := by
    rw [List.length_append, pl.length_eq, List.length_take]
    omega
  generalize l' ++ l.take d.toNat = l2 at lx hv2 hr2 len2
  have hR3 : LstSw H3 R l := hR.nb hP c3
  clear pm pr' hM hMn hM2 sZ hZ hA hA3 b1 b2 c2 sA hP1 hP2 pl
  obtain ⟨ts2, e1, e2⟩ := lx
  refine normS (σ' := [some (.ref p), some (.ref R), some (.ref A0), none, none, none, none, none, none, none, none]) rfl ?_
  -- a tuple or a list is handed over
  refine ⟨_, rfl, A0, _, rfl, .inl ⟨SqL.of e1, fun u hu' => ?_⟩⟩
  have s4 := same_upd (o := HO.tup (ts2.map V.ref)) hu'
  have hu4 : TupSw (upd H3 u (.tup (ts2.map V.ref))) u l2 := ⟨ts2, upd_same, e2.mono fun t q e => SwAt.same s4 e⟩
  have e4 := s4 _ _ e1
  generalize upd H3 u (.tup (ts2.map V.ref)) = H4 at s4 hu4 e4 ⊢
  refine ⟨_, rfl, A0, _, rfl, .inl (SqL.of e4), fun g hg' => ?_⟩
  have s5 := same_upd (o := HO.lst (ts2.map V.ref)) hg'
  have hg5 : LstSw (upd H4 g (.lst (ts2.map V.ref))) g l2 := ⟨ts2, upd_same, e2.mono fun t q e => SwAt.same s5 (SwAt.same s4 e)⟩
  have hu5 := hu4.same s5
  have hgn : H3 g = none := s4.free hg'
  generalize upd H4 g (.lst (ts2.map V.ref)) = H5 at s5 hg5 hu5 ⊢
  refine ⟨by show 2 ≤ sizeLine; decide, fun k hk => ?_⟩
  have s6 := same_upd (o := HO.lst [V.ref u, V.ref g]) hk
  have hk6 : (upd H5 k (.lst [V.ref u, V.ref g])) k = some (.lst [V.ref u, V.ref g]) := upd_same
  have hkp := pot_ne ((hP3.bt s4).bt s5) hk
  generalize upd H5 k (.lst [V.ref u, V.ref g]) = H6 at s6 hk6 ⊢
  have z6 := (s4.trans s5).trans s6
  have hP6 := hP3.bt z6
  refine ⟨_, rfl, p, 2, rfl, hP6, by decide, by decide, fun i H7 i0 i1 b7 hP7 => ?_⟩
  have hk7 := b7 _ _ hkp hk6
  obtain ⟨h, hat, hh6, hhn⟩ : ∃ h, atI [V.ref u, V.ref g] i = some (.ref h) ∧ Hnd H6 h l2 ∧ H3 h = none := by
    obtain rfl | rfl : i = 0 ∨ i = 1 := by omega
    · exact ⟨u, rfl, .inr (hu5.same s6), hu'⟩
    · exact ⟨g, rfl, .inl (hg5.same s6), hgn⟩
  refine ⟨k, _, i, _, rfl, rfl, SqL.of hk7, hat, ?_⟩
  have hh7 : Hnd H7 h l2 := hh6.imp (LstSw.nb hP6 b7) (TupSw.nb hP6 b7)
  have c7 : Bt p H3 H7 := (Same.bt z6).trans b7
  have hR7 := hR3.nb hP3 c7
  clear s4 s5 s6 hu4 hu5 hg5 hk hk6 hk7 hkp e4 hu' hg' hgn z6 hat hh6 b7 hP6 e1 e2
  refine normS (σ' := [some (.ref p), some (.ref R), some (.ref A0), some (.ref h), none, none, none, none, none, none, none]) rfl ?_
  -- the set, the points, what was handed over told
  refine ⟨_, rfl, ?_⟩
  intro m dx xm xd xn
  refine made_nW (.inl hh7.sws) (fun x hx => (hr2 x hx).1) (by omega) xm xd xn fun n H8 hm ha hv hle s8 => ⟨rfl, ?_⟩
  clear xm xd xn
  have hv' : ∀ v, memL n v = memL l v := fun v => (hv v).trans (hv2 v)
  have bdn := asc_bd ha hv' fun x hx => rowL_bd (hrow x hx)
  have smn := bd_sm bdn
  have sm2 := bd_sm fun x hx => rowL_bd (hr2 x hx)
  have n6 : n.length ≤ 6 := by omega
  have hR8 := hR7.same s8
  have hh8 := hh7.same s8
  refine ⟨_, rfl, R, l, l, rfl, hR8, by omega, ⟨fun x hx => hx, by omega⟩, fun S ys H9 hy hys hyl hS hSn s9 => ?_⟩
  have nSh : S ≠ h := fun z => by
    rw [z] at hSn
    rcases hh8 with ⟨_, e, _⟩ | ⟨_, e, _⟩ <;> (rw [hSn] at e; cases e)
  obtain ⟨dt, r1, r2, r3, r4⟩ := (hh8.same s9).rp sm2 (by omega)
  refine ⟨_, rfl, .ref h, dt, rfl, r1 _ (Same.refl _), r2, r3, r4, by show 3 ≤ sizeLine; decide, fun t ht => ?_⟩
  have s10 := same_upd (o := HO.tup [V.ref m, V.ref S, V.str dt.shown]) ht
  have ht10 : (upd H9 t (.tup [V.ref m, V.ref S, V.str dt.shown])) t = some (.tup [V.ref m, V.ref S, V.str dt.shown]) := upd_same
  generalize upd H9 t (.tup [V.ref m, V.ref S, V.str dt.shown]) = H10 at s10 ht10 ⊢
  refine ⟨t, _, rfl, SqT.of ht10, rfl, _, _, rfl, _, _, rfl, _, _, rfl, rfl, ?_⟩
  refine normS (σ' := [some (.ref p), some (.ref R), some (.ref A0), some (.ref h), some (.ref m), some (.ref S), some (.str dt.shown), none, none, none, none]) rfl ?_
  have hm10 := hm.same (s9.trans s10)
  have hR10 := hR8.same (s9.trans s10)
  have hS10 := s10 _ _ hS
  have hP10 := ((hP7.bt s8).bt s9).bt s10
  have c10 : Bt p H3 H10 := c7.trans (Same.bt ((s8.trans s9).trans s10))
  have hh10 := hh8.same (s9.trans s10)
  have r10 : ∀ H', Same H10 H' → Rp H' (.ref h) dt := fun H' z => r1 H' (s10.trans z)
  have nSp : S ≠ p := pot_ne (hP7.bt s8) hSn
  clear s8 s9 s10 ht10 ht hR8 hh8 hm hSn hS hh7 r1
  -- the points that lie in it
  refine ⟨_, rfl, S, rfl, ⟨_, SqL.of hS10⟩, fun I hI => ?_⟩
  refine lc_filt (i := 10) (u := S) (f := V.int) (is := ys) (g := memL l) (fun _ => rfl) (fun _ => rfl) hS10 (by omega) hI (fun a Hx _ sx Rx rx => ?_) fun H11 s11 hI11 => ?_
  · exact ⟨_, rfl, _, rfl, R, l, a, rfl, hR10.same sx, by omega, fun Hy sy => ⟨_, rfl, rx Hy sy⟩⟩
  refine normS (σ' := [some (.ref p), some (.ref R), some (.ref A0), some (.ref h), some (.ref m), some (.ref S), some (.str dt.shown), some (.ref I), none, none, none]) rfl ?_
  have hm11 := hm10.same s11
  have hR11 := hR10.same s11
  have hS11 := s11 _ _ hS10
  have hP11 := hP10.bt s11
  have c11 := c10.trans (Same.bt s11)
  have hh11 := hh10.same s11
  have nIh : I ≠ h := fun z => by
    rw [z] at hI
    rcases hh10 with ⟨_, e, _⟩ | ⟨_, e, _⟩ <;> (rw [hI] at e; cases e)
  have nIp : I ≠ p := pot_ne hP10 hI
  obtain ⟨d1, u1, em, eu⟩ := id hm11
  refine ⟨_, rfl, .ref m, .ref CM, .ref C, _, _, rfl, .own _, O.ty em, O.kit, true, rfl, ?_⟩
  refine (show (if (!true) = true then _ else _) from ?_)
  rw [if_neg (by decide)]
  refine ⟨_, rfl, .ref h, dt, rfl, r10 _ s11, r2, r3, r4, _, rfl, rfl, false, ?_, ?_⟩
  · rw [decide_eq_true rfl] <;> rfl
  refine (show (if false = true then _ else _) from ?_)
  rw [if_neg (by decide)]
  -- a list that was handed over is changed
  refine if_app (i := 3) rfl hh11 (by omega) fun HB w1 w2 => ?_
  have tp : ∀ c q, SwAt H11 c q → SwAt HB c q := fun c q e => w2 _ _ e (fun xs z => by cases z)
  have nph : p ≠ h := fun z => by
    obtain ⟨x, y, e, _⟩ := hP11
    rcases hh11 with ⟨ts, e', _⟩ | ⟨ts, e', _⟩
    · rw [z, e'] at e
      have e2 := Option.some.inj e
      cases ts with
      | nil => cases e2
      | cons t ts => cases e2
    · rw [z, e'] at e
      cases e
  have hmB : NSet C HB m n := by
    obtain ⟨us, eu1, eu2⟩ := eu
    exact ⟨d1, u1, w2 _ _ em (fun xs z => by cases z), us, w2 _ _ eu1 (fun xs z => by cases z), eu2.mono tp⟩
  have nRh : R ≠ h := by
    obtain ⟨us, a, _⟩ := hR3
    exact ne_of_none a hhn
  have hRB : LstSw HB R l := by
    obtain ⟨us, a, b⟩ := hR11
    exact ⟨us, w1 _ _ nRh a, b.mono tp⟩
  have hSB := w1 _ _ nSh hS11
  have hIB := w1 _ _ nIh hI11
  have hPB : PotAt HB p := by
    obtain ⟨x, y, e, r⟩ := hP11
    exact ⟨x, y, w1 _ _ nph e, r⟩
  have cB : Bt p H HB := fun c o nc e => w1 _ _ (ne_of_none (c3 c o nc e) hhn) (c11 c o nc (c3 c o nc e))
  clear w1 w2 tp em eu hm11 hR11 hS11 hI11 hP11 c11 hh11 hm10 hR10 hS10 hP10 c10 hh10 r10 hI s11 hP7 hP3 c7 hR7 hR3 hhn nph nRh nSh nIh r2 r3 r4 c3
  -- what it tells
  obtain ⟨d1, u1, em, eu⟩ := id hmB
  refine ⟨_, rfl, m, d1, _, rfl, em, rfl, m, n, rfl, hmB, fun g H12 g0 s12 hg12 => ?_⟩
  have npg : p ≠ g := fun z => by
    obtain ⟨x, y, e, _⟩ := hPB
    rw [z, g0] at e
    cases e
  refine normS (σ' := [some (.ref p), some (.ref R), some (.ref A0), some (.ref h), some (.ref m), some (.ref S), some (.str dt.shown), some (.ref I), some (.ref g), none, none]) rfl ?_
  refine ⟨_, rfl, g, n, rfl, hg12, ha, by omega, fun H13 s13 => ⟨true, rfl, ?_⟩⟩
  refine (show (if (!true) = true then _ else _) from ?_)
  rw [if_neg (by decide)]
  have z13 := s12.trans s13
  have hg13 := hg12.same s13
  have ysl : ys.length ≤ 1000 := by omega
  have isl : (ys.filter (memL l)).length ≤ 64 := Nat.le_trans (List.length_filter_le _ _) (by omega)
  -- the points in it
  refine ⟨_, rfl, S, rfl, ⟨_, SqL.of (z13 _ _ hSB)⟩, fun I2 hI2 => ?_⟩
  refine lc_filt (i := 10) (u := S) (f := V.int) (is := ys) (g := memL l) (fun _ => rfl) (fun _ => rfl) (z13 _ _ hSB) ysl hI2 (fun a Hx _ sx Rx rx => ?_) fun H14 s14 hI14 => ?_
  · have k := hmB.same (z13.trans sx)
    obtain ⟨d2, u2, em2, _⟩ := id k
    exact ⟨_, rfl, _, rfl, m, d2, _, rfl, em2, m, n, .int a, rfl, k, by omega, .inl ⟨a, rfl, fun Hy sy => ⟨memL n a, rfl, _, rfl, by rw [hv' a]; exact rx Hy sy⟩⟩⟩
  have z14 := z13.trans s14
  refine ⟨_, rfl, .list ((ys.filter (memL l)).map .int), .list ((ys.filter (memL l)).map .int), .lst (SqL.of hI14) (dp_ints _), .lst (SqL.of (z14 _ _ hIB)) (dp_ints _), shaped_ints _, shaped_ints _, false, ?_, ?_⟩
  · show V.bl (!PyData.eqvAll ((ys.filter (memL l)).map .int) ((ys.filter (memL l)).map .int)) = V.bl false
    rw [eqv_ints, decide_eq_true rfl] <;> rfl
  refine (show (if false = true then _ else _) from ?_)
  rw [if_neg (by decide)]
  -- what is in no set
  refine ⟨_, rfl, p, rfl, hPB.bt z14, fun x H15 ov b15 hP15 => ?_⟩
  have b15' : Bt p HB H15 := (Same.bt z14).trans b15
  have k15 := hmB.nb hPB b15'
  have hg15 := (hg13.same s14).nb (hPB.bt z14) b15
  obtain ⟨d2, u2, em2, _⟩ := id k15
  refine ⟨_, rfl, m, d2, _, rfl, em2, m, n, x, rfl, k15, by omega, .inr ⟨ov.1, fun H16 s16 => ⟨false, rfl, false, rfl, ?_⟩⟩⟩
  refine (show (if false = true then _ else _) from ?_)
  rw [if_neg (by decide)]
  have k16 := k15.same s16
  obtain ⟨d3, u3, em3, _⟩ := id k16
  refine ⟨_, rfl, m, d3, _, rfl, em3, m, n, .str "a", rfl, k16, by omega, .inr ⟨strs_num "a", fun H17 s17 => ⟨false, rfl, false, rfl, ?_⟩⟩⟩
  refine (show (if false = true then _ else _) from ?_)
  rw [if_neg (by decide)]
  have b17 : Bt p HB H17 := b15'.trans (Same.bt (s16.trans s17))
  have hP17 := (hP15.bt s16).bt s17
  have hg17 := (hg15.same s16).same s17
  clear k15 k16 b15 b15' hP15 hg15 s16 s17 hg13 s14 hI14 z14 hI2 z13 s13 hg12 s12 em2 em3 ov
  have hS17 := b17 _ _ nSp hSB
  have hI17 := b17 _ _ nIp hIB
  -- the told stretches say the same
  refine ⟨_, rfl, S, rfl, ⟨_, SqL.of hS17⟩, fun I3 hI3 => ?_⟩
  refine lc_filt (i := 10) (u := S) (f := V.int) (is := ys) (g := memL l) (fun _ => rfl) (fun _ => rfl) hS17 ysl hI3 (fun a Hx _ sx Rx rx => ?_) fun H18 s18 hI18 => ?_
  · exact ⟨_, rfl, _, rfl, g, n, a, rfl, hg17.same sx, by omega, fun Hy sy => ⟨_, rfl, by rw [hv' a]; exact rx Hy sy⟩⟩
  refine ⟨_, rfl, .list ((ys.filter (memL l)).map .int), .list ((ys.filter (memL l)).map .int), .lst (SqL.of hI18) (dp_ints _), .lst (SqL.of (s18 _ _ hI17)) (dp_ints _), shaped_ints _, shaped_ints _, false, ?_, ?_⟩
  · show V.bl (!PyData.eqvAll ((ys.filter (memL l)).map .int) ((ys.filter (memL l)).map .int)) = V.bl false
    rw [eqv_ints, decide_eq_true rfl] <;> rfl
  refine (show (if false = true then _ else _) from ?_)
  rw [if_neg (by decide)]
  have b18 : Bt p HB H18 := b17.trans (Same.bt s18)
  have hP18 := hP17.bt s18
  have hg18 := hg17.same s18
  have hI18' := s18 _ _ hI17
  have hm18 := hmB.nb hPB b18
  clear hI18 hI17 hS17 hI3 hg17 hP17 b17 s18 hSB hIB
  -- what repr tells
  obtain ⟨a1, a2, a3⟩ := lst_shown smn (show n.length ≤ 100 by omega)
  have big : 20000 ≤ sizeLine := by decide
  have e1 : ("Numbers(" : Str).length = 8 := by decide +kernel
  have e2 : (")" : Str).length = 1 := by decide +kernel
  have txt : nsText n = "Numbers(" ++ (PyData.list (n.map pD)).shown ++ ")" := by
    unfold nsText
    rw [PySem.Str.empty_append]
  obtain ⟨d4, u4, em4, _⟩ := id hm18
  refine ⟨_, rfl, m, d4, _, rfl, em4, m, n, rfl, hm18, smn, by omega, fun H19 s19 => ⟨_, rfl, ?_⟩⟩
  refine ⟨_, rfl, _, _, rfl, rp_lst (hg18.same s19), a1, Nat.le_trans a2 (by decide), a3, _, _, rfl, rfl, ?_, _, _, rfl, rfl, ?_, rfl, false, ?_, ?_⟩
  · rw [e1]
    omega
  · rw [strLen_append, e1, e2]
    omega
  · show V.bl (!decide (V.str (nsText n) = V.str ("Numbers(" ++ (PyData.list (n.map pD)).shown ++ ")"))) = V.bl false
    rw [txt, decide_eq_true rfl] <;> rfl
  refine (show (if false = true then _ else _) from ?_)
  rw [if_neg (by decide)]
  have hm19 := hm18.same s19
  obtain ⟨d5, u5, em5, _⟩ := id hm19
  refine ⟨_, rfl, m, d5, _, rfl, em5, m, d5, _, rfl, em5, rfl, rfl, false, ?_, ?_⟩
  · rw [decide_eq_true rfl] <;> rfl
  refine (show (if false = true then _ else _) from ?_)
  rw [if_neg (by decide)]
  -- size, is_empty, least
  refine ⟨_, rfl, m, d5, _, rfl, em5, m, n, rfl, hm19, by omega, fun H20 s20 => ?_⟩
  have hm20 := hm19.same s20
  obtain ⟨d6, u6, em6, _⟩ := id hm20
  refine ⟨_, rfl, m, d6, _, rfl, em6, m, n, rfl, hm20, by omega, fun H21 s21 => ?_⟩
  have hm21 := hm20.same s21
  obtain ⟨d7, u7, em7, _⟩ := id hm21
  refine ⟨_, rfl, m, d7, _, rfl, em7, rfl, m, n, rfl, hm21, ha.1, by omega, fun r H22 hr1 s22 => ⟨by show 3 ≤ sizeLine; decide, fun L hL => ?_⟩⟩
  have sL := same_upd (o := HO.lst [oV (cntS n), V.bl (decide (cntS n = some 0)), oV r]) hL
  have hL1 : (upd H22 L (.lst [oV (cntS n), V.bl (decide (cntS n = some 0)), oV r])) L = some (.lst [oV (cntS n), V.bl (decide (cntS n = some 0)), oV r]) := upd_same
  generalize upd H22 L (.lst [oV (cntS n), V.bl (decide (cntS n = some 0)), oV r]) = H23 at sL hL1 ⊢
  have z23 := (((s19.trans s20).trans s21).trans s22).trans sL
  have smc : SmO (cntS n) := fun c hc => by
    obtain ⟨_, e⟩ := cnt_some hc
    have := cnt_bd bdn
    rw [← e] at this
    have k : n.length * (2 * 10 ^ 29 + 1) ≤ 6 * (2 * 10 ^ 29 + 1) := Nat.mul_le_mul_right _ n6
    exact Nat.lt_of_le_of_lt (Nat.le_trans this k) (by decide)
  have smr : SmO r := fun c hc => by
    rcases hr1 with ⟨_, e⟩ | ⟨w', e, _, _, z⟩
    · rw [e] at hc
      cases hc
    · rw [e] at hc
      cases hc
      rcases z with rfl | ⟨x, hx, e | e⟩
      · decide
      · exact (smn x hx).1 c e
      · exact (smn x hx).2 c e
  obtain ⟨t1, t2, t3⟩ := three_shown (k := decide (cntS n = some 0)) smc smr
  refine ⟨_, _, rfl, .lst hL1 (.cons (rp_oV _) (.cons (.bl _) (.cons (rp_oV _) .nil))), t1, t2, t3, ?_⟩
  -- the same counted here
  have hg23 := hg18.same z23
  refine ⟨_, rfl, g, n, rfl, hg23, by omega, fun H24 s24 => ?_⟩
  refine ⟨_, rfl, Nat.zero_le _, fun E0' hE => ?_⟩
  have s25 := same_upd (o := HO.lst []) hE
  have hE1 : (upd H24 E0' (.lst [])) E0' = some (.lst []) := upd_same
  generalize upd H24 E0' (.lst []) = H25 at s25 hE1 ⊢
  have z25 := (z23.trans s24).trans s25
  refine ⟨.list (n.map pD), .list [], dp_lst (hg18.same z25), .lst (SqL.of hE1) .nil, shaped_lst n, rfl, ?_⟩
  have ee : PyData.eqv (.list (n.map pD)) (.list []) = decide (cntS n = some 0) := (eqv_pDs n []).trans (cnt_zero ha.1).symm
  rw [ee]
  refine ⟨_, rfl, I, ys.filter (memL l), rfl, z25 _ _ hI18', by omega, fun r' H26 hr2' s26 => ⟨by show 3 ≤ sizeLine; decide, fun L2 hL2 => ?_⟩⟩
  have er : r = r' := least_same (l := l) ha hv' (fun k => by
    constructor
    · intro hk
      exact ⟨(List.mem_filter.mp hk).2, .inr (.inr hk)⟩
    · rintro ⟨mk, h1 | ⟨x, hx, h1⟩ | h1⟩
      · refine List.mem_filter.mpr ⟨(hys k).mpr ?_, mk⟩
        rw [h1]
        exact List.mem_append_left _ (by simp)
      · exact List.mem_filter.mpr ⟨(hys k).mpr (edge_pt hx h1).1, mk⟩
      · exact h1) hr1 hr2'
  subst er
  have sL2 := same_upd (o := HO.lst [oV (cntS n), V.bl (decide (cntS n = some 0)), oV r]) hL2
  have hL3 : (upd H26 L2 (.lst [oV (cntS n), V.bl (decide (cntS n = some 0)), oV r])) L2 = some (.lst [oV (cntS n), V.bl (decide (cntS n = some 0)), oV r]) := upd_same
  generalize upd H26 L2 (.lst [oV (cntS n), V.bl (decide (cntS n = some 0)), oV r]) = H27 at sL2 hL3 ⊢
  refine ⟨_, _, rfl, .lst hL3 (.cons (rp_oV _) (.cons (.bl _) (.cons (rp_oV _) .nil))), t1, t2, t3, rfl, false, ?_, ?_⟩
  · show V.bl (!decide (V.str _ = V.str _)) = V.bl false
    rw [decide_eq_true rfl] <;> rfl
  refine (show (if false = true then _ else _) from ?_)
  rw [if_neg (by decide)]
  have z27 := (z25.trans s26).trans sL2
  have hg27 := hg18.same z27
  have hm27 := hm18.same z27
  have b27 : Bt p HB H27 := b18.trans (Same.bt z27)
  have hP27 := hP18.bt z27
  clear hL3 hL2 hE1 hE hL1 hL t1 t2 t3 z25 z23 hg23 s19 s20 s21 s22 s24 s25 s26 sL sL2 hm18 hm19 hm20 hm21 em4 em5 em6 em7 hg18 hI18' hr1 hr2' z27 b18 hP18 smc smr txt
  -- once more, by what was told
  obtain ⟨us, eg, pg⟩ := hg27
  refine ⟨_, rfl, g, _, rfl, .inl (SqL.of eg), fun q0 hq0 => ?_⟩
  have s28 := same_upd (o := HO.lst (us.map V.ref)) hq0
  have lq : LstSw (upd H27 q0 (.lst (us.map V.ref))) q0 n := ⟨us, upd_same, pg.mono fun t y e => SwAt.same s28 e⟩
  generalize upd H27 q0 (.lst (us.map V.ref)) = H28 at s28 lq ⊢
  intro m2 dx xm xd xn
  refine made_nW (.inl lq.sws) ha.1 (by omega) xm xd xn fun n2 H29 hm2 ha2 hv2' hle2 s29 => ⟨rfl, ?_⟩
  clear xm xd xn
  obtain rfl : n2 = n := asc_uniq ha2 ha hv2'
  refine normS (σ' := [some (.ref p), some (.ref R), some (.ref A0), some (.ref h), some (.ref m), some (.ref S), some (.str dt.shown), some (.ref I), some (.ref g), some (.ref m2), none]) rfl ?_
  have z29 := s28.trans s29
  -- what was told is changed
  refine ⟨_, rfl, .inl ⟨rfl, _, SqL.of (z29 _ _ eg)⟩, by show 2 ≤ sizeLine; decide, fun t3 ht3 => ?_⟩
  have s30 := same_upd (o := HO.tup [V.non, V.non]) ht3
  refine ⟨g, _, _, rfl, rfl, s30 _ _ (z29 _ _ eg), by rw [List.length_map, pg.length]; exact Nat.lt_of_le_of_lt (show _ ≤ 6 by omega) (by decide), ?_⟩
  have ng : ∀ {c : Addr} {o : HO}, HB c = some o → c ≠ g := fun {c o} e => ne_of_none e g0
  have z30 := z29.trans s30
  have eg30 := z30 _ _ eg
  have m2n : ∀ {c : Addr} {o : HO}, (upd H29 t3 (.tup [V.non, V.non])) c = some o → (∀ xs, o ≠ .lst xs) → c ≠ g := fun {c o} e no z => by
    rw [z, eg30] at e
    exact no _ (Option.some.inj e).symm
  have hm230 := hm2.same s30
  have hm30 := hm27.same z30
  have hP30 := hP27.bt z30
  have b30 : Bt p HB (upd (upd H29 t3 (.tup [V.non, V.non])) g (.lst (us.map V.ref ++ [.ref t3]))) := bt_over (b27.trans (Same.bt z30)) g0
  have hP31 : PotAt (upd (upd H29 t3 (.tup [V.non, V.non])) g (.lst (us.map V.ref ++ [.ref t3]))) p := pot_over hP30 npg
  have keep : ∀ {m' : Addr}, NSet C (upd H29 t3 (.tup [V.non, V.non])) m' n2 → NSet C (upd (upd H29 t3 (.tup [V.non, V.non])) g (.lst (us.map V.ref ++ [.ref t3]))) m' n2 := fun {m'} ⟨dd, uu, f1, vs, f2, f3⟩ =>
    ⟨dd, uu, by rw [upd_ne (m2n f1 fun xs z => by cases z)]; exact f1, vs, by rw [upd_ne (m2n f2 fun xs z => by cases z)]; exact f2, f3.mono fun c y f => by
      unfold SwAt
      rw [upd_ne (m2n f fun xs z => by cases z)]
      exact f⟩
  have k30 := keep hm30
  have k230 := keep hm230
  have pg30 : Paired (SwAt (upd (upd H29 t3 (.tup [V.non, V.non])) g (.lst (us.map V.ref ++ [.ref t3])))) us n2 := pg.mono fun c y f => by
    have f' := SwAt.same z30 f
    unfold SwAt
    rw [upd_ne (m2n f' fun xs z => by cases z)]
    exact f'
  have hg31 : (upd (upd H29 t3 (.tup [V.non, V.non])) g (.lst (us.map V.ref ++ [.ref t3]))) g = some (.lst (us.map V.ref ++ [.ref t3])) := upd_same
  generalize upd (upd H29 t3 (.tup [V.non, V.non])) g (.lst (us.map V.ref ++ [.ref t3])) = H31 at b30 hP31 k30 k230 pg30 hg31 ⊢
  clear keep m2n hm230 hm30 hP30 z30 eg30 s30 z29 hm2 lq s28 s29 hm27 b27 hP27
  obtain ⟨d8, u8, em8, _⟩ := id k30
  refine ⟨_, rfl, m, d8, _, rfl, em8, rfl, m, n2, rfl, k30, fun g2 H32 _ s32 hg32 => ?_⟩
  refine ⟨_, rfl, 1, rfl, -1, rfl, g, _, rfl, SqL.of (s32 _ _ hg31), fun A1 hA1 => ?_⟩
  rw [show -(1 : Int) = -1 from rfl, cut_front, List.dropLast_concat]
  have s33 := same_upd (o := HO.lst (us.map V.ref)) hA1
  have hA2 : LstSw (upd H32 A1 (.lst (us.map V.ref))) A1 n2 := ⟨us, upd_same, pg30.mono fun c y f => SwAt.same (s32.trans s33) f⟩
  generalize upd H32 A1 (.lst (us.map V.ref)) = H33 at s33 hA2 ⊢
  refine ⟨.list (n2.map pD), .list (n2.map pD), dp_lst (hg32.same s33), dp_lst hA2, shaped_lst n2, shaped_lst n2, false, ?_, ?_⟩
  · show V.bl (!PyData.eqvAll (n2.map pD) (n2.map pD)) = V.bl false
    rw [eqv_pDs, decide_eq_true rfl] <;> rfl
  refine (show (if false = true then _ else _) from ?_)
  rw [if_neg (by decide)]
  have z33 := s32.trans s33
  have k33 := k30.same z33
  have k233 := k230.same z33
  obtain ⟨d9, u9, em9, _⟩ := id k33
  obtain ⟨d10, u10, em10, _⟩ := id k233
  have oth : ∀ {Hx : Hp} {m' : Addr}, NSet C Hx m' n2 → OthV K C Hx (.ref m') := fun {Hx m'} ⟨dd, uu, f1, _⟩ => .inl ⟨m', rfl, .inl ⟨C, dd, _, f1, notFirst_self⟩⟩
  refine ⟨_, rfl, _, rfl, m, d9, _, rfl, em9, oth k233, m, n2, .ref m2, rfl, k33, .inl ⟨m2, n2, rfl, k233, true, ?_, false, rfl, ?_⟩⟩
  · rw [decide_eq_true rfl]
  refine (show (if false = true then _ else _) from ?_)
  rw [if_neg (by decide)]
  refine ⟨_, rfl, _, rfl, m2, d10, _, rfl, em10, oth k33, m2, n2, .ref m, rfl, k233, .inl ⟨m, n2, rfl, k33, true, ?_, true, rfl, ?_⟩⟩
  · rw [decide_eq_true rfl]
  rw [if_pos rfl]
  have b33 : Bt p HB H33 := b30.trans (Same.bt z33)
  have hR33 := hRB.nb hPB b33
  refine ⟨_, rfl, ?_⟩
  intro m3 dx3 xm xd xn
  refine made_nW (.inl hR33.sws) (fun x hx => (hrow x hx).1) (by omega) xm xd xn fun n3 H34 hm3 ha3 hv3 hle3 s34 => ⟨rfl, ?_⟩
  obtain rfl : n3 = n2 := asc_uniq ha3 ha fun v => (hv3 v).trans (hv' v).symm
  have k34 := k33.same s34
  obtain ⟨d11, u11, em11, _⟩ := id hm3
  refine ⟨_, rfl, m3, d11, _, rfl, em11, oth k34, m3, n3, .ref m, rfl, hm3, .inl ⟨m, n3, rfl, k34, true, ?_, ?_⟩⟩
  · rw [decide_eq_true rfl]
  exact q H34 (cB.trans (b33.trans (Same.bt s34))) ((hP31.bt z33).bt s34)
end
end S8

end Ps8j
section Ps8k
set_option maxHeartbeats 16000000
namespace S8
open PySem PySem.Spec L2 PyProof.Rows Sm
/-! ### two sets of numbers; given numbers -/
abbrev s_twoR : Stmt := top 47
abbrev s_of : Stmt := top 48
abbrev s_givenR : Stmt := top 49
abbrev nTwoR : List Str := ["_law_rows", "_law_more", "_law_points_here", "_law_are_alike", "_law_number"]
theorem sc_twoR : FnScope nTwoR ["_law_rows", "_law_more"] (defScope s_twoR) := ⟨rfl, rfl, rfl, by decide +kernel, rfl, by decide +kernel, by decide +kernel⟩
theorem sc_of : FnScope ["_law_numbers"] ["_law_numbers"] (defScope s_of) := ⟨rfl, rfl, rfl, by decide +kernel, rfl, by decide +kernel, by decide +kernel⟩
/-- no built-in type stands before the class; the other class neither -/
structure Nf (K : PySem.W.Frag) (C CM CT : Addr) : Prop where
  l : PySem.W.notFirst K C (.type "list") = true
  kl : PySem.W.kitOne K (.type "list") (.ref CM) = some false
  x : PySem.W.notFirst K C (.ref CT) = true
def spTwoR : Sp := fun vs H Q _ => ∃ (R S : Addr) (l m l0 : List St2), vs = [.ref R, .ref S] ∧ LstSw H R l ∧ LstSw H S m ∧ (∀ x ∈ l, RowL x) ∧ (∀ x ∈ m, RowL x) ∧ Cov (l ++ m) l0 ∧ (l ++ m).length ≤ 20 ∧ ∀ H', Same H H' → Q (.bl true) H'
def NewN2 (C : Addr) (l : List St2) (H : Hp) (Q : VK) : Prop := ∀ m n H', NSet C H' m n → ascS n → (∀ v, memL n v = memL l v) → Same H H' → Q (.ref m) H'
def spLawOf (C : Addr) : Sp := fun vs H Q _ => ∃ (L : Addr) (is : List Int), vs = [.ref L] ∧ H L = some (.lst (is.map V.int)) ∧ is.length ≤ 3 ∧ NewN2 C (is.map fun i => (some i, some i)) H Q
section
variable {P : Program} {w : World} {K : PySem.W.Frag} {mg : Str → Option Value} {base : Heap} {f fPO fHS fE fI fT C CM CT d0 d1 pO fO fF pF : Addr} {fd dPO dHS dE dI dT : FuncData} {mc : Value} {g1 g2 g3 g4 : List Value → List Value → List Value}
theorem ok_twoR (F : FD K "_law_two_right" s_twoR f fd) (MN : MkN P w K mg base C fI dI d0) (MT : MkT P w K mg base CT fT dT d1 g1 g2 g3 g4) (PO : Kn P w K mg base 1 "_law_points" fPO dPO ["_law_rows"] spPts) (HS : Kn P w K mg base 1 "_law_has" fHS dHS ["_law_rows", "_law_number"] spHasL) (EF : EqF P w K mg base C fE dE (spEqN K C CM CT)) (NF : Nf K C CM CT) :
    FnOk P w K mg base CX0 7 f fd ["_law_rows", "_law_more"] spTwoR := by
  refine F.ok sc_twoR (fun vs H Q E h => ?_) (fun cdv A outer s H vs Q E hr h => ?_)
  · obtain ⟨R, S, l, m, l0, rfl, _⟩ := h
    rfl
  obtain ⟨R, S, l, m, l0, rfl, hR, hS, rl, rm, cov, len, q⟩ := h
  have hu := hr.units
  have nd := sc_twoR.nd
  refine ⟨_, PSs.nox (pss_cons (ps_set (i := 2) nd rfl (Or.inl rfl) (pe_call PO.f (hr.mono (by decide)) rfl PO.m PO.k PO.b .nil pass0 (pa_cons (pe_op op_cat (pv 0) (pv 1)) pa_nil)))
    (pss_cons (ps_set (i := 3) nd rfl (Or.inl rfl) (pe_cmpR (op_eqD (by exact hu)) (pe_lc (own := [("_law_number", 4)]) (g := gName 4) (tt := tYes) (te := tCall spHasL [] E0 (tCons (tVar 0) (tCons (tVar 4) tNil))) rfl nd (pi_list (pv 2)) (blkOk_by (N := nTwoR) (sc := defScope s_twoR) (by decide +kernel)) (fun _ _ _ _ _ => by exact pg_name (i := 4) nd rfl (Or.inl rfl)) (fun _ _ _ _ _ => pts_nil) (fun _ _ _ _ _ => by exact pe_call HS.f (hr.mono (by decide)) rfl HS.m HS.k HS.b .nil pass0 (pa_cons (pv 0) (pa_cons (pv 4) pa_nil))))
        (pe_lc (own := [("_law_number", 4)]) (g := gName 4) (tt := tYes) (te := tCall spHasL [] E0 (tCons (tVar 1) (tCons (tVar 4) tNil))) rfl nd (pi_list (pv 2)) (blkOk_by (N := nTwoR) (sc := defScope s_twoR) (by decide +kernel)) (fun _ _ _ _ _ => by exact pg_name (i := 4) nd rfl (Or.inl rfl)) (fun _ _ _ _ _ => pts_nil) (fun _ _ _ _ _ => by exact pe_call HS.f (hr.mono (by decide)) rfl HS.m HS.k HS.b .nil pass0 (pa_cons (pv 1) (pa_cons (pv 4) pa_nil)))) (nomark _)))
    (pss_one (ps_ret (pe_and (pe_cmpR op_eq (pe_cmpR (op_eqO EF.o EF.g EF.b (hr.mono (by decide))) (pe_make MN.mkC MN.g hr rfl MN.m MN.b .nil pass0 (pa_cons (pv 0) pa_nil)) (pe_make MN.mkC MN.g hr rfl MN.m MN.b .nil pass0 (pa_cons (pv 1) pa_nil)) (nomark _)) (pv 3) (nomark _))
        (pe_and (pe_cmpR (op_neO EF.o EF.g EF.b (hr.mono (by decide))) (pe_make MN.mkC MN.g hr rfl MN.m MN.b .nil pass0 (pa_cons (pv 0) pa_nil)) (pv 0) (nomark _))
        (pe_one (pe_cmpR (op_neO EF.o EF.g EF.b (hr.mono (by decide))) (pe_make MN.mkC MN.g hr rfl MN.m MN.b .nil pass0 (pa_cons (pv 0) pa_nil)) (pe_makeK0 MT.mkC MT.g hr rfl MT.m MT.b4 pass0 pk_nil) (nomark _))))))))), ?_⟩
  obtain ⟨ts, eR, pR⟩ := id hR
  obtain ⟨us, eS, pS⟩ := id hS
  have lR := pR.length
  have lS := pS.length
  rw [List.length_append] at len
  refine ⟨_, rfl, _, rfl, R, S, _, _, rfl, rfl, eR, eS, by rw [List.length_map, List.length_map]; exact Nat.le_trans (show _ ≤ 20 by omega) (by decide), fun Z hZ => ?_⟩
  have s1 := same_upd (o := HO.lst (ts.map V.ref ++ us.map V.ref)) hZ
  have hZ1 : LstSw (upd H Z (.lst (ts.map V.ref ++ us.map V.ref))) Z (l ++ m) := ⟨ts ++ us, by rw [List.map_append]; exact upd_same, (paired_app pR pS).mono fun t y e => SwAt.same s1 e⟩
  generalize upd H Z (.lst (ts.map V.ref ++ us.map V.ref)) = H1 at s1 hZ1 ⊢
  refine ⟨Z, l ++ m, l0, rfl, hZ1, by rw [List.length_append]; omega, cov, fun Y ys H2 hy hys hyl hY hYn s2 => ?_⟩
  have z2 := s1.trans s2
  refine normS (σ' := [some (.ref R), some (.ref S), some (.ref Y), none, none]) rfl ?_
  refine ⟨_, rfl, Y, rfl, ⟨_, SqL.of hY⟩, fun A hA => ?_⟩
  refine lc_each (i := 4) (u := Y) (f := V.int) (h := fun k => V.bl (memL l k)) (is := ys) (fun _ => rfl) hY (by omega) hA (fun a Hx _ sx Rx rx => ?_) fun H3 s3 hA3 => ?_
  · exact ⟨_, rfl, _, rfl, R, l, a, rfl, hR.same (z2.trans sx), by omega, fun Hy sy => rx Hy sy⟩
  refine ⟨_, rfl, Y, rfl, ⟨_, SqL.of (s3 _ _ hY)⟩, fun B hB => ?_⟩
  refine lc_each (i := 4) (u := Y) (f := V.int) (h := fun k => V.bl (memL m k)) (is := ys) (fun _ => rfl) (s3 _ _ hY) (by omega) hB (fun a Hx _ sx Rx rx => ?_) fun H4 s4 hB4 => ?_
  · exact ⟨_, rfl, _, rfl, S, m, a, rfl, hS.same ((z2.trans s3).trans sx), by omega, fun Hy sy => rx Hy sy⟩
  have hA4 := s4 _ _ hA3
  rw [show (fun k => V.bl (memL l k)) = V.bl ∘ memL l from rfl, ← List.map_map] at hA4
  rw [show (fun k => V.bl (memL m k)) = V.bl ∘ memL m from rfl, ← List.map_map] at hB4
  refine ⟨.list ((ys.map (memL l)).map .bool), .list ((ys.map (memL m)).map .bool), .lst (SqL.of hA4) (dp_bls _), .lst (SqL.of hB4) (dp_bls _), shaped_bls _, shaped_bls _, ?_⟩
  have ev : PyData.eqv (.list ((ys.map (memL l)).map .bool)) (.list ((ys.map (memL m)).map .bool)) = decide (ys.map (memL l) = ys.map (memL m)) := eqv_bls _ _
  rw [ev]
  refine normS (σ' := [some (.ref R), some (.ref S), some (.ref Y), some (.bl (decide (ys.map (memL l) = ys.map (memL m)))), none]) rfl ?_
  have z4 := (z2.trans s3).trans s4
  have hR4 := hR.same z4
  have hS4 := hS.same z4
  clear hA4 hB4 hA3 hA hB s3 s4 z2 s1 s2 hZ1 hZ ev
  -- two sets
  refine ⟨_, rfl, ?_⟩
  intro m1 dx xm xd xn
  refine made_nW (.inl hR4.sws) (fun x hx => (rl x hx).1) (by omega) xm xd xn fun n1 H5 hm1 ha1 hv1 hl1 s5 => ⟨rfl, ?_⟩
  clear xm xd xn
  refine ⟨_, rfl, ?_⟩
  intro m2 dx xm xd xn
  refine made_nW (.inl (hS4.same s5).sws) (fun x hx => (rm x hx).1) (by omega) xm xd xn fun n2 H6 hm2 ha2 hv2 hl2 s6 => ⟨rfl, ?_⟩
  clear xm xd xn
  have k1 := hm1.same s6
  obtain ⟨d1, u1, e1, _⟩ := id k1
  obtain ⟨d2, u2, e2, _⟩ := id hm2
  refine ⟨m1, d1, _, rfl, e1, .inl ⟨m2, rfl, .inl ⟨C, d2, _, e2, notFirst_self⟩⟩, m1, n1, .ref m2, rfl, k1, .inl ⟨m2, n2, rfl, hm2, decide (n1 = n2), rfl, ?_⟩⟩
  refine ⟨_, rfl, rfl, true, ?_, ?_⟩
  · show V.bl (decide (V.bl (decide (n1 = n2)) = V.bl (decide (ys.map (memL l) = ys.map (memL m))))) = V.bl true
    have key : (n1 = n2) ↔ (ys.map (memL l) = ys.map (memL m)) := by
      constructor
      · intro e
        refine List.map_congr_left fun a _ => ?_
        rw [← hv1 a, ← hv2 a, e]
      · intro e
        have ea := List.map_inj_left.mp e
        refine asc_uniq ha1 ha2 fun v => ?_
        rw [hv1 v, hv2 v]
        exact pts_alike (k := l ++ m) rl rm (fun x hx => List.mem_append_left _ hx) (fun x hx => List.mem_append_right _ hx) (fun x hx => ea x ((hys x).mpr hx)) v
    rw [decide_eq_decide.mpr key, decide_eq_true rfl]
  rw [if_pos rfl]
  have s56 := s5.trans s6
  have hR6 := hR4.same s56
  refine ⟨_, rfl, ?_⟩
  intro m3 dx xm xd xn
  refine made_nW (.inl hR6.sws) (fun x hx => (rl x hx).1) (by omega) xm xd xn fun n3 H7 hm3 ha3 hv3 hl3 s7 => ⟨rfl, ?_⟩
  clear xm xd xn
  obtain ⟨d3, u3, e3, _⟩ := id hm3
  have hR7 := hR6.same s7
  obtain ⟨ts7, eR7, _⟩ := id hR7
  refine ⟨_, rfl, m3, d3, _, rfl, e3, .inl ⟨R, rfl, .inr (.inl ⟨_, eR7, NF.l⟩)⟩, m3, n3, .ref R, rfl, hm3, .inr (.inl ⟨_, .base (.lst eR7), NF.kl, false, rfl, true, rfl, ?_⟩)⟩
  rw [if_pos rfl]
  refine ⟨_, rfl, ?_⟩
  intro m4 dx xm xd xn
  refine made_nW (.inl hR7.sws) (fun x hx => (rl x hx).1) (by omega) xm xd xn fun n4 H8 hm4 ha4 hv4 hl4 s8 => ⟨rfl, rfl, rfl, ?_⟩
  clear xm xd xn
  intro m5 dx xm xd xn
  refine made_tW (ws := []) (.inr (.inr ⟨rfl, MT.e⟩)) (fun k h => nomatch h) (by decide) (fun z => absurd rfl z) xm xd xn fun n5 H9 hm5 _ _ _ s9 => ⟨rfl, ?_⟩
  obtain ⟨d5, u5, e5, _⟩ := id hm5
  have k4 := hm4.same s9
  obtain ⟨d4, u4, e4, _⟩ := id k4
  refine ⟨m4, d4, _, rfl, e4, .inl ⟨m5, rfl, .inl ⟨CT, d5, _, e5, NF.x⟩⟩, m4, n4, .ref m5, rfl, k4, .inr (.inr ⟨m5, d5, _, rfl, e5, rfl, false, rfl, ?_⟩)⟩
  exact q H9 ((((z4.trans s56).trans s7).trans s8).trans s9)
theorem ok_of (F : FD K "_law_of" s_of f fd) (mN : mg "Numbers" = some (.ref C)) (CO : CMo P w K mg base C mc "of" pO fO (spOfN C)) (tl : mg "len" = none) : FnOk P w K mg base CX0 8 f fd ["_law_numbers"] (spLawOf C) := by
  refine F.ok sc_of (fun vs H Q E h => ?_) (fun cdv A outer s H vs Q E hr h => ?_)
  · obtain ⟨L, is, rfl, _⟩ := h
    rfl
  obtain ⟨L, is, rfl, hL, hl, q⟩ := h
  have hu := hr.units
  refine ⟨_, PSs.nox (pss_cons (ps_if (pt_cmpR (op_eqD (by exact hu)) (pv 0) (pe_lst pa_nil) (nomark _)) (pss_one (ps_ret (pe_cmeth0 (pe_glob (v := .ref C) rfl mN rfl) CO.r CO.c CO.g hr pass0))) pss_nil)
    (pss_cons (ps_if (pt_cmpR op_eq (pe_callB call_len_seq (by rfl) tl boot_len (pa_cons (pv 0) pa_nil)) pe_int (nomark _)) (pss_one (ps_ret (ClX.pe_cmeth (pe_glob (v := .ref C) rfl mN rfl) CO.r CO.c CO.g hr pass0 (pa_cons (pe_ix ix_list (pv 0) pe_int (fun _ _ => rfl)) pa_nil)))) pss_nil)
    (pss_cons (ps_if (pt_cmpR op_eq (pe_callB call_len_seq (by rfl) tl boot_len (pa_cons (pv 0) pa_nil)) pe_int (nomark _)) (pss_one (ps_ret (ClX.pe_cmeth (pe_glob (v := .ref C) rfl mN rfl) CO.r CO.c CO.g hr pass0 (pa_cons (pe_ix ix_list (pv 0) pe_int (fun _ _ => rfl)) (pa_cons (pe_ix ix_list (pv 0) pe_int (fun _ _ => rfl)) pa_nil))))) pss_nil)
    (pss_one (ps_ret (ClX.pe_cmeth (pe_glob (v := .ref C) rfl mN rfl) CO.r CO.c CO.g hr pass0 (pa_cons (pe_ix ix_list (pv 0) pe_int (fun _ _ => rfl)) (pa_cons (pe_ix ix_list (pv 0) pe_int (fun _ _ => rfl)) (pa_cons (pe_ix ix_list (pv 0) pe_int (fun _ _ => rfl)) pa_nil))))))))), ?_⟩
  refine ⟨_, rfl, Nat.zero_le _, fun Z hZ => ?_⟩
  have s1 := same_upd (o := HO.lst []) hZ
  have hZ1 : (upd H Z (.lst [])) Z = some (.lst []) := upd_same
  have hL1 := s1 _ _ hL
  generalize upd H Z (.lst []) = H1 at s1 hZ1 hL1 ⊢
  have q1 : ∀ m n H', NSet C H' m n → ascS n → (∀ v, memL n v = memL (is.map fun i => (some i, some i)) v) → n.length ≤ (is.map fun i => (some i, some i)).length → Same H1 H' → Q (.ref m) H' := fun m n H' a b c _ e => q m n H' a b c (s1.trans e)
  refine ⟨.list (is.map .int), .list [], .lst (SqL.of hL1) (dp_ints _), .lst (SqL.of hZ1) .nil, shaped_ints _, rfl, decide (is = []), by rw [← eqv_ints is []] <;> rfl, ?_⟩
  refine ite2 (fun h => ?_) (fun h => ?_)
  · have e := of_decide_eq_true h
    subst e
    exact ⟨rfl, of_is (is := []) rfl (by decide) q1⟩
  have ne : is ≠ [] := fun z => h (decide_eq_true z)
  have ln : (is.map V.int).length = is.length := List.length_map ..
  refine ⟨_, rfl, L, _, rfl, .inl (SqL.of hL1), rfl, decide (is.length = 1), ?_, ?_⟩
  · rw [ln]
    show V.bl (decide (V.int (is.length : Nat) = V.int 1)) = _
    congr 1
    rw [decide_eq_decide]
    constructor
    · intro e
      have := V.int.inj e
      omega
    · intro e
      rw [e]
      rfl
  refine ite2 (fun h => ?_) (fun h1 => ?_)
  · have e := of_decide_eq_true h
    match is, e, hL1, q1 with
    | [x], _, hL1, q1 => exact ⟨rfl, _, rfl, L, _, 0, _, rfl, rfl, SqL.of hL1, rfl, of_is (is := [x]) rfl (show 1 ≤ 1000 by decide) q1⟩
  refine ⟨_, rfl, L, _, rfl, .inl (SqL.of hL1), rfl, decide (is.length = 2), ?_, ?_⟩
  · rw [ln]
    show V.bl (decide (V.int (is.length : Nat) = V.int 2)) = _
    congr 1
    rw [decide_eq_decide]
    constructor
    · intro e
      have := V.int.inj e
      omega
    · intro e
      rw [e]
      rfl
  refine ite2 (fun h => ?_) (fun h2 => ?_)
  · have e := of_decide_eq_true h
    match is, e, hL1, q1 with
    | [x, y], _, hL1, q1 => exact ⟨rfl, _, rfl, L, _, 0, _, rfl, rfl, SqL.of hL1, rfl, _, rfl, L, _, 1, _, rfl, rfl, SqL.of hL1, rfl, of_is (is := [x, y]) rfl (show 2 ≤ 1000 by decide) q1⟩
  have e3 : is.length = 3 := by
    have a1 : is.length ≠ 1 := fun z => h1 (decide_eq_true z)
    have a2 : is.length ≠ 2 := fun z => h2 (decide_eq_true z)
    have a0 : is.length ≠ 0 := fun z => ne (List.length_eq_zero_iff.mp z)
    omega
  match is, e3, hL1, q1 with
  | [x, y, z], _, hL1, q1 => exact ⟨rfl, _, rfl, L, _, 0, _, rfl, rfl, SqL.of hL1, rfl, _, rfl, L, _, 1, _, rfl, rfl, SqL.of hL1, rfl, _, rfl, L, _, 2, _, rfl, rfl, SqL.of hL1, rfl, of_is (is := [x, y, z]) rfl (show 3 ≤ 1000 by decide) q1⟩
end
end S8

end Ps8k
section Ps8l
set_option maxHeartbeats 16000000
namespace S8
open PySem PySem.Spec L2 PyProof.Rows Sm
/-! ### given numbers; the whole sets -/
abbrev nGivR : List Str := ["_law_pot_here", "_law_numbers", "_law_turn", "_law_number"]
theorem sc_givR : FnScope nGivR ["_law_pot_here"] (defScope s_givenR) := ⟨rfl, rfl, rfl, by decide +kernel, rfl, by decide +kernel, by decide +kernel⟩
theorem lc_draws {α : Type} {σ : L2.St} {H : Hp} {Qd : Hp → Prop} {i D p : Addr} {te : TE} {n : Nat} (Rl : Hp → V → α → Prop) (mono : ∀ H H' v a, PotAt H p → Bt p H H' → Rl H v a → Rl H' v a) (keep : ∀ H' xs ys v a, H' D = some (.lst xs) → Rl H' v a → Rl (upd H' D (.lst ys)) v a)
    (hs : ∀ y : Option V, wipe ((wipe σ [i]).set i y) [i] = wipe σ [i]) (hP : PotAt H p) (hD : H D = none) (hn : n ≤ 1000)
    (el : ∀ y H', PotAt H' p → Bt p H H' → ∀ R : VK, (∀ v a H'', Rl H'' v a → Bt p H' H'' → PotAt H'' p → R v H'') → te ((wipe σ [i]).set i (some y)) H' R)
    (q : ∀ H' vs as, as.length = n → H' D = some (.lst vs) → Paired (Rl H') vs as → Bt p H H' → PotAt H' p → Qd H') : LcW (Itr 0 n) (gName i) tYes te [i] σ H D Qd := by
  have nD : D ≠ p := pot_ne hP hD
  refine lc_it (walk_range (lo := 0) (n := n)) (fun k H' => Bt p H H' ∧ PotAt H' p ∧ ∃ vs as, as.length = k ∧ H' D = some (.lst vs) ∧ Paired (Rl H') vs as) ⟨Same.bt (same_upd hD), hP.bt (same_upd hD), [], [], rfl, upd_same, .nil⟩ (fun _ _ _ _ => trivial) (fun k x H2 H' hi ⟨b, hP', vs, as, la, hD', pr⟩ ⟨ee, hx⟩ => ?_) (fun H' ⟨b, hP', vs, as, la, hD', pr⟩ => q H' vs as la hD' pr b hP')
  subst ee
  refine ⟨hs _, ?_⟩
  simp only [tYes, ↓reduceIte]
  refine el _ _ hP' b _ fun v a H3 rv b3 hP3 => ?_
  have hD3 := b3 _ _ nD hD'
  exact ⟨vs, hD3, by rw [pr.length, la]; exact Nat.lt_of_lt_of_le (show k < 1000 by omega) (by decide), bt_over (b.trans b3) hD, pot_over hP3 (Ne.symm nD), vs ++ [v], as ++ [a], by rw [List.length_append, la]; rfl, upd_same,
    Paired.snoc ((pr.mono fun t y e => mono _ _ _ _ hP' b3 e).mono fun t y e => keep _ _ _ _ _ hD3 e) (keep _ _ _ _ _ hD3 rv)⟩
theorem paired_val {α : Type} {f : α → V} {p : α → Prop} : ∀ {vs : List V} {as : List α}, Paired (fun v a => v = f a ∧ p a) vs as → vs = as.map f ∧ ∀ a ∈ as, p a
  | _, _, .nil => ⟨rfl, fun a h => nomatch h⟩
  | _, _, .cons r t => by
    obtain ⟨e, h⟩ := paired_val t
    refine ⟨by rw [r.1, e]; rfl, fun a ha => ?_⟩
    rcases List.mem_cons.mp ha with rfl | ha
    · exact r.2
    · exact h a ha
/-- [(i, i) for i in is] -/
theorem lc_twin {K : PySem.W.Frag} {σ : L2.St} {H : Hp} {Qd : Hp → Prop} {i u D : Addr} {te : TE} {is : List Int} (hs : ∀ y : Option V, wipe ((wipe σ [i]).set i y) [i] = wipe σ [i]) (hu : H u = some (.lst (is.map V.int))) (hl : is.length ≤ 1000) (hD : H D = none)
    (el : ∀ a H', ∀ R : VK, (∀ t, H' t = none → R (.ref t) (upd H' t (.tup [.int a, .int a]))) → te ((wipe σ [i]).set i (some (.int a))) H' R)
    (q : ∀ H', Same H H' → LstSw H' D (is.map fun i => (some i, some i)) → Qd H') : LcW (Itl K u) (gName i) tYes te [i] σ H D Qd := by
  have nuD : u ≠ D := ne_of_none hu hD
  have e0 : (is.map V.int).length = is.length := List.length_map ..
  have wk := walk_list (K := K) (a := u) (xs := is.map V.int)
  rw [e0] at wk
  refine lc_it wk (fun k H' => Bt D H H' ∧ ∃ us : List Addr, H' D = some (.lst (us.map V.ref)) ∧ us.length = k ∧ Paired (SwAt H') us ((is.take k).map fun i => (some i, some i))) ⟨bt_upd, [], upd_same, rfl, .nil⟩ (fun k H' _ ⟨bt, _⟩ => SqL.of (bt _ _ nuD hu)) (fun k x H2 H' hi ⟨bt, us, h1, h2, h3⟩ ⟨ee, hx⟩ => ?_) (fun H' ⟨bt, us, h1, h2, h3⟩ => ?_)
  · subst ee
    have ip : is[k]? = some (is[k]'(by omega)) := List.getElem?_eq_getElem (by omega)
    generalize is[k]'(by omega) = a at ip
    rw [List.getElem?_map, ip] at hx
    cases (show V.int a = x from Option.some.inj hx)
    refine ⟨hs _, ?_⟩
    simp only [tYes, ↓reduceIte]
    refine el a H' _ fun t ht => ?_
    have s2 := same_upd (o := HO.tup [V.int a, V.int a]) ht
    have hu1 : SwAt (upd H' t (.tup [V.int a, V.int a])) t (some a, some a) := upd_same
    have hD1 := s2 _ _ h1
    have pr1 := h3.mono fun t q e => SwAt.same s2 e
    have bt2 := bt.trans (Same.bt s2)
    generalize upd H' t (.tup [V.int a, V.int a]) = H4 at hu1 hD1 pr1 bt2 ⊢
    have keep : ∀ c q, SwAt H4 c q → SwAt (upd H4 D (.lst (us.map V.ref ++ [.ref t]))) c q := fun c q e => by
      have n : c ≠ D := fun z => by
        unfold SwAt at e
        rw [z, hD1] at e
        cases e
      exact (upd_ne n).trans e
    refine ⟨_, hD1, by rw [List.length_map, h2]; exact Nat.lt_of_lt_of_le (show k < 1000 by omega) (by decide), bt2.trans bt_upd, us ++ [t], by rw [upd_same, List.map_append]; rfl, by rw [List.length_append, h2]; rfl, ?_⟩
    rw [List.take_add_one, ip, List.map_append]
    exact (pr1.mono fun c q e => keep c q e).snoc (keep _ _ hu1)
  · rw [List.take_length] at h3
    exact q H' (fun b o e => bt b o (ne_of_none e hD) e) ⟨us, h1, h3⟩
theorem least_full {n : List St2} {r : Option Int} (hv : ∀ v, memL n v = memL [(none, none)] v) (h : LeastOf n r) : r = some 0 := by
  have all : ∀ v, memL n v = true := fun v => by rw [hv v]; rfl
  rcases h with ⟨rfl, _⟩ | ⟨w, rfl, _, lw, _⟩
  · exact absurd (all 0) (by decide)
  · rw [nat_anti (lw 0 (all 0)) (nat_zero w)]
structure TGR (mg : Str → Option Value) : Prop where
  rng : mg "range" = none
def spGivR : Sp := fun vs H Q _ => ∃ (p : Addr), vs = [.ref p] ∧ PotAt H p ∧ ∀ H', Bt p H H' → PotAt H' p → Q (.bl true) H'
section
variable {P : Program} {w : World} {K : PySem.W.Frag} {mg : Str → Option Value} {base : Heap} {f fD fLM fLO fE fET fI fT fLS fSZ pS C CM CT d0 d1 pO fO pF fF pTO fTO pTF fTF : Addr} {fd dD dLM dLO dE dET dI dT dLS dSZ : FuncData} {mc mct : Value} {g1 g2 g3 g4 : List Value → List Value → List Value}
theorem ok_givR (F : FD K "_law_given_right" s_givenR f fd) (T : TGR mg) (N : NSc K C) (NT : TSc K CT) (D : Kn P w K mg base 1 "_law_draw" fD dD ["_law_pot_here", "_law_many"] spDraw) (LM : Kn P w K mg base 3 "_law_limit" fLM dLM ["_law_pot_here"] spLimit) (LO : Kn P w K mg base 8 "_law_of" fLO dLO ["_law_numbers"] (spLawOf C))
    (MN : MkN P w K mg base C fI dI d0) (MT : MkT P w K mg base CT fT dT d1 g1 g2 g3 g4) (EF : EqF P w K mg base C fE dE (spEqN K C CM CT)) (ET : EqF P w K mg base CT fET dET (spEqT K CT CM C)) (LS : MtF P w K mg base 7 C "least" fLS dLS (spFirN C)) (SZ : PrF P w K mg base 2 CT "size" pS fSZ dSZ (spAmtT CT))
    (CO : CMo P w K mg base C mc "of" pO fO (spOfN C)) (CF : CMo P w K mg base C mc "full" pF fF (spFullN C)) (TO : CMo P w K mg base CT mct "of" pTO fTO (spOfT CT)) (TF : CMo P w K mg base CT mct "full" pTF fTF (spFullT CT)) :
    FnOk P w K mg base CX0 9 f fd ["_law_pot_here"] spGivR := by
  refine F.ok sc_givR (fun vs H Q E h => ?_) (fun cdv A outer s H vs Q E hr h => ?_)
  · obtain ⟨p, rfl, _⟩ := h
    rfl
  obtain ⟨p, rfl, hP, q⟩ := h
  have hu := hr.units
  have nd := sc_givR.nd
  have vd : Vals [V.ref d0] [Value.ref d0] := .cons rfl .nil
  refine ⟨_, PSs.nox (pss_cons (ps_setLc (i := 1) (own := [("_law_turn", 2)]) (g := gName 2) (tt := tYes) (te := tCall spLimit [] E0 (tCons (tVar 0) tNil)) rfl nd rfl rfl (sw_true rfl rfl rfl (by decide +kernel)) (pi_range1 rfl T.rng (pa_cons (pe_call D.f (hr.mono (by decide)) rfl D.m D.k D.b .nil pass0 (pa_cons (pv 0) (pa_cons pe_int pa_nil))) pa_nil)) (blkOk_by (N := nGivR) (sc := defScope s_givenR) (by decide +kernel)) (fun _ _ _ _ _ => by exact pg_name (i := 2) nd rfl (Or.inl rfl)) (fun _ _ _ _ _ => pts_nil) (fun _ _ _ _ _ => by exact pe_call LM.f (hr.mono (by decide)) rfl LM.m LM.k LM.b .nil pass0 (pa_cons (pv 0) pa_nil)))
    (pss_cons (ps_if (pt_cmpR (op_neO EF.o EF.g EF.b (hr.mono (by decide))) (pe_make MN.mkC MN.g (hr.mono (by decide)) rfl MN.m MN.b .nil pass0 (pa_cons (pe_lc (own := [("_law_number", 3)]) (g := gName 3) (tt := tYes) (te := tTup (tCons (tVar 3) (tCons (tVar 3) tNil))) rfl nd (pi_list (pv 1)) (blkOk_by (N := nGivR) (sc := defScope s_givenR) (by decide +kernel)) (fun _ _ _ _ _ => by exact pg_name (i := 3) nd rfl (Or.inl rfl)) (fun _ _ _ _ _ => pts_nil) (fun _ _ _ _ _ => by exact pe_tup (pa_cons (pv 3) (pa_cons (pv 3) pa_nil)))) pa_nil)) (pe_call LO.f (hr.mono (by decide)) rfl LO.m LO.k LO.b .nil pass0 (pa_cons (pv 1) pa_nil)) (nomark _)) pss_never pss_nil)
    (pss_cons (ps_if (PW.pt (pw_or (pt_cmpR (op_neO EF.o EF.g EF.b (hr.mono (by decide))) (pe_make0 MN.mkC MN.g (hr.mono (by decide)) rfl MN.m MN.b0 vd pass0) (pe_cmeth0 (pe_glob (v := .ref C) rfl MN.m rfl) CO.r CO.c CO.g (hr.mono (by decide)) pass0) (nomark _))
        (pw_or (pt_cmpR (op_neO EF.o EF.g EF.b (hr.mono (by decide))) (pe_cmeth0 (pe_glob (v := .ref C) rfl MN.m rfl) CF.r CF.c CF.g (hr.mono (by decide)) pass0) (pe_make MN.mkC MN.g (hr.mono (by decide)) rfl MN.m MN.b .nil pass0 (pa_cons (pe_lst (pa_cons (pe_tup (pa_cons pe_non (pa_cons pe_non pa_nil))) pa_nil)) pa_nil)) (nomark _))
        (pw_or1 (pt_cmpR op_ne (pe_meth0 (pe_cmeth0 (pe_glob (v := .ref C) rfl MN.m rfl) CF.r CF.c CF.g (hr.mono (by decide)) pass0) N.cl LS.m LS.g (hr.mono (by decide)) LS.b .nil pass0) pe_int (nomark _)))))) pss_never pss_nil)
    (pss_one (ps_ret (pe_and (pe_cmpR (op_eqO ET.o ET.g ET.b (hr.mono (by decide))) (pe_cmeth0 (pe_glob (v := .ref CT) rfl MT.m rfl) TF.r TF.c TF.g (hr.mono (by decide)) pass0) (pe_makeK0 MT.mkC MT.g (hr.mono (by decide)) rfl MT.m MT.b2 pass0 (pk_cons pe_bl pk_nil)) (nomark _))
        (pe_and (pe_cmpR (op_eqO ET.o ET.g ET.b (hr.mono (by decide))) (pe_cmeth0 (pe_glob (v := .ref CT) rfl MT.m rfl) TO.r TO.c TO.g (hr.mono (by decide)) pass0) (pe_makeK MT.mkC MT.g (hr.mono (by decide)) rfl MT.m MT.b3 pass0 (pa_cons (pe_lst pa_nil) pa_nil) pk_nil) (nomark _))
        (pe_one (pe_cmp (pc_isN (pe_prop (pe_cmeth0 (pe_glob (v := .ref CT) rfl MT.m rfl) TF.r TF.c TF.g (hr.mono (by decide)) pass0) NT.cl SZ.p SZ.g (hr.mono (by decide)) SZ.b .nil pass0 (by rfl))) rfl))))))))), ?_⟩
  refine ⟨_, rfl, p, 4, rfl, hP, by decide, by decide, fun d H1 d0' d1 b1 hP1 => ⟨d, rfl, by omega, by omega, fun L hL => ?_⟩⟩
  refine lc_draws (p := p) (n := d.toNat) (α := Int) (fun _ v a => v = .int a ∧ True) (fun _ _ _ _ _ _ e => e) (fun _ _ _ _ _ _ e => e) (fun _ => rfl) hP1 hL (by omega) (fun y Hx hPx bx Rx rx => ?_) fun H2 vs is il hL2 pr b2 hP2 => ?_
  · exact ⟨_, rfl, p, rfl, hPx, fun v H' lv b hP' => rx _ v H' ⟨rfl, trivial⟩ b hP'⟩
  obtain ⟨rfl, _⟩ := paired_val pr
  have len : is.length ≤ 3 := by omega
  have c2 := b1.trans b2
  refine normS (σ' := [some (.ref p), some (.ref L), none, none]) rfl ?_
  -- of
  refine ⟨_, rfl, L, rfl, ⟨_, SqL.of hL2⟩, fun A hA => ?_⟩
  refine lc_twin (i := 3) (u := L) (is := is) (fun _ => rfl) hL2 (by omega) hA (fun a Hx Rx rx => ?_) fun H3 s3 hA3 => ?_
  · exact ⟨_, rfl, _, rfl, by show 2 ≤ sizeLine; decide, fun t ht => rx t ht⟩
  intro m1 dx xm xd xn
  refine made_nW (.inl hA3.sws) (fun x hx a b e1 e2 => ?_) (by rw [List.length_map]; omega) xm xd xn fun n1 H4 hm1 ha1 hv1 _ s4 => ⟨rfl, ?_⟩
  · obtain ⟨i, _, rfl⟩ := List.mem_map.mp hx
    cases e1
    cases e2
    exact Int.le_refl _
  clear xm xd xn
  refine ⟨_, rfl, L, is, rfl, (s3.trans s4) _ _ hL2, len, fun m2 n2 H5 hm2 ha2 hv2 s5 => ?_⟩
  have oth : ∀ {Hx : Hp} {m' : Addr} {n'}, NSet C Hx m' n' → OthV K C Hx (.ref m') := fun {Hx m' n'} ⟨dd, uu, f1, _⟩ => .inl ⟨m', rfl, .inl ⟨C, dd, _, f1, notFirst_self⟩⟩
  have othT : ∀ {Hx : Hp} {m' : Addr} {n' o'}, WSet CT Hx m' n' o' → OthV K CT Hx (.ref m') := fun {Hx m' n' o'} ⟨dd, uu, f1, _⟩ => .inl ⟨m', rfl, .inl ⟨CT, dd, _, f1, notFirst_self⟩⟩
  have k1 := hm1.same s5
  obtain ⟨d1', u1, e1, _⟩ := id k1
  obtain rfl : n1 = n2 := asc_uniq ha1 ha2 fun v => (hv1 v).trans (hv2 v).symm
  refine ⟨m1, d1', _, rfl, e1, oth hm2, m1, n1, .ref m2, rfl, k1, .inl ⟨m2, n1, rfl, hm2, true, ?_, false, rfl, ?_⟩⟩
  · rw [decide_eq_true rfl]
  refine (show (if false = true then _ else _) from ?_)
  rw [if_neg (by decide)]
  have z5 := (s3.trans s4).trans s5
  have c5 := c2.trans (Same.bt z5)
  have hP5 := hP2.bt z5
  clear k1 hm1 hm2 s3 s4 s5 hA3 hA z5 c2
  -- none at all
  intro m3 dx xm xd xn
  refine made_nW (l := []) (.inr ⟨rfl, MN.e⟩) (fun x hx => nomatch hx) (by decide) xm xd xn fun n3 H6 hm3 ha3 hv3 _ s6 => ⟨rfl, rfl, ?_⟩
  clear xm xd xn
  refine of_is (is := []) rfl (by decide) fun m4 n4 H7 hm4 ha4 hv4 _ s7 => ?_
  obtain rfl : n3 = n4 := asc_uniq ha3 ha4 fun v => (hv3 v).trans (hv4 v).symm
  have k3 := hm3.same s7
  obtain ⟨d3, u3, e3, _⟩ := id k3
  refine ⟨m3, d3, _, rfl, e3, oth hm4, m3, n3, .ref m4, rfl, k3, .inl ⟨m4, n3, rfl, hm4, true, ?_, false, rfl, ?_⟩⟩
  · rw [decide_eq_true rfl]
  refine (show (if false = true then _ else _) from ?_)
  rw [if_neg (by decide)]
  -- all of them
  refine ⟨rfl, rfl, fun m5 n5 H8 hm5 ha5 hv5 _ s8 => ?_⟩
  refine ⟨by show 2 ≤ sizeLine; decide, fun t ht => ⟨by show 1 ≤ sizeLine; decide, fun g hg => ?_⟩⟩
  have s9 : Same H8 (upd (upd H8 t (.tup [.non, .non])) g (.lst [.ref t])) := (same_upd ht).trans (same_upd hg)
  have l1 : SwsAt (upd (upd H8 t (.tup [.non, .non])) g (.lst [.ref t])) g [(none, none)] := ⟨[t], .inl upd_same, .cons ((same_upd hg) _ _ upd_same) .nil⟩
  generalize upd (upd H8 t (.tup [.non, .non])) g (.lst [.ref t]) = H9 at s9 l1 ⊢
  intro m6 dx xm xd xn
  refine made_nW (.inl l1) (fun p hp x y e => by rw [List.mem_singleton.mp hp] at e; cases e) (by decide) xm xd xn fun n6 H10 hm6 ha6 hv6 _ s10 => ⟨rfl, ?_⟩
  clear xm xd xn
  obtain rfl : n5 = n6 := asc_uniq ha5 ha6 fun v => (hv5 v).trans (hv6 v).symm
  have k5 := hm5.same (s9.trans s10)
  obtain ⟨d5, u5, e5, _⟩ := id k5
  refine ⟨m5, d5, _, rfl, e5, oth hm6, m5, n5, .ref m6, rfl, k5, .inl ⟨m6, n5, rfl, hm6, true, ?_, false, rfl, ?_⟩⟩
  · rw [decide_eq_true rfl]
  refine (show (if false = true then _ else _) from ?_)
  rw [if_neg (by decide)]
  refine ⟨rfl, rfl, fun m7 n7 H11 hm7 ha7 hv7 nl7 s11 => ?_⟩
  obtain ⟨d7, u7, e7, _⟩ := id hm7
  refine ⟨m7, d7, _, rfl, e7, rfl, m7, n7, rfl, hm7, ha7.1, Nat.le_trans nl7 (by decide), fun r H12 lr s12 => ?_⟩
  rw [least_full hv7 lr]
  refine ⟨rfl, false, ?_, ?_⟩
  · show V.bl (!decide (V.int 0 = V.int 0)) = V.bl false
    rw [decide_eq_true rfl] <;> rfl
  refine (show (if false = true then _ else _) from ?_)
  rw [if_neg (by decide)]
  have z12 := (((((s6.trans s7).trans s8).trans s9).trans s10).trans s11).trans s12
  clear k5 k3 hm7 hm6 hm5 hm4 hm3 s6 s7 s8 s9 s10 s11 s12 l1 hg ht
  -- texts
  refine ⟨rfl, rfl, fun t1 w1 H13 ht1 _ hw1 _ s13 => ?_⟩
  have nil_ : ∀ {ws : List Str}, (∀ k, k ∈ ws ↔ k ∈ ([] : List Str)) → ws = [] := fun {ws} h => by
    cases ws with
    | nil => rfl
    | cons a r => exact absurd ((h a).mp List.mem_cons_self) List.not_mem_nil
  obtain rfl := nil_ hw1
  refine ⟨rfl, rfl, ?_⟩
  intro t2 dx xm xd xn
  refine made_tW (ws := []) (.inr (.inr ⟨rfl, MT.e⟩)) (fun k h => nomatch h) (by decide) (fun z => absurd rfl z) xm xd xn fun w2 H14 ht2 _ hw2 _ s14 => ⟨rfl, ?_⟩
  clear xm xd xn
  obtain rfl := nil_ hw2
  have j1 := ht1.same s14
  obtain ⟨f1, v1, g1', _⟩ := id j1
  refine ⟨t1, f1, _, rfl, g1', othT ht2, t1, [], true, .ref t2, rfl, j1, (fun k h => nomatch h), .inl ⟨t2, [], true, rfl, ht2, (fun k h => nomatch h), fun H15 s15 => ⟨true, rfl, true, rfl, ?_⟩⟩⟩
  rw [if_pos rfl]
  refine ⟨rfl, of_none fun t3 w3 H16 ht3 _ hw3 _ s16 => ?_⟩
  obtain rfl := nil_ hw3
  refine ⟨Nat.zero_le _, fun e he => ?_⟩
  have s17 := same_upd (o := HO.lst []) he
  have he1 : (upd H16 e (.lst [])) e = some (.lst []) := upd_same
  generalize upd H16 e (.lst []) = H17 at s17 he1 ⊢
  refine ⟨rfl, rfl, ?_⟩
  intro t4 dx xm xd xn
  refine made_tW (ws := []) (.inl he1) (fun k h => nomatch h) (by decide) (fun z => absurd rfl z) xm xd xn fun w4 H18 ht4 _ hw4 _ s18 => ⟨rfl, ?_⟩
  clear xm xd xn
  obtain rfl := nil_ hw4
  have j3 := ht3.same (s17.trans s18)
  obtain ⟨f3, v3, g3', _⟩ := id j3
  refine ⟨t3, f3, _, rfl, g3', othT ht4, t3, [], false, .ref t4, rfl, j3, (fun k h => nomatch h), .inl ⟨t4, [], false, rfl, ht4, (fun k h => nomatch h), fun H19 s19 => ⟨true, rfl, true, rfl, ?_⟩⟩⟩
  rw [if_pos rfl]
  refine ⟨rfl, rfl, fun t5 w5 H20 ht5 _ hw5 _ s20 => ?_⟩
  obtain ⟨f5, v5, g5', _⟩ := id ht5
  refine ⟨t5, f5, _, rfl, g5', t5, w5, true, rfl, ht5, ?_⟩
  have zz := z12.trans (s13.trans (s14.trans (s15.trans (s16.trans (s17.trans (s18.trans (s19.trans s20)))))))
  exact q H20 (c5.trans (Same.bt zz)) (hP5.bt zz)
end
end S8

end Ps8l
section PLT
set_option maxHeartbeats 4000000
/-! list(text): a new list of its letters -/
namespace L2
open PySem PySem.Spec PyProof.Rows
def chV (z : Str) : List V := z.cps.toList.map fun c => V.str ⟨#[c]⟩
def rListS1 : List V → Hp → VK → Prop := fun xs H Q => ∃ z : Str, xs = [.str z] ∧ z.length ≤ sizeLine ∧ ∀ p, H p = none → Q (.ref p) (upd H p (.lst (chV z)))
theorem call_listS {X : Cx} (hcalm : X.calm = true) : CallR X (.type "list") rListS1 := by
  intro pins s σ H xs us Q I r q
  obtain ⟨z, rfl, hz, q⟩ := q
  obtain ⟨u, rfl, t, rfl⟩ := vals1 r
  refine PySem.call_list_str (I.ok.hd hcalm) z t (fun h' tk acc c' hk hD hacc => ?_) hz
  have ln : (chV z).length = z.cps.size := by
    unfold chV
    rw [List.length_map, Array.length_toList]
  have hv : Vals (chV z) acc.toList := vals_of_idx _ _ (by rw [Array.length_toList, ln]; exact hacc.1) fun j v e => by
    obtain ⟨c, w, hc, rfl⟩ := hacc.2 j v (by rw [← Array.getElem?_toList]; exact e)
    refine ⟨V.str ⟨#[c]⟩, ?_, ⟨w, rfl⟩⟩
    unfold chV
    rw [List.getElem?_map, Array.getElem?_toList, hc]
    rfl
  exact ⟨.ref s.heap.objs.size, upd H s.heap.objs.size (.lst (chV z)), I.laid (t' := tk) hk (Nat.le_refl _)
    (show ObjOk X.prog X.w _ _ _ (.lst (chV z)) from ⟨by rw [ln]; exact hz, acc.toList, c', hv, by rw [Array.toArray_toList]; exact hD⟩), rfl, q _ (I.hok.fresh (Nat.le_refl _))⟩
end L2

end PLT
section Ps8m
set_option maxHeartbeats 8000000
namespace S8
open PySem PySem.Spec L2 PyProof.Rows Sm
/-! ### a pick out of a text, a word -/
abbrev s_word : Stmt := top 50
abbrev s_missing : Stmt := top 51
def spPickS : Sp := fun vs H Q _ => ∃ (p : Addr) (z : Str), vs = [.ref p, .str z] ∧ PotAt H p ∧ 0 < z.length ∧ z.length ≤ 1000 ∧ ∀ (i : Nat) (c : Nat) (H' : Hp), z.cps.toList[i]? = some c → Bt p H H' → PotAt H' p → Q (.str ⟨#[c]⟩) H'
def spWord : Sp := fun vs H Q _ => ∃ (p : Addr), vs = [.ref p] ∧ PotAt H p ∧ ∀ (z : Str) (H' : Hp), wordB z 12 = true → Bt p H H' → PotAt H' p → Q (.str z) H'
theorem letters_ok : lettersS.cps.toList.all letB = true := by decide +kernel
abbrev nWord : List Str := ["_law_pot_here", "_law_letters", "_law_way", "_law_turn"]
theorem sc_word : FnScope nWord ["_law_pot_here"] (defScope s_word) := ⟨rfl, rfl, rfl, by decide +kernel, rfl, by decide +kernel, by decide +kernel⟩
theorem join_letters (cs : List Nat) : (Txt.join ("" : Str) (cs.map fun c => (⟨#[c]⟩ : Str))).cps.toList = cs := by
  have j : ∀ l : List Nat, TL.joinL [] (l.map fun c => [c]) = l := fun l => by
    induction l with
    | nil => rfl
    | cons a r ih =>
      cases r with
      | nil => rfl
      | cons b r => exact congrArg (a :: ·) ih
  have e : TL.tl (Txt.join ("" : Str) (cs.map fun c => (⟨#[c]⟩ : Str))) = cs := by
    rw [TL.join_eq, TL.tl_join, List.map_map]
    exact j cs
  exact e
theorem word_of {z : Str} (l : 1 ≤ z.length) (m : z.length ≤ 12) (h : ∀ c ∈ z.cps.toList, letB c = true) : wordB z 12 = true := wordB_of (m := 12) l m h
theorem let_of {c : Nat} (h : c ∈ lettersS.cps.toList) : letB c = true := List.all_eq_true.mp letters_ok c h
section
variable {P : Program} {w : World} {K : PySem.W.Frag} {mg : Str → Option Value} {base : Heap} {f fD fP : Addr} {fd dD dP : FuncData}
theorem ok_pickS (F : FD K "_law_pick" sPick f fd) (T : TxtP K mg) (D : Kn P w K mg base 1 "_law_draw" fD dD ["_law_pot_here", "_law_many"] spDraw) : FnOk P w K mg base CX0 2 f fd ["_law_pot_here", "_law_some"] spPickS := by
  refine F.ok scPick (fun vs H Q E h => ?_) (fun cdv A outer s H vs Q E hr h => ?_)
  · obtain ⟨p, z, rfl, _⟩ := h
    rfl
  · obtain ⟨p, z, rfl, hP, l0, l1, kk⟩ := h
    refine ⟨_, PSs.nox (pss_one (ps_ret (pe_ix ix_str (pv 1) (pe_call D.f hr rfl D.m D.k D.b .nil pass0 (pa_cons (pv 0) (pa_cons (pe_callB call_len_str (by rfl) T.len PySem.boot_len (pa_cons (pv 1) pa_nil)) pa_nil))) (fun _ _ => rfl)))), ?_⟩
    have hs : z.length ≤ sizeLine := Nat.le_trans l1 (by decide)
    refine ⟨_, rfl, _, rfl, _, rfl, z, rfl, hs, p, _, rfl, hP, by omega, by omega, fun d H' d0 d1 hb hp' => ?_⟩
    have hd : d.toNat < z.cps.toList.length := by
      have : z.length = z.cps.toList.length := by simp [Str.length]
      omega
    have e : z.cps.toList[d.toNat]? = some (z.cps.toList[d.toNat]'hd) := List.getElem?_eq_getElem hd
    refine ⟨z, d, z.cps.toList[d.toNat]'hd, rfl, rfl, hs, ?_, kk d.toNat _ H' e hb hp'⟩
    have q := atI_nat e
    rw [Int.toNat_of_nonneg d0] at q
    exact q
theorem ok_word (F : FD K "_law_word" s_word f fd) (tr : mg "range" = none) (D : Kn P w K mg base 1 "_law_draw" fD dD ["_law_pot_here", "_law_many"] spDraw) (PL : Kn P w K mg base 2 "_law_pick" fP dP ["_law_pot_here", "_law_some"] (spPick K)) (PS_ : Kn P w K mg base 2 "_law_pick" fP dP ["_law_pot_here", "_law_some"] spPickS) :
    FnOk P w K mg base CX0 3 f fd ["_law_pot_here"] spWord := by
  refine F.ok sc_word (fun vs H Q E h => ?_) (fun cdv A outer s H vs Q E hr h => ?_)
  · obtain ⟨p, rfl, _⟩ := h
    rfl
  obtain ⟨p, rfl, hP, kk⟩ := h
  have nd := sc_word.nd
  refine ⟨_, PSs.nox (pss_cons (ps_set (i := 1) nd rfl (Or.inr rfl) pe_str)
    (pss_cons (ps_set (i := 2) nd rfl (Or.inl rfl) (pe_call D.f (hr.mono (by decide)) rfl D.m D.k D.b .nil pass0 (pa_cons (pv 0) (pa_cons pe_int pa_nil))))
    (pss_cons (ps_if (pt_cmpR op_eq (pv 2) pe_int (nomark _)) (pss_one (ps_ret (pe_join pe_str (pe_lc (own := [("_law_turn", 3)]) (g := gName 3) (tt := tYes) (te := tCall spPickS [] E0 (tCons (tVar 0) (tCons (tVar 1) tNil))) rfl nd (pi_range1 rfl tr (pa_cons (pe_op op_add pe_int (pe_call D.f (hr.mono (by decide)) rfl D.m D.k D.b .nil pass0 (pa_cons (pv 0) (pa_cons pe_int pa_nil)))) pa_nil)) (blkOk_by (N := nWord) (sc := defScope s_word) (by decide +kernel)) (fun _ _ _ _ _ => by exact pg_name (i := 3) nd rfl (Or.inl rfl)) (fun _ _ _ _ _ => pts_nil) (fun _ _ _ _ _ => by exact (pe_call PS_.f hr rfl PS_.m PS_.k PS_.b .nil pass0 (pa_cons (pv 0) (pa_cons (pv 1) pa_nil)))))))) pss_nil)
    (pss_one (ps_ret (pe_call PL.f hr rfl PL.m PL.k PL.b .nil pass0 (pa_cons (pv 0) (pa_cons (pe_lst (pa_cons pe_str (pa_cons pe_str (pa_cons pe_str (pa_cons pe_str (pa_cons pe_str (pa_cons pe_str pa_nil))))))) pa_nil)))))))), ?_⟩
  refine ⟨_, rfl, p, 6, rfl, hP, by decide, by decide, fun d H1 d0 d1 b1 hP1 => ?_⟩
  refine normS (σ' := [some (.ref p), some (.str lettersS), some (.int d), none]) rfl ?_
  refine ⟨_, rfl, rfl, _, rfl, ?_⟩
  refine ite2 (fun h => ?_) (fun h => ?_)
  · refine ⟨⟨_, rfl⟩, ?_⟩
    refine ⟨_, rfl, p, 12, rfl, hP1, by decide, by decide, fun d2 H2 d20 d21 b2 hP2 => ⟨1, d2, rfl, rfl, ⟨1 + d2, rfl, by omega, by omega, fun L hL => ?_⟩⟩⟩
    refine lc_draws (p := p) (n := (1 + d2).toNat) (α := Nat) (fun _ v c => v = .str ⟨#[c]⟩ ∧ c ∈ lettersS.cps.toList) (fun _ _ _ _ _ _ e => e) (fun _ _ _ _ _ _ e => e) (fun _ => rfl) hP2 hL (by omega) (fun y Hx hPx bx Rx rx => ?_) fun H3 vs cs il hL3 pr b3 hP3 => ?_
    · exact ⟨_, rfl, _, rfl, p, lettersS, rfl, hPx, by decide +kernel, by decide +kernel, fun i c H' hi b hP' => rx _ c H' ⟨rfl, List.mem_of_getElem? hi⟩ b hP'⟩
    obtain ⟨rfl, hv⟩ := paired_val (f := fun c : Nat => V.str ⟨#[c]⟩) pr
    have z := join_letters cs
    have len : (Txt.join ("" : Str) (cs.map fun c => (⟨#[c]⟩ : Str))).length = cs.length := by
      show (Txt.join ("" : Str) (cs.map fun c => (⟨#[c]⟩ : Str))).cps.size = cs.length
      rw [← Array.length_toList, z]
    refine ⟨"", L, cs.map fun c => (⟨#[c]⟩ : Str), rfl, rfl, .inl (SqL.of (by rw [hL3, List.map_map]; rfl)), ?_, kk _ H3 (word_of (by omega) (by omega) fun c hc' => let_of (hv c (z ▸ hc'))) ((b1.trans b2).trans b3) hP3⟩
    have sm : ∀ l : List Nat, ((l.map fun c => (⟨#[c]⟩ : Str)).map (·.length)).sum = l.length := fun l => by
      induction l with
      | nil => rfl
      | cons a r ih =>
        simp only [List.map_cons, List.sum_cons, List.length_cons, ih]
        show 1 + r.length = r.length + 1
        omega
    rw [sm, List.length_map]
    have e0' : ("" : Str).length = 0 := by decide +kernel
    rw [e0']
    omega
  · refine ⟨_, rfl, by show 6 ≤ sizeLine; decide, fun l hl => ?_⟩
    have nl := pot_ne hP1 hl
    refine ⟨p, l, _, rfl, hP1.bt (same_upd hl), nl, upd_same, (by show 0 < 6; decide), (by show 6 ≤ 1000; decide), fun i v H' hi hb hp => ?_⟩
    have hm := List.mem_of_getElem? hi
    simp only [List.mem_cons, List.not_mem_nil, or_false] at hm
    have bb : Bt p H H' := (b1.trans (Same.bt (same_upd hl))).trans hb
    rcases hm with rfl | rfl | rfl | rfl | rfl | rfl
    all_goals exact kk _ H' (by decide +kernel) bb hp
end
/-! the first one that isn't there -/
abbrev nMis : List Str := ["_law_words", "_law_letters", "_law_tried", "_law_first", "_law_second", "_law_word_here"]
theorem sc_missing : FnScope nMis ["_law_words"] (defScope s_missing) := ⟨rfl, rfl, rfl, by decide +kernel, rfl, by decide +kernel, by decide +kernel⟩
def chS (z : Str) : List Str := z.cps.toList.map fun c => ⟨#[c]⟩
theorem chV_eq (z : Str) : chV z = (chS z).map V.str := by
  unfold chV chS
  rw [List.map_map]
  rfl
def tried (i : Nat) : List Str := chS lettersS ++ ((chS lettersS).take i).flatMap fun a => (chS lettersS).map fun b => a ++ b
theorem tried2 : tried 2 = (List.range 78).map textAt := by decide +kernel
theorem tried_len : ∀ i, i ≤ 2 → (tried i).length ≤ 100 := by decide +kernel
theorem free_uniq {ws : List Str} {z y : Str} (h : FirstFree ws z) (g : FirstFree ws y) : z = y := by
  obtain ⟨k, _, rfl, n1, a1⟩ := h
  obtain ⟨j, _, rfl, n2, a2⟩ := g
  have e : k = j := by
    rcases Nat.lt_trichotomy k j with c | c | c
    · exact absurd (a2 k c) n1
    · exact c
    · exact absurd (a1 j c) n2
  rw [e]
theorem filter_first {α : Type} {g : α → Bool} : ∀ {l : List α} {k : Nat}, (∃ x, l[k]? = some x ∧ g x = true) → ∃ (j : Nat) (x : α) (r : List α), l[j]? = some x ∧ g x = true ∧ (∀ i, i < j → ∀ y, l[i]? = some y → g y = false) ∧ l.filter g = x :: r ∧ j ≤ k
  | [], k, h => by
    obtain ⟨x, e, _⟩ := h
    cases e
  | a :: l, k, h => by
    cases ga : g a with
    | true => exact ⟨0, a, l.filter g, rfl, ga, fun i hi => absurd hi (Nat.not_lt_zero _), List.filter_cons_of_pos ga, Nat.zero_le _⟩
    | false =>
      cases k with
      | zero =>
        obtain ⟨x, e, gx⟩ := h
        cases e
        rw [ga] at gx
        cases gx
      | succ k =>
        obtain ⟨x, e, gx⟩ := h
        obtain ⟨j, y, r, e1, e2, e3, e4, e5⟩ := filter_first (l := l) (k := k) ⟨x, e, gx⟩
        refine ⟨j + 1, y, r, e1, e2, fun i hi z hz => ?_, ?_, Nat.succ_le_succ e5⟩
        · cases i with
          | zero =>
            cases hz
            exact ga
          | succ i => exact e3 i (by omega) z hz
        · rw [List.filter_cons_of_neg (by rw [ga]; decide)]
          exact e4
theorem free_first {ws : List Str} (h : ws.length < 64) : ∃ z r, ((List.range 78).map textAt).filter (fun z => !decide (z ∈ ws)) = z :: r ∧ FirstFree ws z := by
  obtain ⟨k, hk, n⟩ := free_some h
  have at_ : ∀ i, i < 78 → ((List.range 78).map textAt)[i]? = some (textAt i) := fun i hi => by
    rw [List.getElem?_map, List.getElem?_range hi]
    rfl
  obtain ⟨j, x, r, e1, e2, e3, e4, e5⟩ := filter_first (g := fun z => !decide (z ∈ ws)) (k := k) ⟨textAt k, at_ k hk, by rw [decide_eq_false n] <;> rfl⟩
  have hj : j < 78 := by omega
  rw [at_ j hj] at e1
  cases e1
  refine ⟨_, r, e4, j, hj, rfl, fun z => ?_, fun i hi => ?_⟩
  · rw [decide_eq_true z] at e2
    cases e2
  · have := e3 i hi _ (at_ i (by omega))
    by_cases c : textAt i ∈ ws
    · exact c
    · rw [decide_eq_false c] at this
      cases this
/-- a comprehension over a text's letters -/
theorem lc_strs {σ : L2.St} {H : Hp} {Qd : Hp → Prop} {i D : Addr} {te : TE} {z : Str} {h : Str → V} (hs : ∀ y : Option V, wipe ((wipe σ [i]).set i y) [i] = wipe σ [i]) (hl : z.cps.size ≤ 1000) (hD : H D = none)
    (el : ∀ b H', b ∈ chS z → ∀ R : VK, R (h b) H' → te ((wipe σ [i]).set i (some (.str b))) H' R)
    (q : ∀ H', Same H H' → H' D = some (.lst ((chS z).map h)) → Qd H') : LcW (Its z) (gName i) tYes te [i] σ H D Qd := by
  refine lc_it (walk_str (z := z)) (fun k H' => Bt D H H' ∧ H' D = some (.lst (((chS z).take k).map h))) ⟨bt_upd, upd_same⟩ (fun _ _ _ _ => trivial) (fun k x H2 H' hi ⟨bt, h1⟩ ⟨ee, c, hc, hx⟩ => ?_) (fun H' ⟨bt, h1⟩ => ?_)
  · subst ee hx
    have ip : (chS z)[k]? = some ⟨#[c]⟩ := by
      unfold chS
      rw [List.getElem?_map, Array.getElem?_toList, hc]
      rfl
    refine ⟨hs _, ?_⟩
    simp only [tYes, ↓reduceIte]
    refine el _ H' (List.mem_of_getElem? ip) _ ?_
    refine ⟨_, h1, by rw [List.length_map, List.length_take]; exact Nat.lt_of_le_of_lt (show _ ≤ 1000 by omega) (by decide), bt.trans bt_upd, ?_⟩
    rw [upd_same, List.take_add_one, ip, List.map_append]
    rfl
  · have e : (chS z).take z.cps.size = chS z := by
      refine List.take_of_length_le ?_
      unfold chS
      rw [List.length_map, Array.length_toList]
      exact Nat.le_refl _
    rw [e] at h1
    exact q H' (fun b o e => bt b o (ne_of_none e hD) e) h1
def spMis : Sp := fun vs H Q _ => ∃ (L : Addr) (ws : List Str), vs = [.ref L] ∧ H L = some (.lst (ws.map V.str)) ∧ ws.length < 64 ∧ ∀ z H', FirstFree ws z → Same H H' → Q (.str z) H'
section
variable {P : Program} {w : World} {K : PySem.W.Frag} {mg : Str → Option Value} {base : Heap} {f : Addr} {fd : FuncData}
theorem ok_missing (F : FD K "_law_first_missing" s_missing f fd) (tl : mg "list" = none) : FnOk P w K mg base CX0 1 f fd ["_law_words"] spMis := by
  refine F.ok sc_missing (fun vs H Q E h => ?_) (fun cdv A outer s H vs Q E hr h => ?_)
  · obtain ⟨L, ws, rfl, _⟩ := h
    rfl
  obtain ⟨L, ws, rfl, hL, hl, q⟩ := h
  have nd := sc_missing.nd
  refine ⟨_, PSs.nox (pss_cons (ps_set (i := 1) nd rfl (Or.inl rfl) pe_str)
    (pss_cons (ps_set (i := 2) nd rfl (Or.inl rfl) (pe_callTy (call_listS rfl) (by rfl) tl (by decide +kernel) (pa_cons (pv 1) pa_nil)))
    (pss_cons (ps_for .never (by rfl) (pi_str (pe_slice sl_str (pv 1) po_none (po_some pe_int))) (pg_name (i := 3) nd rfl (Or.inr rfl)) (pss_one (ps_set (i := 2) nd rfl (Or.inl rfl) (pe_op op_cat (pv 2) (pe_lc (own := [("_law_second", 4)]) (g := gName 4) (tt := tYes) (te := tOp (fun x y H Q => ∃ i j, x = .str i ∧ y = .str j ∧ i.length + j.length ≤ sizeLine ∧ Q (.str (i ++ j)) H) (tVar 3) (tVar 4)) rfl nd (pi_str (pv 1)) (blkOk_by (N := nMis) (sc := defScope s_missing) (by decide +kernel)) (fun _ _ _ _ _ => by exact pg_name (i := 4) nd rfl (Or.inl rfl)) (fun _ _ _ _ _ => pts_nil) (fun _ _ _ _ _ => by exact pe_op op_add_str (pv 3) (pv 4)))))))
    (pss_one (ps_ret (pe_ix ix_list (pe_lc (own := [("_law_word_here", 5)]) (g := gName 5) (tt := tTest (tOp (rIn K true) (tVar 5) (tVar 0))) (te := tVar 5) rfl nd (pi_list (pv 2)) (blkOk_by (N := nMis) (sc := defScope s_missing) (by decide +kernel)) (fun _ _ _ _ _ => by exact pg_name (i := 5) nd rfl (Or.inl rfl)) (fun _ _ _ _ _ => by exact pts_one (pt_cmpR op_notIn_seq (pv 5) (pv 0) (by rfl))) (fun _ _ _ _ _ => by exact pv 5)) pe_int (fun _ _ => rfl))))))), ?_⟩
  have big : 1000 ≤ sizeLine := by decide
  refine ⟨_, rfl, lettersS, rfl, by decide +kernel, fun A hA => ?_⟩
  have s1 := same_upd (o := HO.lst (chV lettersS)) hA
  have hA1 : (upd H A (.lst (chV lettersS))) A = some (.lst ((tried 0).map V.str)) := by
    rw [upd_same, chV_eq]
    rfl
  generalize upd H A (.lst (chV lettersS)) = H1 at s1 hA1 ⊢
  refine normS (σ' := [some (.ref L), some (.str lettersS), some (.ref A), none, none, none]) rfl ?_
  refine ⟨_, rfl, 2, rfl, lettersS, rfl, by decide +kernel, _, rfl, ?_⟩
  rw [show cutS lettersS none (some 2) = ("ab" : Str) by decide +kernel]
  refine for_it (walk_str (z := ("ab" : Str))) (fun i σ' H' => Same H H' ∧ ∃ (B : Addr) (x : Option V), σ' = [some (.ref L), some (.str lettersS), some (.ref B), x, none, none] ∧ H' B = some (.lst ((tried i).map V.str))) ⟨s1, A, none, rfl, hA1⟩ (fun _ _ _ _ _ => trivial) (fun i x σ' H2 H3 hi ⟨z, B, y, eσ, hB⟩ ⟨eh, c, hc, ex⟩ => ?_) (fun σ' H2 ⟨z, B, y, eσ, hB⟩ => ?_)
  · subst eσ eh ex
    have hi2 : i < 2 := hi
    refine ⟨_, rfl, _, rfl, lettersS, rfl, fun D hD => ?_⟩
    have one : ∀ b ∈ chS lettersS, b.length = 1 := by decide +kernel
    refine lc_strs (h := fun b => V.str ((⟨#[c]⟩ : Str) ++ b)) (fun _ => rfl) (by decide +kernel) hD (fun b Hx hb Rx rx => ?_) fun H4 s4 hD4 => ?_
    · exact ⟨_, rfl, _, rfl, ⟨#[c]⟩, b, rfl, rfl, Nat.le_trans (by rw [one b hb]; show 1 + 1 ≤ 1000; decide) big, rx⟩
    have l26 : (chS lettersS).length = 26 := by decide +kernel
    have t1 := tried_len i (by omega)
    refine ⟨B, D, _, _, rfl, rfl, s4 _ _ hB, hD4, ?_, fun Z hZ => ?_⟩
    · rw [List.length_map, List.length_map, l26]
      exact Nat.le_trans (show _ ≤ 1000 by omega) big
    · have et : (tried i).map V.str ++ (chS lettersS).map (fun b => V.str ((⟨#[c]⟩ : Str) ++ b)) = (tried (i + 1)).map V.str := by
        have e1 : (chS lettersS)[i]? = some ⟨#[c]⟩ := by
          match i, hi2, hc with
          | 0, _, hc =>
            cases hc
            decide +kernel
          | 1, _, hc =>
            cases hc
            decide +kernel
        unfold tried
        rw [List.take_add_one, e1, List.flatMap_append, List.map_append, List.map_append, List.map_append]
        show _ ++ _ = _ ++ (_ ++ List.map V.str (List.flatMap _ [(⟨#[c]⟩ : Str)]))
        rw [List.flatMap_singleton, List.map_map, List.append_assoc]
        rfl
      rw [et]
      exact ⟨(z.trans s4).trans (same_upd hZ), Z, some (.str ⟨#[c]⟩), rfl, upd_same⟩
  · subst eσ
    rw [show ("ab" : Str).cps.size = 2 by decide +kernel, tried2] at hB
    have hL2 := z _ _ hL
    refine ⟨_, rfl, B, rfl, ⟨_, SqL.of hB⟩, fun D hD => ?_⟩
    refine lc_filt (i := 5) (u := B) (f := V.str) (is := (List.range 78).map textAt) (g := fun z => !decide (z ∈ ws)) (fun _ => rfl) (fun _ => rfl) hB (by rw [List.length_map, List.length_range]; decide) hD (fun a Hx _ sx Rx rx => ?_) fun H3 s3 hD3 => ?_
    · refine ⟨_, rfl, _, rfl, L, ws.map V.str, rfl, .inl (SqL.of (sx _ _ hL2)), rfl, flat_strs ws, !decide (a ∈ ws), ?_, rx _ (Same.refl _)⟩
      show V.bl (!inV (.str a) (ws.map V.str)) = _
      rw [inV_strs]
    obtain ⟨y, r, ey, fy⟩ := free_first hl
    rw [ey] at hD3
    have e0 : atI (List.map V.str (y :: r)) 0 = some (V.str y) := atI_nat (show (List.map V.str (y :: r))[0]? = some (V.str y) from rfl)
    exact ⟨D, _, 0, _, rfl, rfl, SqL.of hD3, e0, q y H3 fy (z.trans s3)⟩
end
end S8

end Ps8m
section PSV
set_option maxHeartbeats 4000000
/-! sorted texts: told by their members; the first of texts by length and letters -/
namespace Sm
open PySem PySem.Spec L2 PyProof.Rows
def leS (a b : Str) : Prop := a.cps.toList ≤ b.cps.toList
theorem str_ext {a b : Str} (h : a.cps.toList = b.cps.toList) : a = b := by
  obtain ⟨⟨a⟩⟩ := a
  obtain ⟨⟨b⟩⟩ := b
  exact congrArg (fun l : List Nat => (⟨⟨l⟩⟩ : Str)) h
theorem leS_anti {a b : Str} (h : leS a b) (g : leS b a) : a = b := str_ext (List.le_antisymm h g)
theorem rising_pw : ∀ (l : List Str) (p : Str), risingS p l = true → (p :: l).Pairwise leS
  | [], p, _ => List.pairwise_singleton _ _
  | x :: r, p, h => by
    obtain ⟨h1, h2⟩ := Bool.and_eq_true_iff.mp (show (!ltCps x.cps.toList p.cps.toList && risingS x r) = true from h)
    have ih := rising_pw r x h2
    have px : leS p x := by
      rw [ltCps_eq] at h1
      have n : ¬ x.cps.toList < p.cps.toList := of_decide_eq_false (by simpa using h1)
      exact List.not_lt.mp n
    refine List.pairwise_cons.mpr ⟨fun y hy => ?_, ih⟩
    rcases List.mem_cons.mp hy with e | hy
    · rw [e]
      exact px
    · exact List.le_trans px (List.rel_of_pairwise_cons ih hy)
theorem sorted_pw : ∀ {l : List Str}, sortedS l = true → l.Pairwise leS
  | [], _ => List.Pairwise.nil
  | x :: r, h => rising_pw r x h
theorem pw_uniq : ∀ {l m : List Str}, l.Pairwise leS → m.Pairwise leS → l.Perm m → l = m
  | [], m, _, _, p => (List.Perm.nil_eq p)
  | a :: l, [], _, _, p => (List.Perm.nil_eq p.symm).symm
  | a :: l, b :: m, hl, hm, p => by
    have e : a = b := by
      rcases List.mem_cons.mp (p.mem_iff.mp List.mem_cons_self) with e | h1
      · exact e
      · rcases List.mem_cons.mp (p.mem_iff.mpr List.mem_cons_self) with e | h2
        · exact e.symm
        · exact leS_anti (List.rel_of_pairwise_cons hl h2) (List.rel_of_pairwise_cons hm h1)
    subst e
    rw [pw_uniq (List.pairwise_cons.mp hl).2 (List.pairwise_cons.mp hm).2 (List.Perm.cons_inv p)]
theorem sub_perm : ∀ {l m : List Str}, l.Nodup → (∀ x ∈ l, x ∈ m) → l.length = m.length → l.Perm m
  | [], m, _, _, e => by
    rw [List.length_eq_zero_iff.mp (show m.length = 0 from e.symm)]
  | a :: l, m, nd, h, e => by
    obtain ⟨n1, n2⟩ := List.nodup_cons.mp nd
    have ha := h a List.mem_cons_self
    have pm := List.perm_cons_erase ha
    refine (List.Perm.cons a (sub_perm n2 (fun x hx => ?_) ?_)).trans pm.symm
    · have ne : x ≠ a := fun z => n1 (z ▸ hx)
      exact (List.mem_erase_of_ne ne).mpr (h x (List.mem_cons_of_mem _ hx))
    · have q := pm.length_eq
      rw [List.length_cons] at q e
      omega
theorem mem_perm : ∀ {l m : List Str}, l.Nodup → m.Nodup → (∀ x, x ∈ l ↔ x ∈ m) → l.Perm m := fun {l m} nl nm h => by
  have le1 : ∀ {l m : List Str}, l.Nodup → (∀ x ∈ l, x ∈ m) → l.length ≤ m.length := fun {l} => by
    induction l with
    | nil => intro m _ _; exact Nat.zero_le _
    | cons a l ih =>
      intro m nd h
      obtain ⟨n1, n2⟩ := List.nodup_cons.mp nd
      have pm := List.perm_cons_erase (h a List.mem_cons_self)
      have z := ih (m := m.erase a) n2 fun x hx => (List.mem_erase_of_ne (show x ≠ a from fun z => n1 (z ▸ hx))).mpr (h x (List.mem_cons_of_mem _ hx))
      have q := pm.length_eq
      rw [List.length_cons] at q ⊢
      omega
  exact sub_perm nl (fun x hx => (h x).1 hx) (Nat.le_antisymm (le1 nl fun x hx => (h x).1 hx) (le1 nm fun x hx => (h x).2 hx))
theorem srt_uniq {l m : List Str} (h1 : sortedS l = true) (n1 : l.Nodup) (h2 : sortedS m = true) (n2 : m.Nodup) (h : ∀ x, x ∈ l ↔ x ∈ m) : l = m := pw_uniq (sorted_pw h1) (sorted_pw h2) (mem_perm n1 n2 h)
theorem wLe_anti {a b : Str} (h1 : wLe a b) (h2 : wLe b a) : a = b := by
  unfold wLe wLt at *
  have e : a.length = b.length := by omega
  have n1 : ¬ b.cps.toList < a.cps.toList := fun z => h1 (.inr ⟨e.symm, z⟩)
  have n2 : ¬ a.cps.toList < b.cps.toList := fun z => h2 (.inr ⟨e, z⟩)
  exact str_ext (List.le_antisymm (List.not_lt.mp n1) (List.not_lt.mp n2))
theorem leastW_uniq {ws : List Str} {r s : Option Str} (h1 : LeastW ws r) (h2 : LeastW ws s) : r = s := by
  rcases h1 with ⟨e, rfl⟩ | ⟨z, rfl, hz, lz⟩
  · rcases h2 with ⟨_, rfl⟩ | ⟨y, rfl, hy, _⟩
    · rfl
    · rw [e] at hy
      cases hy
  · rcases h2 with ⟨e, _⟩ | ⟨y, rfl, hy, ly⟩
    · rw [e] at hz
      cases hz
    · rw [wLe_anti (lz y hy) (ly z hz)]
instance (a b : Str) : Decidable (wLe a b) := by unfold wLe wLt; infer_instance
theorem kW_le : PySem.W.dataLe false (fun z : Str => kW z) = fun a b => decide (wLe a b) := by
  funext a b
  show (!PySem.W.dataLt (kW b) (kW a)) = _
  by_cases h : wLe a b
  · rw [decide_eq_true h, Bool.eq_false_iff.mpr fun z => h ((kW_lt b a).mp z)] <;> rfl
  · rw [decide_eq_false h, (kW_lt b a).mpr (Classical.not_not.mp h)] <;> rfl
/-- a sorted list of the pairs of what there is and its key: the first one is the first -/
theorem sorted_firstW {α : Type} {xs : List (α × Str)} : ∃ ss : List (α × Str), ss.Perm xs ∧ ss.Pairwise (fun a b => wLe a.2 b.2) ∧ ((xs.map fun q => (q.1, kW q.2)).mergeSort (PySem.W.dataLe false Prod.snd)).map Prod.fst = ss.map Prod.fst := by
  refine ⟨xs.mergeSort fun a b => decide (wLe a.2 b.2), List.mergeSort_perm _ _, ?_, ?_⟩
  · refine (List.pairwise_mergeSort (fun a b c h1 h2 => ?_) (fun a b => ?_) _).imp fun {a b} h => of_decide_eq_true h
    · exact decide_eq_true (wLe_trans (of_decide_eq_true h1) (of_decide_eq_true h2))
    · rw [Bool.or_eq_true]
      exact (wLe_total a.2 b.2).imp decide_eq_true decide_eq_true
  · have e2 : PySem.W.dataLe false (fun q : α × Str => kW q.2) = fun a b => decide (wLe a.2 b.2) := by
      funext a b
      exact congrFun (congrFun kW_le a.2) b.2
    have e3 : (xs.map fun q => (q.1, kW q.2)).mergeSort (PySem.W.dataLe false Prod.snd) = (xs.mergeSort fun a b => decide (wLe a.2 b.2)).map fun q => (q.1, kW q.2) := by
      rw [← e2]
      exact (List.map_mergeSort (f := fun q : α × Str => (q.1, kW q.2)) (r := PySem.W.dataLe false fun q : α × Str => kW q.2) (s := PySem.W.dataLe false Prod.snd) (fun a _ b _ => rfl)).symm
    rw [e3, List.map_map]
    rfl
end Sm

end PSV
section Ps8n
set_option maxHeartbeats 32000000
namespace S8
open PySem PySem.Spec L2 PyProof.Rows
open Sm (LeastW wLe kW sorted_firstW srt_uniq leastW_uniq)
/-! ### a set of texts, right -/
abbrev s_texR : Stmt := top 52
abbrev nTexR : List Str := ["_law_pot_here", "_law_words", "_law_letters", "_law_every", "_law_turned", "_law_handed", "_law_made", "_law_due", "_law_spoken", "_law_asked", "_law_told", "_law_ranked", "_law_least_here", "_law_turn", "_law_letter", "_law_word_here"]
theorem sc_texR : FnScope nTexR ["_law_pot_here"] (defScope s_texR) := ⟨rfl, rfl, rfl, by decide +kernel, rfl, by decide +kernel, by decide +kernel⟩
structure TXR (mg : Str → Option Value) : Prop where
  rng : mg "range" = none
  list : mg "list" = none
  rep : mg "repr" = none
  isi : mg "isinstance" = none
  sorted : mg "sorted" = none
  set : mg "set" = none
  len : mg "len" = none
theorem perm_strs {ys : List V} {xs : List Str} (h : ys.Perm (xs.map V.str)) : ∃ hs : List Str, ys = hs.map V.str ∧ hs.Perm xs := by
  have all : ∀ v ∈ ys, ∃ z, v = V.str z := fun v hv => by
    obtain ⟨z, _, e⟩ := List.mem_map.mp (h.mem_iff.mp hv)
    exact ⟨z, e.symm⟩
  have un : ∃ f : V → Str, ∀ z, f (.str z) = z := ⟨fun v => match v with
    | .str z => z
    | _ => "", fun z => rfl⟩
  obtain ⟨f, hf⟩ := un
  refine ⟨ys.map f, ?_, ?_⟩
  · rw [List.map_map]
    exact ((List.map_congr_left fun v hv => by
      obtain ⟨z, rfl⟩ := all v hv
      exact congrArg V.str (hf z)).trans (List.map_id ys)).symm
  · have := h.map f
    rw [List.map_map] at this
    have e : xs.map (f ∘ V.str) = xs := by
      rw [show (f ∘ V.str) = id from funext hf, List.map_id]
    rw [e] at this
    exact this
def every : List Str := chS lettersS ++ (chS lettersS).map fun b => ("a" : Str) ++ b
theorem every_ok : ∀ z ∈ every, wordB z 12 = true := by decide +kernel
theorem every_len : every.length = 52 := by decide +kernel
def four : List Str := ["a", "b", "abc", "zzzzzzzzzzzz"]
theorem four_ok : ∀ z ∈ four, wordB z 12 = true := by decide +kernel
/-- a comprehension whose elements are new tuples -/
theorem lc_tups {α : Type} {K : PySem.W.Frag} {σ : L2.St} {H : Hp} {Qd : Hp → Prop} {i u D : Addr} {te : TE} {f : α → V} {tf : α → List V} {is : List α} (hs : ∀ y : Option V, wipe ((wipe σ [i]).set i y) [i] = wipe σ [i]) (hu : H u = some (.lst (is.map f))) (hl : is.length ≤ 1000) (hD : H D = none)
    (el : ∀ a H', a ∈ is → ∀ R : VK, (∀ t, H' t = none → R (.ref t) (upd H' t (.tup (tf a)))) → te ((wipe σ [i]).set i (some (f a))) H' R)
    (q : ∀ H' us, Same H H' → H' D = some (.lst (us.map V.ref)) → Paired (fun t a => H' t = some (.tup (tf a))) us is → Qd H') : LcW (Itl K u) (gName i) tYes te [i] σ H D Qd := by
  have nuD : u ≠ D := ne_of_none hu hD
  have e0 : (is.map f).length = is.length := List.length_map ..
  have wk := walk_list (K := K) (a := u) (xs := is.map f)
  rw [e0] at wk
  refine lc_it wk (fun k H' => Bt D H H' ∧ ∃ us : List Addr, H' D = some (.lst (us.map V.ref)) ∧ us.length = k ∧ Paired (fun t a => H' t = some (.tup (tf a))) us (is.take k)) ⟨bt_upd, [], upd_same, rfl, .nil⟩ (fun k H' _ ⟨bt, _⟩ => SqL.of (bt _ _ nuD hu)) (fun k x H2 H' hi ⟨bt, us, h1, h2, h3⟩ ⟨ee, hx⟩ => ?_) (fun H' ⟨bt, us, h1, h2, h3⟩ => ?_)
  · subst ee
    have ip : is[k]? = some (is[k]'(by omega)) := List.getElem?_eq_getElem (by omega)
    generalize is[k]'(by omega) = a at ip
    rw [List.getElem?_map, ip] at hx
    cases (show f a = x from Option.some.inj hx)
    refine ⟨hs _, ?_⟩
    simp only [tYes, ↓reduceIte]
    refine el a H' (List.mem_of_getElem? ip) _ fun t ht => ?_
    have s2 := same_upd (o := HO.tup (tf a)) ht
    have hu1 : (upd H' t (.tup (tf a))) t = some (.tup (tf a)) := upd_same
    have hD1 := s2 _ _ h1
    have pr1 := h3.mono fun t q e => s2 _ _ e
    have bt2 := bt.trans (Same.bt s2)
    generalize upd H' t (.tup (tf a)) = H4 at hu1 hD1 pr1 bt2 ⊢
    have keep : ∀ c (q : α), H4 c = some (.tup (tf q)) → (upd H4 D (.lst (us.map V.ref ++ [.ref t]))) c = some (.tup (tf q)) := fun c q e => by
      have n : c ≠ D := fun z => by
        rw [z, hD1] at e
        cases e
      exact (upd_ne n).trans e
    refine ⟨_, hD1, by rw [List.length_map, h2]; exact Nat.lt_of_lt_of_le (show k < 1000 by omega) (by decide), bt2.trans bt_upd, us ++ [t], by rw [upd_same, List.map_append]; rfl, by rw [List.length_append, h2]; rfl, ?_⟩
    rw [List.take_add_one, ip]
    exact (pr1.mono fun c q e => keep c q e).snoc (keep _ _ hu1)
  · rw [List.take_length] at h3
    exact q H' us (fun b o e => bt b o (ne_of_none e hD) e) h1 h3
theorem dp_kWs {K : PySem.W.Frag} {H : Hp} : ∀ {us : List Addr} {is : List Str}, Paired (fun t (z : Str) => H t = some (.tup [.int (z.length : Nat), .str z])) us is → DpAll K H (us.map V.ref) (is.map kW)
  | _, _, .nil => .nil
  | _, _, .cons r t => .cons (.tup (SqT.of r) (.cons (.int _) (.cons (.str _) .nil))) (dp_kWs t)
theorem lay_kWs : ∀ {l : List Str}, (∀ k ∈ l, wordB k 12 = true) → PyData.canLayAll0 (l.map kW) = true ∧ PyData.depthAll (l.map kW) ≤ 2
  | [], _ => ⟨rfl, by simp [PyData.depthAll]⟩
  | i :: l, h => by
    obtain ⟨a, b⟩ := lay_kWs (l := l) fun k hk => h k (List.mem_cons_of_mem _ hk)
    refine ⟨?_, ?_⟩
    · show ((true && (PyData.strOk i && true)) && PyData.canLayAll0 (l.map kW)) = true
      rw [a, word_ok (h i List.mem_cons_self)] <;> rfl
    · simp only [List.map_cons, kW, PyData.depthAll, PyData.depth]
      omega
theorem shaped_kWs {l : List Str} (h : ∀ k ∈ l, wordB k 12 = true) : SeqAt.shaped (.list (l.map kW)) = true := by
  obtain ⟨a, b⟩ := lay_kWs h
  have h2 : PyData.depth (.list (l.map kW)) ≤ 64 := by
    simp only [PyData.depth]
    omega
  show (PyData.canLayAll0 (l.map kW) && decide (PyData.depth (.list (l.map kW)) ≤ 64)) = true
  rw [a, decide_eq_true h2] <;> rfl
theorem dp_ofW {K : PySem.W.Frag} {H : Hp} : ∀ {ss : List (V × Str)}, (∀ q ∈ ss, Dp K H q.1 (kW q.2)) → DpAll K H (ss.map Prod.fst) ((ss.map Prod.snd).map kW)
  | [], _ => .nil
  | q :: r, h => .cons (h q List.mem_cons_self) (dp_ofW fun p hp => h p (List.mem_cons_of_mem _ hp))
/-- the first of these words, or the first that isn't among them -/
def LeV (ws : List Str) (ot : Bool) (v : V) : Prop := (ot = false ∧ ∃ r, LeastW ws r ∧ v = sV r) ∨ (ot = true ∧ ∃ z, FirstFree ws z ∧ v = .str z)
theorem leV_uniq {ws : List Str} {ot : Bool} {u v : V} (h1 : LeV ws ot u) (h2 : LeV ws ot v) : u = v := by
  rcases h1 with ⟨e1, r, l1, rfl⟩ | ⟨e1, r, l1, rfl⟩
  · rcases h2 with ⟨e2, s, l2, rfl⟩ | ⟨e2, s, l2, rfl⟩
    · rw [leastW_uniq l1 l2]
    · rw [e1] at e2
      cases e2
  · rcases h2 with ⟨e2, s, l2, rfl⟩ | ⟨e2, s, l2, rfl⟩
    · rw [e1] at e2
      cases e2
    · rw [free_uniq l1 l2]
theorem leV_scal {ws : List Str} {ot : Bool} {v : V} (h : LeV ws ot v) : scal v v = true := by
  rcases h with ⟨_, r, _, rfl⟩ | ⟨_, z, _, rfl⟩
  · cases r <;> rfl
  · rfl
theorem firT_of {K : PySem.W.Frag} {C m : Addr} {ws : List Str} {ot : Bool} {H : Hp} {Q : VK} {E : XK} (k : WSet C H m ws ot) (ok : ∀ z ∈ ws, wordB z 12 = true) (l : ws.length < 64) (q : ∀ v H', LeV ws ot v → Same H H' → Q v H') : spFirT K C [.ref m] H Q E := by
  refine ⟨m, ws, ot, rfl, k, ok, l, ?_⟩
  cases ot with
  | false => exact .inl ⟨rfl, fun r H' lr s => q _ _ (.inl ⟨rfl, r, lr, rfl⟩) s⟩
  | true => exact .inr ⟨rfl, fun z fz => q _ _ (.inr ⟨rfl, z, fz, rfl⟩) (Same.refl _)⟩
theorem nil_T {f : List V → Hp → Prop} {σ : L2.St} {H : Hp} (h : f [] H) : tNil σ H f := h
theorem nxS {u : TS} {D : Ends} {σ : L2.St} {H : Hp} (h : u D σ H) : tSeq Ends.nx u D σ H := h
theorem as_if {t : TT} {ta tb : TE} {i : Nat} {w : TS} {D : Ends} {σ : L2.St} {H : Hp} (h : tIf t ta tb σ H fun y H2 => w D (σ.set i (some y)) H2) : tSeq (tAsg (tIf t ta tb) (gName i)) w D σ H := h
theorem othk_shown : ∀ ot : Bool, (PyData.list [.bool ot, .str "text"]).showable = true ∧ (PyData.list [.bool ot, .str "text"]).shown.length ≤ 100 ∧ (PyData.list [.bool ot, .str "text"]).depth ≤ 60 := by decide +kernel
theorem bool_shown : ∀ ot : Bool, (PyData.bool ot).showable = true ∧ (PyData.bool ot).shown.length ≤ 5 ∧ (PyData.bool ot).depth ≤ 60 := by decide +kernel
theorem amt_zero (ws : List Str) (ot : Bool) : decide (amtT ws ot = some 0) = (decide (ws = []) && !ot) := by
  unfold amtT
  cases ot with
  | true => simp
  | false =>
    cases ws with
    | nil => rfl
    | cons a r =>
      have : ¬ ((r.length + 1 : Nat) : Int) = 0 := by omega
      simp [this]
      omega
section
variable {P : Program} {w : World} {K : PySem.W.Frag} {mg : Str → Option Value} {base : Heap} {f fD fMX fWD fMI fOD fCT fWS fOT pO fKI pK fLS fSZ pS fEM pE fR fE fT C CM CT d0 : Addr} {fd dD dMX dWD dMI dOD dCT dWS dOT dKI dLS dSZ dEM dR dE dT : FuncData} {g1 g2 g3 g4 : List Value → List Value → List Value}
theorem ok_texR (F : FD K "_law_texts_right" s_texR f fd) (T : TXR mg) (hK : noMods K = true) (N : TSc K CT) (D : Kn P w K mg base 1 "_law_draw" fD dD ["_law_pot_here", "_law_many"] spDraw) (MX : Kn P w K mg base 2 "_law_mixed" fMX dMX ["_law_pot_here", "_law_given"] spMix)
    (WD : Kn P w K mg base 3 "_law_word" fWD dWD ["_law_pot_here"] spWord) (MI : Kn P w K mg base 1 "_law_first_missing" fMI dMI ["_law_words"] spMis) (OD : Kn P w K mg base 8 "_law_odd" fOD dOD ["_law_pot_here"] (spOdd K)) (MT : MkT P w K mg base CT fT dT d0 g1 g2 g3 g4)
    (CF : CtF P w K mg base CT fCT dCT (spInT K CT)) (WS : MtF P w K mg base 1 CT "words" fWS dWS (spWrdT CT)) (OT : PrF P w K mg base 1 CT "others" pO fOT dOT (spOthT CT)) (KI : PrF P w K mg base 1 CT "kind" pK fKI dKI (spKd CT "text")) (LS : MtF P w K mg base 7 CT "least" fLS dLS (spFirT K CT)) (SZ : PrF P w K mg base 2 CT "size" pS fSZ dSZ (spAmtT CT))
    (EM : PrF P w K mg base 2 CT "is_empty" pE fEM dEM (spEmpT CT)) (RF : ReF P w K mg base CT fR dR (spReprT CT)) (EF : EqF P w K mg base CT fE dE (spEqT K CT CM C)) (NF : Nf K CT CM C) :
    FnG P w K mg base CX0 9 f fd ["_law_pot_here"] spGivR := by
  refine F.okG sc_texR (fun vs H Q E h => ?_) (fun cdv A outer s H vs Q E hg hr h => ?_)
  · obtain ⟨p, rfl, _⟩ := h
    rfl
  obtain ⟨p, rfl, hP, q⟩ := h
  have hG := deeper_guards (env := PyProof.Rows.envOfC "_law_texts_right" (defScope s_texR) s.heap.objs.size f cdv) hg
  have hu := hr.units
  have nd := sc_texR.nd
  refine ⟨_, PSs.nox (pss_cons (ps_setLc (i := 1) (own := [("_law_turn", 13)]) (g := gName 13) (tt := tYes) (te := tCall spWord [] E0 (tCons (tVar 0) tNil)) rfl nd rfl rfl (sw_true rfl rfl rfl (by decide +kernel)) (pi_range1 rfl T.rng (pa_cons (pe_call D.f (hr.mono (by decide)) rfl D.m D.k D.b .nil pass0 (pa_cons (pv 0) (pa_cons pe_int pa_nil))) pa_nil)) (blkOk_by (N := nTexR) (sc := defScope s_texR) (by decide +kernel)) (fun _ _ _ _ _ => by exact pg_name (i := 13) nd rfl (Or.inl rfl)) (fun _ _ _ _ _ => pts_nil) (fun _ _ _ _ _ => by exact pe_call WD.f (hr.mono (by decide)) rfl WD.m WD.k WD.b .nil pass0 (pa_cons (pv 0) pa_nil)))
    (pss_cons (ps_set (i := 2) nd rfl (Or.inl rfl) (pe_callTy (call_listS rfl) (by rfl) T.list (by decide +kernel) (pa_cons pe_str pa_nil)))
    (pss_cons (ps_set (i := 3) nd rfl (Or.inl rfl) (pe_op op_cat (pv 2) (pe_lc (own := [("_law_letter", 14)]) (g := gName 14) (tt := tYes) (te := tOp (fun x y H Q => ∃ i j, x = .str i ∧ y = .str j ∧ i.length + j.length ≤ sizeLine ∧ Q (.str (i ++ j)) H) (tC (.str "a")) (tVar 14)) rfl nd (pi_list (pv 2)) (blkOk_by (N := nTexR) (sc := defScope s_texR) (by decide +kernel)) (fun _ _ _ _ _ => by exact pg_name (i := 14) nd rfl (Or.inl rfl)) (fun _ _ _ _ _ => pts_nil) (fun _ _ _ _ _ => by exact pe_op op_add_str pe_str (pv 14)))))
    (pss_cons (ps_set (i := 1) nd rfl (Or.inl rfl) (pe_op op_cat (pv 1) (pe_slice sl_list (pv 3) po_none (po_some (pe_ix ix_list (pe_lst (pa_cons pe_int (pa_cons pe_int (pa_cons pe_int (pa_cons pe_int (pa_cons pe_int pa_nil)))))) (pe_call D.f (hr.mono (by decide)) rfl D.m D.k D.b .nil pass0 (pa_cons (pv 0) (pa_cons pe_int pa_nil))) (fun _ _ => rfl))))))
    (pss_cons (ps_set (i := 4) nd rfl (Or.inr rfl) (pe_cmpR op_eq (pe_call D.f (hr.mono (by decide)) rfl D.m D.k D.b .nil pass0 (pa_cons (pv 0) (pa_cons pe_int pa_nil))) pe_int (nomark _)))
    (pss_cons (ps_set (i := 5) nd rfl (Or.inl rfl) (pe_call MX.f (hr.mono (by decide)) rfl MX.m MX.k MX.b .nil pass0 (pa_cons (pv 0) (pa_cons (pe_op op_cat (pv 1) (pe_slice sl_list (pv 1) po_none (po_some pe_int))) pa_nil))))
    (pss_cons (ps_asg (pe_tup (pa_cons (pe_makeK MT.mkC MT.g (hr.mono (by decide)) rfl MT.m MT.b1 pass0 (pa_cons (pv 5) pa_nil) (pk_cons (pv 4) pk_nil)) (pa_cons (pe_callB (show CallR _ _ (rSortedTx P w) from cr_sortedTx rfl) (by rfl) T.sorted (by decide +kernel) (pa_cons (pe_callTy (show CallR _ _ (rSetTx K P w) from cr_setTx rfl) (by rfl) T.set (by decide +kernel) (pa_cons (pv 1) pa_nil)) pa_nil)) (pa_cons (pe_callB (call_reprD (by exact hG) (by exact hu) (by exact hK)) (by rfl) T.rep boot_repr (pa_cons (pv 5) pa_nil)) pa_nil)))) (pg_tup (by rfl) (pgs_cons (pg_name (i := 6) nd rfl (Or.inr rfl)) (pgs_cons (pg_name (i := 7) nd rfl (Or.inr rfl)) (pgs_cons (pg_name (i := 8) nd rfl (Or.inl rfl)) pgs_nil)))))
    (pss_cons (ps_set (i := 9) nd rfl (Or.inl rfl) (pe_op op_cat (pv 7) (pe_lst (pa_cons pe_str (pa_cons pe_str (pa_cons pe_str (pa_cons pe_str pa_nil)))))))
    (pss_cons (ps_if (pt_cmpR op_ne (pe_callB (call_reprD (by exact hG) (by exact hu) (by exact hK)) (by rfl) T.rep boot_repr (pa_cons (pv 5) pa_nil)) (pv 8) (nomark _)) pss_never pss_nil)
    (pss_cons (ps_expr (pe_bm0 PySem.F.plainAttrs_list PySem.F.slot_list_clear PySem.F.type_list_clear mt_clear (pv 5)))
    (pss_cons (ps_if (pt_cmpR (op_neD (by exact hu)) (pe_lc (own := [("_law_word_here", 15)]) (g := gName 15) (tt := tYes) (te := tOp (rInO CT (spInT K CT) false) (tVar 15) (tVar 6)) rfl nd (pi_list (pv 9)) (blkOk_by (N := nTexR) (sc := defScope s_texR) (by decide +kernel)) (fun _ _ _ _ _ => by exact pg_name (i := 15) nd rfl (Or.inl rfl)) (fun _ _ _ _ _ => pts_nil) (fun _ _ _ _ _ => by exact pe_cmpR (op_inO CF.s CF.fn CF.g CF.b (hr.mono (by decide))) (pv 15) (pv 6) (by rfl)))
        (pe_lc (own := [("_law_word_here", 15)]) (g := gName 15) (tt := tYes) (te := tOp rNe (tOp (rIn K false) (tVar 15) (tVar 7)) (tVar 4)) rfl nd (pi_list (pv 9)) (blkOk_by (N := nTexR) (sc := defScope s_texR) (by decide +kernel)) (fun _ _ _ _ _ => by exact pg_name (i := 15) nd rfl (Or.inl rfl)) (fun _ _ _ _ _ => pts_nil) (fun _ _ _ _ _ => by exact pe_cmpR op_ne (pe_cmpR op_in_seq (pv 15) (pv 7) (by rfl)) (pv 4) (nomark _))) (nomark _)) pss_never pss_nil)
    (pss_cons (ps_set (i := 10) nd rfl (Or.inl rfl) (pe_meth0 (pv 6) N.cl WS.m WS.g (hr.mono (by decide)) WS.b .nil pass0))
    (pss_cons (ps_if (PW.pt (pw_or (pt_cmpR (op_neD (by exact hu)) (pv 10) (pv 7) (nomark _)) (pw_or (pt_not (pt_val (pe_callB call_isi (by rfl) T.isi boot_isi (pa_cons (pv 10) (pa_cons (pe_bltn (v := .ty "list") (by rfl) T.list (by decide +kernel) rfl) pa_nil)))))
        (pw_or1 (pt_cmpR op_ne (pe_callB (call_reprD (by exact hG) (by exact hu) (by exact hK)) (by rfl) T.rep boot_repr (pa_cons (pe_lst (pa_cons (pe_prop (pv 6) N.cl OT.p OT.g (hr.mono (by decide)) OT.b .nil pass0 (by rfl)) (pa_cons (pe_prop (pv 6) N.cl KI.p KI.g (hr.mono (by decide)) KI.b .nil pass0 (by rfl)) pa_nil))) pa_nil)) (pe_callB (call_reprD (by exact hG) (by exact hu) (by exact hK)) (by rfl) T.rep boot_repr (pa_cons (pe_lst (pa_cons (pv 4) (pa_cons pe_str pa_nil))) pa_nil)) (nomark _)))))) pss_never pss_nil)
    (pss_cons (ps_if (PW.pt (pw_or (pt_cmpR (op_inO CF.s CF.fn CF.g CF.b (hr.mono (by decide))) (pe_call OD.f (hr.mono (by decide)) rfl OD.m OD.k OD.b .nil pass0 (pa_cons (pv 0) pa_nil)) (pv 6) (by rfl)) (pw_or1 (pt_cmpR (op_inO CF.s CF.fn CF.g CF.b (hr.mono (by decide))) pe_int (pv 6) (by rfl))))) pss_never pss_nil)
    (pss_cons (ps_set (i := 11) nd rfl (Or.inl rfl) (pe_callB (cr_sortedD (by exact hu)) (by rfl) T.sorted (by decide +kernel) (pa_cons (pe_lc (own := [("_law_word_here", 15)]) (g := gName 15) (tt := tYes) (te := tTup (tCons (tCB (fun xs H Q => ∃ z, xs = [.str z] ∧ z.length ≤ sizeLine ∧ Q (.int z.length) H) (tCons (tVar 15) tNil)) (tCons (tVar 15) tNil))) rfl nd (pi_list (pv 7)) (blkOk_by (N := nTexR) (sc := defScope s_texR) (by decide +kernel)) (fun _ _ _ _ _ => by exact pg_name (i := 15) nd rfl (Or.inl rfl)) (fun _ _ _ _ _ => pts_nil) (fun _ _ _ _ _ => by exact pe_tup (pa_cons (pe_callB call_len_str (by rfl) T.len boot_len (pa_cons (pv 15) pa_nil)) (pa_cons (pv 15) pa_nil)))) pa_nil)))
    (pss_cons (ps_set (i := 12) nd rfl (Or.inl rfl) (pe_ifExp (pt_cmpR (op_neD (by exact hu)) (pv 11) (pe_lst pa_nil) (nomark _)) (pe_ix ix_tup (pe_ix ix_list (pv 11) pe_int (fun _ _ => rfl)) pe_int (fun _ _ => rfl)) pe_non))
    (pss_cons (ps_set (i := 12) nd rfl (Or.inl rfl) (pe_ifExp (pt_val (pv 4)) (pe_call MI.f (hr.mono (by decide)) rfl MI.m MI.k MI.b .nil pass0 (pa_cons (pv 7) pa_nil)) (pv 12)))
    (pss_cons (ps_if (PW.pt (pw_or (pt_cmpR op_ne (pe_meth0 (pv 6) N.cl LS.m LS.g (hr.mono (by decide)) LS.b .nil pass0) (pv 12) (nomark _)) (pw_or1 (pt_cmpR op_ne (pe_prop (pv 6) N.cl SZ.p SZ.g (hr.mono (by decide)) SZ.b .nil pass0 (by rfl)) (pe_ifExp (pt_val (pv 4)) pe_non (pe_callB call_len_seq (by rfl) T.len boot_len (pa_cons (pv 7) pa_nil))) (nomark _))))) pss_never pss_nil)
    (pss_cons (ps_if (pt_cmpR op_ne (pe_callB (call_reprD (by exact hG) (by exact hu) (by exact hK)) (by rfl) T.rep boot_repr (pa_cons (pe_prop (pv 6) N.cl EM.p EM.g (hr.mono (by decide)) EM.b .nil pass0 (by rfl)) pa_nil)) (pe_callB (call_reprD (by exact hG) (by exact hu) (by exact hK)) (by rfl) T.rep boot_repr (pa_cons (pe_and (pe_cmpR (op_eqD (by exact hu)) (pv 7) (pe_lst pa_nil) (nomark _)) (pe_one (pe_not (pv 4)))) pa_nil)) (nomark _)) pss_never pss_nil)
    (pss_cons (ps_expr (pe_bm PySem.F.plainAttrs_list PySem.F.slot_list_append PySem.F.type_list_append mt_append (pv 10) (pa_cons pe_str pa_nil)))
    (pss_cons (ps_if (PW.pt (pw_or (pt_cmpR (op_neD (by exact hu)) (pe_meth0 (pv 6) N.cl WS.m WS.g (hr.mono (by decide)) WS.b .nil pass0) (pv 7) (nomark _))
        (pw_or1 (pt_cmpR op_ne (pe_callB (call_reprO RF.s RF.fn RF.g (by exact hG) RF.b (hr.mono (by decide))) (by rfl) T.rep boot_repr (pa_cons (pv 6) pa_nil)) (pe_op op_add_str (pe_op op_add_str (pe_op op_add_str (pe_op op_add_str pe_str (pe_callB (call_reprD (by exact hG) (by exact hu) (by exact hK)) (by rfl) T.rep boot_repr (pa_cons (pv 7) pa_nil))) pe_str) (pe_callB (call_reprD (by exact hG) (by exact hu) (by exact hK)) (by rfl) T.rep boot_repr (pa_cons (pv 4) pa_nil))) pe_str) (nomark _))))) pss_never pss_nil)
    (pss_cons (ps_if (PW.pt (pw_or (pt_cmpR (op_neO EF.o EF.g EF.b (hr.mono (by decide))) (pe_makeK MT.mkC MT.g (hr.mono (by decide)) rfl MT.m MT.b1 pass0 (pa_cons (pv 7) pa_nil) (pk_cons (pv 4) pk_nil)) (pv 6) (nomark _)) (pw_or1 (pt_cmpR (op_eqO EF.o EF.g EF.b (hr.mono (by decide))) (pv 6) (pv 7) (nomark _))))) pss_never pss_nil)
    (pss_one (ps_ret (pe_cmpR (op_neO EF.o EF.g EF.b (hr.mono (by decide))) (pe_makeK MT.mkC MT.g (hr.mono (by decide)) rfl MT.m MT.b1 pass0 (pa_cons (pv 7) pa_nil) (pk_cons (pe_not (pv 4)) pk_nil)) (pv 6) (nomark _)))))))))))))))))))))))))), ?_⟩
  have big : 1000 ≤ sizeLine := by decide
  -- drawn words
  refine ⟨_, rfl, p, 7, rfl, hP, by decide, by decide, fun d H1 d0' d1 b1 hP1 => ⟨d, rfl, by omega, by omega, fun W0 hW0 => ?_⟩⟩
  refine lc_draws (p := p) (n := d.toNat) (α := Str) (fun _ v z => v = .str z ∧ wordB z 12 = true) (fun _ _ _ _ _ _ e => e) (fun _ _ _ _ _ _ e => e) (fun _ => rfl) hP1 hW0 (by omega) (fun y Hx hPx bx Rx rx => ?_) fun H2 vs ws1 il hW2 pr b2 hP2 => ?_
  · exact ⟨_, rfl, p, rfl, hPx, fun z H' hz b hP' => rx _ z H' ⟨rfl, hz⟩ b hP'⟩
  obtain ⟨rfl, ok1⟩ := paired_val pr
  have len1 : ws1.length ≤ 6 := by omega
  have nW0 : W0 ≠ p := pot_ne hP1 hW0
  have c2 := b1.trans b2
  refine normS (σ' := [some (.ref p), some (.ref W0), none, none, none, none, none, none, none, none, none, none, none, none, none, none]) rfl ?_
  -- letters, and more words
  refine ⟨lettersS, rfl, by decide +kernel, fun L1 hL1 => ?_⟩
  have s3 := same_upd (o := HO.lst (chV lettersS)) hL1
  have hL3 : (upd H2 L1 (.lst (chV lettersS))) L1 = some (.lst ((chS lettersS).map V.str)) := by rw [upd_same, chV_eq]
  generalize upd H2 L1 (.lst (chV lettersS)) = H3 at s3 hL3 ⊢
  refine normS (σ' := [some (.ref p), some (.ref W0), some (.ref L1), none, none, none, none, none, none, none, none, none, none, none, none, none]) rfl ?_
  have one : ∀ b ∈ chS lettersS, b.length = 1 := by decide +kernel
  refine ⟨_, rfl, _, rfl, L1, rfl, ⟨_, SqL.of hL3⟩, fun D0 hD0 => ?_⟩
  refine lc_each (i := 14) (u := L1) (f := V.str) (h := fun b => V.str (("a" : Str) ++ b)) (is := chS lettersS) (fun _ => rfl) hL3 (by decide +kernel) hD0 (fun b Hx hb _ Rx rx => ?_) fun H4 s4 hD4 => ?_
  · exact ⟨_, rfl, "a", b, rfl, rfl, Nat.le_trans (by rw [one b hb]; decide +kernel) big, rx _ (Same.refl _)⟩
  refine ⟨L1, D0, _, _, rfl, rfl, s4 _ _ hL3, hD4, by rw [List.length_map, List.length_map]; exact Nat.le_trans (show _ ≤ 1000 by decide +kernel) big, fun E1 hE1 => ?_⟩
  have e0 : (chS lettersS).map V.str ++ (chS lettersS).map (fun b => V.str (("a" : Str) ++ b)) = every.map V.str := by
    unfold every
    rw [List.map_append, List.map_map]
    rfl
  rw [e0]
  have s5 := same_upd (o := HO.lst (every.map V.str)) hE1
  have hE5 : (upd H4 E1 (.lst (every.map V.str))) E1 = some (.lst (every.map V.str)) := upd_same
  generalize upd H4 E1 (.lst (every.map V.str)) = H5 at s5 hE5 ⊢
  refine normS (σ' := [some (.ref p), some (.ref W0), some (.ref L1), some (.ref E1), none, none, none, none, none, none, none, none, none, none, none, none]) rfl ?_
  have z5 := (s3.trans s4).trans s5
  have hP5 := hP2.bt z5
  have nE1 : E1 ≠ p := pot_ne ((hP2.bt s3).bt s4) hE1
  refine ⟨_, rfl, _, rfl, by show 5 ≤ sizeLine; decide, fun K5 hK5 => ?_⟩
  have s6 := same_upd (o := HO.lst [V.int 0, V.int 0, V.int 25, V.int 26, V.int 52]) hK5
  have hK6 : (upd H5 K5 (.lst [V.int 0, V.int 0, V.int 25, V.int 26, V.int 52])) K5 = some (.lst [V.int 0, V.int 0, V.int 25, V.int 26, V.int 52]) := upd_same
  have nK : K5 ≠ p := pot_ne hP5 hK5
  generalize upd H5 K5 (.lst [V.int 0, V.int 0, V.int 25, V.int 26, V.int 52]) = H6 at s6 hK6 ⊢
  refine ⟨_, rfl, p, 5, rfl, hP5.bt s6, by decide, by decide, fun i H7 i0 i1 b7 hP7 => ?_⟩
  obtain ⟨k, hat, k0, k52⟩ : ∃ k : Int, atI [V.int 0, V.int 0, V.int 25, V.int 26, V.int 52] i = some (.int k) ∧ 0 ≤ k ∧ k ≤ 52 := by
    obtain rfl | rfl | rfl | rfl | rfl : i = 0 ∨ i = 1 ∨ i = 2 ∨ i = 3 ∨ i = 4 := by omega
    · exact ⟨0, rfl, by decide, by decide⟩
    · exact ⟨0, rfl, by decide, by decide⟩
    · exact ⟨25, rfl, by decide, by decide⟩
    · exact ⟨26, rfl, by decide, by decide⟩
    · exact ⟨52, rfl, by decide, by decide⟩
  refine ⟨K5, _, i, _, rfl, rfl, SqL.of (b7 _ _ nK hK6), hat, k, rfl, E1, _, rfl, SqL.of (b7 _ _ nE1 (s6 _ _ hE5)), fun Z hZ => ?_⟩
  rw [cut_take _ k0, ← List.map_take]
  have s8 := same_upd (o := HO.lst ((every.take k.toNat).map V.str)) hZ
  have hW7 := b7 _ _ nW0 (s6 _ _ (z5 _ _ hW2))
  have tk : (every.take k.toNat).length ≤ 52 := by
    rw [List.length_take]
    exact Nat.le_trans (Nat.min_le_right _ _) (Nat.le_of_eq every_len)
  refine ⟨W0, Z, _, _, rfl, rfl, s8 _ _ hW7, upd_same, by rw [List.length_map, List.length_map]; exact Nat.le_trans (show _ ≤ 1000 by omega) big, fun W hW => ?_⟩
  rw [← List.map_append]
  have s9 := s8.trans (same_upd (o := HO.lst ((ws1 ++ every.take k.toNat).map V.str)) hW)
  have hW9 : (upd (upd H7 Z (.lst ((every.take k.toNat).map V.str))) W (.lst ((ws1 ++ every.take k.toNat).map V.str))) W = some (.lst ((ws1 ++ every.take k.toNat).map V.str)) := upd_same
  have nW : W ≠ p := pot_ne (hP7.bt s8) hW
  generalize upd (upd H7 Z (.lst ((every.take k.toNat).map V.str))) W (.lst ((ws1 ++ every.take k.toNat).map V.str)) = H9 at s9 hW9 ⊢
  have wok : ∀ z ∈ ws1 ++ every.take k.toNat, wordB z 12 = true := fun z hz => (List.mem_append.mp hz).elim (ok1 z) fun h => every_ok z (List.mem_of_mem_take h)
  have wlen : (ws1 ++ every.take k.toNat).length ≤ 58 := by
    rw [List.length_append]
    omega
  generalize ws1 ++ every.take k.toNat = ws at hW9 wok wlen ⊢
  have c9 : Bt p H H9 := ((c2.trans (Same.bt (z5.trans s6))).trans b7).trans (Same.bt s9)
  have hP9 := hP7.bt s9
  clear s3 s4 s5 s6 s8 s9 z5 b7 c2 hW7 hZ hW hP7 hP5 hP2 hK6 hK5 hE5 hE1 hD4 hD0 hL3 hL1 hW2 hW0 b1 b2 hP1 tk ok1 one
  refine normS (σ' := [some (.ref p), some (.ref W), some (.ref L1), some (.ref E1), none, none, none, none, none, none, none, none, none, none, none, none]) rfl ?_
  -- turned, in another order
  refine ⟨_, rfl, p, 2, rfl, hP9, by decide, by decide, fun t H10 t0 t1 b10 hP10 => ⟨rfl, ?_⟩⟩
  obtain ⟨ot, eot⟩ : ∃ ot : Bool, V.bl (decide (V.int t = V.int 0)) = V.bl ot := ⟨_, rfl⟩
  rw [eot]
  have c10 := c9.trans b10
  have hW10 := b10 _ _ nW hW9
  refine normS (σ' := [some (.ref p), some (.ref W), some (.ref L1), some (.ref E1), some (.bl ot), none, none, none, none, none, none, none, none, none, none, none]) rfl ?_
  refine ⟨_, rfl, _, rfl, _, rfl, 2, rfl, W, _, rfl, SqL.of hW10, fun Z hZ => ?_⟩
  rw [cut_take _ (by decide), ← List.map_take]
  have s11 := same_upd (o := HO.lst ((ws.take (2 : Int).toNat).map V.str)) hZ
  refine ⟨W, Z, _, _, rfl, rfl, s11 _ _ hW10, upd_same, by rw [List.length_map, List.length_map, List.length_take]; exact Nat.le_trans (show _ ≤ 1000 by omega) big, fun A hA => ?_⟩
  rw [← List.map_append]
  have s12 := s11.trans (same_upd (o := HO.lst ((ws ++ ws.take (2 : Int).toNat).map V.str)) hA)
  have hA12 : (upd (upd H10 Z (.lst ((ws.take (2 : Int).toNat).map V.str))) A (.lst ((ws ++ ws.take (2 : Int).toNat).map V.str))) A = some (.lst ((ws ++ ws.take (2 : Int).toNat).map V.str)) := upd_same
  have nA : A ≠ p := pot_ne (hP10.bt s11) hA
  generalize upd (upd H10 Z (.lst ((ws.take (2 : Int).toNat).map V.str))) A (.lst ((ws ++ ws.take (2 : Int).toNat).map V.str)) = H12 at s12 hA12 ⊢
  have len3 : (ws ++ ws.take (2 : Int).toNat).length ≤ 60 := by
    rw [List.length_append, List.length_take]
    show _ + min 2 _ ≤ 60
    omega
  refine ⟨p, A, _, rfl, hP10.bt s12, nA, hA12, by rw [List.length_map]; omega, fun X ys H13 pm hX hXn b13 hP13 => ?_⟩
  obtain ⟨hs, rfl, ph⟩ := perm_strs pm
  have hlen : hs.length ≤ 60 := by
    rw [ph.length_eq]
    exact len3
  have hmem : ∀ z, z ∈ hs ↔ z ∈ ws := fun z => by
    rw [ph.mem_iff, List.mem_append]
    exact ⟨fun h => h.elim id fun h => List.mem_of_mem_take h, .inl⟩
  have hok : ∀ z ∈ hs, wordB z 12 = true := fun z hz => wok z ((hmem z).mp hz)
  have hW13 := b13 _ _ nW (s12 _ _ hW10)
  have c13 := (c10.trans (Same.bt s12)).trans b13
  have nXp : X ≠ p := pot_ne (hP10.bt s12) hXn
  have hXn0 : H X = none := (c10.trans (Same.bt s12)).free nXp hXn
  clear s11 s12 hA12 hA hZ b10 b13 hP9 hP10 hW10 pm c9 c10 hW9 len3 ph
  refine normS (σ' := [some (.ref p), some (.ref W), some (.ref L1), some (.ref E1), some (.bl ot), some (.ref X), none, none, none, none, none, none, none, none, none, none]) rfl ?_
  -- the set, the words that are due, what was handed over told
  refine ⟨_, rfl, _, rfl, rfl, rfl, ?_⟩
  intro m dx xm xd xn
  refine made_tW (ws := hs) (.inl hX) hok (by omega) (fun _ => hX) xm xd xn fun n H14 hm sn hmn hle s14 => ⟨rfl, ?_⟩
  clear xm xd xn
  refine ⟨_, rfl, W, ws, rfl, SqL.of (s14 _ _ hW13), by omega, fun a ha => ?_⟩
  have s15 := s14.trans (same_upd (o := TxO P w a ws) ha)
  refine ⟨a, ws, rfl, upd_same, by omega, fun du DU hs1 hn1 hmem1 hle1 hDU => ?_⟩
  obtain rfl : du = n := srt_uniq hs1 hn1 sn.1 sn.2.1 fun x => (hmem1 x).trans ((hmem x).symm.trans (hmn x).symm)
  have s16a := same_upd (o := HO.lst (du.map V.str)) hDU
  have hDU1 : (upd (upd H14 a (TxO P w a ws)) DU (.lst (du.map V.str))) DU = some (.lst (du.map V.str)) := upd_same
  have zt : Same H14 (upd (upd H14 a (TxO P w a ws)) DU (.lst (du.map V.str))) := (same_upd (o := TxO P w a ws) ha).trans s16a
  have nDU : DU ≠ X := fun z => by
    have := (s15 _ _ hX)
    rw [← z] at this
    cases this.symm.trans hDU
  generalize upd (upd H14 a (TxO P w a ws)) DU (.lst (du.map V.str)) = H16 at hDU1 zt ⊢
  have s16 := s14.trans zt
  have hP16 := hP13.bt s16
  have nDUp : DU ≠ p := pot_ne (hP13.bt s15) hDU
  have hm16 := hm.same zt
  have hX16 := s16 _ _ hX
  obtain ⟨r1, r2, r3⟩ := strs_shown hok (show hs.length ≤ 100 by omega)
  have r2' : (PyData.list (hs.map PyData.str)).shown.length ≤ sizeLine := Nat.le_trans r2 (by decide)
  refine ⟨_, rfl, _, _, rfl, .lst hX16 (rp_strs hs), r1, r2', r3, by show 3 ≤ sizeLine; decide, fun t1 ht1 => ?_⟩
  have s17 := same_upd (o := HO.tup [V.ref m, V.ref DU, V.str (PyData.list (hs.map PyData.str)).shown]) ht1
  have ht17 : (upd H16 t1 (.tup [V.ref m, V.ref DU, V.str (PyData.list (hs.map PyData.str)).shown])) t1 = some (.tup [V.ref m, V.ref DU, V.str (PyData.list (hs.map PyData.str)).shown]) := upd_same
  generalize upd H16 t1 (.tup [V.ref m, V.ref DU, V.str (PyData.list (hs.map PyData.str)).shown]) = H17 at s17 ht17 ⊢
  refine ⟨t1, _, rfl, SqT.of ht17, rfl, _, _, rfl, _, _, rfl, _, _, rfl, rfl, ?_⟩
  refine normS (σ' := [some (.ref p), some (.ref W), some (.ref L1), some (.ref E1), some (.bl ot), some (.ref X), some (.ref m), some (.ref DU), some (.str (PyData.list (hs.map PyData.str)).shown), none, none, none, none, none, none, none]) rfl ?_
  have hm17 := hm16.same s17
  have hX17 := s17 _ _ hX16
  have hDU17 := s17 _ _ hDU1
  have hP17 := hP16.bt s17
  have c17 := c13.trans (Same.bt (s16.trans s17))
  clear s14 s15 s16a s16 zt hm hm16 hX16 hDU1 hDU ha hW13 hP16 hP13 ht17 ht1 s17 c13 hs1 hn1 hmem1
  -- the words that are asked
  refine ⟨_, rfl, by show 4 ≤ sizeLine; decide, fun F4 hF4 => ?_⟩
  have s18 := same_upd (o := HO.lst (four.map V.str)) hF4
  have hF18 : (upd H17 F4 (.lst (four.map V.str))) F4 = some (.lst (four.map V.str)) := upd_same
  show rCat _ _ (upd H17 F4 (.lst (four.map V.str))) _
  generalize upd H17 F4 (.lst (four.map V.str)) = H18 at s18 hF18 ⊢
  have nlen : du.length ≤ 60 := by omega
  refine ⟨DU, F4, _, _, rfl, rfl, s18 _ _ hDU17, hF18, by rw [List.length_map, List.length_map]; exact Nat.le_trans (show _ ≤ 1000 from (by have : four.length = 4 := rfl; omega)) big, fun AS hAS => ?_⟩
  rw [← List.map_append]
  have s19 := s18.trans (same_upd (o := HO.lst ((du ++ four).map V.str)) hAS)
  have hAS19 : (upd H18 AS (.lst ((du ++ four).map V.str))) AS = some (.lst ((du ++ four).map V.str)) := upd_same
  have nASX : AS ≠ X := fun z => by
    have := s18 _ _ hX17
    rw [← z, hAS] at this
    cases this
  generalize upd H18 AS (.lst ((du ++ four).map V.str)) = H19 at s19 hAS19 ⊢
  have aok : ∀ z ∈ du ++ four, wordB z 12 = true := fun z hz => (List.mem_append.mp hz).elim (fun h => hok z ((hmn z).mp h)) (four_ok z)
  have alen : (du ++ four).length ≤ 64 := by
    rw [List.length_append]
    have : four.length = 4 := rfl
    omega
  generalize du ++ four = as at hAS19 aok alen ⊢
  refine normS (σ' := [some (.ref p), some (.ref W), some (.ref L1), some (.ref E1), some (.bl ot), some (.ref X), some (.ref m), some (.ref DU), some (.str (PyData.list (hs.map PyData.str)).shown), some (.ref AS), none, none, none, none, none, none]) rfl ?_
  have hm19 := hm17.same s19
  have hX19 := s19 _ _ hX17
  have hDU19 := s19 _ _ hDU17
  have hP19 := hP17.bt s19
  have c19 := c17.trans (Same.bt s19)
  clear s18 s19 hF18 hF4 hm17 hX17 hDU17 hP17 c17
  refine ⟨_, rfl, _, _, rfl, .lst hX19 (rp_strs hs), r1, r2', r3, _, rfl, rfl, false, ?_, ?_⟩
  · show V.bl (!decide (V.str _ = V.str _)) = V.bl false
    rw [decide_eq_true rfl] <;> rfl
  refine (show (if false = true then _ else _) from ?_)
  rw [if_neg (by decide)]
  -- what was handed over is emptied
  refine ⟨_, rfl, .inl ⟨rfl, _, SqL.of hX19⟩, X, _, rfl, rfl, hX19, ?_⟩
  obtain ⟨d1', u1, em, eu⟩ := id hm19
  have nl : ∀ {c : Addr} {o : HO}, H19 c = some o → (∀ xs, o ≠ .lst xs) → c ≠ X := fun {c o} e no z => by
    rw [z, hX19] at e
    exact no _ (Option.some.inj e).symm
  have hmB : WSet CT (upd H19 X (.lst [])) m du ot := ⟨d1', u1, by rw [upd_ne (nl em fun xs z => by cases z)]; exact em, by rw [upd_ne (nl eu fun xs z => by cases z)]; exact eu⟩
  have hDUB : (upd H19 X (.lst [])) DU = some (.lst (du.map V.str)) := by rw [upd_ne nDU]; exact hDU19
  have hASB : (upd H19 X (.lst [])) AS = some (.lst (as.map V.str)) := by rw [upd_ne nASX]; exact hAS19
  have hPB : PotAt (upd H19 X (.lst [])) p := pot_over hP19 (Ne.symm nXp)
  have cB : Bt p H (upd H19 X (.lst [])) := bt_over c19 hXn0
  generalize upd H19 X (.lst []) = HB at hmB hDUB hASB hPB cB ⊢
  clear em eu nl hm19 hX19 hDU19 hAS19 hP19 c19 r1 r2 r2' r3 hX nDU nASX nXp
  have dok : ∀ z ∈ du, wordB z 12 = true := fun z hz => sn.2.2 z hz
  -- each word in it, or not
  refine ⟨_, rfl, AS, rfl, ⟨_, SqL.of hASB⟩, fun I1 hI1 => ?_⟩
  refine lc_each (i := 15) (u := AS) (f := V.str) (h := fun z => V.bl (decide (z ∈ du) != ot)) (is := as) (fun _ => rfl) hASB (by omega) hI1 (fun z Hx hz sx Rx rx => ?_) fun H20 s20 hI20 => ?_
  · have k := hmB.same sx
    obtain ⟨d2, u2, em2, _⟩ := id k
    exact ⟨_, rfl, _, rfl, m, d2, _, rfl, em2, m, du, ot, .str z, rfl, k, .inl ⟨z, rfl, aok z hz, fun Hy sy => ⟨_, rfl, rx Hy sy⟩⟩⟩
  refine ⟨_, rfl, AS, rfl, ⟨_, SqL.of (s20 _ _ hASB)⟩, fun I2 hI2 => ?_⟩
  refine lc_each (i := 15) (u := AS) (f := V.str) (h := fun z => V.bl (decide (z ∈ du) != ot)) (is := as) (fun _ => rfl) (s20 _ _ hASB) (by omega) hI2 (fun z Hx hz sx Rx rx => ?_) fun H21 s21 hI21 => ?_
  · refine ⟨_, rfl, _, rfl, DU, du.map V.str, rfl, .inl (SqL.of (sx _ _ (s20 _ _ hDUB))), rfl, flat_strs du, _, rfl, rfl, ?_⟩
    have e1 : inV (.str z) (du.map V.str) = decide (z ∈ du) := inV_strs
    have e2 : (!decide (V.bl (inV (.str z) (du.map V.str)) = V.bl ot)) = (decide (z ∈ du) != ot) := by
      rw [e1]
      by_cases hz : z ∈ du
      · cases ot <;> simp [hz]
      · cases ot <;> simp [hz]
    rw [show (V.bl (!decide (V.bl (if false = true then !inV (.str z) (du.map V.str) else inV (.str z) (du.map V.str)) = V.bl ot))) = V.bl (decide (z ∈ du) != ot) from congrArg V.bl e2]
    exact rx _ (Same.refl _)
  have eg : as.map (fun z => V.bl (decide (z ∈ du) != ot)) = (as.map fun z => (decide (z ∈ du) != ot)).map V.bl := by
    rw [List.map_map]
    rfl
  rw [eg] at hI20 hI21
  refine ⟨.list ((as.map fun z => (decide (z ∈ du) != ot)).map .bool), .list ((as.map fun z => (decide (z ∈ du) != ot)).map .bool), .lst (SqL.of (s21 _ _ hI20)) (dp_bls _), .lst (SqL.of hI21) (dp_bls _), shaped_bls _, shaped_bls _, false, ?_, ?_⟩
  · show V.bl (!PyData.eqvAll _ _) = V.bl false
    rw [eqv_bls, decide_eq_true rfl] <;> rfl
  refine (show (if false = true then _ else _) from ?_)
  rw [if_neg (by decide)]
  have z21 := s20.trans s21
  clear hI20 hI21 s20 s21 hI1 hI2 eg
  -- what it tells
  have k21 := hmB.same z21
  obtain ⟨d2, u2, em2, _⟩ := id k21
  refine ⟨_, rfl, m, d2, _, rfl, em2, rfl, m, du, ot, rfl, k21, fun g hg => ?_⟩
  have s22 := same_upd (o := HO.lst (du.map V.str)) hg
  have hg22 : (upd H21 g (.lst (du.map V.str))) g = some (.lst (du.map V.str)) := upd_same
  have gB : HB g = none := z21.free hg
  generalize upd H21 g (.lst (du.map V.str)) = H22 at s22 hg22 ⊢
  have z22 := z21.trans s22
  have npg : p ≠ g := fun z => by
    obtain ⟨x, y, e, _⟩ := hPB
    rw [z, gB] at e
    cases e
  refine normS (σ' := [some (.ref p), some (.ref W), some (.ref L1), some (.ref E1), some (.bl ot), some (.ref X), some (.ref m), some (.ref DU), some (.str (PyData.list (hs.map PyData.str)).shown), some (.ref AS), some (.ref g), none, none, none, none, none]) rfl ?_
  refine ⟨_, rfl, _, rfl, .list (du.map .str), .list (du.map .str), .lst (SqL.of hg22) (dp_strs _), .lst (SqL.of (z22 _ _ hDUB)) (dp_strs _), shaped_strs dok, shaped_strs dok, false, ?_, ?_⟩
  · show V.bl (!PyData.eqvAll _ _) = V.bl false
    rw [eqv_strs, decide_eq_true rfl] <;> rfl
  refine (show (if false = true then _ else _) from ?_)
  rw [if_neg (by decide)]
  refine ⟨_, rfl, .ref g, .ty "list", .type "list", _, true, rfl, .ty _, .base (.lst hg22), kit_ty (show kitB "list" "list" = some true by decide +kernel), true, rfl, ?_⟩
  refine (show (if (!true) = true then _ else _) from ?_)
  rw [if_neg (by decide)]
  have k22 := hmB.same z22
  obtain ⟨d3, u3, em3, _⟩ := id k22
  refine ⟨_, rfl, m, d3, _, rfl, em3, m, du, ot, rfl, k22, _, rfl, m, d3, _, rfl, em3, m, d3, _, rfl, em3, rfl, by show 2 ≤ sizeLine; decide, fun A1 hA1 => ?_⟩
  obtain ⟨o1, o2, o3⟩ := othk_shown ot
  have o2' := Nat.le_trans o2 (show 100 ≤ sizeLine by decide)
  have s23 := same_upd (o := HO.lst [V.bl ot, V.str "text"]) hA1
  have hA23 : (upd H22 A1 (.lst [V.bl ot, V.str "text"])) A1 = some (.lst [V.bl ot, V.str "text"]) := upd_same
  generalize upd H22 A1 (.lst [V.bl ot, V.str "text"]) = H23 at s23 hA23 ⊢
  refine ⟨_, _, rfl, .lst hA23 (.cons (.bl _) (.cons (.str _) .nil)), o1, o2', o3, _, rfl, by show 2 ≤ sizeLine; decide, fun A2 hA2 => ?_⟩
  have s24 := same_upd (o := HO.lst [V.bl ot, V.str "text"]) hA2
  have hA24 : (upd H23 A2 (.lst [V.bl ot, V.str "text"])) A2 = some (.lst [V.bl ot, V.str "text"]) := upd_same
  generalize upd H23 A2 (.lst [V.bl ot, V.str "text"]) = H24 at s24 hA24 ⊢
  refine ⟨_, _, rfl, .lst hA24 (.cons (.bl _) (.cons (.str _) .nil)), o1, o2', o3, rfl, false, ?_, ?_⟩
  · show V.bl (!decide (V.str _ = V.str _)) = V.bl false
    rw [decide_eq_true rfl] <;> rfl
  refine (show (if false = true then _ else _) from ?_)
  rw [if_neg (by decide)]
  have z24 := (z22.trans s23).trans s24
  have hg24 := s24 _ _ (s23 _ _ hg22)
  clear hA23 hA24 hA1 hA2 s23 s24 k21 k22 em2 em3 s22 z22 z21
  -- what is in no set
  refine ⟨_, rfl, p, rfl, hPB.bt z24, fun x H25 ov b25 hP25 => ?_⟩
  have nb : ∀ {H' : Hp}, Bt p HB H' → WSet CT H' m du ot := fun {H'} b => by
    obtain ⟨x, y, e, _⟩ := hPB
    obtain ⟨dd, uu, f1, f2⟩ := hmB
    refine ⟨dd, uu, b _ _ (fun z => ?_) f1, b _ _ (fun z => ?_) f2⟩
    · rw [z, e] at f1
      cases f1
    · rw [z, e] at f2
      cases f2
  have b25' : Bt p HB H25 := (Same.bt z24).trans b25
  have k25 := nb b25'
  have hg25 := b25 _ _ (Ne.symm npg) hg24
  obtain ⟨d4, u4, em4, _⟩ := id k25
  refine ⟨_, rfl, m, d4, _, rfl, em4, m, du, ot, x, rfl, k25, .inr ⟨ov.2, fun H26 s26 => ⟨false, rfl, false, rfl, ?_⟩⟩⟩
  refine (show (if false = true then _ else _) from ?_)
  rw [if_neg (by decide)]
  have k26 := k25.same s26
  obtain ⟨d5, u5, em5, _⟩ := id k26
  refine ⟨_, rfl, m, d5, _, rfl, em5, m, du, ot, .int 0, rfl, k26, .inr ⟨asStr_int 0, fun H27 s27 => ⟨false, rfl, false, rfl, ?_⟩⟩⟩
  refine (show (if false = true then _ else _) from ?_)
  rw [if_neg (by decide)]
  have b27 : Bt p HB H27 := b25'.trans (Same.bt (s26.trans s27))
  have hP27 := (hP25.bt s26).bt s27
  have hg27 := s27 _ _ (s26 _ _ hg25)
  clear k25 k26 b25 b25' hP25 hg25 s26 s27 em4 em5 ov hg24 z24 hg22
  have k27 := nb b27
  have hDU27 := b27 _ _ nDUp hDUB
  -- ranked
  refine ⟨_, rfl, DU, rfl, ⟨_, SqL.of hDU27⟩, fun D1 hD1 => ?_⟩
  refine lc_tups (i := 15) (u := DU) (f := V.str) (tf := fun z => [.int (z.length : Nat), .str z]) (is := du) (fun _ => rfl) hDU27 (by omega) hD1 (fun z Hx hz Rx rx => ?_) fun H28 us s28 h1 h3 => ?_
  · exact ⟨_, rfl, z, rfl, Nat.le_trans (show z.length ≤ 1000 by have := (word_asc (m := 12) (dok z hz)).1; omega) big, _, rfl, by show 2 ≤ sizeLine; decide, fun t ht => rx t ht⟩
  have h2 : us.length = du.length := h3.length
  refine ⟨D1, us.map V.ref, du.map kW, rfl, SqL.of h1, dp_kWs h3, PySem.W.AllAlike.of fun p q => rfl, PySem.W.Sortable.tuples fun p => ⟨_, _, rfl⟩, fun d hd => ?_, fun S hS => ?_⟩
  · obtain ⟨p, _, rfl⟩ := List.mem_map.mp hd
    exact Nat.le_of_ble_eq_true rfl
  have ez : (us.map V.ref).zip (du.map kW) = ((us.map V.ref).zip du).map fun q => (q.1, kW q.2) := by
    rw [List.zip_map_right]
    rfl
  obtain ⟨ss, sp, sw, es⟩ := sorted_firstW (xs := (us.map V.ref).zip du)
  rw [ez, es]
  have s29 := same_upd (o := HO.lst (ss.map Prod.fst)) hS
  have hS29 : (upd H28 S (.lst (ss.map Prod.fst))) S = some (.lst (ss.map Prod.fst)) := upd_same
  generalize upd H28 S (.lst (ss.map Prod.fst)) = H29 at s29 hS29 ⊢
  have each : ∀ q ∈ ss, ∃ u, q.1 = V.ref u ∧ H29 u = some (.tup [.int (q.2.length : Nat), .str q.2]) ∧ q.2 ∈ du := fun q hq => by
    have hz := sp.mem_iff.mp hq
    have pz : Paired (fun (v : V) (z : Str) => ∃ u, v = V.ref u ∧ H29 u = some (.tup [.int (z.length : Nat), .str z])) (us.map V.ref) du := by
      have gen : ∀ {us : List Addr} {is : List Str}, Paired (fun t (z : Str) => H28 t = some (.tup [.int (z.length : Nat), .str z])) us is → Paired (fun (v : V) (z : Str) => ∃ u, v = V.ref u ∧ H29 u = some (.tup [.int (z.length : Nat), .str z])) (us.map V.ref) is := fun {us is} h => by
        induction h with
        | nil => exact .nil
        | cons r _ ih => exact .cons ⟨_, rfl, s29 _ _ r⟩ ih
      exact gen h3
    obtain ⟨u, e1, e2⟩ := paired_zip pz q hz
    exact ⟨u, e1, e2, (List.of_mem_zip hz).2⟩
  have mem : ∀ z ∈ du, ∃ q ∈ ss, q.2 = z := fun z hz => by
    have l1 : du.length ≤ (us.map V.ref).length := by rw [List.length_map, h2]; exact Nat.le_refl _
    have e1 : ((us.map V.ref).zip du).map Prod.snd = du := List.map_snd_zip l1
    rw [← e1] at hz
    obtain ⟨q, hq, rfl⟩ := List.mem_map.mp hz
    exact ⟨q, sp.mem_iff.mpr hq, rfl⟩
  have z29 := s28.trans s29
  clear h1 h3 s28 s29 hS hD1 ez es
  refine normS (σ' := [some (.ref p), some (.ref W), some (.ref L1), some (.ref E1), some (.bl ot), some (.ref X), some (.ref m), some (.ref DU), some (.str (PyData.list (hs.map PyData.str)).shown), some (.ref AS), some (.ref g), some (.ref S), none, none, none, none]) rfl ?_
  have hif : ∀ R : VK, (∀ r Hz, LeastW du r → Same H29 Hz → R (sV r) Hz) → tIf (tTest (tOp (rNeD K) (tVar 11) (tLst tNil))) (tOp (rIxT K) (tOp (rIxL K) (tVar 11) (tC (.int 0))) (tC (.int 1))) (tC .non) [some (.ref p), some (.ref W), some (.ref L1), some (.ref E1), some (.bl ot), some (.ref X), some (.ref m), some (.ref DU), some (.str (PyData.list (hs.map PyData.str)).shown), some (.ref AS), some (.ref g), some (.ref S), none, none, none, none] H29 R := fun R rr => by
    refine ⟨_, rfl, Nat.zero_le _, fun Z hZ => ?_⟩
    have s5 := same_upd (o := HO.lst []) hZ
    have sdu : ∀ z ∈ ss.map Prod.snd, wordB z 12 = true := fun z hz => by
      obtain ⟨q, hq, rfl⟩ := List.mem_map.mp hz
      obtain ⟨_, _, _, e3⟩ := each q hq
      exact dok _ e3
    refine ⟨.list ((ss.map Prod.snd).map kW), .list [], .lst (SqL.of (s5 _ _ hS29)) (dp_ofW fun q hq => ?_), .lst (SqL.of upd_same) .nil, shaped_kWs sdu, rfl, _, rfl, ?_⟩
    · obtain ⟨u, e1, e2, _⟩ := each q hq
      rw [e1]
      exact .tup (SqT.of (s5 _ _ e2)) (.cons (.int _) (.cons (.str _) .nil))
    cases ss with
    | nil =>
      have n0 : du = [] := by
        cases du with
        | nil => rfl
        | cons a r =>
          obtain ⟨q, hq, _⟩ := mem a List.mem_cons_self
          cases hq
      refine (show (if (!true) = true then _ else _) from ?_)
      rw [if_neg (by decide)]
      exact rr none _ (.inl ⟨n0, rfl⟩) s5
    | cons q r =>
      refine (show (if (!false) = true then _ else _) from ?_)
      rw [if_pos (by decide)]
      obtain ⟨u, e1, e2, e3⟩ := each q List.mem_cons_self
      refine ⟨_, rfl, S, _, 0, q.1, rfl, rfl, SqL.of (s5 _ _ hS29), atI_nat (j := 0) rfl, ?_⟩
      rw [e1]
      refine ⟨u, _, 1, _, rfl, rfl, SqT.of (s5 _ _ e2), rfl, ?_⟩
      refine rr (some q.2) _ (.inr ⟨q.2, rfl, e3, fun z hz => ?_⟩) s5
      obtain ⟨q', hq', rfl⟩ := mem z hz
      rcases List.mem_cons.mp hq' with rfl | h
      · exact (Sm.wLe_total _ _).elim id id
      · exact (List.pairwise_cons.mp sw).1 q' h
  refine nxS ?_
  refine as_if ?_
  refine hif _ fun r H30 lr s30 => ?_
  have z30 := z29.trans s30
  clear hif each mem sp sw hS29 s30 z29
  refine normS (σ' := [some (.ref p), some (.ref W), some (.ref L1), some (.ref E1), some (.bl ot), some (.ref X), some (.ref m), some (.ref DU), some (.str (PyData.list (hs.map PyData.str)).shown), some (.ref AS), some (.ref g), some (.ref S), some (sV r), none, none, none]) rfl ?_
  have hif2 : ∀ R : VK, (∀ v Hz, LeV du ot v → Same H30 Hz → R v Hz) → tIf (tB (tVar 4)) (tCall spMis [] E0 (tCons (tVar 7) tNil)) (tVar 12) [some (.ref p), some (.ref W), some (.ref L1), some (.ref E1), some (.bl ot), some (.ref X), some (.ref m), some (.ref DU), some (.str (PyData.list (hs.map PyData.str)).shown), some (.ref AS), some (.ref g), some (.ref S), some (sV r), none, none, none] H30 R := fun R rr => by
    refine ⟨_, rfl, ot, rfl, ?_⟩
    cases ot with
    | true =>
      rw [if_pos rfl]
      exact ⟨_, rfl, DU, du, rfl, z30 _ _ hDU27, by omega, fun z Hz fz sz => rr _ _ (.inr ⟨rfl, z, fz, rfl⟩) sz⟩
    | false =>
      rw [if_neg (by decide)]
      exact ⟨_, rfl, rr _ _ (.inl ⟨rfl, r, lr, rfl⟩) (Same.refl _)⟩
  first
    | refine as_if ?_
    | (refine nxS ?_
       refine as_if ?_)
  refine hif2 _ fun v H31 lv s31 => ?_
  have z31 := z30.trans s31
  clear hif2 lr
  refine normS (σ' := [some (.ref p), some (.ref W), some (.ref L1), some (.ref E1), some (.bl ot), some (.ref X), some (.ref m), some (.ref DU), some (.str (PyData.list (hs.map PyData.str)).shown), some (.ref AS), some (.ref g), some (.ref S), some v, none, none, none]) rfl ?_
  -- least, size
  have b31 : Bt p HB H31 := b27.trans (Same.bt z31)
  have hP31 := hP27.bt z31
  have hg31 := z31 _ _ hg27
  have hDU31 := b31 _ _ nDUp hDUB
  have k31 := nb b31
  clear z31 z30 s31 hg27 k27 hDU27 hP27 b27
  obtain ⟨d6, u6, em6, _⟩ := id k31
  refine ⟨_, rfl, m, d6, _, rfl, em6, rfl, ?_⟩
  refine nil_T ?_
  dsimp only
  refine firT_of k31 dok (by omega) fun v' H32 lv' s32 => ?_
  obtain rfl := leV_uniq lv lv'
  refine ⟨_, rfl, leV_scal lv, false, ?_, ?_⟩
  · rw [decide_eq_true rfl] <;> rfl
  refine (show (if false = true then _ else _) from ?_)
  rw [if_neg (by decide)]
  have k32 := k31.same s32
  obtain ⟨d7, u7, em7, _⟩ := id k32
  refine ⟨_, rfl, m, d7, _, rfl, em7, m, du, ot, rfl, k32, ?_⟩
  have hif3 : ∀ R : VK, R (oV (amtT du ot)) H32 → tIf (tB (tVar 4)) (tC .non) (tCB (fun xs H Q => ∃ p ys, xs = [.ref p] ∧ (SqL K H p ys ∨ SqT K H p ys) ∧ Q (.int ys.length) H) (tCons (tVar 7) tNil)) [some (.ref p), some (.ref W), some (.ref L1), some (.ref E1), some (.bl ot), some (.ref X), some (.ref m), some (.ref DU), some (.str (PyData.list (hs.map PyData.str)).shown), some (.ref AS), some (.ref g), some (.ref S), some v, none, none, none] H32 R := fun R rr => by
    refine ⟨_, rfl, ot, rfl, ?_⟩
    cases ot with
    | true =>
      rw [if_pos rfl]
      exact rr
    | false =>
      rw [if_neg (by decide)]
      refine ⟨_, rfl, DU, _, rfl, .inl (SqL.of (s32 _ _ hDU31)), ?_⟩
      rw [List.length_map]
      exact rr
  refine hif3 _ ⟨by cases amtT du ot <;> rfl, false, ?_, ?_⟩
  · rw [decide_eq_true rfl] <;> rfl
  refine (show (if false = true then _ else _) from ?_)
  rw [if_neg (by decide)]
  clear hif3 em7 em6
  -- is_empty
  obtain ⟨d8, u8, em8, _⟩ := id k32
  obtain ⟨o1, o2, o3⟩ := bool_shown (decide (amtT du ot = some 0))
  have o2' := Nat.le_trans o2 (show 5 ≤ sizeLine by decide)
  refine ⟨_, rfl, m, d8, _, rfl, em8, m, du, ot, rfl, k32, _, _, rfl, .bl _, o1, o2', o3, ?_⟩
  refine ⟨_, rfl, Nat.zero_le _, fun Z hZ => ?_⟩
  have s33 := same_upd (o := HO.lst []) hZ
  have hZ33 : (upd H32 Z (.lst [])) Z = some (.lst []) := upd_same
  generalize upd H32 Z (.lst []) = H33 at s33 hZ33 ⊢
  have z33 := s32.trans s33
  have edu : PyData.eqv (.list (du.map .str)) (.list []) = decide (du = []) := eqv_strs du []
  refine ⟨.list (du.map .str), .list [], .lst (SqL.of (z33 _ _ hDU31)) (dp_strs _), .lst (SqL.of hZ33) .nil, shaped_strs dok, rfl, decide (du = []), by rw [edu], ?_⟩
  have hif5 : ∀ R : VK, R (.bl (decide (amtT du ot = some 0))) H33 → (if decide (du = []) = true then tNotV (tVar 4) [some (.ref p), some (.ref W), some (.ref L1), some (.ref E1), some (.bl ot), some (.ref X), some (.ref m), some (.ref DU), some (.str (PyData.list (hs.map PyData.str)).shown), some (.ref AS), some (.ref g), some (.ref S), some v, none, none, none] H33 R else R (.bl false) H33) := fun R rr => by
    rw [amt_zero] at rr
    refine ite2 (fun h => ?_) (fun h => ?_)
    · rw [h, Bool.true_and] at rr
      exact ⟨_, rfl, ot, rfl, rr⟩
    · rw [Bool.eq_false_iff.mpr h, Bool.false_and] at rr
      exact rr
  refine hif5 _ ⟨_, _, rfl, .bl _, o1, o2', o3, rfl, false, ?_, ?_⟩
  · show V.bl (!decide (V.str _ = V.str _)) = V.bl false
    rw [decide_eq_true rfl] <;> rfl
  refine (show (if false = true then _ else _) from ?_)
  rw [if_neg (by decide)]
  have b33 : Bt p HB H33 := b31.trans (Same.bt z33)
  have hP33 := hP31.bt z33
  have hg33 := z33 _ _ hg31
  clear hif5 em8 k32 k31 hDU31 hg31 hP31 b31 z33 s33 s32 hZ33 hZ o1 o2 o2' o3 edu lv lv'
  -- what was told is changed
  refine ⟨_, rfl, .inl ⟨rfl, _, SqL.of hg33⟩, g, _, _, rfl, rfl, hg33, by rw [List.length_map]; exact Nat.lt_of_le_of_lt (show _ ≤ 60 by omega) (by decide), ?_⟩
  have b34 : Bt p HB (upd H33 g (.lst (du.map V.str ++ [.str "q"]))) := bt_over b33 gB
  have hP34 : PotAt (upd H33 g (.lst (du.map V.str ++ [.str "q"]))) p := pot_over hP33 npg
  generalize upd H33 g (.lst (du.map V.str ++ [.str "q"])) = H34 at b34 hP34 ⊢
  clear b33 hP33 hg33
  have k34 := nb b34
  have hDU34 := b34 _ _ nDUp hDUB
  obtain ⟨d9, u9, em9, _⟩ := id k34
  refine ⟨_, rfl, m, d9, _, rfl, em9, rfl, m, du, ot, rfl, k34, fun g2 hg2 => ?_⟩
  have s35 := same_upd (o := HO.lst (du.map V.str)) hg2
  have hg35 : (upd H34 g2 (.lst (du.map V.str))) g2 = some (.lst (du.map V.str)) := upd_same
  generalize upd H34 g2 (.lst (du.map V.str)) = H35 at s35 hg35 ⊢
  refine ⟨_, rfl, .list (du.map .str), .list (du.map .str), .lst (SqL.of hg35) (dp_strs _), .lst (SqL.of (s35 _ _ hDU34)) (dp_strs _), shaped_strs dok, shaped_strs dok, false, ?_, ?_⟩
  · show V.bl (!PyData.eqvAll _ _) = V.bl false
    rw [eqv_strs, decide_eq_true rfl] <;> rfl
  refine (show (if false = true then _ else _) from ?_)
  rw [if_neg (by decide)]
  have k35 := k34.same s35
  obtain ⟨d10, u10, em10, _⟩ := id k35
  obtain ⟨a1, a2, a3⟩ := strs_shown dok (show du.length ≤ 100 by omega)
  have a2' := Nat.le_trans a2 (show 15000 ≤ sizeLine by decide)
  obtain ⟨o1, o2, o3⟩ := bool_shown ot
  have o2' := Nat.le_trans o2 (show 5 ≤ sizeLine by decide)
  have e1 : ("Texts(" : Str).length = 6 := by decide +kernel
  have e2 : (", others=" : Str).length = 9 := by decide +kernel
  have e3 : (")" : Str).length = 1 := by decide +kernel
  have big2 : 20000 ≤ sizeLine := by decide
  refine ⟨_, rfl, m, d10, _, rfl, em10, m, du, ot, rfl, k35, dok, by omega, fun H36 s36 => ⟨_, rfl, ?_⟩⟩
  refine ⟨_, rfl, _, _, rfl, .lst (s36 _ _ (s35 _ _ hDU34)) (rp_strs du), a1, a2', a3, _, _, rfl, rfl, ?_, _, _, rfl, rfl, ?_, _, rfl, _, _, rfl, .bl ot, o1, o2', o3, _, _, rfl, rfl, ?_, _, _, rfl, rfl, ?_, rfl, false, ?_, ?_⟩
  · rw [e1]
    omega
  · rw [strLen_append, e1, e2]
    omega
  · rw [strLen_append, strLen_append, e1, e2]
    omega
  · rw [strLen_append, strLen_append, strLen_append, e1, e2, e3]
    omega
  · have txt : tsText du ot = "Texts(" ++ (PyData.list (du.map PyData.str)).shown ++ ", others=" ++ (PyData.bool ot).shown ++ ")" := by
      unfold tsText
      rw [PySem.Str.empty_append]
    show V.bl (!decide (V.str (tsText du ot) = V.str ("Texts(" ++ (PyData.list (du.map PyData.str)).shown ++ ", others=" ++ (PyData.bool ot).shown ++ ")"))) = V.bl false
    rw [txt, decide_eq_true rfl] <;> rfl
  refine (show (if false = true then _ else _) from ?_)
  rw [if_neg (by decide)]
  have z36 := s35.trans s36
  have hDU36 := z36 _ _ hDU34
  have k36 := k34.same z36
  have b36 : Bt p HB H36 := b34.trans (Same.bt z36)
  have hP36 := hP34.bt z36
  clear k35 k34 hDU34 b34 hP34 em9 em10 s35 s36 z36 hg35 hg2
  have othT : ∀ {Hx : Hp} {m' : Addr} {n' o'}, WSet CT Hx m' n' o' → OthV K CT Hx (.ref m') := fun {Hx m' n' o'} ⟨dd, uu, f1, _⟩ => .inl ⟨m', rfl, .inl ⟨CT, dd, _, f1, notFirst_self⟩⟩
  -- the same by the words that are due
  refine ⟨_, rfl, _, rfl, rfl, rfl, ?_⟩
  intro m2 dx xm xd xn
  refine made_tW (ws := du) (.inl hDU36) dok (by omega) (fun _ => hDU36) xm xd xn fun n2 H37 hm2 sn2 hmn2 hle2 s37 => ⟨rfl, ?_⟩
  clear xm xd xn
  obtain rfl : n2 = du := srt_uniq sn2.1 sn2.2.1 sn.1 sn.2.1 hmn2
  have k37 := k36.same s37
  obtain ⟨f2, v2, em2, _⟩ := id hm2
  refine ⟨_, rfl, m2, f2, _, rfl, em2, othT k37, m2, n2, ot, .ref m, rfl, hm2, dok, .inl ⟨m, n2, ot, rfl, k37, dok, fun H38 s38 => ⟨true, ?_, false, rfl, ?_⟩⟩⟩
  · rw [decide_eq_true rfl, beq_self_eq_true] <;> rfl
  refine (show (if false = true then _ else _) from ?_)
  rw [if_neg (by decide)]
  have k38 := k37.same s38
  have hDU38 := s38 _ _ (s37 _ _ hDU36)
  obtain ⟨f3, v3, em3, _⟩ := id k38
  refine ⟨_, rfl, _, rfl, m, f3, _, rfl, em3, .inl ⟨DU, rfl, .inr (.inl ⟨_, hDU38, NF.l⟩)⟩, m, n2, ot, .ref DU, rfl, k38, dok, .inr (.inl ⟨_, .base (.lst hDU38), NF.kl, false, rfl, false, rfl, ?_⟩)⟩
  refine (show (if false = true then _ else _) from ?_)
  rw [if_neg (by decide)]
  -- the other way round
  refine ⟨_, rfl, _, rfl, ot, rfl, rfl, rfl, ?_⟩
  intro m3 dx xm xd xn
  refine made_tW (ws := n2) (.inl hDU38) dok (by omega) (fun _ => hDU38) xm xd xn fun n3 H39 hm3 sn3 hmn3 hle3 s39 => ⟨rfl, ?_⟩
  clear xm xd xn
  obtain rfl : n3 = n2 := srt_uniq sn3.1 sn3.2.1 sn.1 sn.2.1 hmn3
  have k39 := k38.same s39
  obtain ⟨f4, v4, em4, _⟩ := id hm3
  refine ⟨_, rfl, m3, f4, _, rfl, em4, othT k39, m3, n3, !ot, .ref m, rfl, hm3, dok, .inl ⟨m, n3, ot, rfl, k39, dok, fun H40 s40 => ⟨false, ?_, ?_⟩⟩⟩
  · cases ot <;> simp
  exact q H40 (cB.trans (b36.trans (Same.bt (((s37.trans s38).trans s39).trans s40)))) (hP36.bt (((s37.trans s38).trans s39).trans s40))
end
end S8

end Ps8n
section Ps8o
set_option maxHeartbeats 8000000
namespace S8
open PySem PySem.Spec L2 PyProof.Rows Sm
/-! ### a pot's sets, right; the law -/
abbrev s_right : Stmt := top 53
abbrev s_law : Stmt := top 54
abbrev nRight : List Str := ["_law_pot_here", "_law_rows", "_law_more", "_law_turn"]
theorem sc_right : FnScope nRight ["_law_pot_here"] (defScope s_right) := ⟨rfl, rfl, rfl, by decide +kernel, rfl, by decide +kernel, by decide +kernel⟩
def RwR (H : Hp) (v : V) (r : St2) : Prop := ∃ t, v = .ref t ∧ SwAt H t r ∧ RowL r
theorem rows_of {H : Hp} : ∀ {vs : List V} {rs : List St2}, Paired (RwR H) vs rs → (∃ ts : List Addr, vs = ts.map V.ref ∧ Paired (SwAt H) ts rs) ∧ ∀ r ∈ rs, RowL r
  | _, _, .nil => ⟨⟨[], rfl, .nil⟩, fun r h => nomatch h⟩
  | _, _, .cons h t => by
    obtain ⟨⟨ts, e, p⟩, o⟩ := rows_of t
    obtain ⟨a, ea, es, er⟩ := h
    refine ⟨⟨a :: ts, by rw [ea, e]; rfl, .cons es p⟩, fun x hx => ?_⟩
    rcases List.mem_cons.mp hx with rfl | hx
    · exact er
    · exact o x hx
section
variable {P : Program} {w : World} {K : PySem.W.Frag} {mg : Str → Option Value} {base : Heap} {f fD fRW fNR fTW fGR fTR : Addr} {fd dD dRW dNR dTW dGR dTR : FuncData}
theorem ok_right (F : FD K "_law_right" s_right f fd) (tr : mg "range" = none) (D : Kn P w K mg base 1 "_law_draw" fD dD ["_law_pot_here", "_law_many"] spDraw) (RW : Kn P w K mg base 4 "_law_row" fRW dRW ["_law_pot_here"] spRow) (NR : KnG P w K mg base 9 "_law_numbers_right" fNR dNR ["_law_pot_here", "_law_rows"] spNumR)
    (TW : Kn P w K mg base 7 "_law_two_right" fTW dTW ["_law_rows", "_law_more"] spTwoR) (GR : Kn P w K mg base 9 "_law_given_right" fGR dGR ["_law_pot_here"] spGivR) (TR : KnG P w K mg base 9 "_law_texts_right" fTR dTR ["_law_pot_here"] spGivR) : FnG P w K mg base CX0 10 f fd ["_law_pot_here"] spGivR := by
  refine F.okG sc_right (fun vs H Q E h => ?_) (fun cdv A outer s H vs Q E hg hr h => ?_)
  · obtain ⟨p, rfl, _⟩ := h
    rfl
  obtain ⟨p, rfl, hP, q⟩ := h
  have hG := deeper_guards (env := PyProof.Rows.envOfC "_law_right" (defScope s_right) s.heap.objs.size f cdv) hg
  have nd := sc_right.nd
  refine ⟨_, PSs.nox (pss_cons (ps_par (i := 1) (j := 2) (by rfl) nd rfl rfl (by decide) rfl rfl (pa_cons (pe_lc (own := [("_law_turn", 3)]) (g := gName 3) (tt := tYes) (te := tCall spRow [] E0 (tCons (tVar 0) tNil)) rfl nd (pi_range1 rfl tr (pa_cons (pe_call D.f (hr.mono (by decide)) rfl D.m D.k D.b .nil pass0 (pa_cons (pv 0) (pa_cons pe_int pa_nil))) pa_nil)) (blkOk_by (N := nRight) (sc := defScope s_right) (by decide +kernel)) (fun _ _ _ _ _ => by exact pg_name (i := 3) nd rfl (Or.inl rfl)) (fun _ _ _ _ _ => pts_nil) (fun _ _ _ _ _ => by exact pe_call RW.f (hr.mono (by decide)) rfl RW.m RW.k RW.b .nil pass0 (pa_cons (pv 0) pa_nil)))
        (pa_cons (pe_lc (own := [("_law_turn", 3)]) (g := gName 3) (tt := tYes) (te := tCall spRow [] E0 (tCons (tVar 0) tNil)) rfl nd (pi_range1 rfl tr (pa_cons pe_int pa_nil)) (blkOk_by (N := nRight) (sc := defScope s_right) (by decide +kernel)) (fun _ _ _ _ _ => by exact pg_name (i := 3) nd rfl (Or.inl rfl)) (fun _ _ _ _ _ => pts_nil) (fun _ _ _ _ _ => by exact pe_call RW.f (hr.mono (by decide)) rfl RW.m RW.k RW.b .nil pass0 (pa_cons (pv 0) pa_nil))) pa_nil)) (by rfl))
    (pss_cons (ps_if (PW.pt (pw_or (pt_not (pt_val (pe_callG NR.f (by exact hG) (hr.mono (by decide)) rfl NR.m NR.k NR.b .nil pass0 (pa_cons (pv 0) (pa_cons (pv 1) pa_nil))))) (pw_or (pt_not (pt_val (pe_call TW.f (hr.mono (by decide)) rfl TW.m TW.k TW.b .nil pass0 (pa_cons (pv 1) (pa_cons (pv 2) pa_nil))))) (pw_or1 (pt_not (pt_val (pe_call TW.f (hr.mono (by decide)) rfl TW.m TW.k TW.b .nil pass0 (pa_cons (pv 1) (pa_cons (pe_op op_cat (pv 1) (pv 1)) pa_nil))))))))) pss_never pss_nil)
    (pss_one (ps_ret (pe_and (pe_call GR.f (hr.mono (by decide)) rfl GR.m GR.k GR.b .nil pass0 (pa_cons (pv 0) pa_nil)) (pe_one (pe_callG TR.f (by exact hG) (hr.mono (by decide)) rfl TR.m TR.k TR.b .nil pass0 (pa_cons (pv 0) pa_nil)))))))), ?_⟩
  have mono : ∀ H H' v a, PotAt H p → Bt p H H' → RwR H v a → RwR H' v a := fun H H' v a hP b ⟨t, e1, e2, e3⟩ => ⟨t, e1, b _ _ (sw_np hP e2) e2, e3⟩
  have keep : ∀ (D : Addr) H' xs ys v a, H' D = some (.lst xs) → RwR H' v a → RwR (upd H' D (.lst ys)) v a := fun D H' xs ys v a hD ⟨t, e1, e2, e3⟩ => by
    have n : t ≠ D := fun z => by
      unfold SwAt at e2
      rw [z, hD] at e2
      cases e2
    exact ⟨t, e1, (upd_ne n).trans e2, e3⟩
  refine ⟨_, rfl, p, 6, rfl, hP, by decide, by decide, fun d H1 d0 d1 b1 hP1 => ⟨d, rfl, by omega, by omega, fun R hR => ?_⟩⟩
  refine lc_draws (p := p) (n := d.toNat) (α := St2) RwR mono (keep R) (fun _ => rfl) hP1 hR (by omega) (fun y Hx hPx bx Rx rx => ?_) fun H2 vs l il hR2 pr b2 hP2 => ?_
  · exact ⟨_, rfl, p, rfl, hPx, fun t r H' hr1 ht _ b hP' => rx _ r H' ⟨t, rfl, ht, hr1⟩ b hP'⟩
  obtain ⟨⟨ts, rfl, pt⟩, hl⟩ := rows_of pr
  have lR : LstSw H2 R l := ⟨ts, hR2, pt⟩
  refine ⟨2, rfl, by decide, by decide, fun S hS => ?_⟩
  refine lc_draws (p := p) (n := 2) (α := St2) RwR mono (keep S) (fun _ => rfl) hP2 hS (by decide) (fun y Hx hPx bx Rx rx => ?_) fun H3 vs2 m im hS3 pr2 b3 hP3 => ?_
  · exact ⟨_, rfl, p, rfl, hPx, fun t r H' hr1 ht _ b hP' => rx _ r H' ⟨t, rfl, ht, hr1⟩ b hP'⟩
  obtain ⟨⟨us, rfl, pu⟩, hm⟩ := rows_of pr2
  have lS : LstSw H3 S m := ⟨us, hS3, pu⟩
  have lR3 := lR.nb hP2 b3
  have c3 := (b1.trans b2).trans b3
  have il5 : l.length ≤ 5 := by omega
  refine ⟨_, _, rfl, ?_⟩
  refine normS (σ' := [some (.ref p), some (.ref R), some (.ref S), none]) rfl ?_
  refine ⟨_, rfl, _, rfl, p, R, l, rfl, hP3, lR3, hl, il5, fun H4 b4 hP4 => ⟨true, rfl, ?_⟩⟩
  refine (show (if (!true) = true then _ else _) from ?_)
  rw [if_neg (by decide)]
  have lR4 := lR3.nb hP3 b4
  have lS4 := lS.nb hP3 b4
  refine ⟨_, rfl, _, rfl, R, S, l, m, l ++ m, rfl, lR4, lS4, hl, hm, ⟨fun x hx => hx, by rw [List.length_append]; omega⟩, by rw [List.length_append]; omega, fun H5 s5 => ⟨true, rfl, ?_⟩⟩
  refine (show (if (!true) = true then _ else _) from ?_)
  rw [if_neg (by decide)]
  have lR5 := lR4.same s5
  obtain ⟨ts5, e5, p5⟩ := id lR5
  have l5 := p5.length
  refine ⟨_, rfl, _, rfl, _, rfl, R, R, _, _, rfl, rfl, e5, e5, by rw [List.length_map]; exact Nat.le_trans (show _ ≤ 10 by omega) (by decide), fun Z hZ => ?_⟩
  have s6 := same_upd (o := HO.lst (ts5.map V.ref ++ ts5.map V.ref)) hZ
  have lZ : LstSw (upd H5 Z (.lst (ts5.map V.ref ++ ts5.map V.ref))) Z (l ++ l) := ⟨ts5 ++ ts5, by rw [List.map_append]; exact upd_same, (paired_app p5 p5).mono fun t y e => SwAt.same s6 e⟩
  refine ⟨R, Z, l, l ++ l, l, rfl, lR5.same s6, lZ, hl, fun x hx => (List.mem_append.mp hx).elim (hl x) (hl x), ⟨fun x hx => (List.mem_append.mp hx).elim id fun hx => (List.mem_append.mp hx).elim id id, by omega⟩, by rw [List.length_append, List.length_append]; omega, fun H6 s7 => ⟨true, rfl, ?_⟩⟩
  refine (show (if (!true) = true then _ else _) from ?_)
  rw [if_neg (by decide)]
  have z6 := s6.trans s7
  refine ⟨_, rfl, p, rfl, (hP4.bt s5).bt z6, fun H7 b7 hP7 => ⟨true, rfl, ?_⟩⟩
  rw [if_pos rfl]
  refine ⟨_, rfl, p, rfl, hP7, fun H8 b8 hP8 => q H8 ((((c3.trans b4).trans (Same.bt (s5.trans z6))).trans b7).trans b8) hP8⟩
end
def spLaw (K : PySem.W.Frag) : Sp := fun vs H Q _ => ∃ (a : Addr) (ns : List Int), vs = [.ref a] ∧ SqL K H a (ns.map V.int) ∧ ns.length ≤ 63 ∧ ∀ H', Q (.bl true) H'
theorem sc_law : FnScope ["_law_script", "_law_k"] ["_law_script"] (defScope s_law) := ⟨rfl, rfl, rfl, by decide +kernel, rfl, by decide +kernel, by decide +kernel⟩
theorem boot_max : bootBuiltins "max" = some (.builtin "max") := by decide +kernel
theorem boot_min : bootBuiltins "min" = some (.builtin "min") := by decide +kernel
section
variable {P : Program} {w : World} {K : PySem.W.Frag} {mg : Str → Option Value} {base : Heap} {f fPO fRI : Addr} {fd dPO dRI : FuncData}
theorem ok_law11 (F : FD K "law" s_law f fd) (T : TT0 mg) (TA : mg "all" = none) (TM : mg "max" = none) (TN : mg "min" = none) (PO : Kn P w K mg base 1 "_law_pot" fPO dPO ["_law_script", "_law_k"] (spPot K)) (RI : KnG P w K mg base 10 "_law_right" fRI dRI ["_law_pot_here"] spGivR) :
    FnG P w K mg base CX0 11 f fd ["_law_script"] (spLaw K) := by
  refine F.okG sc_law (fun vs H Q E h => ?_) (fun cdv A outer s H vs Q E hg hr h => ?_)
  · obtain ⟨a, ns, rfl, _⟩ := h
    rfl
  obtain ⟨a, ns, rfl, hS, hl, q⟩ := h
  have hG := deeper_guards (env := PyProof.Rows.envOfC "law" (defScope s_law) s.heap.objs.size f cdv) hg
  refine ⟨_, PSs.nox (pss_one (ps_ret (pe_callB (cr_all rfl) (by rfl) TA boot_all (pa_cons (pe_lc (own := [("_law_k", 1)]) (g := gName 1) (tt := tYes) rfl sc_law.nd
      (pi_range1 rfl T.rng (pa_cons (pe_callB (call_max2 rfl) (by rfl) TM boot_max (pa_cons pe_int (pa_cons (pe_callB (call_min2 rfl) (by rfl) TN boot_min (pa_cons (pe_callB call_len_seq (by rfl) T.len boot_len (pa_cons (pv 0) pa_nil)) (pa_cons pe_int pa_nil))) pa_nil))) pa_nil))
      (blkOk_by (N := ["_law_script", "_law_k"]) (sc := defScope s_law) (by decide +kernel)) (fun _ _ _ _ _ => pg_name (i := 1) sc_law.nd rfl (Or.inl rfl)) (fun _ _ _ _ _ => pts_nil)
      (fun _ _ _ _ _ => by exact (pe_callG RI.f (by exact hG) hr rfl RI.m RI.k RI.b .nil pass0 (pa_cons (pe_call PO.f (hr.mono (by decide)) rfl PO.m PO.k PO.b .nil pass0 (pa_cons (pv 0) (pa_cons (pv 1) pa_nil))) pa_nil)))) pa_nil)))), ?_⟩
  have hl' : (ns.map V.int).length ≤ 63 := by rw [List.length_map]; exact hl
  refine ⟨_, rfl, a, _, rfl, .inl hS, _, _, rfl, _, _, rfl, ?_⟩
  generalize hm : (if (6 : Int) < (((ns.map V.int).length : Nat) : Int) then (6 : Int) else (((ns.map V.int).length : Nat) : Int)) = m
  have m0 : 0 ≤ m ∧ m ≤ 6 := by
    rw [← hm]
    split <;> omega
  generalize hj : (if m > 1 then m else (1 : Int)) = j
  have j0 : 0 ≤ j ∧ j ≤ 6 := by
    rw [← hj]
    split <;> omega
  refine ⟨_, rfl, by omega, by omega, fun D hD => ?_⟩
  refine lc_range (lo := 0) (n := j.toNat) (fun i H' => Same H H' ∧ H' D = some (.lst (List.replicate i (V.bl true)))) ⟨same_upd hD, upd_same⟩ (fun i H1 hi ⟨s1, hD1⟩ => ?_) fun H1 ⟨s1, hD1⟩ => ?_
  · refine ⟨rfl, ?_⟩
    refine iteT (A := tCall spGivR [] E0 (tCons (tCall (spPot K) [] E0 (tCons (tVar 0) (tCons (tVar 1) tNil))) tNil) [some (.ref a), some (.int (0 + (i : Int)))] H1 _) (B := Same H H1 ∧ H1 D = some (.lst (List.replicate (i + 1) (V.bl true)))) ?_
    refine ⟨_, rfl, _, rfl, a, ns, 0 + (i : Int), rfl, s1.seq hS, hl, by omega, by omega, fun p x y hp hx hy hy2 => ⟨p, rfl, ⟨x, y, upd_same, hx, hy, hy2⟩, fun H3 b3 _ => ?_⟩⟩
    have s3 : Same H1 H3 := fun b o e => by
      have n : b ≠ p := ne_of_none e hp
      exact b3 b o n (by rw [upd_ne n]; exact e)
    refine ⟨_, s3 _ _ hD1, by rw [List.length_replicate]; exact Nat.lt_of_lt_of_le (show i < 6 by omega) (show 6 ≤ sizeLine by decide), same_over (s1.trans s3) hD, ?_⟩
    rw [upd_same, List.replicate_succ']
  · refine ⟨D, List.replicate j.toNat true, rfl, SqL.of (by rw [hD1, List.map_replicate]), ?_⟩
    rw [all_true]
    exact q H1
end
end S8

end Ps8o
section PHeZ
set_option maxHeartbeats 4000000
/-! ### the head's facts: defs that stand anywhere (properties, class methods), one Bool of the written part -/
namespace He
open PySem PySem.Spec PyProof.Rows L2
def asZ (g : Addr → Option Obj) (n : Nat) : List Addr := sysModules :: cStatics :: asD g n
/-- the def in the record of this type that the class has under this name -/
def rcA (K : PySem.W.Frag) (C : Addr) (T : String) (m : Str) : Addr := match PySem.W.recIn K (ma K C m) T with
  | some (.ref g :: _) => g
  | _ => 0
def fnZ (K : PySem.W.Frag) (a : Addr) : FnW := match K.lookup a with
  | some ⟨_, _, .func fd, _⟩ => some (fd.name, fd.qualname, fd.params, fd.body, fd.scope, fd.globals, fd.closure, fd.builtins)
  | _ => none
structure DefZ where
  adr : PySem.W.Frag → Addr
  name : Str
  qual : Str
  params : Arguments
  body : List Stmt
  scope : Scope
  dfl : List Dv := []
def DefZ.val (d : DefZ) : FnW := some (d.name, d.qual, d.params, .stmts d.body, d.scope, mainGlobals, [], builtinsNs)
def DefZ.dvs (K : PySem.W.Frag) (d : DefZ) : List V := d.dfl.map (Dv.v K)
def DefZ.ok (K : PySem.W.Frag) (d : DefZ) : Bool := PySem.W.keepIn K (.ref (d.adr K)) && (match K.lookup (d.adr K) with
  | some ⟨_, _, .func fd, _⟩ => PySem.W.codeIn K fd.code d.qual && dflB K fd.defaults (d.dvs K)
  | _ => false)
theorem DefZ.funD {K : PySem.W.Frag} {d : DefZ} (e : fnZ K (d.adr K) = d.val) (c : d.ok K = true) : ∃ fd, FunD K d.name d.qual d.params d.body d.scope (d.dvs K) [] (d.adr K) fd := by
  obtain ⟨kp, c2⟩ := ba c
  unfold fnZ at e
  cases q : K.lookup (d.adr K) with
  | none =>
    rw [q] at c2
    cases c2
  | some o =>
    obtain ⟨oc, od, dt, osl⟩ := o
    rw [q] at c2 e
    cases dt with
    | func fd =>
      obtain ⟨n1, n2, n3, n4, n5, n6, n7, n8, n9, n10, n11, n12, n13, n14, n15⟩ := fd
      have e2 : (some (n1, n2, n3, n4, n5, n6, n7, n15) : FnW) = some (d.name, d.qual, d.params, .stmts d.body, d.scope, mainGlobals, [], builtinsNs) := e
      simp only [Option.some.injEq, Prod.mk.injEq] at e2
      obtain ⟨h1, h2, h3, h4, h5, h6, h7, h8⟩ := e2
      subst h1 h2 h3 h4 h5 h6 h7 h8
      have c3 : (PySem.W.codeIn K n13 d.qual && dflB K n8 (d.dvs K)) = true := c2
      obtain ⟨k1, k2⟩ := ba c3
      exact ⟨_, ⟨oc, od, n8, n9, n10, n11, n12, n13, n14, osl, rfl, q, k1, dflB_ok k2, .inl rfl⟩, kp⟩
    | _ => cases c2
def obsZ (n : Nat) (fn : List DefZ) (ex : PySem.W.Frag → Bool) (g : Addr → Option Obj) : Bool × List FnW := ((fn.all fun d => d.ok (frG g (asZ g n))) && ex (frG g (asZ g n)), fn.map fun d => fnZ (frG g (asZ g n)) (d.adr (frG g (asZ g n))))
structure SaysZ (fn : List DefZ) (ex : PySem.W.Frag → Bool) (K : PySem.W.Frag) : Prop where
  ok : (fn.all fun d => d.ok K) = true
  more : ex K = true
  fns : fn.map (fun d => fnZ K (d.adr K)) = fn.map DefZ.val
theorem saysZ_of {n : Nat} {fn : List DefZ} {ex : PySem.W.Frag → Bool} {g : Addr → Option Obj} (e : obsZ n fn ex g = (true, fn.map DefZ.val)) : SaysZ fn ex (frG g (asZ g n)) := by
  have e1 : ((fn.all fun d => d.ok (frG g (asZ g n))) && ex (frG g (asZ g n))) = true := congrArg (fun z : Bool × List FnW => z.1) e
  exact ⟨(ba e1).1, (ba e1).2, congrArg (fun z : Bool × List FnW => z.2) e⟩
def hookZ (n : Nat) (fn : List DefZ) (ex : PySem.W.Frag → Bool) : PySem.W.Hook where
  α := Bool × List FnW
  obs := fun s => obsZ n fn ex s.heap.get?
  val := fun _ => (true, fn.map DefZ.val)
  says := fun _ h => ∃ K : PySem.W.Frag, K.In h ∧ SaysZ fn ex K
  of := fun _ _ e => ⟨_, frG_in, saysZ_of e⟩
  keeps := fun _ _ _ ⟨K, hK, c⟩ k => ⟨K, PySem.W.Frag.In.keeps hK k, c⟩
theorem obsZ_eq {n : Nat} {fn : List DefZ} {ex : PySem.W.Frag → Bool} {g : Addr → Option Obj} {s : Shared} (h : ∀ a, g a = s.heap.get? a) : obsZ n fn ex g = (hookZ n fn ex).obs s := by
  have e : g = s.heap.get? := funext h
  rw [e] <;> rfl
theorem SaysZ.def_ {fn : List DefZ} {ex : PySem.W.Frag → Bool} {K : PySem.W.Frag} (c : SaysZ fn ex K) (i : Nat) {d : DefZ} (h : fn[i]? = some d) : ∃ fd, FunD K d.name d.qual d.params d.body d.scope (d.dvs K) [] (d.adr K) fd := by
  have e2 : (fn.map fun d => fnZ K (d.adr K))[i]? = (fn.map DefZ.val)[i]? := by rw [c.fns]
  rw [List.getElem?_map, List.getElem?_map, h] at e2
  exact DefZ.funD (Option.some.inj e2) (List.all_eq_true.mp c.ok d (List.mem_of_getElem? h))
/-! ### a class method, a property -/
def cmB (K : PySem.W.Frag) (C : Addr) (m : Str) : Bool := (match PySem.W.findCls K (.ref C) (.type "type") m with
    | some (.get (.builtin b) (.ref p) .none (.ref C')) => decide (b = "classmethod.__get__") && (decide (p = ma K C m) && decide (C' = C))
    | _ => false) && ((match PySem.W.recIn K (ma K C m) "classmethod" with
    | some (.ref g :: _) => decide (g = rcA K C "classmethod" m)
    | _ => false) && PySem.W.fnIn K (rcA K C "classmethod" m))
theorem cmB_ok {K : PySem.W.Frag} {C : Addr} {m : Str} (h : cmB K C m = true) : ClX.CMet K C (.type "type") m (ma K C m) (rcA K C "classmethod" m) := by
  obtain ⟨h1, h⟩ := ba h
  obtain ⟨h2, h3⟩ := ba h
  refine ⟨?_, ?_, h3⟩
  · split at h1
    · rename_i b p C' e
      obtain ⟨e1, h1⟩ := ba h1
      obtain ⟨e2, e3⟩ := ba h1
      rw [e, of_decide_eq_true e1, of_decide_eq_true e2, of_decide_eq_true e3]
    · cases h1
  · split at h2
    · rename_i g r e
      exact ⟨r, by rw [e, of_decide_eq_true h2]⟩
    · cases h2
def prB (K : PySem.W.Frag) (C : Addr) (m : Str) : Bool := eqO (PySem.W.findIn K (.ref C) m) (some (some (.ref (ma K C m)))) && (eqO (PySem.W.specialIn K (.ref (ma K C m)) "__get__") (some (some (.builtin "property.__get__"))) && (decide (PySem.W.takesIn K (.ref (ma K C m)) = some true) &&
  (match PySem.W.recIn K (ma K C m) "property" with
    | some (.ref g :: _) => decide (g = rcA K C "property" m)
    | _ => false)))
theorem prB_ok {K : PySem.W.Frag} {C : Addr} {m : Str} (h : prB K C m = true) : PropOf K C m (ma K C m) (rcA K C "property" m) := by
  obtain ⟨h1, h⟩ := ba h
  obtain ⟨h2, h⟩ := ba h
  obtain ⟨h3, h4⟩ := ba h
  refine ⟨eqO_ok h1, eqO_ok h2, of_decide_eq_true h3, ?_⟩
  split at h4
  · rename_i g r e
    exact ⟨r, by rw [e, of_decide_eq_true h4]⟩
  · cases h4
def crB (K : PySem.W.Frag) (C : Addr) : Bool := PySem.W.readsIn K C (.type "type") && eqO (PySem.W.specialIn K (.ref C) "__getattribute__") (some (some (.builtin "type.__getattribute__")))
theorem crB_ok {K : PySem.W.Frag} {C : Addr} (h : crB K C = true) : ClX.CRead K C (.type "type") := by
  obtain ⟨h1, h2⟩ := ba h
  exact ⟨h1, eqO_ok h2⟩
end He

end PHeZ
section PHeR
set_option maxHeartbeats 4000000
/-! ### the head's facts over few objects: what some names of the module reach -/
namespace He
open PySem PySem.Spec PyProof.Rows L2
/-- what an object names, but the classes above a class -/
def refsN (o : Obj) : List Addr := refV o.cls ++ (match o.dict with
  | some d => [d]
  | none => []) ++ match o.data with
  | .seq its _ => its.toList.flatMap refV
  | .dict es _ => es.toList.flatMap fun e => refV e.val
  | .func fd => refV fd.code ++ (refV fd.defaults ++ (refV fd.kwdefaults ++ fd.closure.map (·.2)))
  | .cls cd => [cd.ns]
  | .fields vs => vs.toList.flatMap refV
  | .cell (some v) => refV v
  | _ => []
def asF (g : Addr → Option Obj) : Nat → List Addr → List Addr
  | 0, fr => fr
  | n + 1, fr => fr ++ asF g n (fr.flatMap fun a => match g a with
    | some o => refsN o
    | none => [])
def rootsA (g : Addr → Option Obj) (roots : List Str) : List Addr := roots.filterMap fun x => match PySem.W.nsIn (frG g [mainGlobals]) mainGlobals x with
  | some (some (.ref a)) => some a
  | _ => none
def asR (roots : List Str) (n : Nat) (g : Addr → Option Obj) : List Addr := sysModules :: cStatics :: mainGlobals :: asF g n (rootsA g roots)
def obsR (as : (Addr → Option Obj) → List Addr) (fn : List DefZ) (ex : PySem.W.Frag → Bool) (g : Addr → Option Obj) : Bool × List FnW := ((fn.all fun d => d.ok (frG g (as g))) && ex (frG g (as g)), fn.map fun d => fnZ (frG g (as g)) (d.adr (frG g (as g))))
theorem saysR_of {as : (Addr → Option Obj) → List Addr} {fn : List DefZ} {ex : PySem.W.Frag → Bool} {g : Addr → Option Obj} (e : obsR as fn ex g = (true, fn.map DefZ.val)) : SaysZ fn ex (frG g (as g)) := by
  have e1 : ((fn.all fun d => d.ok (frG g (as g))) && ex (frG g (as g))) = true := congrArg (fun z : Bool × List FnW => z.1) e
  exact ⟨(ba e1).1, (ba e1).2, congrArg (fun z : Bool × List FnW => z.2) e⟩
def hookR (as : (Addr → Option Obj) → List Addr) (fn : List DefZ) (ex : PySem.W.Frag → Bool) : PySem.W.Hook where
  α := Bool × List FnW
  obs := fun s => obsR as fn ex s.heap.get?
  val := fun _ => (true, fn.map DefZ.val)
  says := fun _ h => ∃ K : PySem.W.Frag, K.In h ∧ SaysZ fn ex K
  of := fun _ _ e => ⟨_, frG_in, saysR_of e⟩
  keeps := fun _ _ _ ⟨K, hK, c⟩ k => ⟨K, PySem.W.Frag.In.keeps hK k, c⟩
theorem obsR_eq {as : (Addr → Option Obj) → List Addr} {fn : List DefZ} {ex : PySem.W.Frag → Bool} {g : Addr → Option Obj} {s : Shared} (h : ∀ a, g a = s.heap.get? a) : obsR as fn ex g = (hookR as fn ex).obs s := by
  have e : g = s.heap.get? := funext h
  rw [e] <;> rfl
end He

end PHeR
section PHeK
set_option maxHeartbeats 4000000
/-! ### the head's facts: defs with keyword-only defaults, binding of both kinds of defaults -/
namespace L2
open PySem PySem.Spec PyProof.Rows
section
variable {K : PySem.W.Frag} {x qual : Str} {params : Arguments} {body : List Stmt} {scope : Scope} {dvs : List V} {kws : List (Str × V)} {f : Addr} {fd : FuncData} {ps : List Str}
/-- f(e, .., k = v, ..): defaults by position and by name; ms: the keyword-only parameters that lack -/
theorem FunD.kbindsDK (F : FunD K x qual params body scope dvs kws f fd) (n : Nat) (ks : List Str) (ms : List (Str × V)) (g : {α : Type} → List α → List α → List α → List α → List α) (hd : dvs ≠ []) (hk : kws ≠ []) (hms : ∀ q ∈ ms, q ∈ kws)
    (hrel : ∀ {vs ds mz zs : List V} {us its mv ws : List Value}, Vals vs us → Vals ds its → Vals mz mv → Vals zs ws → Vals (g vs ds mz zs) (g us its mv ws))
    (h : ∀ (T D : Addr) (doc pm : Value) (an : Option Addr) (cdv ct : Value) (us its mv ws : List Value), us.length = n → its.length = dvs.length → mv.length = ms.length → ws.length = ks.length →
      ∃ k, bindArgs (PySem.W.fnOf x qual params body scope (.ref T) (.ref D) doc pm an cdv ct) ⟨us, ks.zip ws⟩ = seqItems? (.ref T) >>= k ∧ KwChain D ((ms.map (·.1)).zip mv) (k (some its.toArray)) (ps.zip (g us its mv ws))) :
    ∃ its mv : List Value, KBn K fd ps n ks (fun us ws => g us its mv ws) (fun vs zs => g vs dvs (ms.map (·.2)) zs) := by
  obtain ⟨oc, od, dV, kV, doc, pm, an, cdv, ct, osl, rfl, lk, hcd, hD, hK⟩ := F.ex
  rcases hD with ⟨e, _⟩ | ⟨_, T, o, its, m, rfl, lT, oT, rT⟩
  · exact absurd e hd
  · rcases hK with e | ⟨D, rfl, hq⟩
    · exact absurd e hk
    · obtain ⟨mv, hl, rk, hks⟩ := kwd_vals (ms := ms) fun q hm => hq q (hms q hm)
      refine ⟨its, mv, ⟨fun s us ws X l1 l2 => ?_, fun r1 r2 => hrel r1 rT rk r2⟩⟩
      obtain ⟨k, e1, e2⟩ := h T D doc pm an cdv ct us its mv ws l1 rT.length.symm hl l2
      refine BindsTo.of_looks fun M => ?_
      rw [e1]
      exact looks_items X lT oT (KwChain.looks X hks e2)
end
end L2
namespace He
open PySem PySem.Spec PyProof.Rows L2
structure DefQ where
  adr : PySem.W.Frag → Addr
  name : Str
  qual : Str
  params : Arguments
  body : List Stmt
  scope : Scope
  dfl : List Dv := []
  kwd : List (Str × Dv) := []
def DefQ.val (d : DefQ) : FnW := some (d.name, d.qual, d.params, .stmts d.body, d.scope, mainGlobals, [], builtinsNs)
def DefQ.dvs (K : PySem.W.Frag) (d : DefQ) : List V := d.dfl.map (Dv.v K)
def DefQ.kws (K : PySem.W.Frag) (d : DefQ) : List (Str × V) := d.kwd.map fun q => (q.1, q.2.v K)
def DefQ.ok (K : PySem.W.Frag) (d : DefQ) : Bool := PySem.W.keepIn K (.ref (d.adr K)) && (match K.lookup (d.adr K) with
  | some ⟨_, _, .func fd, _⟩ => PySem.W.codeIn K fd.code d.qual && (dflB K fd.defaults (d.dvs K) && kwdB K fd.kwdefaults (d.kws K))
  | _ => false)
theorem DefQ.funD {K : PySem.W.Frag} {d : DefQ} (e : fnZ K (d.adr K) = d.val) (c : d.ok K = true) : ∃ fd, FunD K d.name d.qual d.params d.body d.scope (d.dvs K) (d.kws K) (d.adr K) fd := by
  obtain ⟨kp, c2⟩ := ba c
  unfold fnZ at e
  cases q : K.lookup (d.adr K) with
  | none =>
    rw [q] at c2
    cases c2
  | some o =>
    obtain ⟨oc, od, dt, osl⟩ := o
    rw [q] at c2 e
    cases dt with
    | func fd =>
      obtain ⟨n1, n2, n3, n4, n5, n6, n7, n8, n9, n10, n11, n12, n13, n14, n15⟩ := fd
      have e2 : (some (n1, n2, n3, n4, n5, n6, n7, n15) : FnW) = some (d.name, d.qual, d.params, .stmts d.body, d.scope, mainGlobals, [], builtinsNs) := e
      simp only [Option.some.injEq, Prod.mk.injEq] at e2
      obtain ⟨h1, h2, h3, h4, h5, h6, h7, h8⟩ := e2
      subst h1 h2 h3 h4 h5 h6 h7 h8
      have c3 : (PySem.W.codeIn K n13 d.qual && (dflB K n8 (d.dvs K) && kwdB K n9 (d.kws K))) = true := c2
      obtain ⟨k1, c4⟩ := ba c3
      obtain ⟨k2, k3⟩ := ba c4
      exact ⟨_, ⟨oc, od, n8, n9, n10, n11, n12, n13, n14, osl, rfl, q, k1, dflB_ok k2, kwdB_ok k3⟩, kp⟩
    | _ => cases c2
structure SaysQ (fn : List DefQ) (ex : PySem.W.Frag → Bool) (K : PySem.W.Frag) : Prop where
  ok : (fn.all fun d => d.ok K) = true
  more : ex K = true
  fns : fn.map (fun d => fnZ K (d.adr K)) = fn.map DefQ.val
def obsQ (as : (Addr → Option Obj) → List Addr) (fn : List DefQ) (ex : PySem.W.Frag → Bool) (g : Addr → Option Obj) : Bool × List FnW := ((fn.all fun d => d.ok (frG g (as g))) && ex (frG g (as g)), fn.map fun d => fnZ (frG g (as g)) (d.adr (frG g (as g))))
theorem saysQ_of {as : (Addr → Option Obj) → List Addr} {fn : List DefQ} {ex : PySem.W.Frag → Bool} {g : Addr → Option Obj} (e : obsQ as fn ex g = (true, fn.map DefQ.val)) : SaysQ fn ex (frG g (as g)) := by
  have e1 : ((fn.all fun d => d.ok (frG g (as g))) && ex (frG g (as g))) = true := congrArg (fun z : Bool × List FnW => z.1) e
  exact ⟨(ba e1).1, (ba e1).2, congrArg (fun z : Bool × List FnW => z.2) e⟩
def hookQ (as : (Addr → Option Obj) → List Addr) (fn : List DefQ) (ex : PySem.W.Frag → Bool) : PySem.W.Hook where
  α := Bool × List FnW
  obs := fun s => obsQ as fn ex s.heap.get?
  val := fun _ => (true, fn.map DefQ.val)
  says := fun _ h => ∃ K : PySem.W.Frag, K.In h ∧ SaysQ fn ex K
  of := fun _ _ e => ⟨_, frG_in, saysQ_of e⟩
  keeps := fun _ _ _ ⟨K, hK, c⟩ k => ⟨K, PySem.W.Frag.In.keeps hK k, c⟩
theorem obsQ_eq {as : (Addr → Option Obj) → List Addr} {fn : List DefQ} {ex : PySem.W.Frag → Bool} {g : Addr → Option Obj} {s : Shared} (h : ∀ a, g a = s.heap.get? a) : obsQ as fn ex g = (hookQ as fn ex).obs s := by
  have e : g = s.heap.get? := funext h
  rw [e] <;> rfl
theorem SaysQ.def_ {fn : List DefQ} {ex : PySem.W.Frag → Bool} {K : PySem.W.Frag} (c : SaysQ fn ex K) (i : Nat) {d : DefQ} (h : fn[i]? = some d) : ∃ fd, FunD K d.name d.qual d.params d.body d.scope (d.dvs K) (d.kws K) (d.adr K) fd := by
  have e2 : (fn.map fun d => fnZ K (d.adr K))[i]? = (fn.map DefQ.val)[i]? := by rw [c.fns]
  rw [List.getElem?_map, List.getElem?_map, h] at e2
  exact DefQ.funD (Option.some.inj e2) (List.all_eq_true.mp c.ok d (List.mem_of_getElem? h))
/-- the i-th default of the def there, if it is an object -/
def dfA (adr : PySem.W.Frag → Addr) (i : Nat) (K : PySem.W.Frag) : Addr := match K.lookup (adr K) with
  | some ⟨_, _, .func fd, _⟩ => (match fd.defaults with
    | .ref T => (match K.lookup T with
      | some ⟨_, _, .seq its _, _⟩ => (match its.toList[i]? with
        | some (.ref a) => a
        | _ => 0)
      | _ => 0)
    | _ => 0)
  | _ => 0
/-- an empty tuple stands there -/
def empB (K : PySem.W.Frag) (a : Addr) : Bool := match K.lookup a with
  | some ⟨c, _, .seq its _, _⟩ => decide (c = .type "tuple") && its.toList.isEmpty
  | _ => false
theorem empB_ok {K : PySem.W.Frag} {a : Addr} (h : empB K a = true) : ∃ (o : Obj) (its : Array Value) (n : Nat), K.lookup a = some o ∧ o.cls = .type "tuple" ∧ o.data = .seq its n ∧ its.size ≤ sizeLine ∧ Vals [] its.toList := by
  unfold empB at h
  split at h
  · rename_i c d its n sl e
    obtain ⟨h1, h2⟩ := ba h
    refine ⟨_, its, n, e, of_decide_eq_true h1, rfl, ?_, ?_⟩
    · rw [← Array.length_toList, List.isEmpty_iff.mp h2]
      exact Nat.zero_le _
    · rw [List.isEmpty_iff.mp h2]
      exact .nil
  · cases h
end He

end PHeK
section Ps8y
set_option maxHeartbeats 0
namespace S8
open PySem PySem.Spec PyProof.Rows L2 He
def aNI : PySem.W.Frag → Addr := fun K => ma K (ga K "Numbers") "__init__"
def aTI : PySem.W.Frag → Addr := fun K => ma K (ga K "Texts") "__init__"
def z0 : DefQ := ⟨fun K => ga K "is_number", "is_number", "is_number", defArgs s_is_number, defBody s_is_number, defScope s_is_number, [], []⟩
def z1 : DefQ := ⟨fun K => ga K "is_word", "is_word", "is_word", defArgs s_is_word, defBody s_is_word, defScope s_is_word, [], []⟩
def z2 : DefQ := ⟨fun K => ga K "is_kind", "is_kind", "is_kind", defArgs s_is_kind, defBody s_is_kind, defScope s_is_kind, [], []⟩
def z3 : DefQ := ⟨fun K => ga K "is_value", "is_value", "is_value", defArgs s_is_value, defBody s_is_value, defScope s_is_value, [], []⟩
def z4 : DefQ := ⟨fun K => ga K "kind_of", "kind_of", "kind_of", defArgs s_kind_of, defBody s_kind_of, defScope s_kind_of, [], []⟩
def z5 : DefQ := ⟨fun K => ga K "natural", "natural", "natural", defArgs s_natural, defBody s_natural, defScope s_natural, [], []⟩
def z6 : DefQ := ⟨fun K => ga K "is_stretch", "is_stretch", "is_stretch", defArgs s_is_stretch, defBody s_is_stretch, defScope s_is_stretch, [], []⟩
def z7 : DefQ := ⟨fun K => ga K "is_within", "is_within", "is_within", defArgs s_is_within, defBody s_is_within, defScope s_is_within, [], []⟩
def z8 : DefQ := ⟨fun K => ga K "_is_stretch_tuple", "_is_stretch_tuple", "_is_stretch_tuple", defArgs s_is_stt, defBody s_is_stt, defScope s_is_stt, [], []⟩
def z9 : DefQ := ⟨fun K => ga K "_merged", "_merged", "_merged", defArgs s_merged, defBody s_merged, defScope s_merged, [], []⟩
def z10 : DefQ := ⟨fun K => ga K "_place", "_place", "_place", defArgs s_place, defBody s_place, defScope s_place, [], []⟩
def z11 : DefQ := ⟨fun K => ga K "_reaches", "_reaches", "_reaches", defArgs s_reaches, defBody s_reaches, defScope s_reaches, [], []⟩
def z12 : DefQ := ⟨fun K => ga K "_later", "_later", "_later", defArgs s_later, defBody s_later, defScope s_later, [], []⟩
def z13 : DefQ := ⟨fun K => ga K "_nearest", "_nearest", "_nearest", defArgs s_nearest, defBody s_nearest, defScope s_nearest, [], []⟩
def z14 : DefQ := ⟨fun K => ga K "_text_at", "_text_at", "_text_at", defArgs s_text_at, defBody s_text_at, defScope s_text_at, [], []⟩
def z15 : DefQ := ⟨fun K => ma K (ga K "Numbers") "__init__", "__init__", "Numbers.__init__", defArgs s_ninit, defBody s_ninit, defScope s_ninit, [.adr (dfA aNI 0)], []⟩
def z16 : DefQ := ⟨fun K => ma K (ga K "Numbers") "stretches", "stretches", "Numbers.stretches", defArgs s_nstr, defBody s_nstr, defScope s_nstr, [], []⟩
def z17 : DefQ := ⟨fun K => ma K (ga K "Numbers") "__repr__", "__repr__", "Numbers.__repr__", defArgs s_nrepr, defBody s_nrepr, defScope s_nrepr, [], []⟩
def z18 : DefQ := ⟨fun K => ma K (ga K "Numbers") "_amount", "_amount", "Numbers._amount", defArgs s_namount, defBody s_namount, defScope s_namount, [], []⟩
def z19 : DefQ := ⟨fun K => ma K (ga K "Numbers") "_first_value", "_first_value", "Numbers._first_value", defArgs s_nfirst, defBody s_nfirst, defScope s_nfirst, [], []⟩
def z20 : DefQ := ⟨fun K => ma K (ga K "Numbers") "_has", "_has", "Numbers._has", defArgs s_nhas, defBody s_nhas, defScope s_nhas, [], []⟩
def z21 : DefQ := ⟨fun K => ma K (ga K "Numbers") "_content", "_content", "Numbers._content", defArgs s_ncontent, defBody s_ncontent, defScope s_ncontent, [], []⟩
def z22 : DefQ := ⟨fun K => rcA K (ga K "Numbers") "classmethod" "full", "full", "Numbers.full", defArgs s_nfull, defBody s_nfull, defScope s_nfull, [], []⟩
def z23 : DefQ := ⟨fun K => rcA K (ga K "Numbers") "classmethod" "of", "of", "Numbers.of", defArgs s_nof, defBody s_nof, defScope s_nof, [], []⟩
def z24 : DefQ := ⟨fun K => rcA K (ga K "Numbers") "property" "kind", "kind", "ValueSet.kind", defArgs s_vkind, defBody s_vkind, defScope s_vkind, [], []⟩
def z25 : DefQ := ⟨fun K => rcA K (ga K "Numbers") "property" "is_empty", "is_empty", "ValueSet.is_empty", defArgs s_vempty, defBody s_vempty, defScope s_vempty, [], []⟩
def z26 : DefQ := ⟨fun K => rcA K (ga K "Numbers") "property" "size", "size", "ValueSet.size", defArgs s_vsize, defBody s_vsize, defScope s_vsize, [], []⟩
def z27 : DefQ := ⟨fun K => ma K (ga K "Numbers") "least", "least", "ValueSet.least", defArgs s_vleast, defBody s_vleast, defScope s_vleast, [], []⟩
def z28 : DefQ := ⟨fun K => ma K (ga K "Numbers") "__contains__", "__contains__", "ValueSet.__contains__", defArgs s_vhas, defBody s_vhas, defScope s_vhas, [], []⟩
def z29 : DefQ := ⟨fun K => ma K (ga K "Numbers") "__eq__", "__eq__", "ValueSet.__eq__", defArgs s_veq, defBody s_veq, defScope s_veq, [], []⟩
def z30 : DefQ := ⟨fun K => ma K (ga K "Texts") "__init__", "__init__", "Texts.__init__", defArgs s_tinit, defBody s_tinit, defScope s_tinit, [.adr (dfA aTI 0)], [("others", .bl false)]⟩
def z31 : DefQ := ⟨fun K => rcA K (ga K "Texts") "classmethod" "full", "full", "Texts.full", defArgs s_tfull, defBody s_tfull, defScope s_tfull, [], []⟩
def z32 : DefQ := ⟨fun K => rcA K (ga K "Texts") "classmethod" "of", "of", "Texts.of", defArgs s_tof, defBody s_tof, defScope s_tof, [], []⟩
def z33 : DefQ := ⟨fun K => rcA K (ga K "Texts") "property" "others", "others", "Texts.others", defArgs s_tothers, defBody s_tothers, defScope s_tothers, [], []⟩
def z34 : DefQ := ⟨fun K => ma K (ga K "Texts") "words", "words", "Texts.words", defArgs s_twords, defBody s_twords, defScope s_twords, [], []⟩
def z35 : DefQ := ⟨fun K => ma K (ga K "Texts") "__repr__", "__repr__", "Texts.__repr__", defArgs s_trepr, defBody s_trepr, defScope s_trepr, [], []⟩
def z36 : DefQ := ⟨fun K => ma K (ga K "Texts") "_amount", "_amount", "Texts._amount", defArgs s_tamount, defBody s_tamount, defScope s_tamount, [], []⟩
def z37 : DefQ := ⟨fun K => ma K (ga K "Texts") "_first_value", "_first_value", "Texts._first_value", defArgs s_tfirst, defBody s_tfirst, defScope s_tfirst, [], []⟩
def z38 : DefQ := ⟨fun K => ma K (ga K "Texts") "_has", "_has", "Texts._has", defArgs s_thas, defBody s_thas, defScope s_thas, [], []⟩
def z39 : DefQ := ⟨fun K => ma K (ga K "Texts") "_content", "_content", "Texts._content", defArgs s_tcontent, defBody s_tcontent, defScope s_tcontent, [], []⟩
def z40 : DefQ := ⟨fun K => rcA K (ga K "Texts") "property" "kind", "kind", "ValueSet.kind", defArgs s_vkind, defBody s_vkind, defScope s_vkind, [], []⟩
def z41 : DefQ := ⟨fun K => rcA K (ga K "Texts") "property" "is_empty", "is_empty", "ValueSet.is_empty", defArgs s_vempty, defBody s_vempty, defScope s_vempty, [], []⟩
def z42 : DefQ := ⟨fun K => rcA K (ga K "Texts") "property" "size", "size", "ValueSet.size", defArgs s_vsize, defBody s_vsize, defScope s_vsize, [], []⟩
def z43 : DefQ := ⟨fun K => ma K (ga K "Texts") "least", "least", "ValueSet.least", defArgs s_vleast, defBody s_vleast, defScope s_vleast, [], []⟩
def z44 : DefQ := ⟨fun K => ma K (ga K "Texts") "__contains__", "__contains__", "ValueSet.__contains__", defArgs s_vhas, defBody s_vhas, defScope s_vhas, [], []⟩
def z45 : DefQ := ⟨fun K => ma K (ga K "Texts") "__eq__", "__eq__", "ValueSet.__eq__", defArgs s_veq, defBody s_veq, defScope s_veq, [], []⟩
def z46 : DefQ := ⟨fun K => ga K "_law_pot", "_law_pot", "_law_pot", defArgs sPot, defBody sPot, defScope sPot, [], []⟩
def z47 : DefQ := ⟨fun K => ga K "_law_draw", "_law_draw", "_law_draw", defArgs sDraw, defBody sDraw, defScope sDraw, [], []⟩
def z48 : DefQ := ⟨fun K => ga K "_law_pick", "_law_pick", "_law_pick", defArgs sPick, defBody sPick, defScope sPick, [], []⟩
def z49 : DefQ := ⟨fun K => ga K "_law_limit", "_law_limit", "_law_limit", defArgs s_limit, defBody s_limit, defScope s_limit, [], []⟩
def z50 : DefQ := ⟨fun K => ga K "_law_mixed", "_law_mixed", "_law_mixed", defArgs s_mixed, defBody s_mixed, defScope s_mixed, [], []⟩
def z51 : DefQ := ⟨fun K => ga K "_law_row", "_law_row", "_law_row", defArgs s_row, defBody s_row, defScope s_row, [], []⟩
def z52 : DefQ := ⟨fun K => ga K "_law_has", "_law_has", "_law_has", defArgs s_has, defBody s_has, defScope s_has, [], []⟩
def z53 : DefQ := ⟨fun K => ga K "_law_points", "_law_points", "_law_points", defArgs s_points, defBody s_points, defScope s_points, [], []⟩
def z54 : DefQ := ⟨fun K => ga K "_law_is_stated", "_law_is_stated", "_law_is_stated", defArgs s_stated, defBody s_stated, defScope s_stated, [], []⟩
def z55 : DefQ := ⟨fun K => ga K "_law_counted", "_law_counted", "_law_counted", defArgs s_counted, defBody s_counted, defScope s_counted, [], []⟩
def z56 : DefQ := ⟨fun K => ga K "_law_least", "_law_least", "_law_least", defArgs s_least, defBody s_least, defScope s_least, [], []⟩
def z57 : DefQ := ⟨fun K => ga K "_law_odd", "_law_odd", "_law_odd", defArgs s_odd, defBody s_odd, defScope s_odd, [], []⟩
def z58 : DefQ := ⟨fun K => ga K "_law_numbers_right", "_law_numbers_right", "_law_numbers_right", defArgs s_numR, defBody s_numR, defScope s_numR, [], []⟩
def z59 : DefQ := ⟨fun K => ga K "_law_two_right", "_law_two_right", "_law_two_right", defArgs s_twoR, defBody s_twoR, defScope s_twoR, [], []⟩
def z60 : DefQ := ⟨fun K => ga K "_law_of", "_law_of", "_law_of", defArgs s_of, defBody s_of, defScope s_of, [], []⟩
def z61 : DefQ := ⟨fun K => ga K "_law_given_right", "_law_given_right", "_law_given_right", defArgs s_givenR, defBody s_givenR, defScope s_givenR, [], []⟩
def z62 : DefQ := ⟨fun K => ga K "_law_word", "_law_word", "_law_word", defArgs s_word, defBody s_word, defScope s_word, [], []⟩
def z63 : DefQ := ⟨fun K => ga K "_law_first_missing", "_law_first_missing", "_law_first_missing", defArgs s_missing, defBody s_missing, defScope s_missing, [], []⟩
def z64 : DefQ := ⟨fun K => ga K "_law_texts_right", "_law_texts_right", "_law_texts_right", defArgs s_texR, defBody s_texR, defScope s_texR, [], []⟩
def z65 : DefQ := ⟨fun K => ga K "_law_right", "_law_right", "_law_right", defArgs s_right, defBody s_right, defScope s_right, [], []⟩
def z66 : DefQ := ⟨fun K => ga K "law", "law", "law", defArgs s_law, defBody s_law, defScope s_law, [], []⟩
def zn0 : List DefQ := [z0, z1, z2, z3, z4, z5, z6, z7, z8, z9, z10, z11, z12, z13, z14]
def zn1 : List DefQ := [z15, z16, z17, z18, z19, z20, z21, z22, z23, z24, z25, z26, z27, z28, z29]
def zn2 : List DefQ := [z30, z31, z32, z33, z34, z35, z36, z37, z38, z39, z40, z41, z42, z43, z44]
def zn3 : List DefQ := [z45, z46, z47, z48, z49, z50, z51, z52, z53, z54, z55, z56, z57, z58, z59]
def zn4 : List DefQ := [z60, z61, z62, z63, z64, z65, z66]
def zn : List DefQ := zn0 ++ (zn1 ++ (zn2 ++ (zn3 ++ (zn4 ++ []))))
def frees : List Str := ["isinstance", "repr", "all", "any", "len", "max", "min", "abs", "int", "divmod", "range", "sum", "zip", "str", "bool", "list", "set", "sorted", "tuple", "enumerate"]
def glo0 : List Str := ["ValueSet", "Numbers", "Texts", "is_number", "is_word", "is_kind", "is_value", "kind_of", "natural", "is_stretch", "is_within", "_is_stretch_tuple", "_merged", "_place", "_reaches", "_later"]
def glo1 : List Str := ["_nearest", "_text_at", "_law_pot", "_law_draw", "_law_pick", "_law_limit", "_law_mixed", "_law_row", "_law_has", "_law_points", "_law_is_stated", "_law_counted", "_law_least", "_law_odd", "_law_numbers_right", "_law_two_right"]
def glo2 : List Str := ["_law_of", "_law_given_right", "_law_word", "_law_first_missing", "_law_texts_right", "_law_right", "law"]
def glos : List Str := glo0 ++ glo1 ++ glo2
abbrev gT (K : PySem.W.Frag) : Addr := ga K "Texts"
abbrev gN (K : PySem.W.Frag) : Addr := ga K "Numbers"
abbrev gM (K : PySem.W.Frag) : Addr := ga K "ValueSet"
def fas : List Fa := [.int "TEXT_LENGTH" 12, .str "LETTERS" "abcdefghijklmnopqrstuvwxyz", .cls "Numbers", .cls "Texts", .noat "Numbers" "_stretches", .noat "Texts" "_words", .noat "Texts" "_others", .meth "Numbers" "stretches", .meth "Numbers" "_amount", .meth "Numbers" "_first_value", .meth "Numbers" "_has", .meth "Numbers" "_content", .meth "Numbers" "least", .meth "Texts" "words", .meth "Texts" "_amount", .meth "Texts" "_first_value", .meth "Texts" "_has", .meth "Texts" "_content", .meth "Texts" "least", .mkr "Numbers", .mkr "Texts"]
def tcB (K : PySem.W.Frag) (C : Str) (kd : Str) : Bool := eqO (PySem.W.findIn K (.ref (ga K C)) "__class__") (some (some (.builtin "object.__class__"))) && (eqO (PySem.W.specialIn K (.builtin "object.__class__") "__get__") (some (some (.builtin "getset_descriptor.__get__"))) && (decide (PySem.W.takesIn K (.builtin "object.__class__") = some true) &&
  (decide (PySem.W.mroIn K (ga K C) (.type "object") = some true) && (decide (PySem.W.kitOne K (.ref (ga K C)) (.ref (gM K)) = some true) && conB K C "KIND" (.str kd)))))
def eqB (K : PySem.W.Frag) (C : Addr) : Bool := eqO (PySem.W.findIn K (.ref C) "__eq__") (some (some (.ref (ma K C "__eq__")))) && (PySem.W.isFn K (.ref (ma K C "__eq__")) && (eqO (PySem.W.findIn K (.ref C) "__ne__") (some (some (.builtin "object.__ne__"))) && (decide (PySem.W.mroIn K C (.type "object") = some true) &&
  (eqO (PySem.W.findIn K (.ref C) "__repr__") (some (some (.ref (ma K C "__repr__")))) && PySem.W.isFn K (.ref (ma K C "__repr__"))))))
def ctB (K : PySem.W.Frag) (C : Addr) : Bool := eqO (PySem.W.findIn K (.ref C) "__contains__") (some (some (.ref (ma K C "__contains__")))) && PySem.W.isFn K (.ref (ma K C "__contains__"))
def nbB (K : PySem.W.Frag) (C : Addr) : Bool := decide (PySem.W.kitOne K (.ref C) (.type "int") = some false) && (decide (PySem.W.kitOne K (.ref C) (.type "bool") = some false) && (decide (PySem.W.kitOne K (.ref C) (.type "str") = some false) && decide (PySem.W.kitOne K (.ref C) (.type "list") = some false)))
def nfB (K : PySem.W.Frag) (C CT : Addr) : Bool := PySem.W.notFirst K C (.type "list") && (decide (PySem.W.kitOne K (.type "list") (.ref (gM K)) = some false) && PySem.W.notFirst K C (.ref CT))
def exK (K : PySem.W.Frag) : Bool := (fas.all fun f => f.ok K) && ((frees.all fun x => eqO (PySem.W.nsIn K mainGlobals x) (some none)) && ((glos.all fun x => eqO (PySem.W.nsIn K mainGlobals x) (some (some (.ref (ga K x))))) && (tcB K "Texts" "text" && (tcB K "Numbers" "number" && (eqB K (gN K) && (eqB K (gT K) && (ctB K (gN K) && (ctB K (gT K) && (prB K (gN K) "kind" && (prB K (gN K) "size" && (prB K (gN K) "is_empty" && (prB K (gT K) "kind" && (prB K (gT K) "size" && (prB K (gT K) "is_empty" && (prB K (gT K) "others" && (crB K (gN K) && (cmB K (gN K) "full" && (cmB K (gN K) "of" && (crB K (gT K) && (cmB K (gT K) "full" && (cmB K (gT K) "of" && (nbB K (gN K) && (nfB K (gN K) (gT K) && (nfB K (gT K) (gN K) && (empB K (dfA aNI 0 K) && (empB K (dfA aTI 0 K) && (noMods K)))))))))))))))))))))))))))
abbrev R : PySem.W.OpenRow := PySem.W.OpenLaw.row PySem.Challenge.rw_keptedits_k18_whole_sets_as_built
def roots : List Str := glos
abbrev hk : PySem.W.Hook := hookQ (asR roots 4) zn exK
def ob (s : PySem.W.SharedT) : Bool × List FnW := obsQ (asR roots 4) zn exK (HandSHeadRun.getT s)
theorem ob_eq (s : PySem.W.SharedT) : ob s = hk.obs s.abs := obsQ_eq (HandSHeadRun.getT_eq s)
def loose0 : List Str := ["_wall", "KeptError", "InvalidValue", "InvalidSet", "Unlike", "LETTERS", "TEXT_LENGTH", "is_number", "is_word", "is_kind", "is_value", "kind_of", "natural", "ValueSet", "Numbers", "Texts", "_numbers_told", "texts_of_words"]
def loose1 : List Str := ["is_set", "check_set", "is_stretch", "is_within", "_is_stretch_tuple", "_merged", "_place", "_reaches", "_later", "_shared_stretches", "_gaps", "_nearest", "_text_at", "_law_pot", "_law_draw", "_law_pick", "_law_limit", "_law_mixed"]
def loose2 : List Str := ["_law_row", "_law_has", "_law_points", "_law_is_stated", "_law_counted", "_law_least", "_law_odd", "_law_numbers_right", "_law_two_right", "_law_of", "_law_given_right", "_law_word", "_law_first_missing", "_law_texts_right", "_law_right"]
def loose : List Str := loose0 ++ loose1 ++ loose2
theorem run (w : World) : HandSHeadRun.RunEq R (PySem.W.view R.prog [54]) hk ob 9000 loose w := by
  intro os
  kernel_rfl
end S8

end Ps8y
section Ps8z
set_option maxHeartbeats 0
namespace S8
open PySem PySem.Spec PyProof.Rows L2 He
structure Facts (K : PySem.W.Frag) : Prop where
  a : ∀ f, f ∈ fas → f.ok K = true
  f : ∀ x, x ∈ frees → eqO (PySem.W.nsIn K mainGlobals x) (some none) = true
  g : ∀ x, x ∈ glos → eqO (PySem.W.nsIn K mainGlobals x) (some (some (.ref (ga K x)))) = true
  tt : tcB K "Texts" "text" = true
  tn : tcB K "Numbers" "number" = true
  eN : eqB K (gN K) = true
  eT : eqB K (gT K) = true
  hN : ctB K (gN K) = true
  hT : ctB K (gT K) = true
  pNkind : prB K (gN K) "kind" = true
  pNsize : prB K (gN K) "size" = true
  pNis_empty : prB K (gN K) "is_empty" = true
  pTkind : prB K (gT K) "kind" = true
  pTsize : prB K (gT K) "size" = true
  pTis_empty : prB K (gT K) "is_empty" = true
  pTothers : prB K (gT K) "others" = true
  cN : crB K (gN K) = true
  mNfull : cmB K (gN K) "full" = true
  mNof : cmB K (gN K) "of" = true
  cT : crB K (gT K) = true
  mTfull : cmB K (gT K) "full" = true
  mTof : cmB K (gT K) "of" = true
  nb : nbB K (gN K) = true
  nfN : nfB K (gN K) (gT K) = true
  nfT : nfB K (gT K) (gN K) = true
  e0 : empB K (dfA aNI 0 K) = true
  e1 : empB K (dfA aTI 0 K) = true
  nm : noMods K = true
theorem facts_of {K : PySem.W.Frag} (h : exK K = true) : Facts K := by
  obtain ⟨h_a, h⟩ := ba h
  obtain ⟨h_f, h⟩ := ba h
  obtain ⟨h_g, h⟩ := ba h
  obtain ⟨h_tt, h⟩ := ba h
  obtain ⟨h_tn, h⟩ := ba h
  obtain ⟨h_eN, h⟩ := ba h
  obtain ⟨h_eT, h⟩ := ba h
  obtain ⟨h_hN, h⟩ := ba h
  obtain ⟨h_hT, h⟩ := ba h
  obtain ⟨h_pNkind, h⟩ := ba h
  obtain ⟨h_pNsize, h⟩ := ba h
  obtain ⟨h_pNis_empty, h⟩ := ba h
  obtain ⟨h_pTkind, h⟩ := ba h
  obtain ⟨h_pTsize, h⟩ := ba h
  obtain ⟨h_pTis_empty, h⟩ := ba h
  obtain ⟨h_pTothers, h⟩ := ba h
  obtain ⟨h_cN, h⟩ := ba h
  obtain ⟨h_mNfull, h⟩ := ba h
  obtain ⟨h_mNof, h⟩ := ba h
  obtain ⟨h_cT, h⟩ := ba h
  obtain ⟨h_mTfull, h⟩ := ba h
  obtain ⟨h_mTof, h⟩ := ba h
  obtain ⟨h_nb, h⟩ := ba h
  obtain ⟨h_nfN, h⟩ := ba h
  obtain ⟨h_nfT, h⟩ := ba h
  obtain ⟨h_e0, h⟩ := ba h
  obtain ⟨h_e1, h⟩ := ba h
  exact ⟨fun x hx => List.all_eq_true.mp h_a x hx, fun x hx => List.all_eq_true.mp h_f x hx, fun x hx => List.all_eq_true.mp h_g x hx, h_tt, h_tn, h_eN, h_eT, h_hN, h_hT, h_pNkind, h_pNsize, h_pNis_empty, h_pTkind, h_pTsize, h_pTis_empty, h_pTothers, h_cN, h_mNfull, h_mNof, h_cT, h_mTfull, h_mTof, h_nb, h_nfN, h_nfT, h_e0, h_e1, h⟩
section
variable {P : Program} {w : World} {K : PySem.W.Frag} {h base : Heap} {mg : Str → Option Value}
theorem free_at (X : K.In h) (G : h.Ns mainGlobals mg) (c : Facts K) {x : Str} (hx : x ∈ frees) : mg x = none := PySem.W.mg_none_of X G (eqO_ok (c.f x hx))
theorem glo_at (X : K.In h) (G : h.Ns mainGlobals mg) (c : Facts K) {x : Str} (hx : x ∈ glos) : mg x = some (.ref (ga K x)) := PySem.W.mg_of X G (eqO_ok (c.g x hx))
theorem tc_at {C kd : Str} (e : tcB K C kd = true) (hc : Cls K (ga K C)) : TcO K (ga K C) (gM K) kd := by
  obtain ⟨h1, e⟩ := ba e
  obtain ⟨h2, e⟩ := ba e
  obtain ⟨h3, e⟩ := ba e
  obtain ⟨h4, e⟩ := ba e
  obtain ⟨h5, h6⟩ := ba e
  exact ⟨hc, eqO_ok h1, eqO_ok h2, of_decide_eq_true h3, of_decide_eq_true h4, of_decide_eq_true h5, conB_ok h6⟩
theorem eq_at {C : Addr} (e : eqB K C = true) : EqO K C (ma K C "__eq__") ∧ PySem.W.findIn K (.ref C) "__repr__" = some (some (.ref (ma K C "__repr__"))) ∧ PySem.W.isFn K (.ref (ma K C "__repr__")) = true := by
  obtain ⟨q1, qq⟩ := ba e
  obtain ⟨q2, qq⟩ := ba qq
  obtain ⟨q3, qq⟩ := ba qq
  obtain ⟨q4, qq⟩ := ba qq
  obtain ⟨q5, q6⟩ := ba qq
  exact ⟨⟨eqO_ok q1, q2, eqO_ok q3, of_decide_eq_true q4⟩, eqO_ok q5, q6⟩
theorem ct_at {C : Addr} (e : ctB K C = true) : PySem.W.findIn K (.ref C) "__contains__" = some (some (.ref (ma K C "__contains__"))) ∧ PySem.W.isFn K (.ref (ma K C "__contains__")) = true := by
  obtain ⟨q1, q2⟩ := ba e
  exact ⟨eqO_ok q1, q2⟩
theorem nb_at {C : Addr} (e : nbB K C = true) : NoB K C := by
  obtain ⟨q1, qq⟩ := ba e
  obtain ⟨q2, qq⟩ := ba qq
  obtain ⟨q3, q4⟩ := ba qq
  exact ⟨of_decide_eq_true q1, of_decide_eq_true q2, of_decide_eq_true q3, of_decide_eq_true q4⟩
theorem nf_at {C CT : Addr} (e : nfB K C CT = true) : Nf K C (gM K) CT := by
  obtain ⟨q1, qq⟩ := ba e
  obtain ⟨q2, q3⟩ := ba qq
  exact ⟨q1, of_decide_eq_true q2, q3⟩
theorem raw1 {k : Nat} {f : Addr} {fd : FuncData} {sp : Sp} (F : FnOk P w K mg base CX0 k f fd ["cls"] sp) (hb : Binds K fd ["cls"] []) : FnR P w K mg base CX0 k f sp := (F.raw hb .nil).imp fun vs H Q E h => by
  rw [List.append_nil]
  exact h
end
theorem facts {P : Program} {w : World} {K : PySem.W.Frag} {h : Heap} {mg : Str → Option Value} {f : Addr} (X : K.In h) (G : h.Ns mainGlobals mg) (hfa : mg ("law" : Str) = some (.ref f)) (cc : SaysQ zn exK K) :
    ∃ fd : FuncData, (∀ (s : Shared) (v : Value), BindsTo s fd ⟨[v], []⟩ [("_law_script", v)]) ∧ ∀ base : Heap, K.In base → base.Ns mainGlobals mg → FnG P w K mg base CX0 11 f fd ["_law_script"] (spLaw K) := by
  have c := facts_of cc.more
  obtain ⟨d0, D0⟩ := cc.def_ 0 (d := z0) rfl
  obtain ⟨d1, D1⟩ := cc.def_ 1 (d := z1) rfl
  obtain ⟨d2, D2⟩ := cc.def_ 2 (d := z2) rfl
  obtain ⟨d3, D3⟩ := cc.def_ 3 (d := z3) rfl
  obtain ⟨d4, D4⟩ := cc.def_ 4 (d := z4) rfl
  obtain ⟨d5, D5⟩ := cc.def_ 5 (d := z5) rfl
  obtain ⟨d6, D6⟩ := cc.def_ 6 (d := z6) rfl
  obtain ⟨d7, D7⟩ := cc.def_ 7 (d := z7) rfl
  obtain ⟨d8, D8⟩ := cc.def_ 8 (d := z8) rfl
  obtain ⟨d9, D9⟩ := cc.def_ 9 (d := z9) rfl
  obtain ⟨d10, D10⟩ := cc.def_ 10 (d := z10) rfl
  obtain ⟨d11, D11⟩ := cc.def_ 11 (d := z11) rfl
  obtain ⟨d12, D12⟩ := cc.def_ 12 (d := z12) rfl
  obtain ⟨d13, D13⟩ := cc.def_ 13 (d := z13) rfl
  obtain ⟨d14, D14⟩ := cc.def_ 14 (d := z14) rfl
  obtain ⟨d15, D15⟩ := cc.def_ 15 (d := z15) rfl
  obtain ⟨d16, D16⟩ := cc.def_ 16 (d := z16) rfl
  obtain ⟨d17, D17⟩ := cc.def_ 17 (d := z17) rfl
  obtain ⟨d18, D18⟩ := cc.def_ 18 (d := z18) rfl
  obtain ⟨d19, D19⟩ := cc.def_ 19 (d := z19) rfl
  obtain ⟨d20, D20⟩ := cc.def_ 20 (d := z20) rfl
  obtain ⟨d21, D21⟩ := cc.def_ 21 (d := z21) rfl
  obtain ⟨d22, D22⟩ := cc.def_ 22 (d := z22) rfl
  obtain ⟨d23, D23⟩ := cc.def_ 23 (d := z23) rfl
  obtain ⟨d24, D24⟩ := cc.def_ 24 (d := z24) rfl
  obtain ⟨d25, D25⟩ := cc.def_ 25 (d := z25) rfl
  obtain ⟨d26, D26⟩ := cc.def_ 26 (d := z26) rfl
  obtain ⟨d27, D27⟩ := cc.def_ 27 (d := z27) rfl
  obtain ⟨d28, D28⟩ := cc.def_ 28 (d := z28) rfl
  obtain ⟨d29, D29⟩ := cc.def_ 29 (d := z29) rfl
  obtain ⟨d30, D30⟩ := cc.def_ 30 (d := z30) rfl
  obtain ⟨d31, D31⟩ := cc.def_ 31 (d := z31) rfl
  obtain ⟨d32, D32⟩ := cc.def_ 32 (d := z32) rfl
  obtain ⟨d33, D33⟩ := cc.def_ 33 (d := z33) rfl
  obtain ⟨d34, D34⟩ := cc.def_ 34 (d := z34) rfl
  obtain ⟨d35, D35⟩ := cc.def_ 35 (d := z35) rfl
  obtain ⟨d36, D36⟩ := cc.def_ 36 (d := z36) rfl
  obtain ⟨d37, D37⟩ := cc.def_ 37 (d := z37) rfl
  obtain ⟨d38, D38⟩ := cc.def_ 38 (d := z38) rfl
  obtain ⟨d39, D39⟩ := cc.def_ 39 (d := z39) rfl
  obtain ⟨d40, D40⟩ := cc.def_ 40 (d := z40) rfl
  obtain ⟨d41, D41⟩ := cc.def_ 41 (d := z41) rfl
  obtain ⟨d42, D42⟩ := cc.def_ 42 (d := z42) rfl
  obtain ⟨d43, D43⟩ := cc.def_ 43 (d := z43) rfl
  obtain ⟨d44, D44⟩ := cc.def_ 44 (d := z44) rfl
  obtain ⟨d45, D45⟩ := cc.def_ 45 (d := z45) rfl
  obtain ⟨d46, D46⟩ := cc.def_ 46 (d := z46) rfl
  obtain ⟨d47, D47⟩ := cc.def_ 47 (d := z47) rfl
  obtain ⟨d48, D48⟩ := cc.def_ 48 (d := z48) rfl
  obtain ⟨d49, D49⟩ := cc.def_ 49 (d := z49) rfl
  obtain ⟨d50, D50⟩ := cc.def_ 50 (d := z50) rfl
  obtain ⟨d51, D51⟩ := cc.def_ 51 (d := z51) rfl
  obtain ⟨d52, D52⟩ := cc.def_ 52 (d := z52) rfl
  obtain ⟨d53, D53⟩ := cc.def_ 53 (d := z53) rfl
  obtain ⟨d54, D54⟩ := cc.def_ 54 (d := z54) rfl
  obtain ⟨d55, D55⟩ := cc.def_ 55 (d := z55) rfl
  obtain ⟨d56, D56⟩ := cc.def_ 56 (d := z56) rfl
  obtain ⟨d57, D57⟩ := cc.def_ 57 (d := z57) rfl
  obtain ⟨d58, D58⟩ := cc.def_ 58 (d := z58) rfl
  obtain ⟨d59, D59⟩ := cc.def_ 59 (d := z59) rfl
  obtain ⟨d60, D60⟩ := cc.def_ 60 (d := z60) rfl
  obtain ⟨d61, D61⟩ := cc.def_ 61 (d := z61) rfl
  obtain ⟨d62, D62⟩ := cc.def_ 62 (d := z62) rfl
  obtain ⟨d63, D63⟩ := cc.def_ 63 (d := z63) rfl
  obtain ⟨d64, D64⟩ := cc.def_ 64 (d := z64) rfl
  obtain ⟨d65, D65⟩ := cc.def_ 65 (d := z65) rfl
  obtain ⟨d66, D66⟩ := cc.def_ 66 (d := z66) rfl
  have fr : ∀ x, x ∈ frees → mg x = none := fun x hx => free_at X G c hx
  have gl : ∀ x, x ∈ glos → mg x = some (.ref (ga K x)) := fun x hx => glo_at X G c hx
  have fa : ∀ f, f ∈ fas → f.ok K = true := c.a
  have b0 : Binds K d0 ["value"] [] := D0.bindsN fun _ _ _ _ _ _ us hl => match us, hl with | [_], _ => rfl
  have b1 : Binds K d1 ["value", "most"] [] := D1.bindsN fun _ _ _ _ _ _ us hl => match us, hl with | [_, _], _ => rfl
  have b2 : Binds K d2 ["value"] [] := D2.bindsN fun _ _ _ _ _ _ us hl => match us, hl with | [_], _ => rfl
  have b3 : Binds K d3 ["value", "kind"] [] := D3.bindsN fun _ _ _ _ _ _ us hl => match us, hl with | [_, _], _ => rfl
  have b4 : Binds K d4 ["value"] [] := D4.bindsN fun _ _ _ _ _ _ us hl => match us, hl with | [_], _ => rfl
  have b5 : Binds K d5 ["value"] [] := D5.bindsN fun _ _ _ _ _ _ us hl => match us, hl with | [_], _ => rfl
  have b6 : Binds K d6 ["first", "last"] [] := D6.bindsN fun _ _ _ _ _ _ us hl => match us, hl with | [_, _], _ => rfl
  have b7 : Binds K d7 ["value", "first", "last"] [] := D7.bindsN fun _ _ _ _ _ _ us hl => match us, hl with | [_, _, _], _ => rfl
  have b8 : Binds K d8 ["value"] [] := D8.bindsN fun _ _ _ _ _ _ us hl => match us, hl with | [_], _ => rfl
  have b9 : Binds K d9 ["stretches"] [] := D9.bindsN fun _ _ _ _ _ _ us hl => match us, hl with | [_], _ => rfl
  have b10 : Binds K d10 ["stretch"] [] := D10.bindsN fun _ _ _ _ _ _ us hl => match us, hl with | [_], _ => rfl
  have b11 : Binds K d11 ["last", "first"] [] := D11.bindsN fun _ _ _ _ _ _ us hl => match us, hl with | [_, _], _ => rfl
  have b12 : Binds K d12 ["one", "other"] [] := D12.bindsN fun _ _ _ _ _ _ us hl => match us, hl with | [_, _], _ => rfl
  have b13 : Binds K d13 ["first", "last"] [] := D13.bindsN fun _ _ _ _ _ _ us hl => match us, hl with | [_, _], _ => rfl
  have b14 : Binds K d14 ["index"] [] := D14.bindsN fun _ _ _ _ _ _ us hl => match us, hl with | [_], _ => rfl
  have b16 : Binds K d16 ["self"] [] := D16.bindsN fun _ _ _ _ _ _ us hl => match us, hl with | [_], _ => rfl
  have b17 : Binds K d17 ["self"] [] := D17.bindsN fun _ _ _ _ _ _ us hl => match us, hl with | [_], _ => rfl
  have b18 : Binds K d18 ["self"] [] := D18.bindsN fun _ _ _ _ _ _ us hl => match us, hl with | [_], _ => rfl
  have b19 : Binds K d19 ["self"] [] := D19.bindsN fun _ _ _ _ _ _ us hl => match us, hl with | [_], _ => rfl
  have b20 : Binds K d20 ["self", "value"] [] := D20.bindsN fun _ _ _ _ _ _ us hl => match us, hl with | [_, _], _ => rfl
  have b21 : Binds K d21 ["self"] [] := D21.bindsN fun _ _ _ _ _ _ us hl => match us, hl with | [_], _ => rfl
  have b22 : Binds K d22 ["cls"] [] := D22.bindsN fun _ _ _ _ _ _ us hl => match us, hl with | [_], _ => rfl
  have b24 : Binds K d24 ["self"] [] := D24.bindsN fun _ _ _ _ _ _ us hl => match us, hl with | [_], _ => rfl
  have b25 : Binds K d25 ["self"] [] := D25.bindsN fun _ _ _ _ _ _ us hl => match us, hl with | [_], _ => rfl
  have b26 : Binds K d26 ["self"] [] := D26.bindsN fun _ _ _ _ _ _ us hl => match us, hl with | [_], _ => rfl
  have b27 : Binds K d27 ["self"] [] := D27.bindsN fun _ _ _ _ _ _ us hl => match us, hl with | [_], _ => rfl
  have b28 : Binds K d28 ["self", "value"] [] := D28.bindsN fun _ _ _ _ _ _ us hl => match us, hl with | [_, _], _ => rfl
  have b29 : Binds K d29 ["self", "other"] [] := D29.bindsN fun _ _ _ _ _ _ us hl => match us, hl with | [_, _], _ => rfl
  have b31 : Binds K d31 ["cls"] [] := D31.bindsN fun _ _ _ _ _ _ us hl => match us, hl with | [_], _ => rfl
  have b33 : Binds K d33 ["self"] [] := D33.bindsN fun _ _ _ _ _ _ us hl => match us, hl with | [_], _ => rfl
  have b34 : Binds K d34 ["self"] [] := D34.bindsN fun _ _ _ _ _ _ us hl => match us, hl with | [_], _ => rfl
  have b35 : Binds K d35 ["self"] [] := D35.bindsN fun _ _ _ _ _ _ us hl => match us, hl with | [_], _ => rfl
  have b36 : Binds K d36 ["self"] [] := D36.bindsN fun _ _ _ _ _ _ us hl => match us, hl with | [_], _ => rfl
  have b37 : Binds K d37 ["self"] [] := D37.bindsN fun _ _ _ _ _ _ us hl => match us, hl with | [_], _ => rfl
  have b38 : Binds K d38 ["self", "value"] [] := D38.bindsN fun _ _ _ _ _ _ us hl => match us, hl with | [_, _], _ => rfl
  have b39 : Binds K d39 ["self"] [] := D39.bindsN fun _ _ _ _ _ _ us hl => match us, hl with | [_], _ => rfl
  have b40 : Binds K d40 ["self"] [] := D40.bindsN fun _ _ _ _ _ _ us hl => match us, hl with | [_], _ => rfl
  have b41 : Binds K d41 ["self"] [] := D41.bindsN fun _ _ _ _ _ _ us hl => match us, hl with | [_], _ => rfl
  have b42 : Binds K d42 ["self"] [] := D42.bindsN fun _ _ _ _ _ _ us hl => match us, hl with | [_], _ => rfl
  have b43 : Binds K d43 ["self"] [] := D43.bindsN fun _ _ _ _ _ _ us hl => match us, hl with | [_], _ => rfl
  have b44 : Binds K d44 ["self", "value"] [] := D44.bindsN fun _ _ _ _ _ _ us hl => match us, hl with | [_, _], _ => rfl
  have b45 : Binds K d45 ["self", "other"] [] := D45.bindsN fun _ _ _ _ _ _ us hl => match us, hl with | [_, _], _ => rfl
  have b46 : Binds K d46 ["_law_script", "_law_k"] [] := D46.bindsN fun _ _ _ _ _ _ us hl => match us, hl with | [_, _], _ => rfl
  have b47 : Binds K d47 ["_law_pot_here", "_law_many"] [] := D47.bindsN fun _ _ _ _ _ _ us hl => match us, hl with | [_, _], _ => rfl
  have b48 : Binds K d48 ["_law_pot_here", "_law_some"] [] := D48.bindsN fun _ _ _ _ _ _ us hl => match us, hl with | [_, _], _ => rfl
  have b49 : Binds K d49 ["_law_pot_here"] [] := D49.bindsN fun _ _ _ _ _ _ us hl => match us, hl with | [_], _ => rfl
  have b50 : Binds K d50 ["_law_pot_here", "_law_given"] [] := D50.bindsN fun _ _ _ _ _ _ us hl => match us, hl with | [_, _], _ => rfl
  have b51 : Binds K d51 ["_law_pot_here"] [] := D51.bindsN fun _ _ _ _ _ _ us hl => match us, hl with | [_], _ => rfl
  have b52 : Binds K d52 ["_law_rows", "_law_number"] [] := D52.bindsN fun _ _ _ _ _ _ us hl => match us, hl with | [_, _], _ => rfl
  have b53 : Binds K d53 ["_law_rows"] [] := D53.bindsN fun _ _ _ _ _ _ us hl => match us, hl with | [_], _ => rfl
  have b54 : Binds K d54 ["_law_rows"] [] := D54.bindsN fun _ _ _ _ _ _ us hl => match us, hl with | [_], _ => rfl
  have b55 : Binds K d55 ["_law_rows"] [] := D55.bindsN fun _ _ _ _ _ _ us hl => match us, hl with | [_], _ => rfl
  have b56 : Binds K d56 ["_law_numbers"] [] := D56.bindsN fun _ _ _ _ _ _ us hl => match us, hl with | [_], _ => rfl
  have b57 : Binds K d57 ["_law_pot_here"] [] := D57.bindsN fun _ _ _ _ _ _ us hl => match us, hl with | [_], _ => rfl
  have b58 : Binds K d58 ["_law_pot_here", "_law_rows"] [] := D58.bindsN fun _ _ _ _ _ _ us hl => match us, hl with | [_, _], _ => rfl
  have b59 : Binds K d59 ["_law_rows", "_law_more"] [] := D59.bindsN fun _ _ _ _ _ _ us hl => match us, hl with | [_, _], _ => rfl
  have b60 : Binds K d60 ["_law_numbers"] [] := D60.bindsN fun _ _ _ _ _ _ us hl => match us, hl with | [_], _ => rfl
  have b61 : Binds K d61 ["_law_pot_here"] [] := D61.bindsN fun _ _ _ _ _ _ us hl => match us, hl with | [_], _ => rfl
  have b62 : Binds K d62 ["_law_pot_here"] [] := D62.bindsN fun _ _ _ _ _ _ us hl => match us, hl with | [_], _ => rfl
  have b63 : Binds K d63 ["_law_words"] [] := D63.bindsN fun _ _ _ _ _ _ us hl => match us, hl with | [_], _ => rfl
  have b64 : Binds K d64 ["_law_pot_here"] [] := D64.bindsN fun _ _ _ _ _ _ us hl => match us, hl with | [_], _ => rfl
  have b65 : Binds K d65 ["_law_pot_here"] [] := D65.bindsN fun _ _ _ _ _ _ us hl => match us, hl with | [_], _ => rfl
  obtain ⟨e2, v2, bFull⟩ := D15.binds1 (ps := ["self", "stretches"]) 2 1 (by simp [DefQ.dvs, z15]) (by simp [DefQ.dvs, z15]) fun T kV doc pm an cdv ct us its hl hi => match us, hl, its, hi with | [_, _], _, [_], _ => ⟨_, rfl, rfl⟩
  have w2 : e2 = [] := by
    cases v2
    rfl
  subst w2
  obtain ⟨e1, v1, bNone⟩ := D15.binds1 (ps := ["self", "stretches"]) 1 0 (by simp [DefQ.dvs, z15]) (by simp [DefQ.dvs, z15]) fun T kV doc pm an cdv ct us its hl hi => match us, hl, its, hi with | [_], _, [_], _ => ⟨_, rfl, rfl⟩
  have w1 : e1 = [.ref (dfA aNI 0 K)] := by
    cases v1 with
    | cons r t =>
      cases t
      cases r
      rfl
  subst w1
  obtain ⟨i1, m1, K1⟩ := D30.kbindsDK (ps := ["self", "words", "others"]) 2 ["others"] [] (fun us its mv ws => us ++ ws) (by simp [DefQ.dvs, z30]) (by simp [DefQ.kws, z30]) (by simp [DefQ.kws, z30, Dv.v]) (fun r1 r2 r3 r4 => r1.append r4)
    fun T D doc pm an cdv ct us its mv ws h1 h2 h3 h4 => match us, h1, its, h2, mv, h3, ws, h4 with | [_, _], _, [_], _, [], _, [_], _ => ⟨_, rfl, rfl⟩
  obtain ⟨i2, m2, K2⟩ := D30.kbindsDK (ps := ["self", "words", "others"]) 1 ["others"] [] (fun us its mv ws => us ++ (its ++ ws)) (by simp [DefQ.dvs, z30]) (by simp [DefQ.kws, z30]) (by simp [DefQ.kws, z30, Dv.v]) (fun r1 r2 r3 r4 => r1.append (r2.append r4))
    fun T D doc pm an cdv ct us its mv ws h1 h2 h3 h4 => match us, h1, its, h2, mv, h3, ws, h4 with | [_], _, [_], _, [], _, [_], _ => ⟨_, rfl, rfl⟩
  obtain ⟨i3, m3, K3⟩ := D30.kbindsDK (ps := ["self", "words", "others"]) 2 [] [("others", .bl false)] (fun us its mv ws => us ++ mv) (by simp [DefQ.dvs, z30]) (by simp [DefQ.kws, z30]) (by simp [DefQ.kws, z30, Dv.v]) (fun r1 r2 r3 r4 => r1.append r3)
    fun T D doc pm an cdv ct us its mv ws h1 h2 h3 h4 => match us, h1, its, h2, mv, h3, ws, h4 with | [_, _], _, [_], _, [_], _, [], _ => ⟨_, rfl, ⟨_, _, _, _, _, _, rfl, rfl, rfl⟩⟩
  obtain ⟨i4, m4, K4⟩ := D30.kbindsDK (ps := ["self", "words", "others"]) 1 [] [("others", .bl false)] (fun us its mv ws => us ++ (its ++ mv)) (by simp [DefQ.dvs, z30]) (by simp [DefQ.kws, z30]) (by simp [DefQ.kws, z30, Dv.v]) (fun r1 r2 r3 r4 => r1.append (r2.append r3))
    fun T D doc pm an cdv ct us its mv ws h1 h2 h3 h4 => match us, h1, its, h2, mv, h3, ws, h4 with | [_], _, [_], _, [_], _, [], _ => ⟨_, rfl, ⟨_, _, _, _, _, _, rfl, rfl, rfl⟩⟩
  have e := hfa.symm.trans (gl "law" (by decide +kernel))
  cases e
  have b := FunD.bindsA (ps := ["_law_script"]) D66 fun _ _ _ _ _ _ us hl => match us, hl with | [_], _ => rfl
  refine ⟨d66, fun s v => b s [v] rfl, fun base _ _ => ?_⟩
  have hT : TSc K (gT K) := ⟨cls_ok (fa _ (by simp [fas] : Fa.cls "Texts" ∈ fas)), noat_ok (fa _ (by simp [fas] : Fa.noat "Texts" "_words" ∈ fas)), noat_ok (fa _ (by simp [fas] : Fa.noat "Texts" "_others" ∈ fas))⟩
  have hN : NSc K (gN K) := ⟨cls_ok (fa _ (by simp [fas] : Fa.cls "Numbers" ∈ fas)), noat_ok (fa _ (by simp [fas] : Fa.noat "Numbers" "_stretches" ∈ fas))⟩
  have oT := tc_at c.tt hT.cl
  have oN := tc_at c.tn hN.cl
  have hlen := int_ok X G (fa _ (by simp [fas] : Fa.int "TEXT_LENGTH" 12 ∈ fas))
  have hlet := str_ok X G (fa _ (by simp [fas] : Fa.str "LETTERS" "abcdefghijklmnopqrstuvwxyz" ∈ fas))
  have kT := mkr_ok (fa _ (by simp [fas] : Fa.mkr "Texts" ∈ fas))
  have kN := mkr_ok (fa _ (by simp [fas] : Fa.mkr "Numbers" ∈ fas))
  have hK : noMods K = true := c.nm
  obtain ⟨eoN, rsN, rfN⟩ := eq_at c.eN
  obtain ⟨eoT, rsT, rfT⟩ := eq_at c.eT
  obtain ⟨csN, cfN⟩ := ct_at c.hN
  obtain ⟨csT, cfT⟩ := ct_at c.hT
  have nb := nb_at c.nb
  have nfN := nf_at c.nfN
  have nfT := nf_at c.nfT
  have mM : mg "ValueSet" = some (.ref (gM K)) := gl _ (by decide +kernel)
  have mN : mg "Numbers" = some (.ref (gN K)) := gl _ (by decide +kernel)
  have mT : mg "Texts" = some (.ref (gT K)) := gl _ (by decide +kernel)
  have TPf : TxtP K mg := ⟨fr _ (by decide +kernel), fr _ (by decide +kernel), fr _ (by decide +kernel), fr _ (by decide +kernel), fr _ (by decide +kernel)⟩
  have TWf : TW mg := ⟨fr _ (by decide +kernel), fr _ (by decide +kernel), fr _ (by decide +kernel)⟩
  have T0f : TT0 mg := ⟨fr _ (by decide +kernel), trivial, fr _ (by decide +kernel)⟩
  have TNRf : TNR mg := ⟨fr _ (by decide +kernel), fr _ (by decide +kernel), fr _ (by decide +kernel), fr _ (by decide +kernel)⟩
  have TGRf : TGR mg := ⟨fr _ (by decide +kernel)⟩
  have TXRf : TXR mg := ⟨fr _ (by decide +kernel), fr _ (by decide +kernel), fr _ (by decide +kernel), fr _ (by decide +kernel), fr _ (by decide +kernel), fr _ (by decide +kernel), fr _ (by decide +kernel)⟩
  have NU : Kn P w K mg base 1 "is_number" _ d0 _ (spIsNumber K) := ⟨ok_is_number D0 TWf (fr _ (by decide +kernel)) (fr _ (by decide +kernel)), b0, gl _ (by decide +kernel), D0.kp⟩
  have WO : Kn P w K mg base 1 "is_word" _ d1 _ (spIsWord K) := ⟨ok_is_word D1 TWf, b1, gl _ (by decide +kernel), D1.kp⟩
  have KI : Kn P w K mg base 1 "is_kind" _ d2 _ spKind := ⟨ok_kind D2 TWf (kit_ty (show kitB "str" "str" = some true by decide +kernel)), b2, gl _ (by decide +kernel), D2.kp⟩
  have VA : Kn P w K mg base 2 "is_value" _ d3 _ (spValue K) := ⟨ok_value D3 ⟨NU, WO, KI, hlen⟩, b3, gl _ (by decide +kernel), D3.kp⟩
  have KO : Kn P w K mg base 3 "kind_of" _ d4 _ (spKindOf K) := ⟨ok_kind_of D4 VA, b4, gl _ (by decide +kernel), D4.kp⟩
  have NA : Kn P w K mg base 4 "natural" _ d5 _ (spNatural K) := ⟨ok_natural D5 KO (fr _ (by decide +kernel)) (fr _ (by decide +kernel)), b5, gl _ (by decide +kernel), D5.kp⟩
  have ST : Kn P w K mg base 2 "is_stretch" _ d6 _ spStretch := ⟨ok_stretch D6 NU, b6, gl _ (by decide +kernel), D6.kp⟩
  have WI : Kn P w K mg base 1 "is_within" _ d7 _ spWithin := ⟨ok_within D7, b7, gl _ (by decide +kernel), D7.kp⟩
  have IS : Kn P w K mg base 3 "_is_stretch_tuple" _ d8 _ spStt := ⟨ok_stt D8 TWf (fr _ (by decide +kernel)) ST, b8, gl _ (by decide +kernel), D8.kp⟩
  have PLc : Kn P w K mg base 1 "_place" _ d10 _ spPlace := ⟨ok_place D10, b10, gl _ (by decide +kernel), D10.kp⟩
  have RCH : Kn P w K mg base 1 "_reaches" _ d11 _ spReaches := ⟨ok_reaches D11, b11, gl _ (by decide +kernel), D11.kp⟩
  have LTR : Kn P w K mg base 1 "_later" _ d12 _ spLater := ⟨ok_later D12 (fr _ (by decide +kernel)), b12, gl _ (by decide +kernel), D12.kp⟩
  have ME : Kn P w K mg base 4 "_merged" _ d9 _ spMerged := ⟨ok_merged D9 TWf (fr _ (by decide +kernel)) (fr _ (by decide +kernel)) PLc RCH LTR, b9, gl _ (by decide +kernel), D9.kp⟩
  have NE : Kn P w K mg base 1 "_nearest" _ d13 _ spNearest := ⟨ok_nearest D13, b13, gl _ (by decide +kernel), D13.kp⟩
  have TA : Kn P w K mg base 1 "_text_at" _ d14 _ spTextAt := ⟨ok_text_at D14 hlet, b14, gl _ (by decide +kernel), D14.kp⟩
  have NI := ok_ninit (P := P) (w := w) (mg := mg) (base := base) D15 TWf (fr _ (by decide +kernel)) (fr _ (by decide +kernel)) (fr _ (by decide +kernel)) hN IS ME
  have MN : MkN P w K mg base (gN K) _ d15 (dfA aNI 0 K) := ⟨kN, NI, bFull, bNone, empB_ok c.e0, mN⟩
  have TI := ok_tinit (P := P) (w := w) (mg := mg) (base := base) D30 TWf (fr _ (by decide +kernel)) (fr _ (by decide +kernel)) (fr _ (by decide +kernel)) (fr _ (by decide +kernel)) (fr _ (by decide +kernel)) (fr _ (by decide +kernel)) hT VA
  have MT : MkT P w K mg base (gT K) _ d30 (dfA aTI 0 K) _ _ _ _ := ⟨kT, TI, K1, K2, K3, K4, empB_ok c.e1, mT⟩
  have nGS : MtF P w K mg base 1 (gN K) "stretches" _ d16 (spStrN (gN K)) := ⟨meth_ok (fa _ (by simp [fas] : Fa.meth "Numbers" "stretches" ∈ fas)), ok_nstr D16 hN (fr _ (by decide +kernel)), b16⟩
  have nAM := ok_namount (P := P) (w := w) (mg := mg) (base := base) D18 hN (fr _ (by decide +kernel)) (fr _ (by decide +kernel))
  have nFI := ok_nfirst (P := P) (w := w) (mg := mg) (base := base) D19 hN (fr _ (by decide +kernel)) NE NA
  have nHA := ok_nhas (P := P) (w := w) (mg := mg) (base := base) D20 hN (fr _ (by decide +kernel)) WI
  have nCO := ok_ncontent (P := P) (w := w) (mg := mg) (base := base) D21 hN
  have nSZ : PrF P w K mg base 2 (gN K) "size" _ _ d26 (spAmtN (gN K)) := ⟨prB_ok c.pNsize, ok_vsizeN D26 hN nAM b18 (meth_ok (fa _ (by simp [fas] : Fa.meth "Numbers" "_amount" ∈ fas))), b26⟩
  have nEM : PrF P w K mg base 2 (gN K) "is_empty" _ _ d25 (spEmpN (gN K)) := ⟨prB_ok c.pNis_empty, ok_vemptyN D25 hN nAM b18 (meth_ok (fa _ (by simp [fas] : Fa.meth "Numbers" "_amount" ∈ fas))), b25⟩
  have nKI : PrF P w K mg base 1 (gN K) "kind" _ _ d24 (spKd (gN K) "number") := ⟨prB_ok c.pNkind, ok_vkind D24 oN, b24⟩
  have nLS : MtF P w K mg base 7 (gN K) "least" _ d27 (spFirN (gN K)) := ⟨meth_ok (fa _ (by simp [fas] : Fa.meth "Numbers" "least" ∈ fas)), ok_vleastN D27 hN nFI b19 (meth_ok (fa _ (by simp [fas] : Fa.meth "Numbers" "_first_value" ∈ fas))), b27⟩
  have nCT : CtF P w K mg base (gN K) _ d28 (spInN K (gN K)) := ⟨csN, cfN, ok_vhasN D28 hN oN VA nHA b20 (meth_ok (fa _ (by simp [fas] : Fa.meth "Numbers" "_has" ∈ fas))), b28⟩
  have nEQ : EqF P w K mg base (gN K) _ d29 (spEqN K (gN K) (gM K) (gT K)) := ⟨eoN, ok_veqN D29 hN oN oT (fr _ (by decide +kernel)) mM nCO b21 (meth_ok (fa _ (by simp [fas] : Fa.meth "Numbers" "_content" ∈ fas))), b29⟩
  have nRE : ReF P w K mg base (gN K) _ d17 (spReprN (gN K)) := ⟨rsN, rfN, ok_nrepr D17 hN (fr _ (by decide +kernel)) hK, b17⟩
  have nFU : CMo P w K mg base (gN K) (.type "type") "full" _ _ (spFullN (gN K)) := ⟨crB_ok c.cN, cmB_ok c.mNfull, raw1 (ok_nfull D22 MN) b22⟩
  have nOF : CMo P w K mg base (gN K) (.type "type") "of" _ _ (spOfN (gN K)) := ⟨crB_ok c.cN, cmB_ok c.mNof, ok_nof D23 MN (fr _ (by decide +kernel)) NU⟩
  have tAM := ok_tamount (P := P) (w := w) (mg := mg) (base := base) D36 hT (fr _ (by decide +kernel))
  have tFI := ok_tfirst (P := P) (w := w) (mg := mg) (base := base) D37 hT (fr _ (by decide +kernel)) NA TA
  have tHA := ok_thas (P := P) (w := w) (mg := mg) (base := base) D38 hT
  have tCO := ok_tcontent (P := P) (w := w) (mg := mg) (base := base) D39 hT
  have tWS : MtF P w K mg base 1 (gT K) "words" _ d34 (spWrdT (gT K)) := ⟨meth_ok (fa _ (by simp [fas] : Fa.meth "Texts" "words" ∈ fas)), ok_twords D34 hT (fr _ (by decide +kernel)), b34⟩
  have tOT : PrF P w K mg base 1 (gT K) "others" _ _ d33 (spOthT (gT K)) := ⟨prB_ok c.pTothers, ok_tothers D33 hT, b33⟩
  have tSZ : PrF P w K mg base 2 (gT K) "size" _ _ d42 (spAmtT (gT K)) := ⟨prB_ok c.pTsize, ok_vsizeT D42 hT tAM b36 (meth_ok (fa _ (by simp [fas] : Fa.meth "Texts" "_amount" ∈ fas))), b42⟩
  have tEM : PrF P w K mg base 2 (gT K) "is_empty" _ _ d41 (spEmpT (gT K)) := ⟨prB_ok c.pTis_empty, ok_vemptyT D41 hT tAM b36 (meth_ok (fa _ (by simp [fas] : Fa.meth "Texts" "_amount" ∈ fas))), b41⟩
  have tKI : PrF P w K mg base 1 (gT K) "kind" _ _ d40 (spKd (gT K) "text") := ⟨prB_ok c.pTkind, ok_vkind D40 oT, b40⟩
  have tLS : MtF P w K mg base 7 (gT K) "least" _ d43 (spFirT K (gT K)) := ⟨meth_ok (fa _ (by simp [fas] : Fa.meth "Texts" "least" ∈ fas)), ok_vleastT D43 hT tFI b37 (meth_ok (fa _ (by simp [fas] : Fa.meth "Texts" "_first_value" ∈ fas))), b43⟩
  have tCT : CtF P w K mg base (gT K) _ d44 (spInT K (gT K)) := ⟨csT, cfT, ok_vhasT D44 hT oT VA tHA b38 (meth_ok (fa _ (by simp [fas] : Fa.meth "Texts" "_has" ∈ fas))), b44⟩
  have tEQ : EqF P w K mg base (gT K) _ d45 (spEqT K (gT K) (gM K) (gN K)) := ⟨eoT, ok_veqT D45 hT oT oN (fr _ (by decide +kernel)) mM tCO b39 (meth_ok (fa _ (by simp [fas] : Fa.meth "Texts" "_content" ∈ fas))), b45⟩
  have tRE : ReF P w K mg base (gT K) _ d35 (spReprT (gT K)) := ⟨rsT, rfT, ok_trepr D35 hT (fr _ (by decide +kernel)) hK, b35⟩
  have tFU : CMo P w K mg base (gT K) (.type "type") "full" _ _ (spFullT (gT K)) := ⟨crB_ok c.cT, cmB_ok c.mTfull, raw1 (ok_tfull D31 MT) b31⟩
  have tOF : CMo P w K mg base (gT K) (.type "type") "of" _ _ (spOfT (gT K)) := ⟨crB_ok c.cT, cmB_ok c.mTof, ok_tof D32 MT⟩
  have PO : Kn P w K mg base 1 "_law_pot" _ d46 _ (spPot K) := ⟨ok_pot D46 TPf, b46, gl _ (by decide +kernel), D46.kp⟩
  have DR : Kn P w K mg base 1 "_law_draw" _ d47 _ spDraw := ⟨ok_draw D47 TPf, b47, gl _ (by decide +kernel), D47.kp⟩
  have PL : Kn P w K mg base 2 "_law_pick" _ d48 _ (spPick K) := ⟨ok_pick D48 TPf DR.f DR.b DR.m DR.k, b48, gl _ (by decide +kernel), D48.kp⟩
  have PS_ : Kn P w K mg base 2 "_law_pick" _ d48 _ spPickS := ⟨ok_pickS D48 TPf DR, b48, gl _ (by decide +kernel), D48.kp⟩
  have LM : Kn P w K mg base 3 "_law_limit" _ d49 _ spLimit := ⟨ok_limit D49 DR PL, b49, gl _ (by decide +kernel), D49.kp⟩
  have MX : Kn P w K mg base 2 "_law_mixed" _ d50 _ spMix := ⟨ok_mixed D50 (fr _ (by decide +kernel)) (fr _ (by decide +kernel)) DR, b50, gl _ (by decide +kernel), D50.kp⟩
  have RW : Kn P w K mg base 4 "_law_row" _ d51 _ spRow := ⟨ok_row D51 (fr _ (by decide +kernel)) (fr _ (by decide +kernel)) DR LM, b51, gl _ (by decide +kernel), D51.kp⟩
  have HS : Kn P w K mg base 1 "_law_has" _ d52 _ spHasL := ⟨ok_has D52 (fr _ (by decide +kernel)), b52, gl _ (by decide +kernel), D52.kp⟩
  have PT : Kn P w K mg base 1 "_law_points" _ d53 _ spPts := ⟨ok_points D53 (fr _ (by decide +kernel)) (fr _ (by decide +kernel)), b53, gl _ (by decide +kernel), D53.kp⟩
  have SD : Kn P w K mg base 1 "_law_is_stated" _ d54 _ spStd := ⟨ok_stated D54 TWf (fr _ (by decide +kernel)) (fr _ (by decide +kernel)) (fr _ (by decide +kernel)) (fr _ (by decide +kernel)), b54, gl _ (by decide +kernel), D54.kp⟩
  have CN : Kn P w K mg base 1 "_law_counted" _ d55 _ spCnt := ⟨ok_counted D55 (fr _ (by decide +kernel)) (fr _ (by decide +kernel)), b55, gl _ (by decide +kernel), D55.kp⟩
  have LE : Kn P w K mg base 1 "_law_least" _ d56 _ spLst := ⟨ok_least D56 (fr _ (by decide +kernel)) (fr _ (by decide +kernel)) (fr _ (by decide +kernel)), b56, gl _ (by decide +kernel), D56.kp⟩
  have OD : Kn P w K mg base 8 "_law_odd" _ d57 _ (spOdd K) := ⟨ok_odd D57 oN nb PL mN nOF, b57, gl _ (by decide +kernel), D57.kp⟩
  have NR : KnG P w K mg base 9 "_law_numbers_right" _ d58 _ spNumR := ⟨ok_numR D58 TNRf hK hN oN nb mM DR MX MN PT HS nGS SD nCT OD nRE nSZ nEM nKI nLS CN LE nEQ, b58, gl _ (by decide +kernel), D58.kp⟩
  have TR2 : Kn P w K mg base 7 "_law_two_right" _ d59 _ spTwoR := ⟨ok_twoR D59 MN MT PT HS nEQ nfN, b59, gl _ (by decide +kernel), D59.kp⟩
  have LO : Kn P w K mg base 8 "_law_of" _ d60 _ (spLawOf (gN K)) := ⟨ok_of D60 mN nOF (fr _ (by decide +kernel)), b60, gl _ (by decide +kernel), D60.kp⟩
  have GR : Kn P w K mg base 9 "_law_given_right" _ d61 _ spGivR := ⟨ok_givR D61 TGRf hN hT DR LM LO MN MT nEQ tEQ nLS tSZ nOF nFU tOF tFU, b61, gl _ (by decide +kernel), D61.kp⟩
  have WD : Kn P w K mg base 3 "_law_word" _ d62 _ spWord := ⟨ok_word D62 (fr _ (by decide +kernel)) DR PL PS_, b62, gl _ (by decide +kernel), D62.kp⟩
  have MI : Kn P w K mg base 1 "_law_first_missing" _ d63 _ spMis := ⟨ok_missing D63 (fr _ (by decide +kernel)), b63, gl _ (by decide +kernel), D63.kp⟩
  have TX : KnG P w K mg base 9 "_law_texts_right" _ d64 _ spGivR := ⟨ok_texR D64 TXRf hK hT DR MX WD MI OD MT tCT tWS tOT tKI tLS tSZ tEM tRE tEQ nfT, b64, gl _ (by decide +kernel), D64.kp⟩
  have RI : KnG P w K mg base 10 "_law_right" _ d65 _ spGivR := ⟨ok_right D65 (fr _ (by decide +kernel)) DR RW NR TR2 GR TX, b65, gl _ (by decide +kernel), D65.kp⟩
  exact ok_law11 D66 T0f (fr _ (by decide +kernel)) (fr _ (by decide +kernel)) (fr _ (by decide +kernel)) PO RI
end S8
open PySem PySem.W PySem.Calls PyProof.Rows
theorem PySem.Challenge.cw_keptedits_k18_whole_sets_as_built_holds : PySem.Challenge.rw_keptedits_k18_whole_sets_as_built.Holds := by
  w_on; o_law
  refine HandSHeadRun.head_any (r := OpenLaw.row PySem.Challenge.rw_keptedits_k18_whole_sets_as_built) (q := view (OpenLaw.row PySem.Challenge.rw_keptedits_k18_whole_sets_as_built).prog [54]) (H := S8.hk) (ob := S8.ob) (M := 9000) (loose := S8.loose) (d := HandSHeadRun.topDef (OpenLaw.row PySem.Challenge.rw_keptedits_k18_whole_sets_as_built).prog 54) (kwd := []) S8.ob_eq
    (by kernel_rfl) (fun s => by kernel_rfl) S8.run (by kernel_rfl) (by kernel_rfl) (by kernel_rfl) (by rfl) (by first | assumption | decide +kernel) (by decide +kernel) ⟨rfl, rfl, rfl, rfl, rfl, by decide +kernel⟩ ?hw ?hc
  case hw => w_witness2
  case hc =>
    refine L2.walk_ofG (l := PySem.Challenge.rw_keptedits_k18_whole_sets_as_built) (n := 63) (k := 11) (x := "_law_script") (CX := fun _ => L2.CX0) rfl (by decide) (by kernel_rfl) ⟨rfl, by decide, by decide⟩ ?F (fun _ _ _ _ _ z => z)
    intro w mg fa h Y G hmg0
    obtain ⟨K, KX, c⟩ := Y
    have hmg : mg ("law" : PySem.Str) = some (.ref fa) := by
      have e : (HandSHeadRun.topDef (OpenLaw.row PySem.Challenge.rw_keptedits_k18_whole_sets_as_built).prog 54).name = ("law" : PySem.Str) := by kernel_rfl
      rw [← e]
      exact hmg0
    obtain ⟨fd, hb, hF⟩ := S8.facts (P := (PySem.Challenge.rw_keptedits_k18_whole_sets_as_built).prog) (w := w) KX G hmg c
    exact ⟨K, fd, S8.spLaw K, KX, hb, fun H a ns hl _ hS => ⟨a, ns, rfl, hS, hl, fun _ => rfl⟩, hF⟩

end Ps8z
