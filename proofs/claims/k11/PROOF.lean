import PyProof.Rows.All
import Wide.All
import OpenK.AllK
import Wide.FinOn
import KE.KStateDown
import Lean
import KE.KIsAll
import KE.KTryMore
import KE.KExcInit
import HandS.ForMost
import HandS.Exc
import HandS.ExcOwn
import HandS.ExcInit
import HandS.ExcIs
import HandS.ExcField
import HandS.IsInst
import HandS.Defaults
import HandS.MakeKw
import KE.KExcIs
import HandS.HeadHook2
import HandS.Walk
import HandS.Iter
import PySem.Challenge.RW_keptedits_k11_whole_maps_of_numbers
import HandS.Text
import HandS.Steps
import HandS.StrMore
import HandS.More
import HandS.Property
import HandS.OwnEq
import HandS.ClsMeth
import HandS.Star
import KE.KFmtOwn
import HandS.FStr
import HandS.HotCalls
import PyProof.ReprLen
import HandS.Set
import HandS.SetFor
import HandS.Strs
import HandS.NoneIn
import HandS.SortInts
import HandS.DictComp
import HandS.Head0
import HandS.Head1
import HandS.Head2
import HandS.HeadEnd
import HandS.HeadHook1
import HandS.HeadHook3
set_option Elab.async false
set_option linter.all false
set_option maxRecDepth 100000
section PE1
set_option maxHeartbeats 4000000
/-! Own exception classes over any built-in base, their objects held as values: made by place or by name, their fields, isinstance. -/
namespace PySem
namespace EXV
open PySem.W PySem.Calls PyProof.Rows PySem.HandSPX Builtin Builtin.ObjectAttr

/-- what is asked of the built-in base B -/
structure BaseX (B newId initId : String) (tl : List Value) : Prop where
  F : ExcBaseFacts B newId initId tl
  S : StoreFacts B tl "object.__setattr__" "object"
theorem base_VE : BaseX "ValueError" "ValueError.__new__" "ValueError.__init__" [.type "ValueError", .type "Exception", .type "BaseException", .type "object"] := ⟨F.excBase_ValueError, F.store_ValueError⟩
theorem base_RE : BaseX "RuntimeError" "RuntimeError.__new__" "RuntimeError.__init__" [.type "RuntimeError", .type "Exception", .type "BaseException", .type "object"] := ⟨F.excBase_RuntimeError, F.store_RuntimeError⟩
theorem base_LE : BaseX "LookupError" "LookupError.__new__" "LookupError.__init__" [.type "LookupError", .type "Exception", .type "BaseException", .type "object"] := ⟨F.excBase_LookupError, F.store_LookupError⟩
theorem base_AE : BaseX "ArithmeticError" "ArithmeticError.__new__" "ArithmeticError.__init__" [.type "ArithmeticError", .type "Exception", .type "BaseException", .type "object"] := ⟨F.excBase_ArithmeticError, F.store_ArithmeticError⟩
theorem taker_none {K : W.Frag} {C : Addr} {f : Str} (h : W.findIn K (.ref C) f = some none) : W.takerIn K C f = some none := by
  unfold W.takerIn
  rw [h] <;> rfl
theorem over_of {K : W.Frag} {C : Addr} {cd : ClassData} {bm tl : List Value} (hcd : W.clsIn K C = some cd) (hm : cd.mro = .ref C :: bm) (ht : W.excTail tl bm = true) : W.excOver K C tl = true := by
  unfold W.excOver
  rw [hcd, Option.any_some, hm]
  simp [ht]
section
variable {prog : Program} {w : World} {A : Around} {R : Result → Shared → Prop} {hp : Heap} {g : Array GenState} {d : Drawn} {t : Nat} {os : OsState} {tl : List Value} {B : String}
/-- self.f = v on an exception that has no dict as yet -/
theorem osa_new {K : W.Frag} {name : Str} {tk : Tok} {v : Value} {x C : Addr} {fv : Array Value} {cd : ClassData} {bm : List Value} (SF : StoreFacts B tl "object.__setattr__" "object")
    (X : K.In hp) (hx : hp.get? x = some { cls := .ref C, data := .fields fv }) (hcd : W.clsIn K C = some cd) (hm : cd.mro = .ref C :: bm) (ht : W.excTail tl bm = true) (hh : cd.hasDict = true) (ha : W.findIn K (.ref C) name = some none)
    (hq : ∀ h' tk' dx, (∀ b o, b ≠ x → hp.get? b = some o → h'.get? b = some o) → hp.objs.size ≤ dx → dx ≠ x → h'.get? x = some { cls := .ref C, dict := some dx, data := .fields fv } →
      h'.Ns1 dx (fun y => if y = name then some v else none) → R (.ok (.ret .none)) ⟨h', g, d, tk', os⟩) :
    codeAny (model prog w) A (.call (.builtin "object.__setattr__") ⟨[.ref x, .str name tk, v], []⟩) R ⟨hp, g, d, t, os⟩ := by
  have hxs : x ≠ hp.objs.size := Nat.ne_of_lt (Heap.lt_size hx)
  have hcls : W.Looks (model prog w) hp (classData C) cd := W.looks_clsIn X hcd
  refine osa_openX (s := ⟨hp, g, d, t, os⟩) (ox := { cls := .ref C, data := .fields fv }) (od := none) SF X ⟨hx, rfl, rfl, trivial⟩ (over_of hcd hm ht) (taker_none ha) fun b => ?_
  obtain ⟨nm, bs, mro, ns, qn, hd, sn, sb, ab, col, del⟩ := cd
  dsimp only at hh
  subst hh
  unfold storeInOwnDict ownDictForStores
  repeat (first | with_reducible refine HandSPX.store_in_new ?_ ?_ | with_reducible refine wpAny_loadPart_at hx ?_ | with_reducible refine hcls.at ?_ | wp_step)
  · exact ⟨_, #[], _, (Heap.get?_update_ne _ _ _ _ hxs.symm).trans (Heap.get?_push_at rfl rfl), rfl, fun e he => absurd he (by simp), fun _ => rfl⟩
  · intro h' tk' hn' hs
    have old : ∀ b o, b ≠ x → hp.get? b = some o → h'.get? b = some o := fun b o hb ho =>
      (hs.2 b (Nat.ne_of_lt (Heap.lt_size ho))).trans ((Heap.get?_update_ne _ _ _ _ hb).trans (Heap.get?_push_of_some _ ho))
    exact hq h' tk' hp.objs.size old (Nat.le_refl _) hxs.symm ((hs.2 x hxs).trans (Heap.get?_update_self _ (Heap.get?_push_of_some _ hx) rfl)) hn'
/-- a further field of an exception that has its dict -/
theorem osa_more {K : W.Frag} {name : Str} {tk : Tok} {v : Value} {x C dx : Addr} {fv : Array Value} {cd : ClassData} {bm : List Value} {m0 : Str → Option Value} {nl : List Str} (SF : StoreFacts B tl "object.__setattr__" "object")
    (X : K.In hp) (hx : hp.get? x = some { cls := .ref C, dict := some dx, data := .fields fv }) (hns : hp.Ns1 dx m0) (hw : Within m0 nl) (hz : nl.length ≤ 1000) (hcd : W.clsIn K C = some cd) (hm : cd.mro = .ref C :: bm) (ht : W.excTail tl bm = true) (hh : cd.hasDict = true)
    (ha : W.findIn K (.ref C) name = some none)
    (hq : ∀ h' tk', (∀ b o, b ≠ dx → hp.get? b = some o → h'.get? b = some o) → h'.Ns1 dx (fun y => if y = name then some v else m0 y) → R (.ok (.ret .none)) ⟨h', g, d, tk', os⟩) :
    codeAny (model prog w) A (.call (.builtin "object.__setattr__") ⟨[.ref x, .str name tk, v], []⟩) R ⟨hp, g, d, t, os⟩ := by
  obtain ⟨oD, _, _, hoD, _, _⟩ := hns.count hw
  have hcls : W.Looks (model prog w) hp (classData C) cd := W.looks_clsIn X hcd
  refine osa_openX (s := ⟨hp, g, d, t, os⟩) (ox := { cls := .ref C, dict := some dx, data := .fields fv }) (od := some oD) SF X ⟨hx, rfl, rfl, hoD⟩ (over_of hcd hm ht) (taker_none ha) fun b => ?_
  obtain ⟨nm, bs, mro, ns, qn, hd, sn, sb, ab, col, del⟩ := cd
  dsimp only at hh
  subst hh
  unfold storeInOwnDict ownDictForStores
  repeat (first | with_reducible refine OEX.store_in_old hns hw hz ?_ | with_reducible refine wpAny_loadPart_at hx ?_ | with_reducible refine hcls.at ?_ | wp_step)
  exact fun h' tk' hn' hs => hq h' tk' (fun b o hb ho => (hs.2 b hb).trans ho) hn'
end

/-! ### C(.., k = v): BaseException.__new__, then the own __init__, by names too -/
section
variable {M : Model} {A : Around} {E : Value → Shared → Prop} {h : Heap} {g : Array GenState} {d : Drawn} {t : Nat} {os : OsState}
variable {nm q : Str} {C N : Addr} {bs bm bmB : List Value} {hdct : Bool} {sn : List Str} {sub : List Value} {ab : Bool} {col : Option Bool} {dd : Option Addr} {k0 k1 k2 k3 k5 : Option Value} {B newId initId : String}
theorem check_new_kw (F : ExcBaseFacts B newId initId bmB) (hT : ∀ X : String, bm.contains (.type X) = bmB.contains (.type X)) {rest : List Value} {kw : List (Str × Value)} {Q : Unit → Shared → Prop}
    (hC : h.get? C = some (excClassObj nm q C N bs bm hdct sn sub ab col dd k0 k1 k2 k3 k5 newId)) (hq : Q () ⟨h, g, d, t, os⟩) : wpAny M A (checkBuiltinCall newId ⟨.ref C :: rest, kw⟩) Q E ⟨h, g, d, t, os⟩ := by
  have hcont : (Value.ref C :: bm).contains (.type B) = true := by rw [List.contains_cons, hT, F.hasB, Bool.or_true]
  have hstar := F.noStar
  simp only [checkBuiltinCall, F.newKind, F.newSplit, F.newRow]
  repeat (first | refine wpAny_loadPart_at hC ?_ | (refine wpAny_isSubtype_exc hC ?_; rw [hcont]) | refine wpAny_staticBase_exc hC ?_ | refine wpAny_madeBy_exc hC ?_ | simp only [bne_self_eq_false, Bool.false_eq_true, if_false] | wp_step)
  exact hq
end
section
variable {prog : Program} {w : World} {A : Around} {E : Value → Shared → Prop} {R : Result → Shared → Prop} {h : Heap} {g : Array GenState} {d : Drawn} {t : Nat} {os : OsState}
variable {nm q : Str} {C N : Addr} {bs bm bmB : List Value} {hdct : Bool} {sn : List Str} {sub : List Value} {ab : Bool} {col : Option Bool} {dd : Option Addr} {k0 k1 k2 k3 k5 : Option Value} {B newId initId : String}
theorem new_kw (F : ExcBaseFacts B newId initId bmB) (hT : ∀ X : String, bm.contains (.type X) = bmB.contains (.type X)) {rest : List Value} {kw : List (Str × Value)}
    (hC : h.get? C = some (excClassObj nm q C N bs bm hdct sn sub ab col dd k0 k1 k2 k3 k5 newId))
    (hq : R (.ok (.ret (.ref (h.objs.size + 1)))) ⟨(h.push { cls := .type "tuple", data := .seq rest.toArray }).push
      { cls := .ref C, data := .fields #[.ref h.objs.size, .none, .none, .none, .bool false, .none] }, g, d, t, os⟩) (hrest : rest.length ≤ sizeLine) :
    codeAny (model prog w) A (.builtin newId ⟨.ref C :: rest, kw⟩) R ⟨h, g, d, t, os⟩ := by
  have hends := F.ends
  have hcB : (Value.ref C :: bm).contains (.type B) = true := by rw [List.contains_cons, hT, F.hasB, Bool.or_true]
  have hcA : (Value.ref C :: bm).contains (.type "AttributeError") = false := by rw [List.contains_cons, hT, F.noAttr]; rfl
  have hcN : (Value.ref C :: bm).contains (.type "NameError") = false := by rw [List.contains_cons, hT, F.noName]; rfl
  refine codeAny_builtinAt F.entry ?_
  unfold Builtin.«BaseException.__new__»
  refine wpAt_bind ?_
  show wpAt _ _ _ (stack >>= _) _ _ _
  refine wpAt_bind (wpAt_stack fun p below => wpAt_of_wpAny ?_)
  wp_walk
  refine wpAt_of_wpAny ?_
  rw [F.owner]
  repeat (first | with_reducible refine wpAny_madeHere_exc F.canon hC ?_ | with_reducible refine wpAny_loadPart_at hC ?_ | (with_reducible refine wpAny_isSubtype_exc hC ?_; first | rw [hcB] | rw [hcA] | rw [hcN]) | wp_step)
  show R _ _
  rw [Heap.size_push]
  exact hq
theorem type_call_kw (F : ExcBaseFacts B newId initId bmB) (hT : ∀ X : String, bm.contains (.type X) = bmB.contains (.type X)) {rest : List Value} {kw : List (Str × Value)} {fI : Addr} {Q : Fin → Shared → Prop}
    (hC : h.get? C = some (excClassObj nm q C N bs bm hdct sn sub ab col dd k0 k1 k2 k3 k5 newId))
    (hi : W.Looks (model prog w) h (typeLookup (.ref C) "__init__") (some (.ref fI))) (hb : ∀ self, W.Looks (model prog w) h (bindSpecial (.ref fI) self) (.ref fI, [self])) (hrest : rest.length ≤ sizeLine)
    (hq : codeAny (model prog w) A (.call (.ref fI) ⟨.ref (h.objs.size + 1) :: rest, kw⟩)
      (fun r s' => match r with | .ok (.ret v) => v = .none ∧ Q (.done (.ret (.ref (h.objs.size + 1)))) s' | .ok _ => False | .error e => E e s')
      ⟨(h.push (W.kdv_tup rest)).push (excO C h.objs.size), g, d, t, os⟩) :
    wpAny (model prog w) A (Builtin.«type.__call__» ⟨.ref C :: rest, kw⟩) Q E ⟨h, g, d, t, os⟩ := by
  repeat (first | with_reducible refine wpAny_loadPart_at hC ?_ | with_reducible refine wpAny_madeBy_exc hC ?_ | wp_step)
  refine codeAny_call_builtin_code (Code.quiet_builtin _ F.quiet) (check_new_kw F hT hC ?_)
  refine new_kw F hT hC ?_ hrest
  show wpAny _ _ _ _ _ _
  have k : ∀ b o, h.get? b = some o → ((h.push (W.kdv_tup rest)).push (excO C h.objs.size)).get? b = some o := fun b o e => Heap.get?_push_of_some _ (Heap.get?_push_of_some _ e)
  have hC₁ := k _ _ hC
  have hget : ((h.push (W.kdv_tup rest)).push (excO C h.objs.size)).get? (h.objs.size + 1) = some (excO C h.objs.size) := by heap_get
  have hcC : (Value.ref C :: bm).contains (.ref C) = true := by simp
  have i1 := hi.keeps k
  have b1 := (hb (.ref (h.objs.size + 1))).keeps k
  unfold isInstance
  repeat (first | with_reducible refine wpAny_loadPart_at hget ?_ | (with_reducible refine wpAny_isSubtype_exc hC₁ ?_; rw [hcC]) | wp_step)
  show wpAny _ _ (typeLookup (.ref C) _) _ _ _
  refine i1.at ?_
  refine wpAny_holding (wpAny_bind (b1.at ?_))
  refine wpAny_bind (wpAny_call (codeAny_mono hq fun r s' z => ?_))
  rcases r with e | (v | _ | _ | _) <;> first | exact z | exact z.elim | skip
  obtain ⟨rfl, z⟩ := z
  first
    | exact wpAny_pure (wpAny_pure z)
    | (wp_walk; exact z)
theorem call_kw (F : ExcBaseFacts B newId initId bmB) (hT : ∀ X : String, bm.contains (.type X) = bmB.contains (.type X)) {rest : List Value} {kw : List (Str × Value)} {fI : Addr}
    (hC : h.get? C = some (excClassObj nm q C N bs bm hdct sn sub ab col dd k0 k1 k2 k3 k5 newId))
    (hi : W.Looks (model prog w) h (typeLookup (.ref C) "__init__") (some (.ref fI))) (hb : ∀ self, W.Looks (model prog w) h (bindSpecial (.ref fI) self) (.ref fI, [self])) (hrest : rest.length ≤ sizeLine)
    (hq : codeAny (model prog w) (A.under (.builtin "type.__call__" ⟨.ref C :: rest, kw⟩)) (.call (.ref fI) ⟨.ref (h.objs.size + 1) :: rest, kw⟩) (W.InitBack (h.objs.size + 1) R)
      ⟨(h.push (W.kdv_tup rest)).push (excO C h.objs.size), g, d, t, os⟩) :
    codeAny (model prog w) A (.call (.ref C) ⟨rest, kw⟩) R ⟨h, g, d, t, os⟩ := by
  have f1 := tc_lookup
  have f2 := tc_bind (.ref C)
  have hTy : (⟨h, g, d, t, os⟩ : Shared).TypeIs (.ref C) "type" := ⟨_, hC, rfl⟩
  refine codeAny_of_tree ?_
  show wpAny _ _ (callAny (.ref C) _) _ _ _
  repeat (any_goals (first | assumption | with_reducible refine wpAny_loadPart_at hC ?_ | wp_step))
  refine ⟨rfl, ?_⟩
  refine codeAny_call_builtin_at (Code.quiet_builtin _ (by decide +kernel)) entry_typeCall (wpAny_check_type_call_sub hC (type_call_kw F hT hC hi hb hrest ?_))
  refine codeAny_mono hq fun r s' z => ?_
  rcases r with e | (v | _ | _ | _) <;> exact z
end
end EXV
end PySem

end PE1
section PE2
set_option maxHeartbeats 4000000
namespace L2
open PySem PySem.Spec PyProof.Rows
/-- what the written part says of an own exception class -/
structure XC (K : PySem.W.Frag) (C : Addr) : Prop where
  cls : ∃ B newId initId tl nm q N bs bm sn sub ab col dd k0 k1 k2 k3 k5, PySem.EXV.BaseX B newId initId tl ∧ K.lookup C = some (excClassObj nm q C N bs bm true sn sub ab col dd k0 k1 k2 k3 k5 newId) ∧ PySem.W.excTail tl bm = true
  sa : PySem.W.findIn K (.ref C) "__setattr__" = some (some (.builtin "object.__setattr__"))
  exC : PySem.W.subIn K (.ref C) (.type "BaseException") = some true
  tyC : PySem.W.typeIn K (.ref C) = some (.type "type")
  kC : PySem.W.keepIn K (.ref C) = true
  ga : PySem.W.findIn K (.ref C) "__getattribute__" = some (some (.builtin "BaseException.__getattribute__"))
  gg : PySem.W.findIn K (.ref C) "__getattr__" = some none
  hd : PySem.W.hasDictIn K C = true
  ha : PySem.W.findIn K (.ref C) "__class__" = some (some (.builtin "object.__class__"))
  hn : PySem.W.specialIn K (.builtin "object.__class__") "__get__" = some (some (.builtin "getset_descriptor.__get__"))
  ht : PySem.W.takesIn K (.builtin "object.__class__") = some true
  hm : PySem.W.mroIn K C (.type "object") = some true
def xInit (K : PySem.W.Frag) (C : Addr) : Bool :=
  PySem.W.excInitIn K C [.type "ValueError", .type "Exception", .type "BaseException", .type "object"] "ValueError.__new__" || (PySem.W.excInitIn K C [.type "LookupError", .type "Exception", .type "BaseException", .type "object"] "LookupError.__new__" ||
  (PySem.W.excInitIn K C [.type "RuntimeError", .type "Exception", .type "BaseException", .type "object"] "RuntimeError.__new__" || PySem.W.excInitIn K C [.type "ArithmeticError", .type "Exception", .type "BaseException", .type "object"] "ArithmeticError.__new__"))
def xcB (K : PySem.W.Frag) (C : Addr) : Bool :=
  xInit K C && (decide (PySem.W.findIn K (.ref C) "__setattr__" = some (some (.builtin "object.__setattr__"))) && (decide (PySem.W.subIn K (.ref C) (.type "BaseException") = some true) && (decide (PySem.W.typeIn K (.ref C) = some (.type "type")) &&
  (PySem.W.keepIn K (.ref C) && (decide (PySem.W.findIn K (.ref C) "__getattribute__" = some (some (.builtin "BaseException.__getattribute__"))) && (decide (PySem.W.findIn K (.ref C) "__getattr__" = some none) && (PySem.W.hasDictIn K C &&
  (decide (PySem.W.findIn K (.ref C) "__class__" = some (some (.builtin "object.__class__"))) && (decide (PySem.W.specialIn K (.builtin "object.__class__") "__get__" = some (some (.builtin "getset_descriptor.__get__"))) &&
  (decide (PySem.W.takesIn K (.builtin "object.__class__") = some true) && decide (PySem.W.mroIn K C (.type "object") = some true)))))))))))
theorem xInit_one {K : PySem.W.Frag} {C : Addr} {tl : List Value} {newId : String} (q : PySem.W.excInitIn K C tl newId = true) (hd : PySem.W.hasDictIn K C = true) :
    ∃ nm qn N bs bm sn sub ab col dd k0 k1 k2 k3 k5, K.lookup C = some (excClassObj nm qn C N bs bm true sn sub ab col dd k0 k1 k2 k3 k5 newId) ∧ PySem.W.excTail tl bm = true := by
  unfold PySem.W.excInitIn at q
  unfold PySem.W.hasDictIn PySem.W.clsIn at hd
  split at q
  · rename_i dd cd sl ho
    split at q
    · rename_i C' bm k0 k1 k2 k3 n k5 hm hs
      simp only [Bool.and_eq_true, beq_iff_eq, Bool.not_eq_true'] at q
      obtain ⟨⟨⟨rfl, rfl⟩, hdel⟩, ht⟩ := q
      obtain ⟨nm, bs, mro, ns, qn, hdct, sn, sub, ab, col, del⟩ := cd
      dsimp only at hm hdel
      subst hm hdel
      have hsl : sl = #[k0, k1, k2, k3, some (.builtin n), k5] := by
        obtain ⟨l⟩ := sl
        simp only at hs
        rw [hs]
      subst hsl
      rw [ho] at hd
      have hh : hdct = true := hd
      subst hh
      exact ⟨nm, qn, ns, bs, bm, sn, sub, ab, col, dd, k0, k1, k2, k3, k5, ho, ht⟩
    · cases q
  · cases q
theorem xcB_ok {K : PySem.W.Frag} {C : Addr} (h : xcB K C = true) : XC K C := by
  obtain ⟨h0, h⟩ := Bool.and_eq_true_iff.mp h
  obtain ⟨h1, h⟩ := Bool.and_eq_true_iff.mp h
  obtain ⟨h2, h⟩ := Bool.and_eq_true_iff.mp h
  obtain ⟨h3, h⟩ := Bool.and_eq_true_iff.mp h
  obtain ⟨h4, h⟩ := Bool.and_eq_true_iff.mp h
  obtain ⟨h5, h⟩ := Bool.and_eq_true_iff.mp h
  obtain ⟨h6, h⟩ := Bool.and_eq_true_iff.mp h
  obtain ⟨h7, h⟩ := Bool.and_eq_true_iff.mp h
  obtain ⟨h8, h⟩ := Bool.and_eq_true_iff.mp h
  obtain ⟨h9, h⟩ := Bool.and_eq_true_iff.mp h
  obtain ⟨h10, h11⟩ := Bool.and_eq_true_iff.mp h
  refine ⟨?_, of_decide_eq_true h1, of_decide_eq_true h2, of_decide_eq_true h3, h4, of_decide_eq_true h5, of_decide_eq_true h6, h7, of_decide_eq_true h8, of_decide_eq_true h9, of_decide_eq_true h10, of_decide_eq_true h11⟩
  rcases Bool.or_eq_true_iff.mp h0 with q | q
  · obtain ⟨nm, qn, N, bs, bm, sn, sub, ab, col, dd, k0, k1, k2, k3, k5, e, t⟩ := xInit_one q h7
    exact ⟨_, _, _, _, nm, qn, N, bs, bm, sn, sub, ab, col, dd, k0, k1, k2, k3, k5, PySem.EXV.base_VE, e, t⟩
  · rcases Bool.or_eq_true_iff.mp q with q | q
    · obtain ⟨nm, qn, N, bs, bm, sn, sub, ab, col, dd, k0, k1, k2, k3, k5, e, t⟩ := xInit_one q h7
      exact ⟨_, _, _, _, nm, qn, N, bs, bm, sn, sub, ab, col, dd, k0, k1, k2, k3, k5, PySem.EXV.base_LE, e, t⟩
    · rcases Bool.or_eq_true_iff.mp q with q | q
      · obtain ⟨nm, qn, N, bs, bm, sn, sub, ab, col, dd, k0, k1, k2, k3, k5, e, t⟩ := xInit_one q h7
        exact ⟨_, _, _, _, nm, qn, N, bs, bm, sn, sub, ab, col, dd, k0, k1, k2, k3, k5, PySem.EXV.base_RE, e, t⟩
      · obtain ⟨nm, qn, N, bs, bm, sn, sub, ab, col, dd, k0, k1, k2, k3, k5, e, t⟩ := xInit_one q h7
        exact ⟨_, _, _, _, nm, qn, N, bs, bm, sn, sub, ab, col, dd, k0, k1, k2, k3, k5, PySem.EXV.base_AE, e, t⟩

/-! ### an exception object as a value -/
/-- at a: an exception of the class at C with these fields -/
def IsX (H : Hp) (C : Addr) (fs : List (Str × V)) (a : Addr) : Prop := (fs = [] ∧ H a = some (exo a C none)) ∨ ∃ dx, H a = some (exo a C (some dx)) ∧ H dx = some (exd dx fs)
theorem IsX.same {H H' : Hp} {C a : Addr} {fs : List (Str × V)} (s : Same H H') (h : IsX H C fs a) : IsX H' C fs a := by
  rcases h with ⟨e, h⟩ | ⟨dx, h1, h2⟩
  · exact .inl ⟨e, s _ _ h⟩
  · exact .inr ⟨dx, s _ _ h1, s _ _ h2⟩

section
variable {X : Cx} {pins : List (Addr × Obj)} {σ : St} {H : Hp} {s : Shared} {a C dx : Addr} {f : Str} {y : V} {u : Value} {fs : List (Str × V)} {Q : Unit → Shared → Prop} {E : Value → Shared → Prop} {A : Around}
/-- self.f = y, the first one -/
theorem xst_new (T : XC X.K C) (I : Inv X pins σ H s) (e : H a = some (exo a C none)) (hno : PySem.W.findIn X.K (.ref C) f = some none) (ry : RelV y u)
    (h : ∀ dx s', H dx = none → dx ≠ a → Inv X pins σ (upd (upd H dx (exd dx [(f, y)])) a (exo a C (some dx))) s' → Q () s') : wpAny (model X.prog X.w) A (setAttr (.ref a) f u) Q E s := by
  obtain ⟨B, newId, initId, tl, nm, q, N, bs, bm, sn, sub, ab, col, dd, k0, k1, k2, k3, k5, BX, hC, hbm⟩ := T.cls
  have hcl : PySem.W.clsIn X.K C = some { name := nm, bases := bs, mro := .ref C :: bm, ns := N, qualname := q, hasDict := true, slotNames := sn, subclasses := sub, abstract := ab, collection := col, hasDel := false } := by unfold PySem.W.clsIn; rw [hC] <;> rfl
  obtain ⟨t1, ho⟩ := exo_at I.hok e
  obtain ⟨hp, g, d, t, os⟩ := s
  refine PySem.W.set_plain I.kIn (ox := { cls := .ref C, dict := none, data := .fields #[.ref t1, .none, .none, .none, .bool false, .none] }) (od := none) ⟨ho, rfl, rfl, trivial⟩ T.sa ?_
  refine PySem.EXV.osa_new BX.S I.kIn ho hcl rfl hbm rfl hno (fun h' tk' dx k dn dne hx hn => ?_)
  have hnd : H dx = none := I.hok.fresh dn
  have nd : ∀ {b : Addr} {o : Obj}, hp.get? b = some o → b ≠ dx := fun {b o} q => Nat.ne_of_lt (Nat.lt_of_lt_of_le (Heap.lt_size q) dn)
  have na : ∀ {b : Addr}, H b = none → b ≠ a := fun {b} n z => by
    rw [z, e] at n
    cases n
  have Un1 : Un X.fs [] H (upd (upd H dx (exd dx [(f, y)])) a (exo a C (some dx))) hp h' := {
    keep := fun b o q n _ _ => k b o (na n) q
    slot := fun b o q n _ _ => ⟨o.slots, k b o (na n) q⟩
    free := fun b o q n _ => by rw [upd_ne (na n), upd_ne (nd q)]; exact n
    there := fun b o q _ => by
      by_cases hb : b = a
      · exact ⟨_, by rw [hb]; exact hx⟩
      · exact ⟨o, k b o hb q⟩
    tups := fun b xs q => by rw [upd_ne (at_ne e q exo_tup), upd_ne (ne_of_none q hnd)]; exact q
    frzs := fun b o v q => by rw [upd_ne (at_ne e q exo_frz), upd_ne (ne_of_none q hnd)]; exact q
    tbls := fun b ps q => ⟨#[], by rw [upd_ne (at_ne e q exo_tbl), upd_ne (ne_of_none q hnd), q]; simp⟩ }
  refine h dx _ hnd dne (I.un (t' := tk') Un1 fun b o q => ?_)
  by_cases hb : b = a
  · subst hb
    rw [upd_same] at q
    cases q
    exact exo_ok hx
  · rw [upd_ne hb] at q
    by_cases hd : b = dx
    · subst hd
      rw [upd_same] at q
      cases q
      exact exd_ok hn (relO_put (fs := []) ry fun g => True.intro)
    · rw [upd_ne hd] at q
      exact (I.hok b o q).stay (fun c v hc z => k c v (by
          rcases hc with hc | hc
          · rw [hc]
            exact hb
          · exact at_ne e hc exo_own) z)
        (fun c hc => by rw [upd_ne (at_ne e hc exo_own), upd_ne (ne_of_none hc hnd)]; exact hc) (fun c xs hc => by rw [upd_ne (at_ne e hc exo_tup), upd_ne (ne_of_none hc hnd)]; exact hc)
/-- self.f = y, a further one -/
theorem xst_more (T : XC X.K C) (I : Inv X pins σ H s) (e : H a = some (exo a C (some dx))) (ed : H dx = some (exd dx fs)) (hl : fs.length ≤ 900) (hno : PySem.W.findIn X.K (.ref C) f = some none) (ry : RelV y u)
    (h : ∀ s', Inv X pins σ (upd H dx (exd dx ((f, y) :: fs))) s' → Q () s') : wpAny (model X.prog X.w) A (setAttr (.ref a) f u) Q E s := by
  obtain ⟨B, newId, initId, tl, nm, q, N, bs, bm, sn, sub, ab, col, dd, k0, k1, k2, k3, k5, BX, hC, hbm⟩ := T.cls
  have hcl : PySem.W.clsIn X.K C = some { name := nm, bases := bs, mro := .ref C :: bm, ns := N, qualname := q, hasDict := true, slotNames := sn, subclasses := sub, abstract := ab, collection := col, hasDel := false } := by unfold PySem.W.clsIn; rw [hC] <;> rfl
  obtain ⟨t1, ho⟩ := exo_at I.hok e
  obtain ⟨mA, hns, rel⟩ := exd_at I.hok ed
  have hw := within_of rel
  obtain ⟨hp, g, d, t, os⟩ := s
  obtain ⟨oD, _, _, hoD, _, _⟩ := hns.count hw
  refine PySem.W.set_plain I.kIn (ox := { cls := .ref C, dict := some dx, data := .fields #[.ref t1, .none, .none, .none, .bool false, .none] }) (od := some oD) ⟨ho, rfl, rfl, hoD⟩ T.sa ?_
  refine PySem.EXV.osa_more BX.S I.kIn ho hns hw (by rw [List.length_map]; omega) hcl rfl hbm rfl hno (fun h' tk' k hn => ?_)
  have hd : ∃ o, h'.get? dx = some o := by
    obtain ⟨o, _, _, e', _⟩ := hn
    exact ⟨o, e'⟩
  exact h _ (I.write (t' := tk') (x := dx) (e := dx) (o := exd dx ((f, y) :: fs)) (by rw [ed]; exact True.intro) (.inl rfl) k hd (exd_ok hn (relO_put ry rel)))
end
/-- self.f = e, self an exception that is being made -/
def tXst (K : PySem.W.Frag) (f : Str) (to te : TE) : TS := fun D σ H => te σ H fun y H1 => to σ H1 fun x H2 => ∃ a C : Addr, x = .ref a ∧ XC K C ∧ PySem.W.findIn K (.ref C) f = some none ∧
  ((H2 a = some (exo a C none) ∧ ∀ dx, H2 dx = none → dx ≠ a → D.nx σ (upd (upd H2 dx (exd dx [(f, y)])) a (exo a C (some dx)))) ∨
    ∃ (dx : Addr) (fs : List (Str × V)), H2 a = some (exo a C (some dx)) ∧ H2 dx = some (exd dx fs) ∧ fs.length ≤ 900 ∧ D.nx σ (upd H2 dx (exd dx ((f, y) :: fs))))
section
variable {X : Cx} {o e : Expr} {es : List Expr} {to te : TE} {ta : TA} {f : Str} {p p' p1 p2 pos : Pos}
theorem ps_xst (ho : PE X o to) (he : PE X e te) (hs : swapsWith e (some (.Attribute o f p')) pos.line X.env = pure false := by rfl) : PS X (.Assign [.Attribute o f p'] e pos) (tXst X.K f to te) := by
  refine ⟨fun pins s σ H D I h => ?_⟩
  refine plainObj_wpAny_Assign_Attribute (thn (he.run pins s σ H _ I h) fun v s1 ⟨y, H1, I1, r1, q1⟩ => thn (ho.run pins s1 σ H1 _ I1 q1) fun u s2 ⟨x, H2, I2, r2, a, C, ex, T, hno, q⟩ => ?_) hs
  subst ex
  obtain rfl : u = Value.ref a := r2
  rcases q with ⟨ea, q⟩ | ⟨dx, fs, ea, ed, hl, q⟩
  · exact xst_new T I2 ea hno r1 fun dx s' n ne J => ⟨σ, _, J, q dx n ne⟩
  · exact xst_more T I2 ea ed hl hno r1 fun s' J => ⟨σ, _, J, q⟩
end
end L2

end PE2
section PE3
set_option maxHeartbeats 4000000
namespace L2
open PySem PySem.Spec PyProof.Rows
/-- a def without defaults, called with keywords -/
theorem FunD.kbn {K : PySem.W.Frag} {x qual : Str} {params : Arguments} {body : List Stmt} {scope : Scope} {kws : List (Str × V)} {f : Addr} {fd : FuncData} {ps ks : List Str} (F : FunD K x qual params body scope [] kws f fd) (n : Nat) (g : {α : Type} → List α → List α → List α)
    (hrel : ∀ {vs zs : List V} {us ws : List Value}, Vals vs us → Vals zs ws → Vals (g vs zs) (g us ws))
    (h : ∀ (kV doc pm : Value) (an : Option Addr) (cdv ct : Value) (us ws : List Value), us.length = n → ws.length = ks.length → bindArgs (PySem.W.fnOf x qual params body scope .none kV doc pm an cdv ct) ⟨us, ks.zip ws⟩ = pure (ps.zip (g us ws))) :
    KBn K fd ps n ks (fun us ws => g us ws) (fun vs zs => g vs zs) := by
  obtain ⟨oc, od, dV, kV, doc, pm, an, cdv, ct, osl, rfl, lk, hcd, hD, hK⟩ := F.ex
  rcases hD with ⟨_, rfl⟩ | ⟨e, _⟩
  · exact ⟨fun s us ws X l1 l2 => .of_eq (h kV doc pm an cdv ct us ws l1 l2), fun r1 r2 => hrel r1 r2⟩
  · exact absurd rfl e
/-- C(e, .., k = v, ..), C an own exception class: a new object, then __init__ keeping sp -/
def tXmk (C : Addr) (n m : Nat) (sp : Sp) (gV : List V → List V → List V) (t tk : TA) : TE := fun σ H Q => t σ H fun vs H1 => tk σ H1 fun zs H2 => vs.length = n ∧ zs.length = m ∧
  ∀ a, H2 a = none → sp (gV (.ref a :: vs) zs) (upd H2 a (exo a C none)) (fun v H3 => v = .non ∧ Q (.ref a) H3) E0
section
variable {X : Cx} {CX : CXT} {k n : Nat} {fI C : Addr} {fd : FuncData} {ps ks : List Str} {sp : Sp} {x : Str} {p pos : Pos} {e : Expr} {es : List Expr} {kws : List Keyword} {t tk : TA} {g : List Value → List Value → List Value} {gV : List V → List V → List V}
theorem run_xmk {pins : List (Addr × Obj)} {σ : St} {H : Hp} {s : Shared} {Q : VK} {us ws : List Value} {vs zs : List V} (T : XC X.K C) (iC : PySem.W.findIn X.K (.ref C) "__init__" = some (some (.ref fI))) (tI : PySem.W.typeIn X.K (.ref fI) = some (.type "function"))
    (F : FnOk X.prog X.w X.K X.mg X.base CX k fI fd ps sp) (hr : Room (k + 1) X.A) (hb : KBn X.K fd ps (n + 1) ks g gV) (hx : Passes CX X E0) (hn : n ≤ 1000) (I : Inv X pins σ H s) (r : Vals vs us) (rz : Vals zs ws) (l1 : vs.length = n) (l2 : zs.length = ks.length)
    (h : ∀ a, H a = none → sp (gV (.ref a :: vs) zs) (upd H a (exo a C none)) (fun v H2 => v = .non ∧ Q (.ref a) H2) E0) :
    wpAny (model X.prog X.w) X.A (call (.ref C) us (ks.zip ws)) (EP X pins σ Q) X.xe s := by
  obtain ⟨B, newId, initId, tl, nm, q, N, bs, bm, sn, sub, ab, col, dd, k0, k1, k2, k3, k5, BX, hC, hbm⟩ := T.cls
  obtain ⟨hp, gs, dr, tk', os⟩ := s
  have hsz : hp.objs.size ≤ hp.objs.size + 1 := Nat.le_succ _
  have hn1 : H (hp.objs.size + 1) = none := I.hok.fresh hsz
  have hq := h (hp.objs.size + 1) hn1
  have kk : ∀ b o, hp.get? b = some o → ((hp.push (PySem.W.kdv_tup us)).push (PySem.HandSPX.excO C hp.objs.size)).get? b = some o := fun b o e => Heap.get?_push_of_some _ (Heap.get?_push_of_some _ e)
  have hget : ((hp.push (PySem.W.kdv_tup us)).push (PySem.HandSPX.excO C hp.objs.size)).get? (hp.objs.size + 1) = some (PySem.HandSPX.excO C hp.objs.size) := by heap_get
  have I2 : Inv X pins σ (upd H (hp.objs.size + 1) (exo (hp.objs.size + 1) C none)) ⟨(hp.push (PySem.W.kdv_tup us)).push (PySem.HandSPX.excO C hp.objs.size), gs, dr, tk', os⟩ :=
    I.laid (t' := tk') (a := hp.objs.size + 1) (o := exo (hp.objs.size + 1) C none) (h' := (hp.push (PySem.W.kdv_tup us)).push (PySem.HandSPX.excO C hp.objs.size)) kk hsz (exo_ok hget)
  have r1 : Vals (V.ref (hp.objs.size + 1) :: vs) (Value.ref (hp.objs.size + 1) :: us) := .cons rfl r
  have r2 := hb.rel r1 rz
  have e1 : (Value.ref (hp.objs.size + 1) :: us).length = n + 1 := r1.length.symm.trans (congrArg Nat.succ l1)
  have e2 : ws.length = ks.length := rz.length.symm.trans l2
  have hus : us.length ≤ sizeLine := by
    rw [← r.length, l1]
    exact Nat.le_trans hn (by decide)
  refine wpAny_call (PySem.EXV.call_kw BX.F (fun Y => PySem.W.excTail_contains Y bm hbm) (I.kIn _ _ hC) (PySem.W.looks_findIn I.kIn iC) (fun self => PySem.W.bind_fn I.kIn self tI) hus
    (codeAny_mono (F.run _ X.stack _ _ ⟨Value.ref (hp.objs.size + 1) :: us, ks.zip ws⟩ (g (Value.ref (hp.objs.size + 1) :: us) ws) _ _ E0 (hr.make C us (ks.zip ws)) (I2.env0.make C us (ks.zip ws)) (hb.to _ (Value.ref (hp.objs.size + 1) :: us) ws I2.kIn e1 e2) r2 hq) fun r s' hq' => ?_))
  cases r with
  | error er => exact hx pins σ _ _ er s' I2 hq'
  | ok fl =>
    cases fl with
    | ret u =>
      obtain ⟨v, H', I3, rv, ev, q3⟩ := I2.after hq'
      subst ev
      exact ⟨rv, ⟨V.ref (hp.objs.size + 1), H', I3, rfl, q3⟩⟩
    | next => exact False.elim hq'
    | brk => exact False.elim hq'
    | cont => exact False.elim hq'
/-- C(e, ..) -/
theorem pe_xmk (T : XC X.K C) (iC : PySem.W.findIn X.K (.ref C) "__init__" = some (some (.ref fI))) (tI : PySem.W.typeIn X.K (.ref fI) = some (.type "function"))
    (F : FnOk X.prog X.w X.K X.mg X.base CX k fI fd ps sp) (hr : Room (k + 1) X.A) (hb : KBn X.K fd ps (n + 1) [] g gV) (hx : Passes CX X E0) (hn : n ≤ 1000) (hg : Gl X x) (hm : X.mg x = some (.ref C)) (ha : PA X (e :: es) t)
    (hdb : (x == ("__debug__" : Str)) = false := by decide) (he : starEach (e :: es) X.env = (false, eval e X.env) :: starEach es X.env := by rfl) (hpl : (backTo pos (starEach es X.env)).any (·.1) = false := by rfl) :
    PE X (.Call (.Name x p) (e :: es) [] pos) (tXmk C n 0 sp gV t tNil) := by
  refine ⟨fun pins s σ H Q I h => ?_⟩
  refine wpAny_Call_Name_kw (ld_glob I hg hm ?_ hdb)
  refine PySem.W.callWith_K (h₀ := X.base) I.ok.mod.kin T.kC (thn (ha.run pos pins s σ H _ I h) fun us s1 ⟨vs, H1, I1, r1, q1⟩ => ⟨I1.kIn, ?_⟩) he hpl
  obtain ⟨l1, l2, q2⟩ := q1
  exact run_xmk (ws := []) (zs := []) (ks := []) T iC tI F hr hb hx hn I1 r1 .nil l1 rfl q2
/-- C() -/
theorem pe_xmk0 (T : XC X.K C) (iC : PySem.W.findIn X.K (.ref C) "__init__" = some (some (.ref fI))) (tI : PySem.W.typeIn X.K (.ref fI) = some (.type "function"))
    (F : FnOk X.prog X.w X.K X.mg X.base CX k fI fd ps sp) (hr : Room (k + 1) X.A) (hb : KBn X.K fd ps 1 [] g gV) (hx : Passes CX X E0) (hg : Gl X x) (hm : X.mg x = some (.ref C)) 
    (hdb : (x == ("__debug__" : Str)) = false := by decide) (hpl : ((backTo pos (starEach [] X.env)).any (·.1) || (backToKw pos (keywordEach [] X.env)).any (·.1.isNone)) = false := by rfl) :
    PE X (.Call (.Name x p) [] [] pos) (tXmk C 0 0 sp gV tNil tNil) := by
  refine ⟨fun pins s σ H Q I h => ?_⟩
  refine wpAny_Call_Name_kw (ld_glob I hg hm ?_ hdb)
  refine PySem.W.callWith_KW0 (h₀ := X.base) I.ok.mod.kin T.kC rfl ?_ hpl
  obtain ⟨l1, l2, q2⟩ := (show tXmk C 0 0 sp gV tNil tNil σ H Q from h)
  refine wpAny_pure ⟨I.kIn, ?_⟩
  exact run_xmk (us := []) (vs := []) (ws := []) (zs := []) (ks := []) T iC tI F hr hb hx (Nat.zero_le _) I .nil .nil rfl rfl q2
/-- C(k = v, ..) -/
theorem pe_xmkK (T : XC X.K C) (iC : PySem.W.findIn X.K (.ref C) "__init__" = some (some (.ref fI))) (tI : PySem.W.typeIn X.K (.ref fI) = some (.type "function"))
    (F : FnOk X.prog X.w X.K X.mg X.base CX k fI fd ps sp) (hr : Room (k + 1) X.A) (hb : KBn X.K fd ps 1 ks g gV) (hx : Passes CX X E0) (hg : Gl X x) (hm : X.mg x = some (.ref C)) (hkw : PK X kws tk)
    (hall : (backToKw pos (keywordEach kws X.env)).all (·.1.isSome) = true := by rfl) (hks : (backToKw pos (keywordEach kws X.env)).filterMap (·.1) = ks := by rfl) (hdb : (x == ("__debug__" : Str)) = false := by decide)
    (hpl : ((backTo pos (starEach [] X.env)).any (·.1) || (backToKw pos (keywordEach kws X.env)).any (·.1.isNone)) = false := by rfl) :
    PE X (.Call (.Name x p) [] kws pos) (tXmk C 0 ks.length sp gV tNil tk) := by
  refine ⟨fun pins s σ H Q I h => ?_⟩
  refine wpAny_Call_Name_kw (ld_glob I hg hm ?_ hdb)
  refine PySem.W.callWith_KW0 (h₀ := X.base) I.ok.mod.kin T.kC hall ?_ hpl
  refine thn (hkw.run pos pins s σ H _ I h) fun ws s2 ⟨zs, H2, I2, rz, l1, l2, q2⟩ => ⟨I2.kIn, ?_⟩
  rw [hks]
  exact run_xmk (us := []) (vs := []) T iC tI F hr hb hx (Nat.zero_le _) I2 .nil rz rfl l2 q2
end

/-! ### e.f, isinstance(e, C) -/
/-- e.f of an exception that is tracked -/
def tXat (K : PySem.W.Frag) (f : Str) (te : TE) : TE := fun σ H Q => te σ H fun x H1 => ∃ (a C : Addr) (fs : List (Str × V)) (v : V), x = .ref a ∧ XC K C ∧ PySem.W.findIn K (.ref C) f = some none ∧ IsX H1 C fs a ∧ fs.lookup f = some v ∧ Q v H1
theorem pe_xat {X : Cx} {K : PySem.W.Frag} {e : Expr} {te : TE} {pos : Pos} {f : Str} (he : PE X e te) (hb : attributeBase e f X.env (eval e X.env) = eval e X.env := by rfl) (hK : X.K = K := by rfl) : PE X (.Attribute e f pos) (tXat K f te) := by
  subst hK
  refine ⟨fun pins s σ H Q I h => ?_⟩
  refine attr_of hb (thn (he.run pins s σ H _ I h) fun u s1 hh => ?_)
  obtain ⟨x, H1, I1, rx, a, C, fs, v, ex, T, hno, hx, l, q⟩ := hh
  subst ex
  obtain rfl : u = Value.ref a := rx
  rcases hx with ⟨rfl, _⟩ | ⟨dx, ea, ed⟩
  · cases l
  · obtain ⟨t1, ho⟩ := exo_at I1.hok ea
    obtain ⟨mA, hns, rel⟩ := exd_at I1.hok ed
    obtain ⟨od, hod, hl⟩ := lookIn_ns hns
    obtain ⟨w, hw, rw'⟩ := RelO.some_of (v := v) (o := mA f) (by rw [← l]; exact rel f)
    have J : PySem.W.InstAt s1.heap a { cls := .ref C, dict := some dx, data := .fields #[.ref t1, .none, .none, .none, .bool false, .none] } C (some od) := ⟨ho, rfl, rfl, hod⟩
    exact HandSPX.exc_get I1.kIn J T.ga T.gg T.exC (PySem.W.findObj_own T.hd hno rfl (by rw [hl, hw])) (handed_of rw') ⟨v, H1, I1.tok _, rw', q⟩
end L2

end PE3
section PE4
set_option maxHeartbeats 4000000
namespace L2
open PySem PySem.Spec PyProof.Rows
theorem XC.isCls {K : PySem.W.Frag} {C : Addr} (T : XC K C) : (PySem.W.clsIn K C).isSome = true := by
  obtain ⟨cd, hc, _⟩ := PySem.W.any_some T.hd
  rw [hc] <;> rfl
section
variable {X : Cx} {pins : List (Addr × Obj)} {σ : St} {H : Hp} {s : Shared}
theorem kit_x {a C : Addr} {fs : List (Str × V)} (I : Inv X pins σ H s) (T : XC X.K C) (h : IsX H C fs a) : ∃ P : Heap → Prop, PySem.W.KitX X.K (.ref a) (.ref C) P ∧ P s.heap := by
  rcases h with ⟨_, ea⟩ | ⟨dx, ea, ed⟩
  · obtain ⟨t1, ho⟩ := exo_at I.hok ea
    exact ⟨_, PySem.W.kitx_exc (od := none) T.isCls T.ga T.gg T.exC T.ha T.hn T.ht T.hm, ⟨ho, rfl, rfl, trivial⟩⟩
  · obtain ⟨t1, ho⟩ := exo_at I.hok ea
    obtain ⟨mA, ⟨od, es, ep, e1, _⟩, rel⟩ := exd_at I.hok ed
    exact ⟨_, PySem.W.kitx_exc (od := some od) T.isCls T.ga T.gg T.exC T.ha T.hn T.ht T.hm, ⟨ho, rfl, rfl, e1⟩⟩
end
/-- isinstance(e, c), e a tracked exception, c one class -/
def rIsX (K : PySem.W.Frag) : List V → Hp → VK → Prop := fun xs H Q => ∃ (a C : Addr) (fs : List (Str × V)) (c : V) (u : Value) (b : Bool), xs = [.ref a, c] ∧ ClsV c u ∧ XC K C ∧ IsX H C fs a ∧ PySem.W.kitOne K (.ref C) u = some b ∧ Q (.bl b) H
/-- isinstance(e, (c1, c2, ..)) -/
def rIsXT (K : PySem.W.Frag) : List V → Hp → VK → Prop := fun xs H Q => ∃ (a C tp : Addr) (fs : List (Str × V)) (cs : List V) (us : List Value) (b : Bool), xs = [.ref a, .ref tp] ∧ H tp = some (.tup cs) ∧ Paired ClsV cs us ∧ XC K C ∧ IsX H C fs a ∧ PySem.W.kitAny K (.ref C) us = some b ∧ Q (.bl b) H
section
variable {X : Cx}
theorem call_isX : CallR X (.builtin "isinstance") (rIsX X.K) := by
  intro pins s σ H xs us Q I r h
  obtain ⟨a, C, fs, c, u, b, rfl, k, T, hx, e, q⟩ := h
  obtain ⟨u1, u2, rfl, r1, r2⟩ := vals2 r
  have e2 := k.eq r2
  subst e2
  cases (show u1 = Value.ref a from r1)
  obtain ⟨P, Z, p⟩ := kit_x I T hx
  exact PySem.W.kia_one Z I.kIn p e (fun z => nomatch z) fun tk => ⟨.bl b, H, I.tok tk, rfl, q⟩
theorem call_isXT : CallR X (.builtin "isinstance") (rIsXT X.K) := by
  intro pins s σ H xs us Q I r h
  obtain ⟨a, C, tp, fs, cs, ws, b, rfl, hT, k, T, hx, e, q⟩ := h
  obtain ⟨u1, u2, rfl, r1, r2⟩ := vals2 r
  cases (show u1 = Value.ref a from r1)
  cases (show u2 = Value.ref tp from r2)
  obtain ⟨P, Z, p⟩ := kit_x I T hx
  obtain ⟨_, its, rv, o, h1, h2, n, h3⟩ := (show ObjOk X.prog X.w H s.heap tp (.tup cs) from I.hok tp _ hT)
  have e3 := ClsV.all k rv
  subst e3
  obtain ⟨oc, od, dt, sl⟩ := o
  simp only at h2 h3
  subst h2 h3
  exact PySem.W.kia_tup Z I.kIn p h1 e (fun z => nomatch z) fun tk => ⟨.bl b, H, I.tok tk, rfl, q⟩
end
end L2

end PE4
section PE5
set_option maxHeartbeats 4000000
/-! Promises of defs that are called while no repr runs: what repr tells is then told. -/
namespace L2
open PySem PySem.Spec PyProof.Rows
/-- a def keeps sp wherever it is called outside of any repr -/
structure FnG (P : Program) (w : World) (K : PySem.W.Frag) (mg : Str → Option Value) (base : Heap) (CX : CXT) (k : Nat) (f : Addr) (fd : FuncData) (ps : List Str) (sp : Sp) : Prop where
  len : ∀ vs H Q E, sp vs H Q E → vs.length = ps.length
  run : ∀ (A : Around) (outer : List Env) (s : Shared) (H : Hp) (args : Args) (us : List Value) (vs : List V) (Q : VK) (E : XK), A.guards = some [] → Room k A → Env0 P w K mg base A outer s H → BindsTo s fd args (ps.zip us) → Vals vs us → sp vs H Q E →
    codeAny (model P w) A (.call (.ref f) args) (CR CX outer P w H s Q E) s
theorem FnOk.g {P : Program} {w : World} {K : PySem.W.Frag} {mg : Str → Option Value} {base : Heap} {CX : CXT} {k : Nat} {f : Addr} {fd : FuncData} {ps : List Str} {sp : Sp} (F : FnOk P w K mg base CX k f fd ps sp) : FnG P w K mg base CX k f fd ps sp :=
  ⟨F.len, fun A outer s H args us vs Q E _ => F.run A outer s H args us vs Q E⟩
theorem deeper_guards {A : Around} {env : Env} (h : A.guards = some []) : (A.deeper env).guards = some [] := by
  have e : (A.deeper env).guards = A.guards := by rfl
  rw [e, h]
/-- the rule for a def, by its body, the guards told -/
theorem FunD.okG {CX : CXT} {P : Program} {w : World} {K : PySem.W.Frag} {mg : Str → Option Value} {base : Heap} {k : Nat} {f : Addr} {x qual : Str} {params : Arguments} {body : List Stmt} {scope : Scope} {dvs : List V} {kws : List (Str × V)} {fd : FuncData} {N ps : List Str} {sp : Sp}
    (F : FunD K x qual params body scope dvs kws f fd) (S : FnScope N ps scope) (len : ∀ vs H Q E, sp vs H Q E → vs.length = ps.length)
    (hbody : ∀ (cdv : Value) (A : Around) (outer : List Env) (s : Shared) (H : Hp) (vs : List V) (Q : VK) (E : XK), A.guards = some [] → Room k (A.deeper (envOfC qual scope s.heap.objs.size f cdv)) → sp vs H Q E →
      ∃ t, PSs (cxOf CX P w K mg base N qual scope f cdv A outer s H E) body t ∧ t { nx := fun _ H' => Q .non H', rt := Q } (start N vs) H) : FnG P w K mg base CX (k + 1) f fd ps sp := by
  obtain ⟨oc, od, dV, kV, doc, pm, an, cdv, ct, osl, rfl, lk, hcd, _, _⟩ := F.ex
  refine ⟨len, fun A outer s H args us vs Q E hg hr e0 hb r hsp => ?_⟩
  have old : ∀ b o, base.get? b = some o → s.heap.get? b = some o := fun b o e => (e0.bs b o e).1
  have KX : K.In s.heap := e0.mod.kin.keeps old
  have lim : s.heap.NoLimit := e0.mod.nolimit.keeps old
  refine codeAny_call_function hr.depth (KX _ _ lk) rfl S.co S.gen rfl (PySem.W.codeRec_of KX hcd) (hb _ _ _ _ (wpAny_newFunctionEnv_cells S.kind (fun y hy => ?_) fun env he s1 x => ?_))
  · rcases S.par y.1 (List.of_mem_zip (show (y.1, y.2) ∈ ps.zip us from hy)).1 with q | q
    · exact .inl q
    · exact .inr ⟨q, PySem.W.cellsFrom_some _ _ _ (.inl q)⟩
  · subst he
    obtain ⟨t, ht, hq⟩ := hbody cdv A outer s H vs Q E hg (hr.deeper _) hsp
    refine ⟨lim.keeps x.toInCall.keep, codeAny_func (wpAny_mono (ht.run [] s1 (start N vs) H _ (inv_start S hr.hd e0 (len _ _ _ _ hsp) r x) hq) (fun fl s' hs => ?_) fun e s' hs => hs)⟩
    cases fl with
    | ret u =>
      obtain ⟨v, σ', H', J, rv, q⟩ := hs
      exact ⟨v, H', J.os, J.bare, J.base, J.hok, rv, q⟩
    | next =>
      obtain ⟨σ', H', J, q⟩ := hs
      exact ⟨V.non, H', J.os, J.bare, J.base, J.hok, rfl, q⟩
    | brk =>
      obtain ⟨_, _, _, q⟩ := hs
      exact False.elim q
    | cont =>
      obtain ⟨_, _, _, q⟩ := hs
      exact False.elim q
section
variable {X : Cx} {CX : CXT} {k : Nat} {f C : Addr} {fd : FuncData} {ps : List Str} {sp : Sp} {dvs : List V} {ds : List Value} {E : XK} {x m : Str} {p pos apos : Pos} {e o : Expr} {es : List Expr} {ta : TE} {t : TA}
theorem runG {pins : List (Addr × Obj)} {σ : St} {H : Hp} {s : Shared} {Q : VK} {us : List Value} {vs : List V} (F : FnG X.prog X.w X.K X.mg X.base CX k f fd ps sp) (hG : X.A.guards = some []) (hr : Room k X.A) (hb : Binds X.K fd ps ds) (hd : Vals dvs ds) (hx : Passes CX X E)
    (I : Inv X pins σ H s) (r : Vals vs us) (h : sp (vs ++ dvs) H Q E) : wpAny (model X.prog X.w) X.A (call (.ref f) us) (EP X pins σ Q) X.xe s := by
  have r2 : Vals (vs ++ dvs) (us ++ ds) := r.append hd
  have hl : (us ++ ds).length = ps.length := r2.length.symm.trans (F.len _ _ _ _ h)
  refine wpAny_call (codeAny_mono (F.run X.A X.stack s H ⟨us, []⟩ (us ++ ds) (vs ++ dvs) Q E hG hr I.env0 (hb s us I.kIn hl) r2 h) fun r s' hq => ?_)
  cases r with
  | error e => exact hx pins σ H s e s' I hq
  | ok fl =>
    cases fl with
    | ret u => exact I.after hq
    | next => exact False.elim hq
    | brk => exact False.elim hq
    | cont => exact False.elim hq
/-- f(e, ..) where the guards are told -/
theorem pe_callG (F : FnG X.prog X.w X.K X.mg X.base CX k f fd ps sp) (hG : X.A.guards = some []) (hr : Room k X.A) (hg : Gl X x) (hm : X.mg x = some (.ref f)) (hk : PySem.W.keepIn X.K (.ref f) = true) (hb : Binds X.K fd ps ds) (hd : Vals dvs ds) (hx : Passes CX X E)
    (ha : PA X (e :: es) t) (hdb : (x == ("__debug__" : Str)) = false := by decide) (he : starEach (e :: es) X.env = (false, eval e X.env) :: starEach es X.env := by rfl) (hpl : (backTo pos (starEach es X.env)).any (·.1) = false := by rfl) :
    PE X (.Call (.Name x p) (e :: es) [] pos) (tCall sp dvs E t) :=
  ⟨fun pins s σ H Q I h => wpAny_Call_Name_kw (ld_glob I hg hm (PySem.W.callWith_K (h₀ := X.base) I.ok.mod.kin hk (thn (ha.run pos pins s σ H _ I h) fun us s1 ⟨vs, H1, I1, r, q⟩ => ⟨I1.kIn, runG F hG hr hb hd hx I1 r q⟩) he hpl) hdb)⟩
end
/-- a law's call where its def's promise wants the guards -/
theorem law_callG {P : Program} {w : World} {K : PySem.W.Frag} {mg mb : Str → Option Value} {CX : CXT} {k : Nat} {fa a : Addr} {fd : FuncData} {x : Str} {sp : Sp} {s₁ : Shared} {vs : List Value} {ns : List Int}
    (KX : K.In s₁.heap) (hns : s₁.heap.Ns mainGlobals mg) (hb : s₁.heap.Ns builtinsNs mb) (hbb : ∀ x : Str, x ≠ "__name__" → mb x = bootBuiltins x) (hlim : s₁.heap.NoLimit) (hg : s₁.gens = #[])
    (ha : s₁.heap.get? a = some { cls := .type "list", data := .seq vs.toArray }) (hi : IntsAre vs ns) (hl : ns.length ≤ sizeLine) (hr : Room k callerA)
    (F : ∀ base : Heap, K.In base → base.Ns mainGlobals mg → FnG P w K mg base CX k fa fd [x] sp) (hbind : ∀ (s : Shared) (u : Value), BindsTo s fd ⟨[u], []⟩ [(x, u)])
    (hsp : ∀ H : Hp, Only H → SqL K H a (ns.map V.int) → sp [.ref a] H (fun v _ => v = .bl true) fun _ _ _ => False)
    (hCX : ∀ H e s', CX [] H s₁ (fun _ _ _ => False) e s' → False) :
    codeAny (model P w) callerA (.call (.ref fa) ⟨[.ref a], []⟩) (fun r s' => r = .ok (.ret (.bool true)) ∧ OldK s₁.heap s'.heap ∧ s'.os = s₁.os ∧ AllBare s'.gens) s₁ := by
  -- what is tracked at the entry: the script, unless it is one of the module's own objects
  have core : ∀ H : Hp, Only H → SqL K H a (ns.map V.int) → HOk P w H s₁.heap → (∀ b, H b ≠ none → b = a ∧ K.lookup a = none) →
      codeAny (model P w) callerA (.call (.ref fa) ⟨[.ref a], []⟩) (fun r s' => r = .ok (.ret (.bool true)) ∧ OldK s₁.heap s'.heap ∧ s'.os = s₁.os ∧ AllBare s'.gens) s₁ := by
    intro H hO hS hok hA
    have keep : ∀ {b : Addr} {o : Obj}, s₁.heap.get? b = some o → (b = a → K.lookup a = none → False) → (hidT s₁.heap H).get? b = some o := fun {b o} e no => hidT_get e (by
      cases q : H b with
      | none => rfl
      | some u =>
        have z := hA b (by rw [q]; simp)
        exact (no z.1 z.2).elim)
    have nsK : ∀ {b : Addr} {m : Str → Option Value}, s₁.heap.Ns b m → (hidT s₁.heap H).Ns b m := fun {b m} ⟨o, es, ep, e, d, r⟩ => ⟨o, es, ep, keep e (fun z _ => by
      rw [z, ha] at e
      cases e
      cases d), d, r⟩
    have hKb : K.In (hidT s₁.heap H) := fun b o e => keep (KX b o e) fun z n => by
      rw [z, n] at e
      cases e
    obtain ⟨mc, h1, h2⟩ := hlim
    have e0 : Env0 P w K mg (hidT s₁.heap H) callerA [] s₁ H := ⟨rfl, ⟨hKb, nsK hns, ⟨mb, nsK hb, hbb⟩, ⟨mc, nsK h1, h2⟩⟩, fun b o e => of_hidT e, Nat.le_of_eq (hidT_size _ _), trivial, fun b hb => absurd (show b ∈ ([] : List Addr) from hb) (by simp), hok, .of_eq hg⟩
    refine codeAny_mono ((F _ hKb (nsK hns)).run callerA [] s₁ H ⟨[.ref a], []⟩ [.ref a] [.ref a] _ _ rfl hr e0 (hbind s₁ (.ref a)) (.cons rfl .nil) (hsp H hO hS)) fun r s' h => ?_
    cases r with
    | error e => exact (hCX H e s' h).elim
    | ok fl =>
      cases fl with
      | next => exact False.elim h
      | brk => exact False.elim h
      | cont => exact False.elim h
      | ret u =>
        obtain ⟨v, H', os, bare, un, hok', r', q⟩ := h
        cases (show v = .bl true from q)
        cases (show u = Value.bool true from r')
        refine ⟨rfl, OldK.of_keep fun b o e => ?_, os, bare⟩
        cases q : H b with
        | none => exact un.keep b o e q (fun z => absurd (show b ∈ ([] : List Addr) from z) (by simp)) (by simp)
        | some u =>
          obtain ⟨ob, xs, z⟩ : ∃ o xs, H b = some (.frz o (.lst xs)) := (hO b).resolve_left (by rw [q]; simp)
          have e1 := (hok b _ z).1
          rw [e] at e1
          cases e1
          exact (hok' b _ (un.frzs b _ _ z)).1
  have rv := vals_ints hi
  cases hk : K.lookup a with
  | some o =>
    have e := KX a o hk
    rw [ha] at e
    cases e
    exact core (fun _ => none) (fun _ => .inl rfl) (.inr ⟨_, vs.toArray, _, hk, rfl, rfl, rfl, by rw [List.size_toArray, hi.length]; exact hl, by simpa using rv⟩) (fun b u z => by cases (show (none : Option HO) = some u from z)) fun b z => absurd rfl z
  | none =>
    have at_ : ∀ b u, (if b = a then some (HO.frz { cls := .type "list", data := .seq vs.toArray } (.lst (ns.map V.int))) else none) = some u → b = a ∧ u = HO.frz { cls := .type "list", data := .seq vs.toArray } (.lst (ns.map V.int)) := fun b u z => by
      by_cases q : b = a
      · rw [if_pos q] at z
        exact ⟨q, (Option.some.inj z).symm⟩
      · rw [if_neg q] at z
        cases z
    refine core (fun b => if b = a then some (.frz { cls := .type "list", data := .seq vs.toArray } (.lst (ns.map V.int))) else none) (fun b => ?_) (.inl (.inr ⟨{ cls := .type "list", data := .seq vs.toArray }, if_pos rfl⟩)) (fun b u z => ?_) fun b z => ⟨?_, hk⟩
    · by_cases q : b = a
      · exact .inr ⟨_, _, if_pos q⟩
      · exact .inl (if_neg q)
    · obtain ⟨rfl, rfl⟩ := at_ b u z
      exact ⟨ha, by rw [List.length_map]; exact hl, vs, _, rv, ha⟩
    · cases q : (if b = a then some (HO.frz { cls := .type "list", data := .seq vs.toArray } (.lst (ns.map V.int))) else none) with
      | none => exact absurd q z
      | some u => exact (at_ b u q).1
/-- the end of a law -/
theorem walk_ofG {l : PySem.W.OpenLaw} {n k : Nat} {q : Program} {loose : List Str} {XP : (Str → Option Value) → Heap → Prop} {YP : World → Heap → Prop} {d : DefRec} {CX : World → CXT} {x : Str}
    (hn : l.most = some n) (hn2 : n ≤ sizeLine) (hdf : d.params.defaults = []) (hr : Room k callerA)
    (F : ∀ (w : World) (mg : Str → Option Value) (fa : Addr) (h : Heap), YP w h → h.Ns mainGlobals mg → mg d.name = some (.ref fa) →
      ∃ (K : PySem.W.Frag) (fd : FuncData) (sp : Sp), K.In h ∧ (∀ (s : Shared) (u : Value), BindsTo s fd ⟨[u], []⟩ [(x, u)]) ∧
        (∀ (H : Hp) (a : Addr) (ns : List Int), ns.length ≤ n → Only H → SqL K H a (ns.map V.int) → sp [.ref a] H (fun v _ => v = .bl true) fun _ _ _ => False) ∧
        ∀ base : Heap, K.In base → base.Ns mainGlobals mg → FnG l.prog w K mg base (CX w) k fa fd [x] sp)
    (hCX : ∀ (w : World) (H : Hp) (s : Shared) (e : Value) (s' : Shared), CX w [] H s (fun _ _ _ => False) e s' → False) :
    PySem.W.WalkO q loose XP YP l.row.toRowW d [] (fun f vs => PySem.call f vs) := by
  refine Att.attach_call hn hdf fun w s₀ s₁ mg mb fa o pm cd doc a vs ns G Y ho hd hcd hmg hobj hints hlen hg => ?_
  obtain ⟨K, fd, sp, KX, hb, hsp, hF⟩ := F w mg fa _ Y G.T.g hmg
  exact law_callG KX G.T.g G.T.b G.T.builtins G.T.nolimit hg hobj hints (Nat.le_trans hlen hn2) hr hF hb (fun H hO hS => hsp H a ns hlen hO hS) fun H e s' => hCX w H s₁ e s'
end L2

end PE5
section PE6
set_option maxHeartbeats 4000000
/-! What repr tells of data at any depth. -/
namespace L2
open PySem PySem.Spec PyProof.Rows
def kD : Key → PyData
  | .inl i => .int i
  | .inr x => .str x
mutual
/-- v is these data, by what is tracked -/
inductive Rp (H : Hp) : V → PyData → Prop
  | non : Rp H .non .none
  | bl (b : Bool) : Rp H (.bl b) (.bool b)
  | int (i : Int) : Rp H (.int i) (.int i)
  | str (x : Str) : Rp H (.str x) (.str x)
  | lst {a : Addr} {xs : List V} {ds : List PyData} : H a = some (.lst xs) → RpAll H xs ds → Rp H (.ref a) (.list ds)
  | tup {a : Addr} {xs : List V} {ds : List PyData} : H a = some (.tup xs) → RpAll H xs ds → Rp H (.ref a) (.tuple ds)
  | dic {a : Addr} {kvs : List (Key × V)} {ds : List (PyData × PyData)} : H a = some (.dK kvs) → RpKv H kvs ds → Rp H (.ref a) (.dict ds)
inductive RpAll (H : Hp) : List V → List PyData → Prop
  | nil : RpAll H [] []
  | cons {v : V} {vs : List V} {d : PyData} {ds : List PyData} : Rp H v d → RpAll H vs ds → RpAll H (v :: vs) (d :: ds)
inductive RpKv (H : Hp) : List (Key × V) → List (PyData × PyData) → Prop
  | nil : RpKv H [] []
  | cons {k : Key} {v : V} {kvs : List (Key × V)} {d : PyData} {ds : List (PyData × PyData)} : Rp H v d → RpKv H kvs ds → RpKv H ((k, v) :: kvs) ((kD k, d) :: ds)
end
mutual
theorem Rp.same {H H' : Hp} (s : Same H H') : ∀ {v : V} {d : PyData}, Rp H v d → Rp H' v d
  | _, _, .non => .non
  | _, _, .bl b => .bl b
  | _, _, .int i => .int i
  | _, _, .str x => .str x
  | _, _, .lst h r => .lst (s _ _ h) (RpAll.same s r)
  | _, _, .tup h r => .tup (s _ _ h) (RpAll.same s r)
  | _, _, .dic h r => .dic (s _ _ h) (RpKv.same s r)
theorem RpAll.same {H H' : Hp} (s : Same H H') : ∀ {vs : List V} {ds : List PyData}, RpAll H vs ds → RpAll H' vs ds
  | _, _, .nil => .nil
  | _, _, .cons h r => .cons (Rp.same s h) (RpAll.same s r)
theorem RpKv.same {H H' : Hp} (s : Same H H') : ∀ {vs : List (Key × V)} {ds : List (PyData × PyData)}, RpKv H vs ds → RpKv H' vs ds
  | _, _, .nil => .nil
  | _, _, .cons h r => .cons (Rp.same s h) (RpKv.same s r)
end
theorem key_read {h : Heap} {k : Key} {u : Value} (e : keyIs k u = true) : Reads h u (kD k) [] := by
  rcases keyIs_shape e with ⟨i, t, rfl, rfl⟩ | ⟨x, t, rfl, rfl⟩
  · exact Reads.int i t
  · exact Reads.str x t
section
variable {X : Cx} {pins : List (Addr × Obj)} {σ : St} {H : Hp} {s : Shared}
mutual
theorem Rp.reads (I : Inv X pins σ H s) (hm : ∀ a xs, H a = some (.lst xs) → a ≠ sysModules) : ∀ {v : V} {d : PyData} {u : Value}, Rp H v d → RelV v u → ∃ as, Reads s.heap u d as ∧ sysModules ∉ as
  | _, _, u, .non, r => by
    cases (show u = Value.none from r)
    exact ⟨[], .none, by simp⟩
  | _, _, u, .bl b, r => by
    cases (show u = Value.bool b from r)
    exact ⟨[], .bool b, by simp⟩
  | _, _, u, .int i, r => by
    obtain ⟨t, q⟩ := (show ∃ t, u = Value.int i t from r)
    cases q
    exact ⟨[], .int i t, by simp⟩
  | _, _, u, .str x, r => by
    obtain ⟨t, q⟩ := (show ∃ t, u = Value.str x t from r)
    cases q
    exact ⟨[], .str x t, by simp⟩
  | _, _, u, .lst (a := a) (xs := xs) h k, r => by
    cases (show u = Value.ref a from r)
    obtain ⟨_, its, n, rv, e⟩ := (show ObjOk X.prog X.w H s.heap a (.lst xs) from I.hok a _ h)
    obtain ⟨as, q, no⟩ := RpAll.reads I hm k rv
    exact ⟨_, .list e rfl rfl (by simpa using q), fun z => by
      rcases List.mem_cons.mp z with z | z
      · exact hm a xs h z.symm
      · exact no z⟩
  | _, _, u, .tup (a := a) (xs := xs) h k, r => by
    cases (show u = Value.ref a from r)
    obtain ⟨_, its, rv, o, e, c, n, dd⟩ := (show ObjOk X.prog X.w H s.heap a (.tup xs) from I.hok a _ h)
    obtain ⟨as, q, no⟩ := RpAll.reads I hm k rv
    exact ⟨_, .tuple e c dd (by simpa using q), no⟩
  | _, _, u, .dic (a := a) (kvs := kvs) h k, r => by
    cases (show u = Value.ref a from r)
    obtain ⟨_, ns, vs, kv, o, es, ep, e, ex, dd, _, pr, _⟩ := (show ObjOk X.prog X.w H s.heap a (.dK kvs) from I.hok a _ h)
    obtain ⟨as, bs, q1, q2, n1, n2⟩ := RpKv.reads I hm k kv pr
    exact ⟨_, .dict e ex.1 dd q1 q2, fun z => by
      rcases List.mem_append.mp z with z | z
      · rcases List.mem_cons.mp z with z | z
        · rw [← z] at ns
          simp at ns
        · exact n1 z
      · exact n2 z⟩
theorem RpAll.reads (I : Inv X pins σ H s) (hm : ∀ a xs, H a = some (.lst xs) → a ≠ sysModules) : ∀ {vs : List V} {ds : List PyData} {us : List Value}, RpAll H vs ds → Vals vs us → ∃ as, ReadsAll s.heap us ds as ∧ sysModules ∉ as
  | _, _, _, .nil, .nil => ⟨[], .nil, by simp⟩
  | _, _, _, .cons h k, .cons r t => by
    obtain ⟨as, q1, n1⟩ := Rp.reads I hm h r
    obtain ⟨bs, q2, n2⟩ := RpAll.reads I hm k t
    exact ⟨_, .cons q1 q2, fun z => (List.mem_append.mp z).elim n1 n2⟩
theorem RpKv.reads (I : Inv X pins σ H s) (hm : ∀ a xs, H a = some (.lst xs) → a ≠ sysModules) : ∀ {kvs : List (Key × V)} {ds : List (PyData × PyData)} {vs : List (Key × Value)} {es : List DictEntry}, RpKv H kvs ds → KV kvs vs → Pairs (mixKind X.prog X.w) es vs →
    ∃ as bs, ReadsAll s.heap (es.map (·.key)) (ds.map (·.1)) as ∧ ReadsAll s.heap (es.map (·.val)) (ds.map (·.2)) bs ∧ sysModules ∉ as ∧ sysModules ∉ bs
  | _, _, _, _, .nil, .nil, .nil => ⟨[], [], .nil, .nil, by simp, by simp⟩
  | _, _, _, _, .cons h k, .cons r t, .cons e1 e2 e3 => by
    obtain ⟨as, bs, q1, q2, n1, n2⟩ := RpKv.reads I hm k t e3
    obtain ⟨cs, q3, n3⟩ := Rp.reads I hm h r.2
    have hk := e1
    rw [← r.1] at hk
    refine ⟨_, _, .cons (key_read (h := s.heap) hk) q1, .cons (by dsimp only; rw [e2]; exact q3) q2, fun z => ?_, fun z => (List.mem_append.mp z).elim n3 n2⟩
    rcases List.mem_append.mp z with z | z
    · cases z
    · exact n1 z
end
end
/-- repr(v) -/
def rRepr (xs : List V) (H : Hp) (Q : VK) : Prop := ∃ (v : V) (d : PyData), xs = [v] ∧ Rp H v d ∧ d.showable = true ∧ d.shown.length ≤ sizeLine ∧ d.depth ≤ 60 ∧ Q (.str d.shown) H
/-- sys.modules is no list, by the written part -/
def noMods (K : PySem.W.Frag) : Bool := match K.lookup sysModules with
  | some ⟨.type c, _, _, _⟩ => decide (c ≠ "list")
  | _ => false
theorem noMods_ok {X : Cx} {pins : List (Addr × Obj)} {σ : St} {H : Hp} {s : Shared} (I : Inv X pins σ H s) (h : noMods X.K = true) : ∀ a xs, H a = some (.lst xs) → a ≠ sysModules := fun a xs e z => by
  subst z
  obtain ⟨_, its, n, rv, q⟩ := (show ObjOk X.prog X.w H s.heap sysModules (.lst xs) from I.hok _ _ e)
  unfold noMods at h
  cases k : X.K.lookup sysModules with
  | none =>
    rw [k] at h
    cases h
  | some o =>
    have q2 := I.kIn _ _ k
    rw [q] at q2
    cases q2
    rw [k] at h
    simp at h
theorem call_reprD {X : Cx} (hg : X.A.guards = some []) (hu : X.A.units + 64 < cLine) (hK : noMods X.K = true) : CallR X (.builtin "repr") rRepr := by
  intro pins s σ H xs us Q I r h
  obtain ⟨v, d, rfl, hr, hs, hl, hd, q⟩ := h
  obtain ⟨u, rfl, ru⟩ := vals1 r
  cases hr with
  | non =>
    cases (show u = Value.none from ru)
    exact PySem.P.repr_of_none ⟨.str _, H, I.tok _, ⟨_, rfl⟩, q⟩
  | bl b =>
    cases (show u = Value.bool b from ru)
    exact PySem.P.repr_of_bool ⟨.str _, H, I.tok _, ⟨_, rfl⟩, q⟩
  | int i =>
    obtain ⟨t, z⟩ := (show ∃ t, u = Value.int i t from ru)
    cases z
    exact PySem.P.repr_of_int (by simpa [PyData.showable] using hs) ⟨.str _, H, I.tok _, ⟨_, rfl⟩, q⟩
  | str x =>
    obtain ⟨t, z⟩ := (show ∃ t, u = Value.str x t from ru)
    cases z
    exact PySem.P.repr_of_str ⟨.str _, H, I.tok _, ⟨_, rfl⟩, q⟩ hl
  | lst h k =>
    obtain ⟨as, w, no⟩ := Rp.reads I (noMods_ok I hK) (.lst h k) ru
    cases (show u = Value.ref _ from ru)
    exact repr_of_reads' w hs (fun _ => no) hg (by omega) (fun _ _ e => e) (fun h' t tk kp => ⟨.str _, H, I.kept (t' := tk) kp, ⟨_, rfl⟩, q⟩) hl
  | tup h k =>
    obtain ⟨as, w, no⟩ := Rp.reads I (noMods_ok I hK) (.tup h k) ru
    cases (show u = Value.ref _ from ru)
    exact repr_of_reads' w hs (fun _ => no) hg (by omega) (fun _ _ e => e) (fun h' t tk kp => ⟨.str _, H, I.kept (t' := tk) kp, ⟨_, rfl⟩, q⟩) hl
  | dic h k =>
    obtain ⟨as, w, no⟩ := Rp.reads I (noMods_ok I hK) (.dic h k) ru
    cases (show u = Value.ref _ from ru)
    exact repr_of_reads' w hs (fun _ => no) hg (by omega) (fun _ _ e => e) (fun h' t tk kp => ⟨.str _, H, I.kept (t' := tk) kp, ⟨_, rfl⟩, q⟩) hl
end L2
/-! ### the head's facts: each def, and one Bool of the written part (sys.modules among it) -/
namespace He
open PySem PySem.Spec PyProof.Rows L2
def asY (g : Addr → Option Obj) (n : Nat) : List Addr := sysModules :: asD g n
def obsY (n : Nat) (fn : List DefD) (ex : PySem.W.Frag → Bool) (g : Addr → Option Obj) : Bool × List FnW := ((fn.all fun d => d.ok (frG g (asY g n))) && ex (frG g (asY g n)), fn.map fun d => fnW (frG g (asY g n)) d.at_)
structure SaysY (fn : List DefD) (ex : PySem.W.Frag → Bool) (K : PySem.W.Frag) : Prop where
  ok : (fn.all fun d => d.ok K) = true
  more : ex K = true
  fns : fn.map (fun d => fnW K d.at_) = fn.map DefD.val
theorem saysY_of {n : Nat} {fn : List DefD} {ex : PySem.W.Frag → Bool} {g : Addr → Option Obj} (e : obsY n fn ex g = (true, fn.map DefD.val)) : SaysY fn ex (frG g (asY g n)) := by
  have e1 : ((fn.all fun d => d.ok (frG g (asY g n))) && ex (frG g (asY g n))) = true := congrArg (fun z : Bool × List FnW => z.1) e
  exact ⟨(ba e1).1, (ba e1).2, congrArg (fun z : Bool × List FnW => z.2) e⟩
def hookY (n : Nat) (fn : List DefD) (ex : PySem.W.Frag → Bool) : PySem.W.Hook where
  α := Bool × List FnW
  obs := fun s => obsY n fn ex s.heap.get?
  val := fun _ => (true, fn.map DefD.val)
  says := fun _ h => ∃ K : PySem.W.Frag, K.In h ∧ SaysY fn ex K
  of := fun _ _ e => ⟨_, frG_in, saysY_of e⟩
  keeps := fun _ _ _ ⟨K, hK, c⟩ k => ⟨K, PySem.W.Frag.In.keeps hK k, c⟩
theorem obsY_eq {n : Nat} {fn : List DefD} {ex : PySem.W.Frag → Bool} {g : Addr → Option Obj} {s : Shared} (h : ∀ a, g a = s.heap.get? a) : obsY n fn ex g = (hookY n fn ex).obs s := by
  have e : g = s.heap.get? := funext h
  rw [e] <;> rfl
theorem SaysY.def_ {fn : List DefD} {ex : PySem.W.Frag → Bool} {K : PySem.W.Frag} (c : SaysY fn ex K) (i : Nat) {d : DefD} (h : fn[i]? = some d) : ∃ fd, FunD K d.name d.qual d.params d.body d.scope (d.dvs K) (d.kws K) (fAd K d.at_) fd := by
  have e2 : (fn.map fun d => fnW K d.at_)[i]? = (fn.map DefD.val)[i]? := by rw [c.fns]
  rw [List.getElem?_map, List.getElem?_map, h] at e2
  exact DefD.funD (Option.some.inj e2) (List.all_eq_true.mp c.ok d (List.mem_of_getElem? h))
end He

end PE6
section PC11
set_option maxHeartbeats 4000000
namespace C11
open PySem L2
def top (i : Nat) : Stmt := PySem.Challenge.pw_keptedits_k11_whole_maps_of_numbers.main.body.getD i (.Pass ⟨0, 0, 0, 0⟩)
abbrev sPot : Stmt := top 24
abbrev sDraw : Stmt := top 25
abbrev sPick : Stmt := top 26
abbrev FD (K : PySem.W.Frag) (x : Str) (st : Stmt) (f : Addr) (fd : FuncData) : Prop := FunD K x x (defArgs st) (defBody st) (defScope st) [] [] f fd
/-! ### heaps: what stands but at p -/
def Bt (p : Addr) (H H' : Hp) : Prop := ∀ b o, b ≠ p → H b = some o → H' b = some o
theorem Bt.refl (p : Addr) (H : Hp) : Bt p H H := fun _ _ _ e => e
theorem Bt.trans {p : Addr} {H H1 H2 : Hp} (a : Bt p H H1) (b : Bt p H1 H2) : Bt p H H2 := fun c o n e => b c o n (a c o n e)
theorem Same.bt {p : Addr} {H H' : Hp} (s : Same H H') : Bt p H H' := fun b o _ e => s b o e
theorem same_upd {H : Hp} {p : Addr} {o : HO} (h : H p = none) : Same H (upd H p o) := fun b u e => by
  rw [upd_ne (ne_of_none e h)]
  exact e
theorem bt_upd {H : Hp} {p : Addr} {o : HO} : Bt p H (upd H p o) := fun b u n e => by
  rw [upd_ne n]
  exact e
/-- H without p -/
def hid (p : Addr) (H : Hp) : Hp := fun b => if b = p then none else H b
theorem hid_same (p : Addr) (H : Hp) : Same (hid p H) H := fun b o e => by
  unfold hid at e
  by_cases h : b = p
  · rw [if_pos h] at e
    cases e
  · rw [if_neg h] at e
    exact e
theorem Bt.hid {p : Addr} {H H' : Hp} (s : Bt p H H') : Same (hid p H) (hid p H') := fun b o e => by
  unfold C11.hid at e ⊢
  by_cases h : b = p
  · rw [if_pos h] at e
    cases e
  · rw [if_neg h] at e ⊢
    exact s b o h e
theorem Bt.free {p q : Addr} {H H' : Hp} (s : Bt p H H') (hq : q ≠ p) (h : H' q = none) : H q = none := by
  cases e : H q with
  | none => rfl
  | some o =>
    rw [s q o hq e] at h
    cases h
/-! ### the pot: two ints, the rest of the digits and the seed -/
def PotAt (H : Hp) (p : Addr) : Prop := ∃ x y : Int, H p = some (.lst [.int x, .int y]) ∧ 0 ≤ x ∧ 0 ≤ y ∧ y ≤ 2147483630
def spPot (K : PySem.W.Frag) : Sp := fun vs H Q _ => ∃ (a : Addr) (ns : List Int) (k : Int), vs = [.ref a, .int k] ∧ SqL K H a (ns.map V.int) ∧ ns.length ≤ 63 ∧ 0 ≤ k ∧ k ≤ 63 ∧
  ∀ (p : Addr) (x y : Int), H p = none → 0 ≤ x → 0 ≤ y → y ≤ 2147483630 → Q (.ref p) (upd H p (.lst [.int x, .int y]))
def spDraw : Sp := fun vs H Q _ => ∃ (p : Addr) (n : Int), vs = [.ref p, .int n] ∧ PotAt H p ∧ 0 < n ∧ n < 1073741824 ∧ ∀ (d : Int) (H' : Hp), 0 ≤ d → d < n → Bt p H H' → PotAt H' p → Q (.int d) H'
def spPick (K : PySem.W.Frag) : Sp := fun vs H Q _ => ∃ (p l : Addr) (xs : List V), vs = [.ref p, .ref l] ∧ PotAt H p ∧ l ≠ p ∧ H l = some (.lst xs) ∧ 0 < xs.length ∧ xs.length ≤ 1000 ∧
  ∀ (i : Nat) (v : V) (H' : Hp), xs[i]? = some v → Bt p H H' → PotAt H' p → Q v H'
structure TxtP (K : PySem.W.Frag) (mg : Str → Option Value) : Prop where
  len : mg "len" = none
  max : mg "max" = none
  abs : mg "abs" = none
  int : mg "int" = none
  divmod : mg "divmod" = none
section
variable {P : Program} {w : World} {K : PySem.W.Frag} {mg : Str → Option Value} {base : Heap}
theorem scPot : FnScope ["_law_script", "_law_k", "_law_cell"] ["_law_script", "_law_k"] (defScope sPot) := ⟨rfl, rfl, rfl, by decide +kernel, rfl, by decide +kernel, by decide +kernel⟩
theorem ok_pot {f : Addr} {fd : FuncData} (F : FD K "_law_pot" sPot f fd) (T : TxtP K mg) : FnOk P w K mg base CX0 1 f fd ["_law_script", "_law_k"] (spPot K) := by
  refine F.ok scPot (fun vs H Q E h => ?_) (fun cdv A outer s H vs Q E hr h => ?_)
  · obtain ⟨a, ns, k, rfl, _⟩ := h
    rfl
  · obtain ⟨a, ns, k, rfl, hS, hl, k0, k1, kk⟩ := h
    refine ⟨_, PSs.nox (pss_cons (ps_set (i := 2) scPot.nd rfl (Or.inl rfl) (pe_ifExp (pt_cmpR op_lt (pv 1) (pe_callB call_len_seq (by rfl) T.len PySem.boot_len (pa_cons (pv 0) pa_nil)) (nomark _)) (pe_ix ix_list (pv 0) (pv 1) (fun _ _ => rfl)) (pe_op op_mul pe_int (pv 1))))
      (pss_one (ps_ret (pe_lst (pa_cons (pe_callB (call_max2 rfl) (by rfl) T.max (by decide +kernel) (pa_cons pe_int (pa_cons (pe_op op_sub (pe_callB call_abs (by rfl) T.abs (by decide +kernel) (pa_cons (pv 2) pa_nil)) (pe_op op_pow pe_int pe_int)) pa_nil)))
        (pa_cons (pe_op op_add (pe_op op_mod (pe_callTy call_int1 (by rfl) T.int (by decide +kernel) (pa_cons (pe_op op_add (pe_op op_add (pe_op op_mul (pe_op op_mod (pe_callTy call_int1 (by rfl) T.int (by decide +kernel) (pa_cons (pe_callB call_abs (by rfl) T.abs (by decide +kernel) (pa_cons (pv 2) pa_nil)) pa_nil)) pe_int) pe_int) (pe_op op_mul pe_int (pv 1))) pe_int) pa_nil)) pe_int) pe_int) pa_nil)))))), ?_⟩
    refine ⟨_, rfl, _, rfl, a, _, rfl, .inl hS, _, _, rfl, rfl, _, rfl, ?_⟩
    have cell : ∀ c : Int, tRet (tLst (tCons (tCB (fun xs H Q => ∃ i j, xs = [V.int i, V.int j] ∧ Q (V.int (if j > i then j else i)) H) (tCons (tC (V.int 0)) (tCons (tOp (rI0 fun i j => V.int (i - j)) (tCB (fun xs H Q => ∃ i, xs = [V.int i] ∧ Q (V.int (if i < 0 then -i else i)) H) (tCons (tVar 2) tNil)) (tOp (rI CPow fun i j => V.int (i ^ j.toNat)) (tC (V.int 10)) (tC (V.int 18)))) tNil)))
        (tCons (tOp (rI0 fun i j => V.int (i + j)) (tOp (rI (fun _ j => 0 < j) fun i j => V.int (i % j)) (tCB (fun xs H Q => (∃ i, xs = [V.int i] ∧ Q (V.int i) H) ∨ ∃ k, xs = [V.bl k] ∧ Q (V.int (if k = true then 1 else 0)) H) (tCons (tOp (rI0 fun i j => V.int (i + j)) (tOp (rI0 fun i j => V.int (i + j))
          (tOp (rI CMul fun i j => V.int (i * j)) (tOp (rI (fun _ j => 0 < j) fun i j => V.int (i % j)) (tCB (fun xs H Q => (∃ i, xs = [V.int i] ∧ Q (V.int i) H) ∨ ∃ k, xs = [V.bl k] ∧ Q (V.int (if k = true then 1 else 0)) H) (tCons (tCB (fun xs H Q => ∃ i, xs = [V.int i] ∧ Q (V.int (if i < 0 then -i else i)) H) (tCons (tVar 2) tNil)) tNil)) (tC (V.int 2147483563))) (tC (V.int 40009)))
          (tOp (rI CMul fun i j => V.int (i * j)) (tC (V.int 61297)) (tVar 1))) (tC (V.int 17))) tNil)) (tC (V.int 2147483629))) (tC (V.int 1))) tNil))) { nx := fun _ H' => Q .non H', rt := Q } [some (.ref a), some (.int k), some (.int c)] H := fun c => by
      refine ⟨_, rfl, _, rfl, _, _, rfl, rfl, ⟨by decide, by decide, by decide⟩, _, _, rfl, rfl, _, _, rfl, ?_⟩
      refine ⟨_, rfl, _, rfl, .inl ⟨_, rfl, _, _, rfl, rfl, (by show (0 : Int) < 2147483563; decide), _, _, rfl, rfl, .inr ⟨by decide, by decide⟩, _, rfl, _, _, rfl, rfl, .inl ⟨by decide, by decide⟩, _, _, rfl, rfl, _, _, rfl, rfl, .inl ⟨_, rfl, _, _, rfl, rfl, (by show (0 : Int) < 2147483629; decide), _, _, rfl, rfl, ?_⟩⟩⟩
      refine ⟨by show 2 ≤ sizeLine; decide, fun p hp => kk p _ _ hp ?_ ?_ ?_⟩
      · split <;> omega
      · exact Int.add_nonneg (Int.emod_nonneg _ (by decide)) (by decide)
      · have := Int.emod_lt_of_pos (((if c < 0 then -c else c) % 2147483563 * 40009 + 61297 * k + 17)) (show (0 : Int) < 2147483629 by decide)
        omega
    refine ite2 (fun h => ?_) (fun h => ?_)
    · have hk : k.toNat < ns.length := by
        have := of_decide_eq_true h
        rw [List.length_map] at this
        omega
      refine ⟨_, rfl, _, rfl, a, _, k, .int (ns[k.toNat]'hk), rfl, rfl, hS, ?_, cell _⟩
      have e := atI_nat (xs := ns.map V.int) (j := k.toNat) (v := .int (ns[k.toNat]'hk)) (by rw [List.getElem?_map, List.getElem?_eq_getElem hk] <;> rfl)
      rw [Int.toNat_of_nonneg k0] at e
      exact e
    · exact ⟨_, rfl, _, _, rfl, rfl, .inl ⟨by decide, by decide⟩, cell _⟩
theorem scDraw : FnScope ["_law_pot_here", "_law_many", "_law_digit"] ["_law_pot_here", "_law_many"] (defScope sDraw) := ⟨rfl, rfl, rfl, by decide +kernel, rfl, by decide +kernel, by decide +kernel⟩
theorem ok_draw {f : Addr} {fd : FuncData} (F : FD K "_law_draw" sDraw f fd) (T : TxtP K mg) : FnOk P w K mg base CX0 1 f fd ["_law_pot_here", "_law_many"] spDraw := by
  refine F.ok scDraw (fun vs H Q E h => ?_) (fun cdv A outer s H vs Q E hr h => ?_)
  · obtain ⟨p, n, rfl, _⟩ := h
    rfl
  · obtain ⟨p, n, rfl, ⟨x, y, hp, x0, y0, y1⟩, n0, n1, kk⟩ := h
    refine ⟨_, PSs.nox (pss_cons (ps_if (pt_cmpR op_gt (pe_ix ix_list (pv 0) pe_int (fun _ _ => rfl)) pe_int (nomark _))
        (pss_cons (ps_asg (pe_callB call_divmod (by rfl) T.divmod (by decide +kernel) (pa_cons (pe_ix ix_list (pv 0) pe_int (fun _ _ => rfl)) (pa_cons (pv 1) pa_nil))) (pg_tup rfl (pgs_cons (pg_sub (pv 0) pe_int set_list) (pgs_cons (pg_name (i := 2) scDraw.nd rfl (.inl rfl)) pgs_nil))))
          (pss_one (ps_ret (pv 2)))) pss_nil)
      (pss_cons (ps_asg (pe_op op_mod (pe_callTy call_int1 (by rfl) T.int (by decide +kernel) (pa_cons (pe_op op_add (pe_op op_mul (pe_ix ix_list (pv 0) pe_int (fun _ _ => rfl)) pe_int) pe_int) pa_nil)) pe_int) (pg_sub (pv 0) pe_int set_list))
      (pss_one (ps_ret (pe_op op_mod (pe_callTy call_int1 (by rfl) T.int (by decide +kernel) (pa_cons (pe_op op_fdiv (pe_op op_mod (pe_callTy call_int1 (by rfl) T.int (by decide +kernel) (pa_cons (pe_op op_mul (pe_ix ix_list (pv 0) pe_int (fun _ _ => rfl)) (pe_ix ix_list (pv 0) pe_int (fun _ _ => rfl))) pa_nil)) pe_int) pe_int) pa_nil)) (pv 1)))))), ?_⟩
    refine ⟨_, rfl, p, _, _, .int x, rfl, rfl, SqL.of hp, rfl, _, _, rfl, rfl, _, rfl, ?_⟩
    refine ite2 (fun h => ?_) (fun h => ?_)
    · refine ⟨_, rfl, p, _, _, .int x, rfl, rfl, SqL.of hp, rfl, _, rfl, _, _, rfl, ⟨n0, n1⟩, fun t ht => ?_⟩
      have ntp : p ≠ t := ne_of_none hp ht
      refine ⟨t, _, rfl, SqT.of upd_same, rfl, ?_⟩
      refine ⟨_, _, rfl, _, rfl, p, _, _, 0, rfl, rfl, (by rw [upd_ne ntp]; exact hp), rfl, _, _, rfl, rfl, ?_⟩
      refine ⟨_, rfl, kk _ _ (Int.emod_nonneg _ (by omega)) (Int.emod_lt_of_pos _ n0) (fun b o nb e => ?_) ⟨x / n, y, upd_same, Int.ediv_nonneg x0 (by omega), y0, y1⟩⟩
      rw [upd_ne nb]
      exact same_upd ht b o e
    · refine ⟨_, rfl, p, _, _, .int y, rfl, rfl, SqL.of hp, rfl, _, _, rfl, rfl, .inr ⟨by decide, by decide⟩, _, _, rfl, rfl, .inl ⟨_, rfl, _, _, rfl, rfl, (by show (0 : Int) < 2147483587; decide), ?_⟩⟩
      refine ⟨_, rfl, p, _, _, 1, rfl, rfl, hp, rfl, ?_⟩
      have z0 : 0 ≤ (y * 44203 + 15511) % 2147483587 := Int.emod_nonneg _ (by decide)
      have z1 : (y * 44203 + 15511) % 2147483587 < 2147483587 := Int.emod_lt_of_pos _ (by decide)
      refine ⟨_, rfl, p, _, _, .int ((y * 44203 + 15511) % 2147483587), rfl, rfl, SqL.of upd_same, rfl, _, rfl, p, _, _, .int ((y * 44203 + 15511) % 2147483587), rfl, rfl, SqL.of upd_same, rfl, _, _, rfl, rfl, .inl ⟨by omega, by omega⟩,
        .inl ⟨_, rfl, _, _, rfl, rfl, (by show (0 : Int) < 2147483549; decide), _, _, rfl, rfl, ⟨by decide, by decide⟩, .inl ⟨_, rfl, _, rfl, _, _, rfl, rfl, n0, ?_⟩⟩⟩
      exact kk _ _ (Int.emod_nonneg _ (by omega)) (Int.emod_lt_of_pos _ n0) bt_upd ⟨x, _, upd_same, x0, z0, by omega⟩
theorem scPick : FnScope ["_law_pot_here", "_law_some"] ["_law_pot_here", "_law_some"] (defScope sPick) := ⟨rfl, rfl, rfl, by decide +kernel, rfl, by decide +kernel, by decide +kernel⟩
theorem ok_pick {f fd_ : Addr} {fd fdd : FuncData} (F : FD K "_law_pick" sPick f fd) (T : TxtP K mg) (GD : FnOk P w K mg base CX0 1 fd_ fdd ["_law_pot_here", "_law_many"] spDraw) (bD : Binds K fdd ["_law_pot_here", "_law_many"] []) (mD : mg "_law_draw" = some (.ref fd_)) (kD : PySem.W.keepIn K (.ref fd_) = true) :
    FnOk P w K mg base CX0 2 f fd ["_law_pot_here", "_law_some"] (spPick K) := by
  refine F.ok scPick (fun vs H Q E h => ?_) (fun cdv A outer s H vs Q E hr h => ?_)
  · obtain ⟨p, l, xs, rfl, _⟩ := h
    rfl
  · obtain ⟨p, l, xs, rfl, hP, nl, hl, l0, l1, kk⟩ := h
    refine ⟨_, PSs.nox (pss_one (ps_ret (pe_ix ix_list (pv 1) (pe_call GD hr rfl mD kD bD .nil pass0 (pa_cons (pv 0) (pa_cons (pe_callB call_len_seq (by rfl) T.len PySem.boot_len (pa_cons (pv 1) pa_nil)) pa_nil))) (fun _ _ => rfl)))), ?_⟩
    refine ⟨_, rfl, _, rfl, _, rfl, l, _, rfl, .inl (SqL.of hl), p, _, rfl, hP, by omega, by omega, fun d H' d0 d1 hb hp' => ?_⟩
    have hd : d.toNat < xs.length := by omega
    have e : xs[d.toNat]? = some (xs[d.toNat]'hd) := List.getElem?_eq_getElem hd
    refine ⟨l, xs, d, xs[d.toNat]'hd, rfl, rfl, SqL.of (hb l _ nl hl), ?_, kk d.toNat _ H' e hb hp'⟩
    have z := atI_nat e
    rw [Int.toNat_of_nonneg d0] at z
    exact z
end
/-- the def called x keeps sp -/
structure Kn (P : Program) (w : World) (K : PySem.W.Frag) (mg : Str → Option Value) (base : Heap) (k : Nat) (x : Str) (fa : Addr) (fd : FuncData) (ps : List Str) (sp : Sp) : Prop where
  f : FnOk P w K mg base CX0 k fa fd ps sp
  b : Binds K fd ps []
  m : mg x = some (.ref fa)
  k : PySem.W.keepIn K (.ref fa) = true
structure KnG (P : Program) (w : World) (K : PySem.W.Frag) (mg : Str → Option Value) (base : Heap) (k : Nat) (x : Str) (fa : Addr) (fd : FuncData) (ps : List Str) (sp : Sp) : Prop where
  f : FnG P w K mg base CX0 k fa fd ps sp
  b : Binds K fd ps []
  m : mg x = some (.ref fa)
  k : PySem.W.keepIn K (.ref fa) = true
theorem Same.free {H H' : Hp} {a : Addr} (s : Same H H') (n : H' a = none) : H a = none := by
  cases z : H a with
  | none => rfl
  | some o =>
    rw [s a o z] at n
    cases n
theorem PotAt.bt {H H' : Hp} {p : Addr} (s : Same H H') (h : PotAt H p) : PotAt H' p := by
  obtain ⟨x, y, e, r⟩ := h
  exact ⟨x, y, s _ _ e, r⟩
theorem pot_ne {H : Hp} {p q : Addr} (h : PotAt H p) (n : H q = none) : q ≠ p := fun e => by
  obtain ⟨x, y, z, _⟩ := h
  rw [e, z] at n
  cases n
theorem boot_all : bootBuiltins "all" = some (.builtin "all") := by decide +kernel
theorem all_true : ∀ n : Nat, (List.replicate n true).all id = true
  | 0 => rfl
  | n + 1 => by
    rw [List.replicate_succ, List.all_cons, all_true n] <;> rfl
theorem same_over {H H' : Hp} {l : Addr} {o : HO} (s : Same H H') (h : H l = none) : Same H (upd H' l o) := fun b u e => by
  rw [upd_ne (ne_of_none e h)]
  exact s _ _ e
def spRight : Sp := fun vs H Q _ => ∃ (p : Addr), vs = [.ref p] ∧ PotAt H p ∧ ∀ H', Bt p H H' → Q (.bl true) H'
theorem boot_len : bootBuiltins "len" = some (.builtin "len") := by decide +kernel
structure TT0 (mg : Str → Option Value) : Prop where
  rng : mg "range" = none
  enu : True
  len : mg "len" = none
abbrev s_law : Stmt := top 41
def spLaw (K : PySem.W.Frag) : Sp := fun vs H Q _ => ∃ (a : Addr) (ns : List Int), vs = [.ref a] ∧ SqL K H a (ns.map V.int) ∧ ns.length ≤ 63 ∧ ∀ H', Q (.bl true) H'
theorem sc_law : FnScope ["_law_script", "_law_k"] ["_law_script"] (defScope s_law) := ⟨rfl, rfl, rfl, by decide +kernel, rfl, by decide +kernel, by decide +kernel⟩
theorem boot_max : bootBuiltins "max" = some (.builtin "max") := by decide +kernel
theorem boot_min : bootBuiltins "min" = some (.builtin "min") := by decide +kernel
section
variable {P : Program} {w : World} {K : PySem.W.Frag} {mg : Str → Option Value} {base : Heap} {f fPO fRI : Addr} {fd dPO dRI : FuncData}
theorem ok_law (F : FD K "law" s_law f fd) (T : TT0 mg) (TA : mg "all" = none) (TM : mg "max" = none) (TN : mg "min" = none) (PO : Kn P w K mg base 1 "_law_pot" fPO dPO ["_law_script", "_law_k"] (spPot K)) (RI : KnG P w K mg base 4 "_law_right" fRI dRI ["_law_pot_here"] spRight) :
    FnG P w K mg base CX0 5 f fd ["_law_script"] (spLaw K) := by
  refine F.okG sc_law (fun vs H Q E h => ?_) (fun cdv A outer s H vs Q E hg hr h => ?_)
  · obtain ⟨a, ns, rfl, _⟩ := h
    rfl
  obtain ⟨a, ns, rfl, hS, hl, q⟩ := h
  have hG := deeper_guards (env := PyProof.Rows.envOfC "law" (defScope s_law) s.heap.objs.size f cdv) hg
  refine ⟨_, PSs.nox (pss_one (ps_ret (pe_callB (cr_all rfl) (by rfl) TA boot_all (pa_cons (pe_lc (own := [("_law_k", 1)]) (g := gName 1) (tt := tYes) rfl sc_law.nd
      (pi_range1 rfl T.rng (pa_cons (pe_callB (call_max2 rfl) (by rfl) TM boot_max (pa_cons pe_int (pa_cons (pe_callB (call_min2 rfl) (by rfl) TN boot_min (pa_cons (pe_callB call_len_seq (by rfl) T.len boot_len (pa_cons (pv 0) pa_nil)) (pa_cons pe_int pa_nil))) pa_nil))) pa_nil))
      (blkOk_by (N := ["_law_script", "_law_k"]) (sc := defScope s_law) (by decide +kernel)) (fun _ _ _ _ _ => pg_name (i := 1) sc_law.nd rfl (Or.inl rfl)) (fun _ _ _ _ _ => pts_nil)
      (fun _ _ _ _ _ => by exact (pe_callG RI.f (by exact hG) hr rfl RI.m RI.k RI.b .nil pass0 (pa_cons (pe_call PO.f (hr.mono (by decide)) rfl PO.m PO.k PO.b .nil pass0 (pa_cons (pv 0) (pa_cons (pv 1) pa_nil))) pa_nil)))) pa_nil)))), ?_⟩
  have hl' : (ns.map V.int).length ≤ 63 := by rw [List.length_map]; exact hl
  refine ⟨_, rfl, a, _, rfl, .inl hS, _, _, rfl, _, _, rfl, ?_⟩
  generalize hm : (if (6 : Int) < (((ns.map V.int).length : Nat) : Int) then (6 : Int) else (((ns.map V.int).length : Nat) : Int)) = m
  have m0 : 0 ≤ m ∧ m ≤ 6 := by
    rw [← hm]
    split <;> omega
  generalize hj : (if m > 1 then m else (1 : Int)) = j
  have j0 : 0 ≤ j ∧ j ≤ 6 := by
    rw [← hj]
    split <;> omega
  refine ⟨_, rfl, by omega, by omega, fun D hD => ?_⟩
  refine lc_range (lo := 0) (n := j.toNat) (fun i H' => Same H H' ∧ H' D = some (.lst (List.replicate i (V.bl true)))) ⟨same_upd hD, upd_same⟩ (fun i H1 hi ⟨s1, hD1⟩ => ?_) fun H1 ⟨s1, hD1⟩ => ?_
  · refine ⟨rfl, ?_⟩
    refine iteT (A := tCall spRight [] E0 (tCons (tCall (spPot K) [] E0 (tCons (tVar 0) (tCons (tVar 1) tNil))) tNil) [some (.ref a), some (.int (0 + (i : Int)))] H1 _) (B := Same H H1 ∧ H1 D = some (.lst (List.replicate (i + 1) (V.bl true)))) ?_
    refine ⟨_, rfl, _, rfl, a, ns, 0 + (i : Int), rfl, s1.seq hS, hl, by omega, by omega, fun p x y hp hx hy hy2 => ⟨p, rfl, ⟨x, y, upd_same, hx, hy, hy2⟩, fun H3 b3 => ?_⟩⟩
    have s3 : Same H1 H3 := fun b o e => by
      have n : b ≠ p := ne_of_none e hp
      exact b3 b o n (by rw [upd_ne n]; exact e)
    refine ⟨_, s3 _ _ hD1, by rw [List.length_replicate]; exact Nat.lt_of_lt_of_le (show i < 6 by omega) (show 6 ≤ sizeLine by decide), same_over (s1.trans s3) hD, ?_⟩
    rw [upd_same, List.replicate_succ']
  · refine ⟨D, List.replicate j.toNat true, rfl, SqL.of (by rw [hD1, List.map_replicate]), ?_⟩
    rw [all_true]
    exact q H1
end
end C11

end PC11
section PD11
set_option maxHeartbeats 4000000
namespace C11
open PySem L2
/-! ### what is a word, a kind, a value -/
abbrev s_is_number : Stmt := top 7
abbrev s_is_word : Stmt := top 8
abbrev s_is_kind : Stmt := top 9
abbrev s_is_value : Stmt := top 10
theorem boot_isi : bootBuiltins "isinstance" = some (.builtin "isinstance") := by decide +kernel
def strB : V → Bool
  | .str _ => true
  | _ => false
/-- isinstance tells whether x is a text -/
def AsStr (K : PySem.W.Frag) (H : Hp) (x : V) : Prop := ∃ t, TyX K H x t ∧ PySem.W.kitOne K t (.type "str") = some (strB x)
def letB (c : Nat) : Bool := decide (c < 128) && (Unicode.isAlpha c && (Unicode.isLower c && !(Unicode.isUpper c || Unicode.isTitle c)))
def wordB (z : Str) (m : Int) : Bool := decide (((z.length : Nat) : Int) ≤ m) && (Txt.isascii z && (Txt.isalpha z && Txt.islower z))
/-- one to so many letters are a word -/
theorem wordB_of {z : Str} {m : Nat} (l : 1 ≤ z.length) (k : z.length ≤ m) (h : ∀ c ∈ z.cps.toList, letB c = true) : wordB z m = true := by
  have g : ∀ c ∈ z.cps.toList, c < 128 ∧ Unicode.isAlpha c = true ∧ Unicode.isLower c = true ∧ (Unicode.isUpper c || Unicode.isTitle c) = false := fun c hc => by
    have e := h c hc
    unfold letB at e
    rw [Bool.and_eq_true, Bool.and_eq_true, Bool.and_eq_true, Bool.not_eq_true'] at e
    exact ⟨of_decide_eq_true e.1, e.2.1, e.2.2.1, e.2.2.2⟩
  have e1 : Txt.isascii z = true := by
    unfold Txt.isascii
    rw [← Array.all_toList, List.all_eq_true]
    exact fun c hc => decide_eq_true (g c hc).1
  have e2 : Txt.isalpha z = true := by
    unfold Txt.isalpha
    rw [← Array.all_toList, Bool.and_eq_true, List.all_eq_true]
    exact ⟨decide_eq_true l, fun c hc => (g c hc).2.1⟩
  have e3 : Txt.islower z = true := by
    unfold Txt.islower
    rw [← Array.any_toList, ← Array.any_toList, Bool.and_eq_true, Bool.not_eq_true', List.any_eq_true]
    refine ⟨?_, ?_⟩
    · have l' : 0 < z.cps.toList.length := by rw [Array.length_toList]; exact l
      exact ⟨z.cps.toList[0], List.getElem_mem l', (g _ (List.getElem_mem l')).2.2.1⟩
    · rw [List.any_eq_false]
      exact fun c hc => by rw [(g c hc).2.2.2]; decide
  unfold wordB
  rw [e1, e2, e3, Bool.true_and, Bool.true_and, Bool.and_true]
  exact decide_eq_true (by omega)
theorem word_asc {z : Str} {m : Nat} (h : wordB z m = true) : z.length ≤ m ∧ ∀ c ∈ z.cps.toList, c < 128 := by
  unfold wordB at h
  rw [Bool.and_eq_true, Bool.and_eq_true] at h
  have l := of_decide_eq_true h.1
  have e := h.2.1
  unfold Txt.isascii at e
  rw [← Array.all_toList, List.all_eq_true] at e
  exact ⟨by omega, fun c hc => of_decide_eq_true (e c hc)⟩
def isWd (x : V) (m : Int) : Bool := match x with
  | .str z => wordB z m
  | _ => false
structure TW (mg : Str → Option Value) : Prop where
  isi : mg "isinstance" = none
  str : mg "str" = none
  len : mg "len" = none
def spIsWord (K : PySem.W.Frag) : Sp := fun vs H Q _ => ∃ (x : V) (m : Int), vs = [x, .int m] ∧ m ≤ 1000 ∧ AsStr K H x ∧ (∀ z, x = .str z → z.length ≤ sizeLine) ∧ ∀ H', Same H H' → Q (.bl (isWd x m)) H'
theorem sc_is_word : FnScope ["value", "most"] ["value", "most"] (defScope s_is_word) := ⟨rfl, rfl, rfl, by decide +kernel, rfl, by decide +kernel, by decide +kernel⟩
section
variable {P : Program} {w : World} {K : PySem.W.Frag} {mg : Str → Option Value} {base : Heap} {f : Addr} {fd : FuncData}
theorem ok_is_word (F : FD K "is_word" s_is_word f fd) (T : TW mg) : FnOk P w K mg base CX0 1 f fd ["value", "most"] (spIsWord K) := by
  refine F.ok sc_is_word (fun vs H Q E h => ?_) (fun cdv A outer s H vs Q E hr h => ?_)
  · obtain ⟨x, m, rfl, _⟩ := h
    rfl
  obtain ⟨x, m, rfl, hm, ⟨t, ty, kt⟩, hz, q⟩ := h
  refine ⟨_, PSs.nox (pss_cons (ps_if (PW.pt (pw_or (pt_not (pt_val (pe_callB call_isi (by rfl) T.isi boot_isi (pa_cons (pv 0) (pa_cons (pe_bltn (v := .ty "str") (by rfl) T.str (by decide +kernel) rfl) pa_nil))))) (pw_or1 (pt_cmpR op_gt (pe_callB call_len_str (by rfl) T.len boot_len (pa_cons (pv 0) pa_nil)) (pv 1) (nomark _))))) (pss_one (ps_ret pe_bl)) pss_nil)
    (pss_one (ps_ret (pe_and (pe_m0 PySem.F.slot_str_isascii PySem.F.type_str_isascii mt_isascii (pv 0)) (pe_and (pe_m0 PySem.F.slot_str_isalpha PySem.F.type_str_isalpha mt_isalpha (pv 0)) (pe_one (pe_m0 PySem.F.slot_str_islower PySem.F.type_str_islower mt_islower (pv 0)))))))), ?_⟩
  refine ⟨_, rfl, x, .ty "str", t, _, _, rfl, .ty _, ty, kt, ?_⟩
  refine ⟨_, rfl, ?_⟩
  have nostr : isWd x m = false → strB x = false → Q (.bl false) H := fun e _ => by
    have z := q H (Same.refl H)
    rw [e] at z
    exact z
  cases x with
  | str z =>
    refine (show (if (!true) = true then _ else _) from ?_)
    rw [if_neg (by decide)]
    refine ⟨_, rfl, z, rfl, hz z rfl, _, rfl, _, _, rfl, rfl, _, rfl, ?_⟩
    have w := q H (Same.refl H)
    have e0 : isWd (.str z) m = (decide (((z.length : Nat) : Int) ≤ m) && (Txt.isascii z && (Txt.isalpha z && Txt.islower z))) := rfl
    rw [e0] at w
    refine ite2 (fun h1 => ?_) (fun h1 => ?_)
    · have h2 := of_decide_eq_true h1
      rw [decide_eq_false (by omega), Bool.false_and] at w
      exact w
    · have h2 := of_decide_eq_false (Bool.eq_false_iff.mpr h1)
      rw [decide_eq_true (by omega), Bool.true_and] at w
      refine ⟨_, rfl, ⟨_, rfl⟩, z, rfl, rfl, trivial, _, rfl, ?_⟩
      refine ite2 (fun a1 => ?_) (fun a1 => ?_)
      · rw [a1, Bool.true_and] at w
        refine ⟨_, rfl, ⟨_, rfl⟩, z, rfl, rfl, trivial, _, rfl, ?_⟩
        refine ite2 (fun a2 => ?_) (fun a2 => ?_)
        · rw [a2, Bool.true_and] at w
          exact ⟨_, rfl, ⟨_, rfl⟩, z, rfl, rfl, trivial, w⟩
        · rw [Bool.eq_false_iff.mpr a2, Bool.false_and] at w
          exact w
      · rw [Bool.eq_false_iff.mpr a1, Bool.false_and] at w
        exact w
  | _ => exact nostr rfl rfl
def spIsKind (K : PySem.W.Frag) : Sp := fun vs H Q _ => vs = [.str "text"] ∧ PySem.W.kitOne K (.type "str") (.type "str") = some true ∧ ∀ H', Same H H' → Q (.bl true) H'
theorem sc_is_kind : FnScope ["value"] ["value"] (defScope s_is_kind) := ⟨rfl, rfl, rfl, by decide +kernel, rfl, by decide +kernel, by decide +kernel⟩
theorem ok_is_kind (F : FD K "is_kind" s_is_kind f fd) (T : TW mg) : FnOk P w K mg base CX0 1 f fd ["value"] (spIsKind K) := by
  refine F.ok sc_is_kind (fun vs H Q E h => ?_) (fun cdv A outer s H vs Q E hr h => ?_)
  · obtain ⟨rfl, _⟩ := h
    rfl
  obtain ⟨rfl, kt, q⟩ := h
  refine ⟨_, PSs.nox (pss_one (ps_ret (pe_and (pe_callB call_isi (by rfl) T.isi boot_isi (pa_cons (pv 0) (pa_cons (pe_bltn (v := .ty "str") (by rfl) T.str (by decide +kernel) rfl) pa_nil))) (pe_one (pe_cmpR op_in_seq (pv 0) (pe_tup (pa_cons pe_str (pa_cons pe_str pa_nil))) (by rfl)))))), ?_⟩
  refine ⟨_, rfl, .str "text", .ty "str", .type "str", _, _, rfl, .ty _, .base (.str _), kt, true, rfl, ?_⟩
  refine (show (if true = true then _ else _) from ?_)
  rw [if_pos rfl]
  refine ⟨_, rfl, by show 2 ≤ sizeLine; decide, fun p hp => ?_⟩
  exact ⟨p, _, rfl, .inr (SqT.of upd_same), rfl, rfl, q _ (same_upd hp)⟩
def spIsValue (K : PySem.W.Frag) : Sp := fun vs H Q _ => ∃ (x : V), vs = [x, .str "text"] ∧ AsStr K H x ∧ (∀ z, x = .str z → z.length ≤ sizeLine) ∧ ∀ H', Same H H' → Q (.bl (isWd x 12)) H'
theorem sc_is_value : FnScope ["value", "kind"] ["value", "kind"] (defScope s_is_value) := ⟨rfl, rfl, rfl, by decide +kernel, rfl, by decide +kernel, by decide +kernel⟩
theorem tyx_same {H H' : Hp} {x : V} {t : Value} (s : Same H H') (h : TyX K H x t) : TyX K H' x t := by
  cases h with
  | base b =>
    refine .base ?_
    cases b with
    | non => exact .non
    | bl y => exact .bl y
    | int y => exact .int y
    | str y => exact .str y
    | flt y => exact .flt y
    | lst ea => exact .lst (s _ _ ea)
    | frz ea => exact .frz (s _ _ ea)
    | tup ea => exact .tup (s _ _ ea)
    | dK ea => exact .dK (s _ _ ea)
    | dT ea => exact .dT (s _ _ ea)
    | ins ea cl ha hn htk hm => exact .ins (s _ _ ea) cl ha hn htk hm
  | byt y => exact .byt y
  | set e => exact .set (s _ _ e)
  | kList e c => exact .kList e c
  | kTuple e c => exact .kTuple e c
  | kDict e c => exact .kDict e c
  | fTuple e => exact .fTuple (s _ _ e)
  | fDict e => exact .fDict (s _ _ e)
theorem asStr_same {H H' : Hp} {x : V} (s : Same H H') (h : AsStr K H x) : AsStr K H' x := by
  obtain ⟨t, a, b⟩ := h
  exact ⟨t, tyx_same s a, b⟩
def spIsNumber (K : PySem.W.Frag) : Sp := fun vs H Q _ => ∃ (x : V) (t : Value) (b1 b2 : Bool), vs = [x] ∧ TyX K H x t ∧ PySem.W.kitOne K t (.type "int") = some b1 ∧ PySem.W.kitOne K t (.type "bool") = some b2 ∧ ∀ H', Same H H' → Q (.bl (b1 && !b2)) H'
theorem sc_is_number : FnScope ["value"] ["value"] (defScope s_is_number) := ⟨rfl, rfl, rfl, by decide +kernel, rfl, by decide +kernel, by decide +kernel⟩
theorem ok_is_number (F : FD K "is_number" s_is_number f fd) (T : TW mg) (ti : mg "int" = none) (tb : mg "bool" = none) : FnOk P w K mg base CX0 1 f fd ["value"] (spIsNumber K) := by
  refine F.ok sc_is_number (fun vs H Q E h => ?_) (fun cdv A outer s H vs Q E hr h => ?_)
  · obtain ⟨x, t, b1, b2, rfl, _⟩ := h
    rfl
  obtain ⟨x, t, b1, b2, rfl, ty, k1, k2, q⟩ := h
  refine ⟨_, PSs.nox (pss_one (ps_ret (pe_and (pe_callB call_isi (by rfl) T.isi boot_isi (pa_cons (pv 0) (pa_cons (pe_bltn (v := .ty "int") (by rfl) ti (by decide +kernel) rfl) pa_nil))) (pe_one (pe_not (pe_callB call_isi (by rfl) T.isi boot_isi (pa_cons (pv 0) (pa_cons (pe_bltn (v := .ty "bool") (by rfl) tb (by decide +kernel) rfl) pa_nil)))))))), ?_⟩
  refine ⟨_, rfl, x, .ty "int", t, _, _, rfl, .ty _, ty, k1, b1, rfl, ?_⟩
  refine ite2 (fun h1 => ?_) (fun h1 => ?_)
  · refine ⟨_, rfl, x, .ty "bool", t, _, _, rfl, .ty _, ty, k2, b2, rfl, ?_⟩
    have z := q H (Same.refl H)
    rw [h1, Bool.true_and] at z
    exact z
  · have z := q H (Same.refl H)
    rw [Bool.eq_false_iff.mpr h1, Bool.false_and] at z
    exact z
structure Kv (P : Program) (w : World) (K : PySem.W.Frag) (mg : Str → Option Value) (base : Heap) (fN fW fK : Addr) (dN dW dK : FuncData) : Prop where
  n : Kn P w K mg base 1 "is_number" fN dN ["value"] (spIsNumber K)
  wo : Kn P w K mg base 1 "is_word" fW dW ["value", "most"] (spIsWord K)
  k : Kn P w K mg base 1 "is_kind" fK dK ["value"] (spIsKind K)
  s : PySem.W.kitOne K (.type "str") (.type "str") = some true
  m : ∃ t, mg "TEXT_LENGTH" = some (.int 12 t)
theorem ok_is_value {fN fW fK : Addr} {dN dW dK : FuncData} (F : FD K "is_value" s_is_value f fd) (W : Kv P w K mg base fN fW fK dN dW dK) : FnOk P w K mg base CX0 2 f fd ["value", "kind"] (spIsValue K) := by
  refine F.ok sc_is_value (fun vs H Q E h => ?_) (fun cdv A outer s H vs Q E hr h => ?_)
  · obtain ⟨x, rfl, _⟩ := h
    rfl
  obtain ⟨x, rfl, hx, hz, q⟩ := h
  obtain ⟨t, ht⟩ := W.m
  refine ⟨_, PSs.nox (pss_cons (ps_if (pt_not (pt_val (pe_call W.k.f hr rfl W.k.m W.k.k W.k.b .nil pass0 (pa_cons (pv 1) pa_nil)))) (pss_one (ps_ret pe_bl)) pss_nil)
    (pss_cons (ps_if (pt_cmpR op_eq (pv 1) pe_str (nomark _)) (pss_one (ps_ret (pe_call W.n.f hr rfl W.n.m W.n.k W.n.b .nil pass0 (pa_cons (pv 0) pa_nil)))) pss_nil)
    (pss_one (ps_ret (pe_call W.wo.f hr rfl W.wo.m W.wo.k W.wo.b .nil pass0 (pa_cons (pv 0) (pa_cons (pe_glob (v := .int 12) (by rfl) ht ⟨t, rfl⟩) pa_nil))))))), ?_⟩
  refine ⟨_, rfl, rfl, W.s, fun H1 s1 => ⟨true, rfl, ?_⟩⟩
  refine (show (if (!true) = true then _ else _) from ?_)
  rw [if_neg (by decide)]
  refine ⟨_, rfl, rfl, ?_⟩
  have e : decide (V.str "text" = V.str "number") = false := by decide +kernel
  refine ⟨_, rfl, ?_⟩
  rw [e]
  refine (show (if false = true then _ else _) from ?_)
  rw [if_neg (by decide)]
  exact ⟨_, rfl, x, 12, rfl, by decide, asStr_same s1 hx, hz, fun H2 s2 => q H2 (s1.trans s2)⟩
end
end C11

end PD11
section PM11
set_option maxHeartbeats 4000000
/-! The mathematics of pieces: what they say, their normal form. -/
namespace C11
abbrev Pc : Type := Option Int × Option Int × Option Int
def takeW (w : Option Int) (x : Int) : Int := w.getD x
def leO (x : Int) : Option Int → Bool
  | none => true
  | some e => decide (x ≤ e)
def geO (x : Int) (s : Option Int) : Prop := ∀ b, s = some b → b ≤ x
def evalP : List Pc → Int → Int
  | [], x => x
  | p :: r, x => if leO x p.2.1 = true then takeW p.2.2 x else evalP r x
def idxP : List Pc → Int → Nat
  | [], _ => 0
  | p :: r, x => if leO x p.2.1 = true then 0 else idxP r x + 1
/-- in sequence, from s on -/
def chn : Option Int → List Pc → Prop
  | _, [] => False
  | s, p :: r => p.1 = s ∧ ((p.2.1 = none ∧ r = []) ∨ ∃ e, p.2.1 = some e ∧ geO e s ∧ chn (some (e + 1)) r)
theorem leO_some {x e : Int} : leO x (some e) = true ↔ x ≤ e := decide_eq_true_iff
theorem chn_ne {s : Option Int} {l : List Pc} (h : chn s l) : l ≠ [] := by
  cases l with
  | nil => exact h.elim
  | cons p r => exact List.cons_ne_nil _ _
theorem chn_fst : ∀ {l : List Pc} {s : Option Int} {p : Pc}, chn s l → l[0]? = some p → p.1 = s
  | _ :: _, _, _, h, e => by
    cases (Option.some.inj e)
    exact h.1
theorem eval_idx : ∀ {l : List Pc} {s : Option Int} (x : Int), chn s l → ∃ p, l[idxP l x]? = some p ∧ leO x p.2.1 = true ∧ evalP l x = takeW p.2.2 x
  | p :: r, s, x, h => by
    by_cases c : leO x p.2.1 = true
    · refine ⟨p, ?_, c, ?_⟩
      · rw [idxP, if_pos c] <;> rfl
      · rw [evalP, if_pos c]
    · rcases h.2 with ⟨e, rfl⟩ | ⟨e, e1, e2, e3⟩
      · rw [e] at c
        exact absurd rfl c
      · obtain ⟨q, a1, a2, a3⟩ := eval_idx x e3
        refine ⟨q, ?_, a2, ?_⟩
        · rw [idxP, if_neg c, List.getElem?_cons_succ]
          exact a1
        · rw [evalP, if_neg c]
          exact a3
theorem idx_lt {l : List Pc} {s : Option Int} (x : Int) (h : chn s l) : idxP l x < l.length := by
  obtain ⟨p, e, _⟩ := eval_idx x h
  exact (List.getElem?_eq_some_iff.mp e).1
theorem chn_ge : ∀ {l : List Pc} {b : Int} {i : Nat} {p : Pc}, chn (some b) l → l[i]? = some p → ∃ c, p.1 = some c ∧ b ≤ c
  | q :: r, b, 0, p, h, e => by
    cases (Option.some.inj e)
    exact ⟨b, h.1, Int.le_refl _⟩
  | q :: r, b, i + 1, p, h, e => by
    have e' : r[i]? = some p := e
    rcases h.2 with ⟨_, rfl⟩ | ⟨f, f1, f2, f3⟩
    · cases e'
    · obtain ⟨c, c1, c2⟩ := chn_ge f3 e'
      have := f2 b rfl
      exact ⟨c, c1, by omega⟩
theorem idx_of : ∀ {l : List Pc} {s : Option Int} {i : Nat} {p : Pc} {x : Int}, chn s l → l[i]? = some p → geO x p.1 → leO x p.2.1 = true → idxP l x = i
  | q :: r, s, 0, p, x, h, e, g, c => by
    cases (Option.some.inj e)
    rw [idxP, if_pos c]
  | q :: r, s, i + 1, p, x, h, e, g, c => by
    have e' : r[i]? = some p := e
    rcases h.2 with ⟨_, rfl⟩ | ⟨f, f1, f2, f3⟩
    · cases e'
    · obtain ⟨d, d1, d2⟩ := chn_ge f3 e'
      have := g d d1
      rw [idxP, if_neg, idx_of f3 e' g c]
      rw [f1, leO_some]
      omega
theorem chn_next : ∀ {l : List Pc} {s : Option Int} {i : Nat} {p : Pc} {e : Int}, chn s l → l[i]? = some p → p.2.1 = some e → geO e p.1 ∧ ∃ q, l[i + 1]? = some q ∧ q.1 = some (e + 1)
  | q :: r, s, 0, p, e, h, hi, he => by
    cases (Option.some.inj hi)
    rcases h.2 with ⟨z, _⟩ | ⟨f, f1, f2, f3⟩
    · rw [z] at he
      cases he
    · rw [f1] at he
      cases he
      refine ⟨by rw [h.1]; exact f2, ?_⟩
      cases r with
      | nil => exact f3.elim
      | cons a b => exact ⟨a, rfl, f3.1⟩
  | q :: r, s, i + 1, p, e, h, hi, he => by
    have hi' : r[i]? = some p := hi
    rcases h.2 with ⟨_, rfl⟩ | ⟨f, f1, f2, f3⟩
    · cases hi'
    · obtain ⟨a, z, b, c⟩ := chn_next f3 hi' he
      exact ⟨a, z, b, c⟩
theorem chn_last : ∀ {l : List Pc} {s : Option Int} {i : Nat} {p : Pc}, chn s l → l[i]? = some p → (p.2.1 = none ↔ i + 1 = l.length)
  | q :: r, s, 0, p, h, hi => by
    cases (Option.some.inj hi)
    rcases h.2 with ⟨z, rfl⟩ | ⟨f, f1, f2, f3⟩
    · exact ⟨fun _ => rfl, fun _ => z⟩
    · refine ⟨(fun z => by rw [f1] at z; cases z), fun z => ?_⟩
      have : r = [] := List.length_eq_zero_iff.mp (by simpa using z)
      exact absurd this (chn_ne f3)
  | q :: r, s, i + 1, p, h, hi => by
    have hi' : r[i]? = some p := hi
    rcases h.2 with ⟨_, rfl⟩ | ⟨f, f1, f2, f3⟩
    · cases hi'
    · rw [chn_last f3 hi', List.length_cons]
      omega
/-- x stands in the i-th piece -/
theorem idx_next {l : List Pc} {s : Option Int} {i : Nat} {p : Pc} {e : Int} (h : chn s l) (hi : l[i]? = some p) (he : p.2.1 = some e) : idxP l (e + 1) = i + 1 ∧ ∃ q, l[i + 1]? = some q := by
  obtain ⟨g, q, hq, q1⟩ := chn_next h hi he
  refine ⟨idx_of h hq (by rw [q1]; intro b z; cases z; exact Int.le_refl _) ?_, q, hq⟩
  cases z : q.2.1 with
  | none => rfl
  | some f =>
    obtain ⟨g2, _⟩ := chn_next h hq z
    exact leO_some.mpr (g2 _ q1)
theorem leO_trans {x y : Int} {s : Option Int} (h : x ≤ y) (k : leO y s = true) : leO x s = true := by
  cases s with
  | none => rfl
  | some e =>
    have := leO_some.mp k
    exact leO_some.mpr (by omega)
theorem idx_ge : ∀ {l : List Pc} {s : Option Int} {i : Nat} {p : Pc} {x : Int}, chn s l → geO x s → l[i]? = some p → idxP l x = i → geO x p.1
  | q :: r, s, 0, p, x, h, g, e, z => by
    cases (Option.some.inj e)
    rw [h.1]
    exact g
  | q :: r, s, i + 1, p, x, h, g, e, z => by
    have e' : r[i]? = some p := e
    rcases h.2 with ⟨_, rfl⟩ | ⟨f, f1, f2, f3⟩
    · cases e'
    · rw [idxP] at z
      by_cases c : leO x q.2.1 = true
      · rw [if_pos c] at z
        cases z
      · rw [if_neg c] at z
        rw [f1, leO_some] at c
        refine idx_ge f3 (fun b hb => ?_) e' (by omega)
        cases hb
        omega
/-- further in the same piece -/
theorem idx_stay {l : List Pc} {i : Nat} {p : Pc} {x y : Int} (h : chn none l) (hi : l[i]? = some p) (z : idxP l x = i) (hxy : x ≤ y) (c : leO y p.2.1 = true) : idxP l y = i :=
  idx_of h hi (fun b hb => Int.le_trans (idx_ge h (fun b hb => nomatch hb) hi z b hb) hxy) c
theorem eval_at {l : List Pc} {s : Option Int} {i : Nat} {p : Pc} {x : Int} (h : chn s l) (hi : l[i]? = some p) (z : idxP l x = i) : evalP l x = takeW p.2.2 x ∧ leO x p.2.1 = true := by
  obtain ⟨q, a, b, c⟩ := eval_idx x h
  rw [z, hi] at a
  cases a
  exact ⟨c, b⟩
theorem idx_le {l : List Pc} {s : Option Int} {m : Nat} {p : Pc} {x : Int} (h : chn s l) (hm : l[m]? = some p) : leO x p.2.1 = true ↔ idxP l x ≤ m := by
  induction l generalizing s m with
  | nil => cases hm
  | cons q r ih =>
    cases m with
    | zero =>
      have e0 : q = p := Option.some.inj hm
      subst e0
      rw [idxP]
      by_cases c : leO x q.2.1 = true
      · rw [if_pos c]
        exact ⟨fun _ => Nat.le_refl _, fun _ => c⟩
      · rw [if_neg c]
        exact ⟨fun z => absurd z c, fun z => by omega⟩
    | succ m =>
      have hm' : r[m]? = some p := hm
      rcases h.2 with ⟨_, rfl⟩ | ⟨f, f1, f2, f3⟩
      · cases hm'
      · rw [idxP]
        by_cases c : leO x q.2.1 = true
        · rw [if_pos c]
          refine ⟨fun _ => Nat.zero_le _, fun _ => ?_⟩
          obtain ⟨d, d1, d2⟩ := chn_ge f3 hm'
          rw [f1, leO_some] at c
          cases z : p.2.1 with
          | none => rfl
          | some g =>
            obtain ⟨g1, _⟩ := chn_next f3 hm' z
            have := g1 d d1
            exact leO_some.mpr (by omega)
        · rw [if_neg c, ih f3 hm']
          omega
/-! ### normal pieces of a function -/
def wOf (f : Int → Int) (s : Int) : Option Int := if f s = s then (if f (s + 1) = s then some s else none) else some (f s)
def WOk (f : Int → Int) (s w : Option Int) : Prop := ∀ b, s = some b → w = wOf f b
/-- from s on w describes f just up to last -/
def Desc (f : Int → Int) (s w : Option Int) : Option Int → Prop
  | none => ∀ x, geO x s → f x = takeW w x
  | some e => geO e s ∧ (∀ x, geO x s → x ≤ e → f x = takeW w x) ∧ f (e + 1) ≠ takeW w (e + 1)
def Nrm (f : Int → Int) : Option Int → List Pc → Prop
  | _, [] => False
  | s, p :: r => p.1 = s ∧ WOk f s p.2.2 ∧ Desc f s p.2.2 p.2.1 ∧ match p.2.1 with
    | none => r = []
    | some e => Nrm f (some (e + 1)) r
theorem wOf_at {f : Int → Int} {s : Int} : f s = takeW (wOf f s) s := by
  unfold wOf takeW
  by_cases c : f s = s
  · rw [if_pos c]
    by_cases d : f (s + 1) = s
    · rw [if_pos d]
      exact c
    · rw [if_neg d]
      exact c
  · rw [if_neg c] <;> rfl
theorem take_two {w v : Option Int} {x : Int} (h1 : takeW w x = takeW v x) (h2 : takeW w (x + 1) = takeW v (x + 1)) : w = v := by
  unfold takeW at h1 h2
  cases w with
  | none => cases v with
    | none => rfl
    | some b =>
      simp only [Option.getD] at h1 h2
      omega
  | some a => cases v with
    | none =>
      simp only [Option.getD] at h1 h2
      omega
    | some b =>
      simp only [Option.getD] at h1
      rw [h1]
theorem desc_uniq {f : Int → Int} {s w : Option Int} : ∀ {a b : Option Int}, Desc f s w a → Desc f s w b → a = b
  | none, none, _, _ => rfl
  | none, some e, h, ⟨k1, k2, k3⟩ => absurd (h (e + 1) fun b hb => by have := k1 b hb; omega) k3
  | some e, none, ⟨k1, k2, k3⟩, h => absurd (h (e + 1) fun b hb => by have := k1 b hb; omega) k3
  | some d, some e, ⟨h1, h2, h3⟩, ⟨k1, k2, k3⟩ => by
    rcases Int.lt_trichotomy d e with q | q | q
    · exact absurd (k2 (d + 1) (fun b hb => by have := h1 b hb; omega) (by omega)) h3
    · rw [q]
    · exact absurd (h2 (e + 1) (fun b hb => by have := k1 b hb; omega) (by omega)) k3
theorem desc_low {f : Int → Int} {w : Option Int} : ∀ {a : Option Int}, Desc f none w a → ∃ e, ∀ x, x ≤ e → f x = takeW w x
  | none, h => ⟨0, fun x _ => h x fun b z => nomatch z⟩
  | some e, h => ⟨e, fun x hx => h.2.1 x (fun b z => nomatch z) hx⟩
theorem nrm_uniq {f : Int → Int} : ∀ {l m : List Pc} {s : Option Int}, Nrm f s l → Nrm f s m → l = m
  | p :: r, q :: t, s, ⟨h1, h2, h3, h4⟩, ⟨k1, k2, k3, k4⟩ => by
    have ew : p.2.2 = q.2.2 := by
      cases s with
      | some b => rw [h2 b rfl, k2 b rfl]
      | none =>
        obtain ⟨d, hd⟩ := desc_low h3
        obtain ⟨e, he⟩ := desc_low k3
        let x := (if d ≤ e then d else e) - 1
        have x1 : x + 1 ≤ d ∧ x + 1 ≤ e := by
          show (if d ≤ e then d else e) - 1 + 1 ≤ d ∧ (if d ≤ e then d else e) - 1 + 1 ≤ e
          split <;> omega
        exact take_two (x := x) ((hd x (by omega)).symm.trans (he x (by omega))) ((hd (x + 1) x1.1).symm.trans (he (x + 1) x1.2))
    have el : p.2.1 = q.2.1 := desc_uniq h3 (ew ▸ k3)
    have e0 : p = q := Prod.ext (h1.trans k1.symm) (Prod.ext el ew)
    subst e0
    cases z : p.2.1 with
    | none =>
      rw [z] at h4 k4
      rw [show r = [] from h4, show t = [] from k4]
    | some e =>
      rw [z] at h4 k4
      rw [nrm_uniq (show Nrm f (some (e + 1)) r from h4) k4]
theorem nrm_chn {f : Int → Int} : ∀ {l : List Pc} {s : Option Int}, Nrm f s l → chn s l ∧ ∀ x, geO x s → evalP l x = f x
  | p :: r, s, ⟨h1, h2, h3, h4⟩ => by
    cases z : p.2.1 with
    | none =>
      rw [z] at h3 h4
      refine ⟨⟨h1, .inl ⟨z, h4⟩⟩, fun x hx => ?_⟩
      rw [evalP, z, if_pos (show leO x none = true from rfl)]
      exact (h3 x hx).symm
    | some e =>
      rw [z] at h3 h4
      obtain ⟨c, v⟩ := nrm_chn (show Nrm f (some (e + 1)) r from h4)
      refine ⟨⟨h1, .inr ⟨e, z, h3.1, c⟩⟩, fun x hx => ?_⟩
      rw [evalP, z]
      by_cases q : x ≤ e
      · rw [if_pos (leO_some.mpr q)]
        exact (h3.2.1 x hx q).symm
      · rw [if_neg (fun t => q (leO_some.mp t))]
        refine v x fun b hb => ?_
        cases hb
        omega
end C11

end PM11
section PO11
set_option maxHeartbeats 4000000
namespace C11
open PySem PySem.Spec L2 PyProof.Rows
/-! ### pieces on the heap; is_stretch, the what of a place -/
def oV : Option Int → V
  | none => .non
  | some i => .int i
theorem oV_inj {a b : Option Int} (h : oV a = oV b) : a = b := by
  cases a <;> cases b <;> first | rfl | (cases h; done) | (cases h; rfl)
theorem oV_dec {a b : Option Int} : decide (oV a = oV b) = decide (a = b) := by
  by_cases h : a = b
  · rw [h, decide_eq_true rfl, decide_eq_true rfl]
  · rw [decide_eq_false h, decide_eq_false fun e => h (oV_inj e)]
theorem oV_none {a : Option Int} : decide (oV a = V.non) = decide (a = none) := oV_dec (b := none)
theorem oV_int {a : Option Int} {b : Int} : decide (oV a = V.int b) = decide (a = some b) := oV_dec (b := some b)
theorem scal_oV {a b : Option Int} : scal (oV a) (oV b) = true := by cases a <;> cases b <;> rfl
/-- a piece at t -/
def PcAt (H : Hp) (t : Addr) (p : Pc) : Prop := H t = some (.tup [oV p.1, oV p.2.1, oV p.2.2])
/-- pieces in a list or a tuple at L -/
def PcsAt (H : Hp) (L : Addr) (l : List Pc) : Prop := ∃ ts : List Addr, (H L = some (.lst (ts.map V.ref)) ∨ H L = some (.tup (ts.map V.ref))) ∧ Paired (PcAt H) ts l
theorem paired_at {α β : Type} {R : α → β → Prop} : ∀ {xs : List α} {ys : List β} {i : Nat} {y : β}, Paired R xs ys → ys[i]? = some y → ∃ x, xs[i]? = some x ∧ R x y
  | x :: xs, y :: ys, 0, z, .cons h _, e => by
    cases (Option.some.inj e)
    exact ⟨_, rfl, h⟩
  | x :: xs, y :: ys, i + 1, z, .cons _ t, e => paired_at (xs := xs) (ys := ys) (i := i) t e
  | [], [], _, _, .nil, e => nomatch e
theorem PcsAt.same {H H' : Hp} {L : Addr} {l : List Pc} (s : Same H H') (h : PcsAt H L l) : PcsAt H' L l := by
  obtain ⟨ts, a, b⟩ := h
  exact ⟨ts, a.imp (s _ _) (s _ _), b.mono fun t p e => s _ _ e⟩
theorem PcsAt.len {H : Hp} {L : Addr} {l : List Pc} {K : PySem.W.Frag} (h : PcsAt H L l) : ∃ xs : List V, (SqL K H L xs ∨ SqT K H L xs) ∧ xs.length = l.length := by
  obtain ⟨ts, a, b⟩ := h
  exact ⟨ts.map V.ref, a.imp SqL.of SqT.of, by rw [List.length_map, b.length]⟩
/-- pieces[i], a tuple -/
theorem ix_pc {K : PySem.W.Frag} {H : Hp} {L : Addr} {l : List Pc} {i : Nat} {p : Pc} {Q : VK} (h : PcsAt H L l) (e : l[i]? = some p) (q : ∀ t, PcAt H t p → Q (.ref t) H) : rIx K (.ref L) (.int i) H Q := by
  obtain ⟨ts, a, b⟩ := h
  obtain ⟨t, e1, e2⟩ := paired_at b e
  have e3 : (ts.map V.ref)[i]? = some (V.ref t) := by rw [List.getElem?_map, e1]; rfl
  rcases a with a | a
  · exact .inl ⟨L, _, i, _, rfl, rfl, SqL.of a, atI_nat e3, q t e2⟩
  · exact .inr (.inl ⟨L, _, i, _, rfl, rfl, SqT.of a, atI_nat e3, q t e2⟩)
theorem ix_1 {K : PySem.W.Frag} {H : Hp} {t : Addr} {p : Pc} {Q : VK} (h : PcAt H t p) (q : Q (oV p.2.1) H) : rIxT K (.ref t) (.int 1) H Q := ⟨t, _, 1, _, rfl, rfl, SqT.of h, rfl, q⟩
theorem ix_2 {K : PySem.W.Frag} {H : Hp} {t : Addr} {p : Pc} {Q : VK} (h : PcAt H t p) (q : Q (oV p.2.2) H) : rIxT K (.ref t) (.int 2) H Q := ⟨t, _, 2, _, rfl, rfl, SqT.of h, rfl, q⟩
abbrev s_is_stretch : Stmt := top 11
abbrev s_is_piece : Stmt := top 16
abbrev s_pieces : Stmt := top 17
abbrev s_what : Stmt := top 18
abbrev s_described : Stmt := top 19
abbrev s_taken : Stmt := top 20
abbrev s_around : Stmt := top 21
abbrev s_place : Stmt := top 22
def spStretch : Sp := fun vs H Q _ => ∃ (a b : Option Int), vs = [oV a, oV b] ∧ (∀ x y, a = some x → b = some y → x ≤ y) ∧ ∀ H', Same H H' → Q (.bl true) H'
theorem sc_stretch : FnScope ["first", "last"] ["first", "last"] (defScope s_is_stretch) := ⟨rfl, rfl, rfl, by decide +kernel, rfl, by decide +kernel, by decide +kernel⟩
theorem num_int {K : PySem.W.Frag} {H : Hp} {i : Int} {Q : VK} {E : XK} (q : ∀ H', Same H H' → Q (.bl true) H') : spIsNumber K [.int i] H Q E :=
  ⟨.int i, .type "int", true, false, rfl, .base (.int i), kit_ty (show kitB "int" "int" = some true by decide +kernel), kit_ty (show kitB "int" "bool" = some false by decide +kernel), q⟩
theorem foll_ok {K : PySem.W.Frag} {σ : L2.St} {H : Hp} {L : Addr} {l : List Pc} {i : Nat} {p : Pc} {b : Int} {R : VK} (e0 : σ[0]? = some (some (.ref L))) (e1 : σ[1]? = some (some (.int i))) (e2 : σ[2]? = some (some (.int b))) (e3 : σ[3]? = some (some (oV p.2.1))) (e4 : σ[4]? = some (some (oV p.2.2)))
    (hl : PcsAt H L l) (hc : chn none l) (hi : l[i]? = some p) (hb : idxP l b = i) (lb : leO b p.2.1 = true) (r : ∀ fo, evalP l (b + 1) = takeW fo (b + 1) → R (oV fo) H) :
    tIf (tOr (tB (tIsN (tVar 3))) (tTest (tOp (rI0 fun i j => V.bl (decide (j < i))) (tVar 3) (tVar 2)))) (tVar 4) (tOp (rIxT K) (tOp (rIx K) (tVar 0) (tOp (rI0 fun i j => V.int (i + j)) (tVar 1) (tC (V.int 1)))) (tC (V.int 2))) σ H R := by
  refine ⟨_, e3, _, rfl, ?_⟩
  cases hp : p.2.1 with
  | none =>
    refine (show (if decide (oV none = V.non) = true then _ else _) from ?_)
    rw [show decide (oV none = V.non) = true from decide_eq_true rfl, if_pos rfl]
    refine (show (if true = true then _ else _) from ?_)
    rw [if_pos rfl]
    exact ⟨_, e4, r _ (eval_at hc hi (idx_stay hc hi hb (by omega) (by rw [hp]; rfl))).1⟩
  | some e =>
    refine (show (if decide (oV (some e) = V.non) = true then _ else _) from ?_)
    rw [show decide (oV (some e) = V.non) = false from decide_eq_false (fun z => nomatch z), if_neg (by decide)]
    rw [hp] at e3
    refine ⟨_, e3, _, e2, e, b, rfl, rfl, _, rfl, ?_⟩
    have le : b ≤ e := by
      rw [hp] at lb
      exact leO_some.mp lb
    refine ite2 (fun h => ?_) (fun h => ?_)
    · have h' : b < e := of_decide_eq_true h
      exact ⟨_, e4, r _ (eval_at hc hi (idx_stay hc hi hb (by omega) (by rw [hp]; exact leO_some.mpr (by omega)))).1⟩
    · have h' : ¬ b < e := fun z => h (decide_eq_true z)
      have eb : e = b := by omega
      subst eb
      obtain ⟨n1, q, hq⟩ := idx_next hc hi hp
      refine ⟨_, e0, _, e1, i, 1, rfl, rfl, ?_⟩
      have ci : (V.int ((i : Int) + 1)) = V.int ((i + 1 : Nat) : Int) := rfl
      show rIx K (.ref L) (V.int ((i + 1 : Nat) : Int)) H _
      refine ix_pc hl hq fun t ht => ?_
      exact ⟨t, _, _, _, rfl, rfl, SqT.of ht, rfl, r _ (eval_at hc hq n1).1⟩
section
variable {P : Program} {w : World} {K : PySem.W.Frag} {mg : Str → Option Value} {base : Heap} {f fN : Addr} {fd dN : FuncData}
theorem ok_stretch (F : FD K "is_stretch" s_is_stretch f fd) (T : TW mg) (N : Kn P w K mg base 1 "is_number" fN dN ["value"] (spIsNumber K)) : FnOk P w K mg base CX0 2 f fd ["first", "last"] spStretch := by
  refine F.ok sc_stretch (fun vs H Q E h => ?_) (fun cdv A outer s H vs Q E hr h => ?_)
  · obtain ⟨a, b, rfl, _⟩ := h
    rfl
  obtain ⟨a, b, rfl, hab, q⟩ := h
  refine ⟨_, PSs.nox (pss_cons (ps_if (pt_cmp (pc_isN (pv 0)) rfl) (pss_one (ps_ret (pe_or (pe_cmp (pc_isN (pv 1)) rfl) (pe_one (pe_call N.f hr rfl N.m N.k N.b .nil pass0 (pa_cons (pv 1) pa_nil)))))) pss_nil)
    (pss_one (ps_ret (pe_and (pe_call N.f hr rfl N.m N.k N.b .nil pass0 (pa_cons (pv 0) pa_nil)) (pe_one (pe_or (pe_cmp (pc_isN (pv 1)) rfl) (pe_one (pe_and (pe_call N.f hr rfl N.m N.k N.b .nil pass0 (pa_cons (pv 1) pa_nil)) (pe_one (pe_cmpR op_le (pv 0) (pv 1) (nomark _))))))))))), ?_⟩
  cases a with
  | none =>
    refine ⟨_, rfl, _, rfl, ?_⟩
    refine (show (if decide (oV none = V.non) = true then _ else _) from ?_)
    rw [show decide (oV none = V.non) = true from decide_eq_true rfl, if_pos rfl]
    refine ⟨_, rfl, decide (oV b = V.non), rfl, ?_⟩
    refine ite2 (fun h => q H (Same.refl H)) (fun h => ?_)
    cases b with
    | none => exact absurd (decide_eq_true rfl) h
    | some y => exact ⟨_, rfl, num_int (E := E0) fun H1 s1 => q H1 s1⟩
  | some x =>
    refine ⟨_, rfl, _, rfl, ?_⟩
    refine (show (if decide (oV (some x) = V.non) = true then _ else _) from ?_)
    rw [show decide (oV (some x) = V.non) = false from decide_eq_false (fun z => nomatch z), if_neg (by decide)]
    refine ⟨_, rfl, .int x, .type "int", true, false, rfl, .base (.int x), kit_ty (show kitB "int" "int" = some true by decide +kernel), kit_ty (show kitB "int" "bool" = some false by decide +kernel), fun H1 s1 => ⟨true, rfl, ?_⟩⟩
    rw [if_pos rfl]
    refine ⟨_, rfl, decide (oV b = V.non), rfl, ?_⟩
    refine ite2 (fun h => q H1 s1) (fun h => ?_)
    cases b with
    | none => exact absurd (decide_eq_true rfl) h
    | some y =>
      refine ⟨_, rfl, .int y, .type "int", true, false, rfl, .base (.int y), kit_ty (show kitB "int" "int" = some true by decide +kernel), kit_ty (show kitB "int" "bool" = some false by decide +kernel), fun H2 s2 => ⟨true, rfl, ?_⟩⟩
      rw [if_pos rfl]
      refine ⟨_, rfl, _, rfl, x, y, rfl, rfl, ?_⟩
      show Q (V.bl (decide (x ≤ y))) H2
      rw [decide_eq_true (hab x y rfl rfl)]
      exact q H2 (s1.trans s2)
abbrev nWhat : List Str := ["pieces", "at", "start", "last", "what", "follower"]
theorem sc_what : FnScope nWhat ["pieces", "at", "start"] (defScope s_what) := ⟨rfl, rfl, rfl, by decide +kernel, rfl, by decide +kernel, by decide +kernel⟩
/-- what describes the function of l from s on -/
def wAt (l : List Pc) (i : Nat) : Option Int → Option Int
  | none => match l[i]? with
    | some p => p.2.2
    | none => none
  | some b => wOf (evalP l) b
/-- s stands in the i-th piece -/
def StAt (l : List Pc) (i : Nat) (s : Option Int) : Prop := (s = none → i = 0) ∧ ∀ b, s = some b → idxP l b = i
def spWhat : Sp := fun vs H Q _ => ∃ (L : Addr) (l : List Pc) (i : Nat) (s : Option Int), vs = [.ref L, .int i, oV s] ∧ PcsAt H L l ∧ chn none l ∧ i < l.length ∧ StAt l i s ∧ Q (oV (wAt l i s)) H
theorem wOf_foll {f : Int → Int} {b : Int} {fo : Option Int} (h1 : f b = b) (h2 : f (b + 1) = takeW fo (b + 1)) : wOf f b = if fo = some b then some b else none := by
  unfold wOf
  rw [if_pos h1, h2]
  cases fo with
  | none =>
    show (if b + 1 = b then some b else none) = _
    rw [if_neg (by omega), if_neg (fun z => nomatch z)]
  | some c =>
    show (if c = b then some b else none) = _
    by_cases e : c = b
    · subst e
      rw [if_pos rfl, if_pos rfl]
    · rw [if_neg e, if_neg (fun z => e (Option.some.inj z))]
theorem ok_what (F : FD K "_normal_what" s_what f fd) : FnOk P w K mg base CX0 1 f fd ["pieces", "at", "start"] spWhat := by
  refine F.ok sc_what (fun vs H Q E h => ?_) (fun cdv A outer s H vs Q E hr h => ?_)
  · obtain ⟨L, l, i, s, rfl, _⟩ := h
    rfl
  obtain ⟨L, l, i, s, rfl, hl, hc, il, hs, q⟩ := h
  refine ⟨_, PSs.nox (pss_cons (ps_par (i := 3) (j := 4) (by rfl) sc_what.nd rfl rfl (by decide) rfl rfl (pa_cons (pe_ix ix_tup (pe_ix ix_seq (pv 0) (pv 1) (fun _ _ => rfl)) pe_int (fun _ _ => rfl)) (pa_cons (pe_ix ix_tup (pe_ix ix_seq (pv 0) (pv 1) (fun _ _ => rfl)) pe_int (fun _ _ => rfl)) pa_nil)) (by rfl))
    (pss_cons (ps_if (PW.pt (pw_or (pt_cmp (pc_isN (pv 2))) (pw_or1 (PW.pt (pw_and (pt_cmp (pc_notN (pv 4))) (pw_and1 (pt_cmpR op_ne (pv 4) (pv 2) (nomark _)))))))) (pss_one (ps_ret (pv 4))) pss_nil)
    (pss_cons (ps_set (i := 5) sc_what.nd rfl (Or.inl rfl) (pe_ifExp (PW.pt (pw_or (pt_cmp (pc_isN (pv 3))) (pw_or1 (pt_cmpR op_gt (pv 3) (pv 2) (nomark _))))) (pv 4) (pe_ix ix_tup (pe_ix ix_seq (pv 0) (pe_op op_add (pv 1) pe_int) (fun _ _ => rfl)) pe_int (fun _ _ => rfl))))
    (pss_one (ps_ret (pe_ifExp (pt_cmpR op_eq (pv 5) (pv 2) (nomark _)) (pv 2) pe_non)))))), ?_⟩
  have hi : l[i]? = some (l[i]'il) := List.getElem?_eq_getElem il
  generalize l[i]'il = p at hi
  refine ⟨_, rfl, _, rfl, ix_pc hl hi fun t1 h1 => ?_⟩
  refine ⟨t1, _, _, _, rfl, rfl, SqT.of h1, rfl, _, rfl, _, rfl, ix_pc hl hi fun t2 h2 => ?_⟩
  refine ⟨t2, _, _, _, rfl, rfl, SqT.of h2, rfl, _, _, rfl, ?_⟩
  refine ⟨_, rfl, _, rfl, ?_⟩
  cases s with
  | none =>
    refine (show (if decide (oV none = V.non) = true then _ else _) from ?_)
    rw [show decide (oV none = V.non) = true from decide_eq_true rfl, if_pos rfl]
    refine (show (if true = true then _ else _) from ?_)
    rw [if_pos rfl]
    refine ⟨_, rfl, ?_⟩
    have e : wAt l i none = p.2.2 := by
      unfold wAt
      rw [hi]
    rw [e] at q
    exact q
  | some b =>
    have hb := hs.2 b rfl
    obtain ⟨fb, lb⟩ := eval_at hc hi hb
    refine (show (if decide (oV (some b) = V.non) = true then _ else _) from ?_)
    rw [show decide (oV (some b) = V.non) = false from decide_eq_false (fun z => nomatch z), if_neg (by decide)]
    refine ⟨_, rfl, _, rfl, ?_⟩
    have finish : evalP l b = b → (wAt l i (some b) = wOf (evalP l) b) := fun _ => rfl
    obtain ⟨pf, pl, pw⟩ := p
    have tail : evalP l b = b → ∀ (x y : Option V) (D : Ends), D = { nx := fun _ H' => Q .non H', rt := Q } → tSeq (tAsg (tIf (tOr (tB (tIsN (tVar 3))) (tTest (tOp (rI0 fun i j => V.bl (decide (j < i))) (tVar 3) (tVar 2)))) (tVar 4) (tOp (rIxT K) (tOp (rIx K) (tVar 0) (tOp (rI0 fun i j => V.int (i + j)) (tVar 1) (tC (V.int 1)))) (tC (V.int 2)))) (gName 5)) (tRet (tIf (tTest (tOp rEq (tVar 5) (tVar 2))) (tVar 2) (tC V.non))) D [some (.ref L), some (.int i), some (.int b), some (oV pl), some (oV pw), none] H := fun fb' x y D hD => by
      subst hD
      dsimp only [tSeq, tAsg]
      refine foll_ok (p := (pf, pl, pw)) rfl rfl rfl rfl rfl hl hc hi hb lb fun fo hfo => ?_
      have ew := wOf_foll fb' hfo
      refine ⟨_, rfl, _, rfl, scal_oV (b := some b), _, rfl, ?_⟩
      rw [oV_int]
      refine ite2 (fun h => ?_) (fun h => ?_)
      · have e : fo = some b := of_decide_eq_true h
        rw [if_pos e] at ew
        refine ⟨_, rfl, ?_⟩
        have q' : Q (oV (wOf (evalP l) b)) H := q
        rw [ew] at q'
        exact q'
      · have e : fo ≠ some b := fun z => h (decide_eq_true z)
        rw [if_neg e] at ew
        have q' : Q (oV (wOf (evalP l) b)) H := q
        rw [ew] at q'
        exact q'
    cases pw with
    | none =>
      refine (show (if (!decide (oV none = V.non)) = true then _ else _) from ?_)
      rw [show (!decide (oV none = V.non)) = false by rw [show decide (oV none = V.non) = true from decide_eq_true rfl]; rfl, if_neg (by decide)]
      refine (show (if false = true then _ else _) from ?_)
      rw [if_neg (by decide)]
      exact tail fb none none _ rfl
    | some c =>
      refine (show (if (!decide (oV (some c) = V.non)) = true then _ else _) from ?_)
      rw [show (!decide (oV (some c) = V.non)) = true by rw [show decide (oV (some c) = V.non) = false from decide_eq_false (fun z => nomatch z)]; rfl, if_pos rfl]
      refine ⟨_, rfl, _, rfl, rfl, _, rfl, ?_⟩
      by_cases e : c = b
      · subst e
        refine (show (if (!decide (oV (some c) = oV (some c))) = true then _ else _) from ?_)
        rw [show (!decide (oV (some c) = oV (some c))) = false by rw [decide_eq_true rfl]; rfl, if_neg (by decide)]
        exact tail fb none none _ rfl
      · refine (show (if (!decide (oV (some c) = oV (some b))) = true then _ else _) from ?_)
        rw [show (!decide (oV (some c) = oV (some b))) = true by rw [decide_eq_false (fun z : oV (some c) = oV (some b) => e (V.int.inj z))]; rfl, if_pos rfl]
        refine ⟨_, rfl, ?_⟩
        have ew : wOf (evalP l) b = some c := by
          unfold wOf
          have fb2 : evalP l b = c := fb
          rw [fb2, if_neg e]
        have q' : Q (oV (wOf (evalP l) b)) H := q
        rw [ew] at q'
        exact q'
end
end C11

end PO11
section PP11
set_option maxHeartbeats 4000000
namespace C11
open PySem PySem.Spec L2 PyProof.Rows
/-! ### how far a what describes -/
def spTaken : Sp := fun vs H Q _ => ∃ (o : Option Int) (x : Int), vs = [oV o, .int x] ∧ Q (.int (takeW o x)) H
theorem sc_taken : FnScope ["what", "value"] ["what", "value"] (defScope s_taken) := ⟨rfl, rfl, rfl, by decide +kernel, rfl, by decide +kernel, by decide +kernel⟩
abbrev nDescr : List Str := ["pieces", "at", "start", "what", "last", "own_what"]
theorem sc_descr : FnScope nDescr ["pieces", "at", "start", "what"] (defScope s_described) := ⟨rfl, rfl, rfl, by decide +kernel, rfl, by decide +kernel, by decide +kernel⟩
def spDescr : Sp := fun vs H Q _ => ∃ (L : Addr) (l : List Pc) (i : Nat) (s : Option Int), vs = [.ref L, .int i, oV s, oV (wAt l i s)] ∧ PcsAt H L l ∧ chn none l ∧ i < l.length ∧ StAt l i s ∧
  ∀ (last : Option Int) (j : Nat) (t : Addr) (H' : Hp), Desc (evalP l) s (wAt l i s) last → (∀ e, last = some e → idxP l (e + 1) = j ∧ i < j) → Same H H' → H' t = some (.tup [oV last, .int j]) → Q (.ref t) H'
/-- where the walk stands: at the place i, from x on; it began at the place i0, from s on -/
def DSt (l : List Pc) (s w : Option Int) (i0 i : Nat) : Option Int → Prop
  | none => i = 0 ∧ s = none ∧ i0 = 0 ∧ ∀ p, l[0]? = some p → p.2.2 = w
  | some b => idxP l b = i ∧ (∀ x, geO x s → x < b → evalP l x = takeW w x) ∧ ((s = some b ∧ i = i0 ∧ w = wOf (evalP l) b) ∨ (geO (b - 1) s ∧ i0 < i))
theorem wOf_own {f : Int → Int} {b : Int} {o : Option Int} (h1 : f b = takeW o b) (h2 : f (b + 1) = takeW o (b + 1)) : wOf f b = o := by
  unfold wOf
  rw [h1, h2]
  cases o with
  | none =>
    show (if b = b then if b + 1 = b then some b else none else some b) = none
    rw [if_pos rfl, if_neg (by omega)]
  | some c =>
    show (if c = b then if c = b then some b else none else some c) = some c
    by_cases e : c = b
    · rw [if_pos e, if_pos e, e]
    · rw [if_neg e]
section
variable {l : List Pc} {s w : Option Int} {i0 i : Nat} {p : Pc}
theorem dst_low {b : Int} (d : DSt l s w i0 i (some b)) : geO b s := by
  intro c hc
  rcases d.2.2 with ⟨e, _⟩ | ⟨g, _⟩
  · rw [e] at hc
    cases hc
    exact Int.le_refl _
  · have := g c hc
    omega
/-- into the next piece -/
theorem dst_on {st : Option Int} {e : Int} (hc : chn none l) (hi : l[i]? = some p) (he : p.2.1 = some e) (d : DSt l s w i0 i st) (ok : ∀ b, st = some b → takeW p.2.2 b = takeW w b ∧ (p.2.2 = w ∨ e = b)) : DSt l s w i0 (i + 1) (some (e + 1)) := by
  obtain ⟨n1, _⟩ := idx_next hc hi he
  cases st with
  | none =>
    obtain ⟨rfl, rfl, rfl, hw⟩ := d
    refine ⟨n1, fun x _ hx => ?_, .inr ⟨(fun b z => nomatch z), by omega⟩⟩
    have h0 : idxP l x = 0 := idx_of hc hi (by rw [chn_fst hc hi]; exact fun b z => nomatch z) (by rw [he]; exact leO_some.mpr (by omega))
    rw [(eval_at hc hi h0).1, hw p hi]
  | some b =>
    have low := dst_low d
    obtain ⟨hb, pre, alt⟩ := d
    obtain ⟨o1, o2⟩ := ok b rfl
    obtain ⟨fb, lb⟩ := eval_at hc hi hb
    rw [he, leO_some] at lb
    refine ⟨n1, fun x hx hlt => ?_, .inr ⟨fun c z => ?_, ?_⟩⟩
    · by_cases q : x < b
      · exact pre x hx q
      · by_cases q2 : x = b
        · rw [q2, fb, o1]
        · have ow : p.2.2 = w := o2.elim id fun z => by omega
          have hx' : idxP l x = i := idx_stay hc hi hb (by omega) (by rw [he]; exact leO_some.mpr (by omega))
          rw [(eval_at hc hi hx').1, ow]
    · have := low c z
      omega
    · rcases alt with ⟨_, z, _⟩ | ⟨_, z⟩ <;> omega
/-- to the end of all -/
theorem dst_end {st : Option Int} (hc : chn none l) (hi : l[i]? = some p) (he : p.2.1 = none) (d : DSt l s w i0 i st) (ow : p.2.2 = w) : Desc (evalP l) s w none := by
  cases st with
  | none =>
    obtain ⟨rfl, rfl, rfl, hw⟩ := d
    intro x _
    have h0 : idxP l x = 0 := idx_of hc hi (by rw [chn_fst hc hi]; exact fun b z => nomatch z) (by rw [he]; rfl)
    rw [(eval_at hc hi h0).1, ow]
  | some b =>
    obtain ⟨hb, pre, alt⟩ := d
    intro x hx
    by_cases q : x < b
    · exact pre x hx q
    · rw [(eval_at hc hi (idx_stay hc hi hb (by omega) (by rw [he]; rfl))).1, ow]
/-- the value ahead is the last -/
theorem dst_before {b : Int} (hc : chn none l) (hi : l[i]? = some p) (d : DSt l s w i0 i (some b)) (ne : takeW p.2.2 b ≠ takeW w b) : Desc (evalP l) s w (some (b - 1)) ∧ idxP l (b - 1 + 1) = i ∧ i0 < i := by
  obtain ⟨hb, pre, alt⟩ := d
  obtain ⟨fb, _⟩ := eval_at hc hi hb
  have eb : b - 1 + 1 = b := by omega
  rcases alt with ⟨_, _, ew⟩ | ⟨g, z⟩
  · exfalso
    apply ne
    rw [← fb, ew]
    exact wOf_at
  · exact ⟨⟨g, fun x hx hle => pre x hx (by omega), by rw [eb, fb]; exact ne⟩, by rw [eb]; exact hb, z⟩
/-- this value is the last -/
theorem dst_here {b : Int} (hc : chn none l) (hi : l[i]? = some p) (d : DSt l s w i0 i (some b)) (nw : p.2.2 ≠ w) (eq : takeW p.2.2 b = takeW w b) (nl : p.2.1 ≠ some b) : Desc (evalP l) s w (some b) ∧ idxP l (b + 1) = i ∧ i0 < i := by
  have low := dst_low d
  obtain ⟨hb, pre, alt⟩ := d
  obtain ⟨fb, lb⟩ := eval_at hc hi hb
  have l1 : leO (b + 1) p.2.1 = true := by
    cases z : p.2.1 with
    | none => rfl
    | some e =>
      rw [z, leO_some] at lb
      rw [z] at nl
      have : e ≠ b := fun q => nl (by rw [q])
      exact leO_some.mpr (by omega)
  have h1 := idx_stay hc hi hb (show b ≤ b + 1 by omega) l1
  have f1 := (eval_at hc hi h1).1
  rcases alt with ⟨_, _, ew⟩ | ⟨g, z⟩
  · exact absurd ((wOf_own fb f1).symm.trans ew.symm) nw
  · refine ⟨⟨low, fun x hx hle => ?_, fun q => nw (take_two eq (f1.symm.trans q))⟩, h1, z⟩
    by_cases q : x < b
    · exact pre x hx q
    · have : x = b := by omega
      rw [this, fb, eq]
end
section
variable {P : Program} {w : World} {K : PySem.W.Frag} {mg : Str → Option Value} {base : Heap} {f fT : Addr} {fd dT : FuncData}
theorem ok_taken (F : FD K "_taken" s_taken f fd) : FnOk P w K mg base CX0 1 f fd ["what", "value"] spTaken := by
  refine F.ok sc_taken (fun vs H Q E h => ?_) (fun cdv A outer s H vs Q E hr h => ?_)
  · obtain ⟨o, x, rfl, _⟩ := h
    rfl
  obtain ⟨o, x, rfl, q⟩ := h
  refine ⟨_, PSs.nox (pss_one (ps_ret (pe_ifExp (pt_cmp (pc_isN (pv 0))) (pv 1) (pv 0)))), ?_⟩
  refine ⟨_, rfl, _, rfl, ?_⟩
  cases o with
  | none =>
    refine (show (if decide (oV none = V.non) = true then _ else _) from ?_)
    rw [show decide (oV none = V.non) = true from decide_eq_true rfl, if_pos rfl]
    exact ⟨_, rfl, q⟩
  | some c =>
    refine (show (if decide (oV (some c) = V.non) = true then _ else _) from ?_)
    rw [show decide (oV (some c) = V.non) = false from decide_eq_false (fun z => nomatch z), if_neg (by decide)]
    exact ⟨_, rfl, q⟩
theorem ok_described (F : FD K "_described" s_described f fd) (TK : Kn P w K mg base 1 "_taken" fT dT ["what", "value"] spTaken) : FnOk P w K mg base CX0 2 f fd ["pieces", "at", "start", "what"] spDescr := by
  refine F.ok sc_descr (fun vs H Q E h => ?_) (fun cdv A outer s H vs Q E hr h => ?_)
  · obtain ⟨L, l, i, s, rfl, _⟩ := h
    rfl
  obtain ⟨L, l, i0, s0, rfl, hl, hc, il, hs, q⟩ := h
  refine ⟨_, PSs.nox (pss_one (ps_while PassesOwn.never (pt_val pe_bl)
    (pss_cons (ps_par (i := 4) (j := 5) (by rfl) sc_descr.nd rfl rfl (by decide) rfl rfl (pa_cons (pe_ix ix_tup (pe_ix ix_seq (pv 0) (pv 1) (fun _ _ => rfl)) pe_int (fun _ _ => rfl)) (pa_cons (pe_ix ix_tup (pe_ix ix_seq (pv 0) (pv 1) (fun _ _ => rfl)) pe_int (fun _ _ => rfl)) pa_nil)) (by rfl))
    (pss_cons (ps_if (pt_cmpR op_ne (pv 5) (pv 3) (nomark _))
      (pss_cons (ps_if (pt_cmpR op_ne (pe_call TK.f hr rfl TK.m TK.k TK.b .nil pass0 (pa_cons (pv 5) (pa_cons (pv 2) pa_nil))) (pe_call TK.f hr rfl TK.m TK.k TK.b .nil pass0 (pa_cons (pv 3) (pa_cons (pv 2) pa_nil))) (nomark _)) (pss_one (ps_ret (pe_tup (pa_cons (pe_op op_sub (pv 2) pe_int) (pa_cons (pv 1) pa_nil))))) pss_nil)
      (pss_one (ps_if (pt_cmpR op_ne (pv 4) (pv 2) (nomark _)) (pss_one (ps_ret (pe_tup (pa_cons (pv 2) (pa_cons (pv 1) pa_nil))))) pss_nil))) pss_nil)
    (pss_cons (ps_if (pt_cmp (pc_isN (pv 4))) (pss_one (ps_ret (pe_tup (pa_cons pe_non (pa_cons (pv 1) pa_nil))))) pss_nil)
    (pss_cons (ps_aug (i := 1) sc_descr.nd rfl (Or.inl rfl) pe_int ip_add)
    (pss_one (ps_set (i := 2) sc_descr.nd rfl (Or.inl rfl) (pe_op op_add (pv 4) pe_int))))))))), ?_⟩
  generalize hw : wAt l i0 s0 = w0 at q
  have d0 : DSt l s0 w0 i0 i0 s0 := by
    cases s0 with
    | none =>
      have z := hs.1 rfl
      subst z
      refine ⟨rfl, rfl, rfl, fun p hp => ?_⟩
      rw [← hw]
      unfold wAt
      rw [hp]
    | some b => exact ⟨hs.2 b rfl, fun x hx hlt => absurd hlt (by have := hx b rfl; omega), .inl ⟨rfl, rfl, hw.symm⟩⟩
  refine ⟨fun m σ' H' => ∃ (i : Nat) (st : Option Int) (x y : Option V), σ' = [some (.ref L), some (.int i), some (oV st), some (oV w0), x, y] ∧ H' = H ∧ DSt l s0 w0 i0 i st ∧ i < l.length ∧ m = l.length - i, ⟨l.length - i0, i0, s0, none, none, rfl, rfl, d0, il, rfl⟩, ?_⟩
  rintro m σ' H' ⟨i, st, x, y, rfl, rfl, d, il', rfl⟩
  refine ⟨true, rfl, ?_⟩
  refine (show (if true = true then _ else _) from ?_)
  rw [if_pos rfl]
  refine ⟨fun σ2 H2 => ∃ (st2 : Option Int) (x y : Option V), σ2 = [some (.ref L), some (.int (i + 1 : Nat)), some (oV st2), some (oV w0), x, y] ∧ H2 = H' ∧ DSt l s0 w0 i0 (i + 1) st2 ∧ i + 1 < l.length, fun σ2 H2 ⟨st2, x, y, a, b, c, e⟩ => ⟨l.length - (i + 1), by omega, i + 1, st2, x, y, a, b, c, e, rfl⟩, ?_⟩
  have hi : l[i]? = some (l[i]'il') := List.getElem?_eq_getElem il'
  generalize l[i]'il' = p at hi
  refine ⟨_, rfl, _, rfl, ix_pc hl hi fun t1 h1 => ?_⟩
  refine ⟨t1, _, _, _, rfl, rfl, SqT.of h1, rfl, _, rfl, _, rfl, ix_pc hl hi fun t2 h2 => ?_⟩
  refine ⟨t2, _, _, _, rfl, rfl, SqT.of h2, rfl, _, _, rfl, ?_⟩
  obtain ⟨pf, pl, pw⟩ := p
  refine ⟨_, rfl, _, rfl, scal_oV, _, rfl, ?_⟩
  rw [oV_dec]
  by_cases ow : pw = w0
  · rw [show (!decide (pw = w0)) = false by rw [decide_eq_true ow]; rfl]
    refine (show (if false = true then _ else _) from ?_)
    rw [if_neg (by decide)]
    -- on, or the end
    refine ⟨_, rfl, _, rfl, ?_⟩
    cases hpl : pl with
    | none =>
      refine (show (if decide (oV none = V.non) = true then _ else _) from ?_)
      rw [show decide (oV none = V.non) = true from decide_eq_true rfl, if_pos rfl]
      subst hpl
      refine ⟨_, rfl, by show 2 ≤ sizeLine; decide, fun t ht => ?_⟩
      exact q none i t _ (dst_end hc hi rfl d ow) (fun e z => nomatch z) (same_upd ht) upd_same
    | some e =>
      refine (show (if decide (oV (some e) = V.non) = true then _ else _) from ?_)
      rw [show decide (oV (some e) = V.non) = false from decide_eq_false (fun z => nomatch z), if_neg (by decide)]
      subst hpl
      refine ⟨_, rfl, i, 1, rfl, rfl, ?_⟩
      refine ⟨_, rfl, e, 1, rfl, rfl, ?_⟩
      exact ⟨some (e + 1), _, _, rfl, rfl, dst_on hc hi rfl d (fun b _ => ⟨by rw [show pw = w0 from ow], .inl ow⟩), (List.getElem?_eq_some_iff.mp (idx_next hc hi rfl).2.choose_spec).1⟩
  · rw [show (!decide (pw = w0)) = true by rw [decide_eq_false ow]; rfl]
    refine (show (if true = true then _ else _) from ?_)
    rw [if_pos rfl]
    obtain ⟨b, rfl⟩ : ∃ b, st = some b := by
      cases st with
      | none => exact absurd (d.2.2.2 _ (by rw [← d.1]; exact hi)) ow
      | some b => exact ⟨b, rfl⟩
    refine ⟨_, rfl, _, rfl, pw, b, rfl, _, rfl, _, rfl, w0, b, rfl, rfl, _, rfl, ?_⟩
    by_cases eq : takeW pw b = takeW w0 b
    · refine (show (if (!decide (V.int (takeW pw b) = V.int (takeW w0 b))) = true then _ else _) from ?_)
      rw [show (!decide (V.int (takeW pw b) = V.int (takeW w0 b))) = false by rw [decide_eq_true (by rw [eq])]; rfl, if_neg (by decide)]
      refine ⟨_, rfl, _, rfl, scal_oV (b := some b), _, rfl, ?_⟩
      by_cases nl : pl = some b
      · refine (show (if (!decide (oV pl = oV (some b))) = true then _ else _) from ?_)
        rw [oV_dec, show (!decide (pl = some b)) = false by rw [decide_eq_true nl]; rfl, if_neg (by decide)]
        -- on, or the end
        refine ⟨_, rfl, _, rfl, ?_⟩
        cases hpl : pl with
        | none =>
          refine (show (if decide (oV none = V.non) = true then _ else _) from ?_)
          rw [show decide (oV none = V.non) = true from decide_eq_true rfl, if_pos rfl]
          subst hpl
          refine ⟨_, rfl, by show 2 ≤ sizeLine; decide, fun t ht => ?_⟩
          exact q none i t _ (by cases nl) (fun e z => nomatch z) (same_upd ht) upd_same
        | some e =>
          refine (show (if decide (oV (some e) = V.non) = true then _ else _) from ?_)
          rw [show decide (oV (some e) = V.non) = false from decide_eq_false (fun z => nomatch z), if_neg (by decide)]
          subst hpl
          refine ⟨_, rfl, i, 1, rfl, rfl, ?_⟩
          refine ⟨_, rfl, e, 1, rfl, rfl, ?_⟩
          exact ⟨some (e + 1), _, _, rfl, rfl, dst_on hc hi rfl d (fun c hcb => by cases hcb; exact ⟨eq, .inr (Option.some.inj nl)⟩), (List.getElem?_eq_some_iff.mp (idx_next hc hi rfl).2.choose_spec).1⟩
      · refine (show (if (!decide (oV pl = oV (some b))) = true then _ else _) from ?_)
        rw [oV_dec, show (!decide (pl = some b)) = true by rw [decide_eq_false nl]; rfl, if_pos rfl]
        obtain ⟨c1, c2, c3⟩ := dst_here hc hi d ow eq nl
        refine ⟨_, rfl, _, rfl, by show 2 ≤ sizeLine; decide, fun t ht => ?_⟩
        exact q (some b) i t _ c1 (fun e z => by cases z; exact ⟨c2, c3⟩) (same_upd ht) upd_same
    · refine (show (if (!decide (V.int (takeW pw b) = V.int (takeW w0 b))) = true then _ else _) from ?_)
      rw [show (!decide (V.int (takeW pw b) = V.int (takeW w0 b))) = true by rw [decide_eq_false (fun z => eq (V.int.inj z))]; rfl, if_pos rfl]
      obtain ⟨c1, c2, c3⟩ := dst_before hc hi d eq
      refine ⟨_, rfl, b, 1, rfl, rfl, _, rfl, by show 2 ≤ sizeLine; decide, fun t ht => ?_⟩
      exact q (some (b - 1)) i t _ c1 (fun e z => by cases z; exact ⟨c2, c3⟩) (same_upd ht) upd_same
end
end C11

end PP11
section PQ11
set_option maxHeartbeats 4000000
namespace C11
open PySem PySem.Spec L2 PyProof.Rows
/-! ### the normal pieces of some pieces -/
abbrev nPieces : List Str := ["pieces", "found", "start", "at", "what", "last"]
theorem sc_pieces : FnScope nPieces ["pieces"] (defScope s_pieces) := ⟨rfl, rfl, rfl, by decide +kernel, rfl, by decide +kernel, by decide +kernel⟩
/-- a tuple of pieces at t -/
def TupAt (H : Hp) (t : Addr) (l : List Pc) : Prop := ∃ ts : List Addr, H t = some (.tup (ts.map V.ref)) ∧ Paired (PcAt H) ts l
theorem TupAt.same {H H' : Hp} {t : Addr} {l : List Pc} (s : Same H H') (h : TupAt H t l) : TupAt H' t l := by
  obtain ⟨ts, a, b⟩ := h
  exact ⟨ts, s _ _ a, b.mono fun t p e => s _ _ e⟩
theorem TupAt.pcs {H : Hp} {t : Addr} {l : List Pc} (h : TupAt H t l) : PcsAt H t l := by
  obtain ⟨ts, a, b⟩ := h
  exact ⟨ts, .inr a, b⟩
def spPieces : Sp := fun vs H Q _ => ∃ (L : Addr) (l : List Pc), vs = [.ref L] ∧ PcsAt H L l ∧ chn none l ∧ l.length ≤ 1000 ∧ ∀ (t : Addr) (n : List Pc) (H' : Hp), Nrm (evalP l) none n → n.length ≤ l.length → Same H H' → TupAt H' t n → Q (.ref t) H'
section
variable {P : Program} {w : World} {K : PySem.W.Frag} {mg : Str → Option Value} {base : Heap} {f fW fD : Addr} {fd dW dD : FuncData}
theorem ok_pieces (F : FD K "_normal_pieces" s_pieces f fd) (tt : mg "tuple" = none) (W : Kn P w K mg base 1 "_normal_what" fW dW ["pieces", "at", "start"] spWhat) (D : Kn P w K mg base 2 "_described" fD dD ["pieces", "at", "start", "what"] spDescr) : FnOk P w K mg base CX0 3 f fd ["pieces"] spPieces := by
  refine F.ok sc_pieces (fun vs H Q E h => ?_) (fun cdv A outer s H vs Q E hr h => ?_)
  · obtain ⟨L, l, rfl, _⟩ := h
    rfl
  obtain ⟨L, l, rfl, hl, hc, hlen, q⟩ := h
  refine ⟨_, PSs.nox (pss_cons (ps_set (i := 1) sc_pieces.nd rfl (Or.inl rfl) (pe_lst pa_nil))
    (pss_cons (ps_asg (pe_tup (pa_cons pe_non (pa_cons pe_int pa_nil))) (pg_tup (by rfl) (pgs_cons (pg_name (i := 2) sc_pieces.nd rfl (Or.inl rfl)) (pgs_cons (pg_name (i := 3) sc_pieces.nd rfl (Or.inl rfl)) pgs_nil))))
    (pss_one (ps_while PassesOwn.never (pt_val pe_bl)
      (pss_cons (ps_set (i := 4) sc_pieces.nd rfl (Or.inl rfl) (pe_call W.f (hr.mono (by decide)) rfl W.m W.k W.b .nil pass0 (pa_cons (pv 0) (pa_cons (pv 3) (pa_cons (pv 2) pa_nil)))))
      (pss_cons (ps_asg (pe_call D.f hr rfl D.m D.k D.b .nil pass0 (pa_cons (pv 0) (pa_cons (pv 3) (pa_cons (pv 2) (pa_cons (pv 4) pa_nil))))) (pg_tup (by rfl) (pgs_cons (pg_name (i := 5) sc_pieces.nd rfl (Or.inl rfl)) (pgs_cons (pg_name (i := 3) sc_pieces.nd rfl (Or.inl rfl)) pgs_nil))))
      (pss_cons (ps_expr (pe_bm PySem.F.plainAttrs_list PySem.F.slot_list_append PySem.F.type_list_append mt_append (pv 1) (pa_cons (pe_tup (pa_cons (pv 2) (pa_cons (pv 5) (pa_cons (pv 4) pa_nil)))) pa_nil)))
      (pss_cons (ps_if (pt_cmp (pc_isN (pv 5))) (pss_one (ps_ret (pe_callTy call_tuple_of (by rfl) tt (by decide +kernel) (pa_cons (pv 1) pa_nil)))) pss_nil)
      (pss_one (ps_set (i := 2) sc_pieces.nd rfl (Or.inl rfl) (pe_op op_add (pv 5) pe_int))))))))))), ?_⟩
  refine ⟨Nat.zero_le _, fun g hg => ⟨by show 2 ≤ sizeLine; decide, fun c hcc => ⟨c, _, rfl, SqT.of upd_same, rfl, _, _, rfl, _, _, rfl, rfl, ?_⟩⟩⟩
  have sg : Same H (upd (upd H g (.lst [])) c (.tup [.non, .int 0])) := (same_upd hg).trans (same_upd hcc)
  have hg1 : (upd (upd H g (.lst [])) c (.tup [.non, .int 0])) g = some (.lst []) := by rw [upd_ne (ne_of_none upd_same hcc), upd_same]
  generalize upd (upd H g (.lst [])) c (.tup [.non, .int 0]) = H1 at sg hg1
  refine ⟨fun m σ' H' => ∃ (i : Nat) (st : Option Int) (ts : List Addr) (acc : List Pc) (x y : Option V), σ' = [some (.ref L), some (.ref g), some (oV st), some (.int i), x, y] ∧ Same H H' ∧ H' g = some (.lst (ts.map V.ref)) ∧ Paired (PcAt H') ts acc ∧ StAt l i st ∧ i < l.length ∧ acc.length ≤ i ∧ (∀ r, Nrm (evalP l) st r → Nrm (evalP l) none (acc ++ r)) ∧ m = l.length - i,
    ⟨l.length, 0, none, [], [], none, none, rfl, sg, hg1, .nil, ⟨fun _ => rfl, fun b z => nomatch z⟩, List.length_pos_iff.mpr (chn_ne hc), Nat.le_refl _, fun r hr => hr, rfl⟩, ?_⟩
  rintro m σ' H2 ⟨i, st, ts, acc, x, y, rfl, s2, hg2, pr, hs, il, al, hn, rfl⟩
  refine ⟨true, rfl, ?_⟩
  refine (show (if true = true then _ else _) from ?_)
  rw [if_pos rfl]
  refine ⟨fun σ' H' => ∃ (j : Nat) (st : Option Int) (ts : List Addr) (acc : List Pc) (x y : Option V), i < j ∧ σ' = [some (.ref L), some (.ref g), some (oV st), some (.int j), x, y] ∧ Same H H' ∧ H' g = some (.lst (ts.map V.ref)) ∧ Paired (PcAt H') ts acc ∧ StAt l j st ∧ j < l.length ∧ acc.length ≤ j ∧ (∀ r, Nrm (evalP l) st r → Nrm (evalP l) none (acc ++ r)),
    fun σ' H' ⟨j, st, ts, acc, x, y, ij, a1, a2, a3, a4, a5, a6, a7, a8⟩ => ⟨l.length - j, by omega, j, st, ts, acc, x, y, a1, a2, a3, a4, a5, a6, a7, a8, rfl⟩, ?_⟩
  refine ⟨_, rfl, _, rfl, _, rfl, L, l, i, st, rfl, hl.same s2, hc, il, hs, ?_⟩
  refine ⟨_, rfl, _, rfl, _, rfl, _, rfl, L, l, i, st, rfl, hl.same s2, hc, il, hs, fun last j t H3 hD hj s3 e3 => ?_⟩
  refine ⟨t, _, rfl, SqT.of e3, rfl, _, _, rfl, _, _, rfl, rfl, ?_⟩
  have hg3 := s3 _ _ hg2
  have wok : WOk (evalP l) st (wAt l i st) := fun b z => by rw [z]; rfl
  refine ⟨_, rfl, .inl ⟨rfl, _, SqL.of hg3⟩, _, rfl, _, rfl, _, rfl, by show 3 ≤ sizeLine; decide, fun p hp => ?_⟩
  have s4 := same_upd (o := HO.tup [oV st, oV last, oV (wAt l i st)]) hp
  have hg4 := s4 _ _ hg3
  have hp4 : (upd H3 p (.tup [oV st, oV last, oV (wAt l i st)])) p = some (.tup [oV st, oV last, oV (wAt l i st)]) := upd_same
  have pr4 := pr.mono fun t p e => s4 _ _ (s3 _ _ e)
  have z4 := (s2.trans s3).trans s4
  generalize upd H3 p (.tup [oV st, oV last, oV (wAt l i st)]) = H4 at s4 hg4 hp4 pr4 z4 ⊢
  have tl : ts.length = acc.length := pr.length
  refine ⟨g, _, _, rfl, rfl, hg4, by rw [List.length_map, tl]; exact Nat.lt_of_le_of_lt (show _ ≤ 1000 by omega) (by decide), ?_⟩
  have keep : ∀ a xs, H4 a = some (HO.tup xs) → (upd H4 g (.lst (ts.map V.ref ++ [.ref p]))) a = some (HO.tup xs) := fun a xs e => by
    have n : a ≠ g := fun z => by
      rw [z, hg4] at e
      cases e
    rw [upd_ne n]
    exact e
  have z5 : Same H (upd H4 g (.lst (ts.map V.ref ++ [.ref p]))) := same_over z4 hg
  have hg5 : (upd H4 g (.lst (ts.map V.ref ++ [.ref p]))) g = some (.lst ((ts ++ [p]).map V.ref)) := by rw [upd_same, List.map_append]; rfl
  have pr5 : Paired (PcAt (upd H4 g (.lst (ts.map V.ref ++ [.ref p])))) (ts ++ [p]) (acc ++ [(st, last, wAt l i st)]) := (pr4.mono fun t q e => keep _ _ e).snoc (keep _ _ hp4)
  generalize upd H4 g (.lst (ts.map V.ref ++ [.ref p])) = H5 at z5 hg5 pr5 ⊢
  refine ⟨_, rfl, _, rfl, ?_⟩
  cases last with
  | none =>
    refine (show (if decide (oV none = V.non) = true then _ else _) from ?_)
    rw [show decide (oV none = V.non) = true from decide_eq_true rfl, if_pos rfl]
    refine ⟨_, rfl, g, _, rfl, .inl ⟨SqL.of hg5, fun u hu => ?_⟩⟩
    have s6 := same_upd (o := HO.tup ((ts ++ [p]).map V.ref)) hu
    refine q u _ _ (hn [(st, none, wAt l i st)] ⟨rfl, wok, hD, rfl⟩) ?_ (z5.trans s6) ⟨ts ++ [p], upd_same, pr5.mono fun t q e => s6 _ _ e⟩
    rw [List.length_append, List.length_singleton]
    omega
  | some e =>
    refine (show (if decide (oV (some e) = V.non) = true then _ else _) from ?_)
    rw [show decide (oV (some e) = V.non) = false from decide_eq_false (fun z => nomatch z), if_neg (by decide)]
    obtain ⟨hj1, hj2⟩ := hj e rfl
    refine ⟨_, rfl, e, 1, rfl, rfl, ?_⟩
    refine ⟨j, some (e + 1), ts ++ [p], acc ++ [(st, some e, wAt l i st)], _, _, hj2, rfl, z5, hg5, pr5, ⟨fun z => (nomatch z), fun b z => by cases z; exact hj1⟩, by rw [← hj1]; exact idx_lt _ hc, ?_, fun r hr' => ?_⟩
    · rw [List.length_append, List.length_singleton]
      omega
    · rw [List.append_assoc]
      exact hn ((st, some e, wAt l i st) :: r) ⟨rfl, wok, hD, hr'⟩
end
end C11

end PQ11
section PE7
set_option maxHeartbeats 4000000
/-! Raising an exception of an own class over any of the bases, and what its suite asks of it. -/
namespace L2
open PySem PySem.Spec PyProof.Rows
/-- C(e, ..), made to be raised -/
def tXr (C : Addr) (n : Nat) (sp : Sp) (gV : List V → List V → List V) (t : TA) : St → Hp → XK → Prop := fun σ H Q => t σ H fun vs H1 => vs.length = n ∧ ∀ a, H1 a = none → sp (gV (.ref a :: vs) []) (upd H1 a (exo a C none))
  (fun v H2 => v = .non ∧ ∃ (d : Addr) (fs : List (Str × V)), H2 a = some (exo a C (some d)) ∧ H2 d = some (exd d fs) ∧ H1 d = none ∧ Q (.ref C) (some d) (upd (del H2 a) d (.xd fs))) E0
section
variable {X : Cx} {CX : CXT} {k n : Nat} {fI C : Addr} {fd : FuncData} {ps : List Str} {sp : Sp} {x : Str} {p pos : Pos} {e : Expr} {es : List Expr} {t : TA} {g : List Value → List Value → List Value} {gV : List V → List V → List V}
theorem pmk_xe (T : XC X.K C) (iC : PySem.W.findIn X.K (.ref C) "__init__" = some (some (.ref fI))) (tI : PySem.W.typeIn X.K (.ref fI) = some (.type "function"))
    (F : FnOk X.prog X.w X.K X.mg X.base CX k fI fd ps sp) (hr : Room (k + 1) X.A) (hb : KBn X.K fd ps (n + 1) [] g gV) (hx : Passes CX X E0) (hn : n ≤ 1000) (hg : Gl X x) (hm : X.mg x = some (.ref C)) (ha : PA X (e :: es) t)
    (hdb : (x == ("__debug__" : Str)) = false := by decide) (he : starEach (e :: es) X.env = (false, eval e X.env) :: starEach es X.env := by rfl) (hpl : (backTo pos (starEach es X.env)).any (·.1) = false := by rfl) :
    PMk X (.Call (.Name x p) (e :: es) [] pos) (tXr C n sp gV t) := by
  intro pins s σ H Q I h
  obtain ⟨B, newId, initId, tl, nm, q, N, bs, bm, sn, sub, ab, col, dd, k0, k1, k2, k3, k5, BX, hC, hbm⟩ := T.cls
  refine wpAny_Call_Name_kw (ld_glob I hg hm ?_ hdb)
  refine PySem.W.callWith_K (h₀ := X.base) I.ok.mod.kin T.kC (thn (ha.run pos pins s σ H _ I h) fun us s1 ⟨vs, H1, I1, r1, q1⟩ => ⟨I1.kIn, ?_⟩) he hpl
  obtain ⟨l1, q2⟩ := q1
  show wpAny _ _ (call (.ref C) us) _ _ _
  obtain ⟨hp, gs, dr, tk', os⟩ := s1
  have hsz : hp.objs.size ≤ hp.objs.size + 1 := Nat.le_succ _
  have hn1 : H1 (hp.objs.size + 1) = none := I1.hok.fresh hsz
  have hq := q2 (hp.objs.size + 1) hn1
  have kk : ∀ b o, hp.get? b = some o → ((hp.push (PySem.W.kdv_tup us)).push (PySem.HandSPX.excO C hp.objs.size)).get? b = some o := fun b o e => Heap.get?_push_of_some _ (Heap.get?_push_of_some _ e)
  have hget : ((hp.push (PySem.W.kdv_tup us)).push (PySem.HandSPX.excO C hp.objs.size)).get? (hp.objs.size + 1) = some (PySem.HandSPX.excO C hp.objs.size) := by heap_get
  have I2 : Inv X pins σ (upd H1 (hp.objs.size + 1) (exo (hp.objs.size + 1) C none)) ⟨(hp.push (PySem.W.kdv_tup us)).push (PySem.HandSPX.excO C hp.objs.size), gs, dr, tk', os⟩ :=
    I1.laid (t' := tk') (a := hp.objs.size + 1) (o := exo (hp.objs.size + 1) C none) (h' := (hp.push (PySem.W.kdv_tup us)).push (PySem.HandSPX.excO C hp.objs.size)) kk hsz (exo_ok hget)
  have r3 : Vals (V.ref (hp.objs.size + 1) :: vs) (Value.ref (hp.objs.size + 1) :: us) := .cons rfl r1
  have r2 := hb.rel (zs := []) (ws := []) r3 .nil
  have e1 : (Value.ref (hp.objs.size + 1) :: us).length = n + 1 := r3.length.symm.trans (congrArg Nat.succ l1)
  have hus : us.length ≤ sizeLine := by
    rw [← r1.length, l1]
    exact Nat.le_trans hn (by decide)
  refine wpAny_call (PySem.EXV.call_kw BX.F (fun Y => PySem.W.excTail_contains Y bm hbm) (I1.kIn _ _ hC) (PySem.W.looks_findIn I1.kIn iC) (fun self => PySem.W.bind_fn I1.kIn self tI) hus
    (codeAny_mono (F.run _ X.stack _ _ ⟨Value.ref (hp.objs.size + 1) :: us, []⟩ (g (Value.ref (hp.objs.size + 1) :: us) []) _ _ E0 (hr.make C us []) (I2.env0.make C us []) (hb.to _ (Value.ref (hp.objs.size + 1) :: us) [] I2.kIn e1 rfl) r2 hq) fun r s' hq' => ?_))
  cases r with
  | error er => exact hx pins σ _ _ er s' I2 hq'
  | ok fl =>
    cases fl with
    | ret u =>
      obtain ⟨v, H2, os2, bare2, un2, hok2, rv, ev, d, fs, ea, ed, hd1, q3⟩ := hq'
      subst ev
      obtain ⟨h2, g2, d2, t2, os'⟩ := s'
      exact ⟨rv, mk_end (raises_own T.exC T.tyC) I1 hsz kk un2 hok2 os2 bare2 ea ed hd1 q3⟩
    | next => exact False.elim hq'
    | brk => exact False.elim hq'
    | cont => exact False.elim hq'
end
theorem XC.xf {K : PySem.W.Frag} {C : Addr} (T : XC K C) : XfC K C := ⟨T.ga, T.gg, T.exC, T.hd⟩
/-- isinstance(e, c), e the exception that the suite holds, its dict at d -/
def rIsF (K : PySem.W.Frag) (a : Addr) (cls : Value) (d : Option Addr) : List V → Hp → VK → Prop := fun xs H Q => ∃ (C dd : Addr) (fs : List (Str × V)) (c : V) (u : Value) (b : Bool), xs = [.ref a, c] ∧ ClsV c u ∧ XC K C ∧ cls = .ref C ∧ d = some dd ∧ H dd = some (.xd fs) ∧ PySem.W.kitOne K (.ref C) u = some b ∧ Q (.bl b) H
theorem call_isF {X : Cx} {a : Addr} {cls : Value} {d : Option Addr} {oe : Obj} {pn : List (Addr × Obj)} (hz : Zc cls d oe) (hf : ∃ vs, oe.data = .fields vs) : CallR (X.suite a ((a, oe) :: pn)) (.builtin "isinstance") (rIsF X.K a cls d) := by
  intro pins s σ H xs us Q I r h
  obtain ⟨C, dd, fs, c, u, b, rfl, k, T, ec, ed, ea, e, q⟩ := h
  obtain ⟨u1, u2, rfl, r1, r2⟩ := vals2 r
  have e2 := k.eq r2
  subst e2
  cases (show u1 = Value.ref a from r1)
  subst ec
  subst ed
  obtain ⟨hget, _⟩ := I.pin (a, oe) (List.mem_append.mpr (.inl List.mem_cons_self))
  obtain ⟨vs, hv⟩ := hf
  have hx : ObjOk X.prog X.w H s.heap dd (.xd fs) := I.hok dd _ ea
  obtain ⟨mA, ⟨od, es, ep, e1, hds, hre⟩, rel⟩ := hx
  have J : PySem.W.InstAt s.heap a oe C (some od) := ⟨hget, hz.1, by unfold PySem.W.notCls; rw [hv] <;> rfl, by rw [hz.2]; exact e1⟩
  exact PySem.W.kia_one (PySem.W.kitx_exc (od := some od) T.isCls T.ga T.gg T.exC T.ha T.hn T.ht T.hm) I.kIn J e (fun z => nomatch z) fun tk => ⟨.bl b, H, I.tok tk, rfl, q⟩
theorem takes_no {X : Cx} : Takes X (fun _ _ _ _ => False) := fun u s' h => by
  obtain ⟨_, _, _, _, _, _, _, _, _, _, _, _, _, _, _, _, w⟩ := h
  exact w.elim
end L2

end PE7
section PR11
set_option maxHeartbeats 4000000
namespace C11
open PySem PySem.Spec L2 PyProof.Rows
/-! ### a piece is judged; NumberMap(pieces) -/
theorem boot_isi2 : bootBuiltins "isinstance" = some (.builtin "isinstance") := by decide +kernel
abbrev nPiece : List Str := ["pieces", "position", "piece", "first", "last", "what"]
theorem sc_piece : FnScope nPiece ["pieces", "position"] (defScope s_is_piece) := ⟨rfl, rfl, rfl, by decide +kernel, rfl, by decide +kernel, by decide +kernel⟩
def spPiece : Sp := fun vs H Q _ => ∃ (L : Addr) (l : List Pc) (i : Nat), vs = [.ref L, .int i] ∧ PcsAt H L l ∧ chn none l ∧ i < l.length ∧ ∀ H', Same H H' → Q (.bl true) H'
theorem chn_prev {l : List Pc} {s : Option Int} {i : Nat} {p : Pc} (h : chn s l) (hi : l[i + 1]? = some p) : ∃ q e, l[i]? = some q ∧ q.2.1 = some e ∧ p.1 = some (e + 1) := by
  have il : i + 1 < l.length := (List.getElem?_eq_some_iff.mp hi).1
  have hq : l[i]? = some (l[i]'(by omega)) := List.getElem?_eq_getElem (by omega)
  generalize l[i]'(by omega) = q at hq
  cases z : q.2.1 with
  | none =>
    have := (chn_last h hq).mp z
    omega
  | some e =>
    obtain ⟨_, r, hr, r1⟩ := chn_next h hq z
    rw [hi] at hr
    cases hr
    exact ⟨q, e, hq, z, r1⟩
theorem or_num {K : PySem.W.Frag} {σ : L2.St} {H : Hp} {i : Nat} {o : Option Int} (e : σ[i]? = some (some (oV o))) (R : Bool → Hp → Prop) (r : ∀ H2, Same H H2 → R true H2) : tOr (tB (tIsN (tVar i))) (tB (tCall (spIsNumber K) [] E0 (tCons (tVar i) tNil))) σ H R := by
  refine ⟨_, e, _, rfl, ?_⟩
  cases o with
  | none =>
    refine (show (if decide (oV none = V.non) = true then _ else _) from ?_)
    rw [show decide (oV none = V.non) = true from decide_eq_true rfl, if_pos rfl]
    exact r H (Same.refl H)
  | some c =>
    refine (show (if decide (oV (some c) = V.non) = true then _ else _) from ?_)
    rw [show decide (oV (some c) = V.non) = false from decide_eq_false (fun z => nomatch z), if_neg (by decide)]
    refine ⟨_, e, ?_⟩
    exact ⟨.int c, .type "int", true, false, rfl, .base (.int c), kit_ty (show kitB "int" "int" = some true by decide +kernel), kit_ty (show kitB "int" "bool" = some false by decide +kernel), fun H2 s2 => ⟨true, rfl, r H2 s2⟩⟩
section
variable {P : Program} {w : World} {K : PySem.W.Frag} {mg : Str → Option Value} {base : Heap} {f fS fN fP fI C CI : Addr} {fd dS dN dP dI : FuncData}
theorem ok_piece (F : FD K "_is_piece" s_is_piece f fd) (T : TW mg) (tt : mg "tuple" = none) (S : Kn P w K mg base 2 "is_stretch" fS dS ["first", "last"] spStretch) (N : Kn P w K mg base 1 "is_number" fN dN ["value"] (spIsNumber K)) : FnOk P w K mg base CX0 3 f fd ["pieces", "position"] spPiece := by
  refine F.ok sc_piece (fun vs H Q E h => ?_) (fun cdv A outer s H vs Q E hr h => ?_)
  · obtain ⟨L, l, i, rfl, _⟩ := h
    rfl
  obtain ⟨L, l, i, rfl, hl, hc, il, q⟩ := h
  refine ⟨_, PSs.nox (pss_cons (ps_set (i := 2) sc_piece.nd rfl (Or.inl rfl) (pe_ix ix_seq (pv 0) (pv 1) (fun _ _ => rfl)))
    (pss_cons (ps_if (PW.pt (pw_or (pt_not (pt_val (pe_callB call_isi (by rfl) T.isi boot_isi (pa_cons (pv 2) (pa_cons (pe_bltn (v := .ty "tuple") (by rfl) tt (by decide +kernel) rfl) pa_nil))))) (pw_or1 (pt_cmpR op_ne (pe_callB call_len_seq (by rfl) T.len boot_len (pa_cons (pv 2) pa_nil)) pe_int (nomark _))))) pss_never pss_nil)
    (pss_cons (ps_asg (pv 2) (pg_tup (by rfl) (pgs_cons (pg_name (i := 3) sc_piece.nd rfl (Or.inl rfl)) (pgs_cons (pg_name (i := 4) sc_piece.nd rfl (Or.inl rfl)) (pgs_cons (pg_name (i := 5) sc_piece.nd rfl (Or.inl rfl)) pgs_nil)))))
    (pss_cons (ps_if (PW.pt (pw_or (pt_not (pt_val (pe_call S.f hr rfl S.m S.k S.b .nil pass0 (pa_cons (pv 3) (pa_cons (pv 4) pa_nil))))) (pw_or1 (pt_not (PW.pt (pw_or (pt_cmp (pc_isN (pv 5))) (pw_or1 (pt_val (pe_call N.f (hr.mono (by decide)) rfl N.m N.k N.b .nil pass0 (pa_cons (pv 5) pa_nil)))))))))) pss_never pss_nil)
    (pss_cons (ps_if (pt_cmpR op_ne (pe_cmp (pc_isN (pv 4)) rfl) (pe_cmpR op_eq (pv 1) (pe_op op_sub (pe_callB call_len_seq (by rfl) T.len boot_len (pa_cons (pv 0) pa_nil)) pe_int) (nomark _)) (nomark _)) pss_never pss_nil)
    (pss_cons (ps_if (pt_cmpR op_eq (pv 1) pe_int (nomark _)) (pss_one (ps_ret (pe_cmp (pc_isN (pv 3)) rfl))) pss_nil)
    (pss_one (ps_ret (pe_cmpR op_eq (pv 3) (pe_op op_add (pe_ix ix_tup (pe_ix ix_seq (pv 0) (pe_op op_sub (pv 1) pe_int) (fun _ _ => rfl)) pe_int (fun _ _ => rfl)) pe_int) (nomark _)))))))))), ?_⟩
  have hi : l[i]? = some (l[i]'il) := List.getElem?_eq_getElem il
  generalize l[i]'il = p at hi
  refine ⟨_, rfl, _, rfl, ix_pc hl hi fun t ht => ?_⟩
  refine ⟨_, rfl, .ref t, .ty "tuple", .type "tuple", _, true, rfl, .ty _, .base (.tup ht), kit_ty (by decide +kernel), true, rfl, ?_⟩
  refine (show (if (!true) = true then _ else _) from ?_)
  rw [if_neg (by decide)]
  refine ⟨_, rfl, t, _, rfl, .inr (SqT.of ht), rfl, false, ?_, ?_⟩
  · show V.bl (!decide (V.int ((([oV p.1, oV p.2.1, oV p.2.2] : List V).length : Nat) : Int) = V.int 3)) = V.bl false
    rw [decide_eq_true (by rfl)] <;> rfl
  refine (show (if false = true then _ else _) from ?_)
  rw [if_neg (by decide)]
  refine ⟨_, rfl, t, _, rfl, SqT.of ht, rfl, _, _, rfl, _, _, rfl, _, _, rfl, rfl, ?_⟩
  refine ⟨_, rfl, _, rfl, p.1, p.2.1, rfl, fun x y hx hy => (chn_next hc hi hy).1 x hx, fun H1 s1 => ⟨true, rfl, ?_⟩⟩
  refine (show (if (!true) = true then _ else _) from ?_)
  rw [if_neg (by decide)]
  refine or_num (i := 5) rfl _ fun H2 s2 => ?_
  refine (show (if (!true) = true then _ else _) from ?_)
  rw [if_neg (by decide)]
  have z2 := s1.trans s2
  obtain ⟨xs, hx, hxl⟩ := (hl.same z2).len (K := K)
  refine ⟨_, rfl, _, rfl, _, rfl, L, xs, rfl, hx, _, _, rfl, rfl, rfl, rfl, false, ?_, ?_⟩
  · show V.bl (!decide (V.bl (decide (oV p.2.1 = V.non)) = V.bl (decide (V.int i = V.int ((xs.length : Int) - 1))))) = V.bl false
    have e1 : decide (oV p.2.1 = V.non) = decide (V.int (i : Int) = V.int ((xs.length : Int) - 1)) := by
      rw [oV_none]
      refine decide_eq_decide.mpr ((chn_last hc hi).trans ⟨fun z => ?_, fun z => ?_⟩)
      · rw [hxl, ← z]
        exact congrArg V.int (by omega)
      · have := V.int.inj z
        omega
    rw [e1, decide_eq_true rfl] <;> rfl
  refine (show (if false = true then _ else _) from ?_)
  rw [if_neg (by decide)]
  refine ⟨_, rfl, rfl, _, rfl, ?_⟩
  refine ite2 (fun h => ?_) (fun h => ?_)
  · have e0 : i = 0 := by
      have := V.int.inj (of_decide_eq_true h)
      omega
    subst e0
    refine ⟨_, rfl, ?_⟩
    have ef : p.1 = none := chn_fst hc hi
    show Q (V.bl (decide (oV p.1 = V.non))) H2
    rw [ef, show decide (oV none = V.non) = true from decide_eq_true rfl]
    exact q _ z2
  · have i0 : i ≠ 0 := fun z => h (decide_eq_true (by rw [z]; rfl))
    obtain ⟨k, rfl⟩ : ∃ k, i = k + 1 := ⟨i - 1, by omega⟩
    obtain ⟨r, e, hr', re, pe⟩ := chn_prev hc hi
    refine ⟨_, rfl, _, rfl, _, rfl, ((k + 1 : Nat) : Int), 1, rfl, rfl, ?_⟩
    show rIx K (.ref L) (V.int (((k + 1 : Nat) : Int) - 1)) H2 _
    rw [show (((k + 1 : Nat) : Int) - 1) = ((k : Nat) : Int) by omega]
    refine ix_pc (hl.same z2) hr' fun t2 ht2 => ?_
    refine ⟨t2, _, _, _, rfl, rfl, SqT.of ht2, rfl, ?_⟩
    rw [re]
    refine ⟨e, 1, rfl, rfl, ?_⟩
    rw [pe]
    refine ⟨rfl, ?_⟩
    show Q (V.bl (decide (V.int (e + 1) = V.int (e + 1)))) H2
    rw [decide_eq_true rfl]
    exact q _ z2
end
end C11

end PR11
section PS11
set_option maxHeartbeats 4000000
namespace C11
open PySem L2
/-! ### the object of a map of numbers; NumberMap(pieces) -/
def inCls (s : Stmt) (i : Nat) : Stmt := match s with
  | .ClassDef _ _ _ body .. => body.getD i (.Pass ⟨0, 0, 0, 0⟩)
  | _ => .Pass ⟨0, 0, 0, 0⟩
abbrev FM (K : PySem.W.Frag) (x q : Str) (st : Stmt) (f : Addr) (fd : FuncData) : Prop := FunD K x q (defArgs st) (defBody st) (defScope st) [] [] f fd
abbrev s_initIV : Stmt := inCls (top 3) 0
abbrev s_initIM : Stmt := inCls (top 4) 0
abbrev s_ninit : Stmt := inCls (top 14) 1
abbrev s_nsame : Stmt := inCls (top 14) 2
abbrev s_nconst : Stmt := inCls (top 14) 3
abbrev s_ncut : Stmt := inCls (top 14) 4
abbrev s_nreset : Stmt := inCls (top 14) 5
abbrev s_npieces : Stmt := inCls (top 14) 6
abbrev s_nrepr : Stmt := inCls (top 14) 8
abbrev s_nresult : Stmt := inCls (top 14) 9
abbrev s_ncontent : Stmt := match top 14 with
  | .ClassDef _ _ _ body .. => body.getLastD (.Pass ⟨0, 0, 0, 0⟩)
  | _ => .Pass ⟨0, 0, 0, 0⟩
abbrev s_kind : Stmt := inCls (top 13) 1
abbrev s_mat : Stmt := inCls (top 13) 2
abbrev s_meq : Stmt := inCls (top 13) 8
def spXI (K : PySem.W.Frag) (f : Str) : Sp := fun vs H Q _ => ∃ (a C : Addr) (y : V), vs = [.ref a, y] ∧ XC K C ∧ PySem.W.findIn K (.ref C) f = some none ∧ H a = some (exo a C none) ∧ ∀ dx, H dx = none → dx ≠ a → Q .non (upd (upd H dx (exd dx [(f, y)])) a (exo a C (some dx)))
theorem sc_initIV : FnScope ["self", "value"] ["self", "value"] (defScope s_initIV) := ⟨rfl, rfl, rfl, by decide +kernel, rfl, by decide +kernel, by decide +kernel⟩
theorem sc_initIM : FnScope ["self", "position"] ["self", "position"] (defScope s_initIM) := ⟨rfl, rfl, rfl, by decide +kernel, rfl, by decide +kernel, by decide +kernel⟩
/-- what is known of the exception classes -/
structure XcO (P : Program) (w : World) (K : PySem.W.Frag) (mg : Str → Option Value) (base : Heap) (C fI : Addr) (dI : FuncData) (xn f : Str) : Prop where
  x : XC K C
  i : PySem.W.findIn K (.ref C) "__init__" = some (some (.ref fI))
  t : PySem.W.typeIn K (.ref fI) = some (.type "function")
  m : mg xn = some (.ref C)
  no : PySem.W.findIn K (.ref C) f = some none
  g : FnOk P w K mg base CX0 1 fI dI ["self", f] (spXI K f)
  b : KBn K dI ["self", f] 2 [] (fun us _ => us) (fun us _ => us)
theorem xraise {K : PySem.W.Frag} {σ : St} {H : Hp} {i : Nat} {C : Addr} {f : Str} {y : V} (T : XC K C) (no : PySem.W.findIn K (.ref C) f = some none) (h : σ[i]? = some (some y)) {Q : XK} (q : ∀ dx H2, Same H H2 → H2 dx = some (.xd [(f, y)]) → Q (.ref C) (some dx) H2) :
    tXr C 1 (spXI K f) (fun us _ => us) (tCons (tVar i) tNil) σ H Q :=
  ⟨y, h, rfl, fun a ha => ⟨a, C, y, rfl, T, no, upd_same, fun dx hd ne => by
    have hx : H dx = none := by rw [← hd, upd_ne ne]
    refine ⟨rfl, dx, _, upd_same, by rw [upd_ne ne, upd_same], hx, q dx _ (fun b o e => ?_) upd_same⟩
    have hb : b ≠ a := ne_of_none e ha
    have hc : b ≠ dx := ne_of_none e hx
    rw [upd_ne hc, del_ne hb, upd_ne hb, upd_ne hc, upd_ne hb]
    exact e⟩⟩
section
variable {P : Program} {w : World} {K : PySem.W.Frag} {mg : Str → Option Value} {base : Heap} {f : Addr} {fd : FuncData}
theorem ok_initIV (F : FM K "__init__" "InvalidValue.__init__" s_initIV f fd) : FnOk P w K mg base CX0 1 f fd ["self", "value"] (spXI K "value") := by
  refine F.ok sc_initIV (fun vs H Q E h => ?_) (fun cdv A outer s H vs Q E hr h => ?_)
  · obtain ⟨a, C, y, rfl, _⟩ := h
    rfl
  obtain ⟨a, C, y, rfl, T, no, e, q⟩ := h
  exact ⟨_, PSs.nox (pss_one (ps_xst (pv 0) (pv 1))), _, rfl, _, rfl, a, C, rfl, T, no, .inl ⟨e, q⟩⟩
theorem ok_initIM (F : FM K "__init__" "InvalidMap.__init__" s_initIM f fd) : FnOk P w K mg base CX0 1 f fd ["self", "position"] (spXI K "position") := by
  refine F.ok sc_initIM (fun vs H Q E h => ?_) (fun cdv A outer s H vs Q E hr h => ?_)
  · obtain ⟨a, C, y, rfl, _⟩ := h
    rfl
  obtain ⟨a, C, y, rfl, T, no, e, q⟩ := h
  exact ⟨_, PSs.nox (pss_one (ps_xst (pv 0) (pv 1))), _, rfl, _, rfl, a, C, rfl, T, no, .inl ⟨e, q⟩⟩
end
structure NMc (K : PySem.W.Frag) (C : Addr) : Prop where
  cl : Cls K C
  nP : NoAttr K C "_pieces"
/-- at m: a map of numbers of the class at C with these normal pieces -/
def NMap (C : Addr) (H : Hp) (m : Addr) (n : List Pc) : Prop := ∃ dx u, H m = some (.ins C dx [("_pieces", .ref u)]) ∧ TupAt H u n
theorem NMap.same {C : Addr} {H H' : Hp} {m : Addr} {n : List Pc} (s : Same H H') (h : NMap C H m n) : NMap C H' m n := by
  obtain ⟨dx, u, a, b⟩ := h
  exact ⟨dx, u, s _ _ a, b.same s⟩
def spNInit (C : Addr) : Sp := fun vs H Q _ => ∃ (m dx L : Addr) (l : List Pc), vs = [.ref m, .ref L] ∧ H m = some (.ins C dx []) ∧ PcsAt H L l ∧ chn none l ∧ l.length ≤ 1000 ∧
  ∀ H' u n, Nrm (evalP l) none n → n.length ≤ l.length → H' m = some (.ins C dx [("_pieces", .ref u)]) → TupAt H' u n → Bt m H H' → Q .non H'
theorem sc_ninit : FnScope ["self", "pieces", "position"] ["self", "pieces"] (defScope s_ninit) := ⟨rfl, rfl, rfl, by decide +kernel, rfl, by decide +kernel, by decide +kernel⟩
section
variable {P : Program} {w : World} {K : PySem.W.Frag} {mg : Str → Option Value} {base : Heap} {f fN fP : Addr} {fd dN dP : FuncData}
theorem ok_ninit (F : FM K "__init__" "NumberMap.__init__" s_ninit f fd) (T : TW mg) (tt : mg "tuple" = none) (tl : mg "list" = none) (tr : mg "range" = none) {C : Addr} (N : NMc K C) (IP : Kn P w K mg base 3 "_is_piece" fP dP ["pieces", "position"] spPiece) (NP : Kn P w K mg base 3 "_normal_pieces" fN dN ["pieces"] spPieces) :
    FnOk P w K mg base CX0 4 f fd ["self", "pieces"] (spNInit C) := by
  refine F.ok sc_ninit (fun vs H Q E h => ?_) (fun cdv A outer s H vs Q E hr h => ?_)
  · obtain ⟨m, dx, L, l, rfl, _⟩ := h
    rfl
  obtain ⟨m, dx, L, l, rfl, hm, hl, hc, hlen, q⟩ := h
  refine ⟨_, PSs.nox (pss_cons (ps_if (PW.pt (pw_or (pt_not (pt_val (pe_callB call_isiT (by rfl) T.isi boot_isi (pa_cons (pv 1) (pa_cons (pe_tup (pa_cons (pe_bltn (v := .ty "list") (by rfl) tl (by decide +kernel) rfl) (pa_cons (pe_bltn (v := .ty "tuple") (by rfl) tt (by decide +kernel) rfl) pa_nil))) pa_nil))))) (pw_or1 (pt_cmpR op_eq (pe_callB call_len_seq (by rfl) T.len boot_len (pa_cons (pv 1) pa_nil)) pe_int (nomark _))))) pss_never pss_nil)
    (pss_cons (ps_for .never (by rfl) (pi_range1 rfl tr (pa_cons (pe_callB call_len_seq (by rfl) T.len boot_len (pa_cons (pv 1) pa_nil)) pa_nil)) (pg_name (i := 2) sc_ninit.nd rfl (Or.inl rfl)) (pss_one (ps_if (pt_not (pt_val (pe_call IP.f hr rfl IP.m IP.k IP.b .nil pass0 (pa_cons (pv 1) (pa_cons (pv 2) pa_nil))))) pss_never pss_nil)))
    (pss_one (ps_fld (pv 0) (pe_call NP.f hr rfl NP.m NP.k NP.b .nil pass0 (pa_cons (pv 1) pa_nil)) rfl)))), ?_⟩
  refine ⟨_, rfl, by show 2 ≤ sizeLine; decide, fun p hp' => ?_⟩
  have s1 : Same H (upd H p (.tup [.ty "list", .ty "tuple"])) := same_upd hp'
  have e1 : PySem.W.kitOne K (.type "list") (.type "list") = some true := kit_ty (by decide +kernel)
  have e2 : PySem.W.kitOne K (.type "tuple") (.type "list") = some false := kit_ty (by decide +kernel)
  have e3 : PySem.W.kitOne K (.type "tuple") (.type "tuple") = some true := kit_ty (by decide +kernel)
  have hp1 : (upd H p (.tup [.ty "list", .ty "tuple"])) p = some (.tup [.ty "list", .ty "tuple"]) := upd_same
  have hm1 := s1 _ _ hm
  have hl1 := hl.same s1
  generalize upd H p (.tup [.ty "list", .ty "tuple"]) = H1 at s1 hp1 hm1 hl1 ⊢
  have isok : ∃ t, TyX K H1 (.ref L) t ∧ PySem.W.kitAny K t [.type "list", .type "tuple"] = some true := by
    obtain ⟨ts, a, _⟩ := hl1
    rcases a with a | a
    · refine ⟨_, .base (.lst a), ?_⟩
      show (match PySem.W.kitOne K (.type "list") (.type "list") with | some true => some true | some false => (match PySem.W.kitOne K (.type "list") (.type "tuple") with | some true => some true | some false => some false | none => none) | none => none) = some true
      rw [e1]
    · refine ⟨_, .base (.tup a), ?_⟩
      show (match PySem.W.kitOne K (.type "tuple") (.type "list") with | some true => some true | some false => (match PySem.W.kitOne K (.type "tuple") (.type "tuple") with | some true => some true | some false => some false | none => none) | none => none) = some true
      rw [e2, e3]
  obtain ⟨t, ty, kt⟩ := isok
  refine ⟨.ref L, p, _, t, [.type "list", .type "tuple"], true, rfl, hp1, .cons (.ty _) (.cons (.ty _) .nil), ty, kt, true, rfl, ?_⟩
  refine (show (if (!true) = true then _ else _) from ?_)
  rw [if_neg (by decide)]
  obtain ⟨xs, hx, hxl⟩ := hl1.len (K := K)
  have l0 : 0 < l.length := List.length_pos_iff.mpr (chn_ne hc)
  refine ⟨_, rfl, L, xs, rfl, hx, rfl, false, ?_, ?_⟩
  · show V.bl (decide (V.int (xs.length : Int) = V.int 0)) = V.bl false
    rw [decide_eq_false (by intro e; have := V.int.inj e; omega)]
  refine (show (if false = true then _ else _) from ?_)
  rw [if_neg (by decide)]
  refine ⟨_, rfl, L, xs, rfl, hx, _, rfl, (by omega), (by omega), ?_⟩
  refine for_range (lo := 0) (n := xs.length) (fun i σ' H' => (∃ x : Option V, σ' = [some (.ref m), some (.ref L), x]) ∧ Same H1 H') ⟨⟨none, rfl⟩, Same.refl _⟩ (fun i σ' H2 hi ⟨⟨x, e⟩, z⟩ => ?_) (fun σ' H2 ⟨⟨x, e⟩, z⟩ => ?_)
  · subst e
    refine ⟨_, rfl, _, rfl, L, l, i, ?_, hl1.same z, hc, by omega, fun H3 s3 => ⟨true, rfl, ?_⟩⟩
    · rw [Int.zero_add] <;> rfl
    refine (show (if (!true) = true then _ else _) from ?_)
    rw [if_neg (by decide)]
    exact ⟨⟨_, rfl⟩, z.trans s3⟩
  · subst e
    refine ⟨_, rfl, L, l, rfl, hl1.same z, hc, hlen, fun u n H3 hn hle s3 tu => ?_⟩
    refine ⟨_, rfl, m, C, dx, _, rfl, s3 _ _ (z _ _ hm1), N.cl, N.nP, by decide, ?_⟩
    have nu : ∀ c xs, H3 c = some (HO.tup xs) → (upd H3 m (.ins C dx [("_pieces", .ref u)])) c = some (HO.tup xs) := fun c xs e => by
      have n : c ≠ m := fun y => by
        rw [y, s3 _ _ (z _ _ hm1)] at e
        cases e
      rw [upd_ne n]
      exact e
    refine q _ u n hn hle upd_same ?_ fun b o nb eb => ?_
    · obtain ⟨ts, a, b⟩ := tu
      exact ⟨ts, nu _ _ a, b.mono fun t p e => nu _ _ e⟩
    · rw [upd_ne nb]
      exact s3 _ _ (z _ _ (s1 _ _ eb))
end
end C11

end PS11
section PG11
set_option maxHeartbeats 4000000
/-! a == b and a != b by an own __eq__, both answers; repr(a) by an own __repr__. -/
namespace PySem.W
open PySem PySem.Calls PyProof.Rows Builtin
section
variable {prog : Program} {w : World} {A : Around} {E : Value → Shared → Prop} {s : Shared} {K : Frag} {x C f : Addr} {ox : Obj} {od : Option Obj} {b tb : Value}
/-- a != b where the class has an own __eq__ alone -/
theorem cmp_notEq {Q : Value → Shared → Prop} (hu : A.units + 1 < cLine) (X : K.In s.heap) (I : InstAt s.heap x ox C od) (hb : Looks (model prog w) s.heap (typeOf b) tb) (hn : notFirst K C tb = true) (hne : findIn K (.ref C) "__ne__" = some (some (.builtin "object.__ne__")))
    (hob : mroIn K C (.type "object") = some true) (hs : findIn K (.ref C) "__eq__" = some (some (.ref f))) (hf : isFn K (.ref f) = true) (h : wpAny (model prog w) A.in1 (call (.ref f) [.ref x, b]) (fun v s' => ∃ k, v = .bool k ∧ Q (.bool (!k)) s') E s) :
    wpAny (model prog w) A (richCompare .NotEq (.ref x) b) Q E s := by
  have run : wpAny (model prog w) A (call (.builtin "object.__ne__") [.ref x, b]) (fun v s' => ∃ k, v = .bool k ∧ Q (.bool k) s') E s := by
    refine wpAny_call (codeAny_call_builtin PySem.F.cmp_object.ne.plain PySem.F.cmpEntry_ne (check_slot PySem.F.cmpKind_ne PySem.F.cmpSplit_ne (I.type.andThen (looks_mroIn X hob)) (PySem.F.cmpArgs_ne _ _) ?_))
    unfold Builtin.«object.__ne__»
    refine wpAny_bind (m := slotArgs "__ne__" 1 _) (wpAny_pure ?_)
    refine wpAny_bind (m := cRoomFor _ _) (wpAny_cRoomFor (show A.in1.units < cLine from hu) ?_)
    refine wpAny_bind (m := callSpecialIfBound? (.ref x) "__eq__" _) (ifBound_K X I hs hf (wpAny_mono h (fun v s' hv => ?_) fun _ _ e => e))
    obtain ⟨k, rfl, q⟩ := hv
    exact wpAny_bind (wpAny_truthy_bool (wpAny_pure ⟨!k, rfl, q⟩))
  have one : wpAny (model prog w) A (tryCompare (.ref x) "__ne__" b) (fun r s' => ∃ k, r = some (.bool k) ∧ Q (.bool k) s') E s := by
    unfold tryCompare
    refine wpAny_bind ?_
    simp only [callSpecialIfBound?, bindSpecialIfBound?]
    refine wpAny_holding (wpAny_bind (wpAny_bind (wpAny_bind (I.type.here ((looks_findIn X hne).here ?_)))))
    refine wpAny_bind (wpAny_askSetting (wpAny_ite ?_))
    have fin : ∀ Q2 : Option Value → Shared → Prop, (∀ s' k, Q (.bool k) s' → Q2 (some (.bool k)) s') → wpAny (model prog w) A (call (.builtin "object.__ne__") ([.ref x] ++ [b]) >>= fun v => pure (some v)) Q2 E s := fun Q2 q2 => by
      refine wpAny_bind (wpAny_mono run (fun v s' hv => ?_) fun _ _ e => e)
      obtain ⟨k, rfl, q⟩ := hv
      exact wpAny_pure (q2 s' k q)
    split
    · exact wpAny_bind ((Looks.of_pure (PySem.F.cmp_object.ne.bind _)).here (wpAny_pure (by exact fin _ fun s' k q => wpAny_pure ⟨k, rfl, q⟩)))
    · exact wpAny_tryCatch (wpAny_bind ((Looks.of_pure (PySem.F.cmp_object.ne.bind _)).here (wpAny_pure (by exact fin _ fun s' k q => wpAny_pure ⟨k, rfl, q⟩))))
  unfold richCompare
  simp only [oneThing_ref]
  refine wpAny_holding (wpAny_bind (wpAny_cRoomFor (Nat.lt_of_succ_lt hu) ?_))
  refine wpAny_bind (I.type.here (wpAny_bind (hb.here ?_)))
  split
  · rename_i q
    have e : subIn K tb (.ref C) = some false := by
      rcases Bool.or_eq_true_iff.mp hn with e | e
      · rw [beq_iff_eq.mp e] at q
        simp at q
      · exact beq_iff_eq.mp e
    refine wpAny_bind ((looks_subIn X e).here ?_)
    simp only [Bool.false_eq_true, if_false]
    refine wpAny_bind (wpAny_mono one (fun r s' z => ?_) fun _ _ e => e)
    obtain ⟨v, rfl, hq⟩ := z
    exact wpAny_pure hq
  · refine wpAny_bind (wpAny_pure ?_)
    simp only [Bool.false_eq_true, if_false]
    refine wpAny_bind (wpAny_mono one (fun r s' z => ?_) fun _ _ e => e)
    obtain ⟨v, rfl, hq⟩ := z
    exact wpAny_pure hq
end
end PySem.W

namespace L2
open PySem PySem.Spec PyProof.Rows
/-- what the written part says of a class with an own __eq__ at f -/
structure EqO (K : PySem.W.Frag) (C f : Addr) : Prop where
  eq : PySem.W.findIn K (.ref C) "__eq__" = some (some (.ref f))
  fn : PySem.W.isFn K (.ref f) = true
  ne : PySem.W.findIn K (.ref C) "__ne__" = some (some (.builtin "object.__ne__"))
  ob : PySem.W.mroIn K C (.type "object") = some true
/-- the other side of a comparison: an instance, a dict -/
def OthV (K : PySem.W.Frag) (C : Addr) (H : Hp) (y : V) : Prop := ∃ b, y = .ref b ∧ ((∃ C' dy gs, H b = some (.ins C' dy gs) ∧ PySem.W.notFirst K C (.ref C') = true) ∨ ∃ xs, H b = some (.lst xs) ∧ PySem.W.notFirst K C (.type "list") = true)
section
variable {X : Cx} {pins : List (Addr × Obj)} {σ : St} {H : Hp} {s : Shared} {C f : Addr} {fd : FuncData} {ps : List Str} {sp : Sp} {k : Nat} {u : Value} {y : V}
theorem OthV.looks (I : Inv X pins σ H s) (h : OthV X.K C H y) (r : RelV y u) : ∃ tb, PySem.W.Looks (model X.prog X.w) s.heap (typeOf u) tb ∧ PySem.W.notFirst X.K C tb = true := by
  obtain ⟨b, rfl, h⟩ := h
  cases (show u = Value.ref b from r)
  rcases h with ⟨C', dy, gs, e, n⟩ | ⟨xs, e, n⟩
  · obtain ⟨mA, J, _⟩ := ins_get I.hok e
    obtain ⟨od, J, _⟩ := J.look
    exact ⟨_, J.type, n⟩
  · obtain ⟨_, its, k, rv, o⟩ := (show ObjOk X.prog X.w H s.heap b (.lst xs) from I.hok b _ e)
    exact ⟨_, fun A Q E s' kp q => wpAny_typeOf ⟨_, kp _ _ o, rfl⟩ q, n⟩
/-- the own method's run, somewhere below the body -/
theorem own_run {A : Around} {E : Value → Shared → Prop} {Q : VK} {us : List Value} {vs : List V} (F : FnOk X.prog X.w X.K X.mg X.base CX0 k f fd ps sp) (hb : Binds X.K fd ps []) (hr : Room k A) (fr : A.frames = X.A.frames) (I : Inv X pins σ H s) (r : Vals vs us) (h : sp vs H Q E0) :
    wpAny (model X.prog X.w) A (call (.ref f) us) (EP X pins σ Q) E s := by
  have e0 : Env0 X.prog X.w X.K X.mg X.base A X.stack s H := by
    have e := I.env0
    exact ⟨by rw [fr]; exact e.frames, e.mod, e.bs, e.bsz, e.funs, e.frf, e.hok, e.bare⟩
  have hl : us.length = ps.length := r.length.symm.trans (F.len _ _ _ _ h)
  refine wpAny_call (codeAny_mono (F.run A X.stack s H ⟨us, []⟩ us vs Q E0 hr e0 (by
    have z := hb s us I.kIn (by simpa using hl)
    simpa using z) r h) fun r s' hq => ?_)
  cases r with
  | error e => exact (show False from hq).elim
  | ok fl =>
    cases fl with
    | ret w => exact I.after hq
    | next => exact False.elim hq
    | brk => exact False.elim hq
    | cont => exact False.elim hq
/-- .. where the guards are told -/
theorem own_runG {A : Around} {E : Value → Shared → Prop} {Q : VK} {us : List Value} {vs : List V} (F : FnG X.prog X.w X.K X.mg X.base CX0 k f fd ps sp) (hG : A.guards = some []) (hb : Binds X.K fd ps []) (hr : Room k A) (fr : A.frames = X.A.frames) (I : Inv X pins σ H s) (r : Vals vs us) (h : sp vs H Q E0) :
    wpAny (model X.prog X.w) A (call (.ref f) us) (EP X pins σ Q) E s := by
  have e0 : Env0 X.prog X.w X.K X.mg X.base A X.stack s H := by
    have e := I.env0
    exact ⟨by rw [fr]; exact e.frames, e.mod, e.bs, e.bsz, e.funs, e.frf, e.hok, e.bare⟩
  have hl : us.length = ps.length := r.length.symm.trans (F.len _ _ _ _ h)
  refine wpAny_call (codeAny_mono (F.run A X.stack s H ⟨us, []⟩ us vs Q E0 hG hr e0 (by
    have z := hb s us I.kIn (by simpa using hl)
    simpa using z) r h) fun r s' hq => ?_)
  cases r with
  | error e => exact (show False from hq).elim
  | ok fl =>
    cases fl with
    | ret w => exact I.after hq
    | next => exact False.elim hq
    | brk => exact False.elim hq
    | cont => exact False.elim hq
end
/-- a == b, a != b by the own __eq__ of a's class -/
def rEqO (K : PySem.W.Frag) (C : Addr) (sp : Sp) (neg : Bool) : R2 := fun x y H Q => ∃ a dx fs, x = .ref a ∧ H a = some (.ins C dx fs) ∧ OthV K C H y ∧ sp [.ref a, y] H (fun v H' => ∃ k, v = .bl k ∧ Q (.bl (if neg = true then !k else k)) H') E0
section
variable {X : Cx} {C f : Addr} {fd : FuncData} {ps : List Str} {sp : Sp} {k : Nat}
theorem frames_in1 {A : Around} : A.in1.frames = A.frames := by rfl
theorem guards_in1 {A : Around} (h : A.guards = some []) : A.in1.guards = some [] := by
  have e : A.in1.guards = A.guards := by rfl
  rw [e, h]
theorem op_eqO (T : EqO X.K C f) (F : FnOk X.prog X.w X.K X.mg X.base CX0 k f fd ps sp) (hb : Binds X.K fd ps []) (hr : Room k X.A) : OpR X (compareOp .Eq) (rEqO X.K C sp false) := by
  intro pins s σ H x y v u Q I rx ry h
  obtain ⟨a, dx, fs, rfl, ea, oy, q⟩ := h
  cases (show v = Value.ref a from rx)
  obtain ⟨mA, J, _⟩ := ins_get I.hok ea
  obtain ⟨od, J, _⟩ := J.look
  obtain ⟨tb, hl, hn⟩ := oy.looks I ry
  obtain ⟨m, hF⟩ := I.fr
  refine PySem.W.cmp_K (op := .Eq) hr.units0 hF I.ok.mod.kin J hl hn T.eq T.fn ?_
  refine wpAny_mono (own_run (vs := [.ref a, y]) F hb hr rfl I (.cons rfl (.cons ry .nil)) q) (fun r s' hq => ?_) fun _ _ e => e
  obtain ⟨z, H', I', rz, kk, ez, q2⟩ := hq
  subst ez
  cases (show r = Value.bool kk from rz)
  exact ⟨.bl kk, H', I', rfl, q2⟩
theorem op_neO (T : EqO X.K C f) (F : FnOk X.prog X.w X.K X.mg X.base CX0 k f fd ps sp) (hb : Binds X.K fd ps []) (hr : Room (k + 1) X.A) : OpR X (compareOp .NotEq) (rEqO X.K C sp true) := by
  intro pins s σ H x y v u Q I rx ry h
  obtain ⟨a, dx, fs, rfl, ea, oy, q⟩ := h
  cases (show v = Value.ref a from rx)
  obtain ⟨mA, J, _⟩ := ins_get I.hok ea
  obtain ⟨od, J, _⟩ := J.look
  obtain ⟨tb, hl, hn⟩ := oy.looks I ry
  refine PySem.W.cmp_notEq (hr.in1.units0) I.kIn J hl hn T.ne T.ob T.eq T.fn ?_
  refine wpAny_mono (own_run (vs := [.ref a, y]) F hb hr.in1 frames_in1 I (.cons rfl (.cons ry .nil)) q) (fun r s' hq => ?_) fun _ _ e => e
  obtain ⟨z, H', I', rz, kk, ez, q2⟩ := hq
  subst ez
  cases (show r = Value.bool kk from rz)
  exact ⟨kk, rfl, .bl (!kk), H', I', rfl, q2⟩
/-- repr(a) by the own __repr__ of a's class -/
def rReprO (C : Addr) (sp : Sp) : List V → Hp → VK → Prop := fun xs H Q => ∃ a dx fs, xs = [.ref a] ∧ H a = some (.ins C dx fs) ∧ sp [.ref a] H (fun v H' => ∃ z : Str, v = .str z ∧ Q (.str z) H') E0
theorem call_reprO (hs : PySem.W.findIn X.K (.ref C) "__repr__" = some (some (.ref f))) (hf : PySem.W.isFn X.K (.ref f) = true) (F : FnG X.prog X.w X.K X.mg X.base CX0 k f fd ps sp) (hG : X.A.guards = some []) (hb : Binds X.K fd ps []) (hr : Room (k + 1) X.A) :
    CallR X (.builtin "repr") (rReprO C sp) := by
  intro pins s σ H xs us Q I r h
  obtain ⟨a, dx, fs, rfl, ea, q⟩ := h
  rw [Vals.ref1 r]
  obtain ⟨mA, J, _⟩ := ins_get I.hok ea
  obtain ⟨od, J, _⟩ := J.look
  obtain ⟨m, hF⟩ := I.fr
  refine PySem.W.repr_K (hr.in1.units0) hF I.ok.mod.kin J hs hf ?_
  refine wpAny_mono (own_runG (vs := [.ref a]) F (guards_in1 hG) hb hr.in1 frames_in1 I (.cons rfl .nil) q) (fun r s' hq => ?_) fun _ _ e => e
  obtain ⟨z, H', I', rz, zz, ez, q2⟩ := hq
  subst ez
  obtain ⟨t, ez⟩ := (show ∃ t, r = Value.str zz t from rz)
  subst ez
  exact ⟨.str zz, H', I', ⟨t, rfl⟩, q2⟩
end
/-- {x!r}: data -/
def tFmtD (te : TE) : TE := fun σ H Q => te σ H fun x H1 => ∃ d : PyData, Rp H1 x d ∧ d.showable = true ∧ d.shown.length ≤ sizeLine ∧ d.depth ≤ 60 ∧ Q (.str d.shown) H1
theorem pe_fmtD {X : Cx} {e : Expr} {te : TE} {pos : Pos} (hg : X.A.guards = some []) (hu : X.A.units + 64 < cLine) (hK : noMods X.K = true) (he : PE X e te) : PE X (.FormattedValue e 114 none pos) (tFmtD te) := by
  refine ⟨fun pins s σ H Q I h => ?_⟩
  refine wpAny_FormattedValue_repr (thn (he.run pins s σ H _ I h) fun v s1 hv => ?_)
  obtain ⟨x, H1, I1, r1, d, hr, hs, hl, hd, q⟩ := hv
  have fin : ∀ (s2 : Shared) (tk : Nat), Inv X pins σ H1 s2 → wpAny (model X.prog X.w) X.A (formatField (.str d.shown tk) Str.empty) (EP X pins σ Q) X.xe s2 := fun s2 tk I2 => wpAny_formatField_str ⟨.str d.shown, H1, I2, ⟨_, rfl⟩, q⟩ ⟨.str d.shown, H1, I2.tok _, ⟨_, rfl⟩, q⟩ hl
  cases hr with
  | non =>
    cases (show v = Value.none from r1)
    exact pyReprObj_none (fin _ _ (I1.tok _))
  | bl b =>
    cases (show v = Value.bool b from r1)
    exact pyReprObj_bool (fin _ _ (I1.tok _))
  | int i =>
    obtain ⟨t, z⟩ := (show ∃ t, v = Value.int i t from r1)
    cases z
    exact pyReprObj_int (by simpa [PyData.showable] using hs) (fin _ _ (I1.tok _))
  | str x =>
    obtain ⟨t, z⟩ := (show ∃ t, v = Value.str x t from r1)
    cases z
    exact pyReprObj_str (fin _ _ (I1.tok _)) hl
  | lst h k =>
    obtain ⟨as, w, no⟩ := Rp.reads I1 (noMods_ok I1 hK) (.lst h k) r1
    cases (show v = Value.ref _ from r1)
    exact pyReprObj_of_reads w hs (fun _ => no) hg (by omega) (fun _ _ e => e) (fun h' t tk kp => fin _ _ (I1.kept (t' := tk) kp)) hl
  | tup h k =>
    obtain ⟨as, w, no⟩ := Rp.reads I1 (noMods_ok I1 hK) (.tup h k) r1
    cases (show v = Value.ref _ from r1)
    exact pyReprObj_of_reads w hs (fun _ => no) hg (by omega) (fun _ _ e => e) (fun h' t tk kp => fin _ _ (I1.kept (t' := tk) kp)) hl
  | dic h k =>
    obtain ⟨as, w, no⟩ := Rp.reads I1 (noMods_ok I1 hK) (.dic h k) r1
    cases (show v = Value.ref _ from r1)
    exact pyReprObj_of_reads w hs (fun _ => no) hg (by omega) (fun _ _ e => e) (fun h' t tk kp => fin _ _ (I1.kept (t' := tk) kp)) hl
end L2

namespace L2
open PySem PySem.Spec PyProof.Rows
/-- C(..), C in the i-th slot -/
def tMakeL (i : Nat) (C : Addr) (sp : Sp) (dvs : List V) (E : XK) (t : TA) : TE := fun σ H Q => σ[i]? = some (some (.ref C)) ∧ tMake C sp dvs E t σ H Q
section
variable {X : Cx} {CX : CXT} {k i : Nat} {f C p g : Addr} {mc : Value} {fd : FuncData} {ps : List Str} {sp : Sp} {dvs : List V} {ds : List Value} {E : XK} {x m : Str} {pp pos apos : Pos} {e o : Expr} {es : List Expr} {t : TA} {ta : TE} {pl : Sem Bool}
theorem pe_makeL (M : Mk X.K C f) (F : FnOk X.prog X.w X.K X.mg X.base CX k f fd ps sp) (hr : Room (k + 1) X.A) (hN : X.N[i]? = some x) (hv : Vis X.env.scope x) (hb : Binds X.K fd ps ds) (hd : Vals dvs ds) (hx : Passes CX X E) (ha : PA X (e :: es) t)
    (hdb : (x == ("__debug__" : Str)) = false := by decide) (hcd : (x == ("__classdict__" : Str)) = false := by decide) (he : starEach (e :: es) X.env = (false, eval e X.env) :: starEach es X.env := by rfl) (hpl : (backTo pos (starEach es X.env)).any (·.1) = false := by rfl) :
    PE X (.Call (.Name x pp) (e :: es) [] pos) (tMakeL i C sp dvs E t) := by
  refine ⟨fun pins s σ H Q I h => ?_⟩
  obtain ⟨hs, ht⟩ := h
  refine wpAny_Call_Name_kw (thn ((pe_var (pos := pp) hN hv hdb hcd).run pins s σ H (fun v H1 => v = .ref C ∧ H1 = H) I ⟨.ref C, hs, rfl, rfl⟩) fun u s1 ⟨v, H1, I1, r1, q1⟩ => ?_)
  obtain ⟨rfl, rfl⟩ := q1
  cases r1
  exact PySem.W.callWith_K (h₀ := X.base) I.ok.mod.kin M.kp (thn (ha.run pos pins s1 σ _ _ I1 ht) fun us s2 ⟨vs, H2, I2, r, q⟩ => ⟨I2.kIn, run_make M F hr hb hd hx I2 r q⟩) he hpl
theorem pe_makeL0 (M : Mk X.K C f) (F : FnOk X.prog X.w X.K X.mg X.base CX k f fd ps sp) (hr : Room (k + 1) X.A) (hN : X.N[i]? = some x) (hv : Vis X.env.scope x) (hb : Binds X.K fd ps ds) (hd : Vals dvs ds) (hx : Passes CX X E)
    (hdb : (x == ("__debug__" : Str)) = false := by decide) (hcd : (x == ("__classdict__" : Str)) = false := by decide) : PE X (.Call (.Name x pp) [] [] pos) (tMakeL i C sp dvs E tNil) := by
  refine ⟨fun pins s σ H Q I h => ?_⟩
  obtain ⟨hs, ht⟩ := h
  refine wpAny_Call_Name_kw (thn ((pe_var (pos := pp) hN hv hdb hcd).run pins s σ H (fun v H1 => v = .ref C ∧ H1 = H) I ⟨.ref C, hs, rfl, rfl⟩) fun u s1 ⟨v, H1, I1, r1, q1⟩ => ?_)
  obtain ⟨rfl, rfl⟩ := q1
  cases r1
  exact PySem.W.callWith_K0 I1.kIn M.kp (run_make (us := []) M F hr hb hd hx I1 .nil ht)
/-- C.m(), m a classmethod -/
theorem pe_cmeth0 (he : PE X o ta) (r : ClX.CRead X.K C mc) (c : ClX.CMet X.K C mc m p g) (F : FnR X.prog X.w X.K X.mg X.base CX k g sp) (hr : Room k X.A) (hx : Passes CX X E)
    (ht : eval (.Call (.Attribute o m apos) [] [] pos) X.env = (eval o X.env >>= fun ov => standAt apos.atName >>= fun _ => holding [ov] (getMethod ov m pl) >>= fun q => callWith pos q.1 q.2 (backTo pos (starEach [] X.env)) (backToKw pos (keywordEach [] X.env))) := by rfl) :
    PE X (.Call (.Attribute o m apos) [] [] pos) (ClX.tCMeth C sp E ta tNil) := by
  refine ⟨fun pins s σ H Q I h => ?_⟩
  refine PySem.W.methodCall_KW (pl := pl) (thn (he.run pins s σ H _ I h) fun u s1 ⟨y, H1, I1, rx, ex, q⟩ => ?_) ht
  subst ex
  obtain rfl : u = Value.ref C := rx
  refine ClX.getmethcm_ok I1 r c fun s2 I2 => ?_
  exact PySem.W.callWith_M0 (K := X.K) (first := []) ⟨ClX.pin_at I2, I2.kIn⟩ c.fi (ClX.run_cm (us := []) (vs := []) F hr hx I2 .nil q)
end
end L2

/-! A def that is called within an except suite, and never raises. -/
namespace L2
open PySem PySem.Spec PyProof.Rows L2H
structure FnW (P : Program) (w : World) (K : PySem.W.Frag) (mg : Str → Option Value) (base : Heap) (k : Nat) (f : Addr) (fd : FuncData) (ps : List Str) (sp : Sp) : Prop where
  len : ∀ vs H Q E, sp vs H Q E → vs.length = ps.length
  run : ∀ (A : Around) (outer : List Env) (s : Shared) (H : Hp) (args : Args) (us : List Value) (vs : List V) (Q : VK) (E : XK) (p : Addr × Obj), A.guards = some [] → RoomH k A → PinOk outer H s p → Env0 P w K mg base A outer s H → BindsTo s fd args (ps.zip us) → Vals vs us → sp vs H Q E →
    codeAny (model P w) A (.call (.ref f) args) (CR CX0 outer P w H s Q E) s
theorem FunD.okW {P : Program} {w : World} {K : PySem.W.Frag} {mg : Str → Option Value} {base : Heap} {k : Nat} {f : Addr} {x qual : Str} {params : Arguments} {body : List Stmt} {scope : Scope} {dvs : List V} {kws : List (Str × V)} {fd : FuncData} {N ps : List Str} {sp : Sp}
    (F : FunD K x qual params body scope dvs kws f fd) (S : FnScope N ps scope) (len : ∀ vs H Q E, sp vs H Q E → vs.length = ps.length)
    (hbody : ∀ (cdv : Value) (A : Around) (outer : List Env) (s : Shared) (H : Hp) (vs : List V) (Q : VK) (E : XK) (p : Addr × Obj), A.guards = some [] → RoomH k (A.deeper (envOfC qual scope s.heap.objs.size f cdv)) → sp vs H Q E →
      ∃ t, PSs (cxH CX0 P w K mg base N qual scope f cdv A outer s H E p) body t ∧ t { nx := fun _ H' => Q .non H', rt := Q } (start N vs) H) : FnW P w K mg base (k + 1) f fd ps sp := by
  obtain ⟨oc, od, dV, kV, doc, pm, an, cdv, ct, osl, rfl, lk, hcd, _, _⟩ := F.ex
  refine ⟨len, fun A outer s H args us vs Q E p hg hr hpin e0 hb r hsp => ?_⟩
  have hl := len _ _ _ _ hsp
  have old : ∀ b o, base.get? b = some o → s.heap.get? b = some o := fun b o e => (e0.bs b o e).1
  have KX : K.In s.heap := e0.mod.kin.keeps old
  have lim : s.heap.NoLimit := e0.mod.nolimit.keeps old
  refine codeAny_call_function hr.depth (KX _ _ lk) rfl S.co S.gen rfl (PySem.W.codeRec_of KX hcd) (hb _ _ _ _ (wpAny_newFunctionEnv_cells S.kind (fun y hy => ?_) fun env he s1 x => ?_))
  · rcases S.par y.1 (List.of_mem_zip (show (y.1, y.2) ∈ ps.zip us from hy)).1 with q | q
    · exact .inl q
    · exact .inr ⟨q, PySem.W.cellsFrom_some _ _ _ (.inl q)⟩
  · subst he
    obtain ⟨t, ht, hq⟩ := hbody cdv A outer s H vs Q E p hg (hr.deeper _) hsp
    refine ⟨lim.keeps x.toInCall.keep, codeAny_func (wpAny_mono (ht.run [] s1 (start N vs) H _ (inv_startH S hpin e0 hl r x) hq) (fun fl s' hs => ?_) fun e s' hs => hs)⟩
    cases fl with
    | ret u =>
      obtain ⟨v, σ', H', J, rv, q⟩ := hs
      exact ⟨v, H', J.os, J.bare, J.base, J.hok, rv, q⟩
    | next =>
      obtain ⟨σ', H', J, q⟩ := hs
      exact ⟨V.non, H', J.os, J.bare, J.base, J.hok, rfl, q⟩
    | brk =>
      obtain ⟨_, _, _, q⟩ := hs
      exact False.elim q
    | cont =>
      obtain ⟨_, _, _, q⟩ := hs
      exact False.elim q
theorem roomH_in1 {k : Nat} {A : Around} (r : RoomH (k + 1) A) : RoomH k A.in1 :=
  ⟨by have := r.dp; show A.depth + 3 * k + 5 < _; omega, by have := r.un; show A.units + 1 + 16 * k + 200 < _; omega⟩
section
variable {X : Cx} {C f : Addr} {fd : FuncData} {ps : List Str} {sp : Sp} {k : Nat}
theorem own_runW {pins : List (Addr × Obj)} {σ : St} {H : Hp} {s : Shared} {A : Around} {E : Value → Shared → Prop} {Q : VK} {us : List Value} {vs : List V} (F : FnW X.prog X.w X.K X.mg X.base k f fd ps sp) (hG : A.guards = some []) (hb : Binds X.K fd ps []) (hr : RoomH k A) (fr : A.frames = X.A.frames) (hc : ∃ p, p ∈ X.pn) (I : Inv X pins σ H s) (r : Vals vs us) (h : sp vs H Q E0) :
    wpAny (model X.prog X.w) A (call (.ref f) us) (EP X pins σ Q) E s := by
  have e0 : Env0 X.prog X.w X.K X.mg X.base A X.stack s H := by
    have e := I.env0
    exact ⟨by rw [fr]; exact e.frames, e.mod, e.bs, e.bsz, e.funs, e.frf, e.hok, e.bare⟩
  obtain ⟨p, hp⟩ := hc
  have P1 := I.pin p (List.mem_append_left _ hp)
  have hpin : PinOk X.stack H s p := ⟨P1.1, P1.2.1, fun hm => (List.mem_cons.mp (I.stkSub p.1 hm)).elim P1.2.2.1 P1.2.2.2.1, P1.2.2.2.2⟩
  have hl : us.length = ps.length := r.length.symm.trans (F.len _ _ _ _ h)
  refine wpAny_call (codeAny_mono (F.run A X.stack s H ⟨us, []⟩ us vs Q E0 p hG hr hpin e0 (by
    have z := hb s us I.kIn (by simpa using hl)
    simpa using z) r h) fun r s' hq => ?_)
  cases r with
  | error e => exact (show False from hq).elim
  | ok fl =>
    cases fl with
    | ret w => exact I.after hq
    | next => exact False.elim hq
    | brk => exact False.elim hq
    | cont => exact False.elim hq
theorem call_reprW (hs : PySem.W.findIn X.K (.ref C) "__repr__" = some (some (.ref f))) (hf : PySem.W.isFn X.K (.ref f) = true) (F : FnW X.prog X.w X.K X.mg X.base k f fd ps sp) (hc : ∃ p, p ∈ X.pn) (hG : X.A.guards = some []) (hb : Binds X.K fd ps []) (hr : RoomH (k + 1) X.A) :
    CallR X (.builtin "repr") (rReprO C sp) := by
  intro pins s σ H xs us Q I r h
  obtain ⟨a, dx, fs, rfl, ea, q⟩ := h
  rw [Vals.ref1 r]
  obtain ⟨mA, J, _⟩ := ins_get I.hok ea
  obtain ⟨od, J, _⟩ := J.look
  obtain ⟨m, hF⟩ := I.fr
  refine PySem.W.repr_K (by have := (roomH_in1 hr).un; omega) hF I.ok.mod.kin J hs hf ?_
  refine wpAny_mono (own_runW (vs := [.ref a]) F (guards_in1 hG) hb (roomH_in1 hr) frames_in1 hc I (.cons rfl .nil) q) (fun r s' hq => ?_) fun _ _ e => e
  obtain ⟨z, H', I', rz, zz, ez, q2⟩ := hq
  subst ez
  obtain ⟨t, ez⟩ := (show ∃ t, r = Value.str zz t from rz)
  subst ez
  exact ⟨.str zz, H', I', ⟨t, rfl⟩, q2⟩
end
end L2

namespace L2
open PySem PySem.Spec PyProof.Rows
/-- o.m(..) that may raise, at these slots -/
def tMethW (C : Addr) (m : Str) (sp : Sp) (E : St → XK) (ta : TE) (t : TA) : TE := fun σ H Q => ta σ H fun x H1 => ∃ a dx fs, x = .ref a ∧ H1 a = some (.ins C dx fs) ∧ fs.lookup m = none ∧ t σ H1 fun vs H2 => sp (.ref a :: vs) H2 Q (E σ)
theorem pe_methW {X : Cx} {CX : CXT} {k : Nat} {C f : Addr} {fd : FuncData} {ps : List Str} {sp : Sp} {E : St → XK} {m : Str} {pos apos : Pos} {e o : Expr} {es : List Expr} {ta : TE} {t : TA} {pl : Sem Bool}
    (he : PE X o ta) (c : Cls X.K C) (hm : Meth X.K C m f) (F : FnOk X.prog X.w X.K X.mg X.base CX k f fd ps sp) (hr : Room k X.A) (hb : Binds X.K fd ps []) (hx : ∀ σ, PassesAt CX X σ (E σ)) (ha : PA X (e :: es) t)
    (hst : starEach (e :: es) X.env = (false, eval e X.env) :: starEach es X.env := by rfl) (hpl : (backTo pos (starEach es X.env)).any (·.1) = false := by rfl)
    (ht : eval (.Call (.Attribute o m apos) (e :: es) [] pos) X.env = (do
      let ov ← eval o X.env
      standAt apos.atName
      let (f, first) ← holding [ov] (getMethod ov m pl)
      callWith pos f first (backTo pos (starEach (e :: es) X.env)) (backToKw pos (keywordEach [] X.env))) := by rfl) :
    PE X (.Call (.Attribute o m apos) (e :: es) [] pos) (tMethW C m sp E ta t) := by
  refine ⟨fun pins s σ H Q I h => ?_⟩
  refine PySem.W.methodCall_KW (pl := pl) (thn (he.run pins s σ H _ I h) fun u s1 ⟨x, H1, I1, rx, a, dx, fs, ex, ea, l, q⟩ => ?_) ht
  subst ex
  obtain rfl : u = Value.ref a := rx
  refine getmeth_ok I1 ea c hm l ?_
  refine PySem.W.callWith_K (first := [.ref a]) (h₀ := X.base) I.ok.mod.kin hm.kp (thn (ha.run pos pins s1 σ H1 _ I1 q) fun us s2 ⟨vs, H2, I2, r, q2⟩ => ⟨I2.kIn, ?_⟩) hst hpl
  exact run_fnS (us := .ref a :: us) (vs := .ref a :: vs) F hr hb (hx σ) I2 (.cons rfl r) q2
end L2

end PG11
section PT11
set_option maxHeartbeats 4000000
namespace C11
open PySem PySem.Spec L2 PyProof.Rows
/-! ### where a number stands, what it is taken to -/
abbrev nPlace : List Str := ["pieces", "value", "low", "high", "middle"]
theorem sc_place : FnScope nPlace ["pieces", "value"] (defScope s_place) := ⟨rfl, rfl, rfl, by decide +kernel, rfl, by decide +kernel, by decide +kernel⟩
def spPlace : Sp := fun vs H Q _ => ∃ (L : Addr) (l : List Pc) (x : Int), vs = [.ref L, .int x] ∧ PcsAt H L l ∧ chn none l ∧ l.length ≤ 1000 ∧ Q (.int (idxP l x)) H
def spResult (C : Addr) : Sp := fun vs H Q _ => ∃ (m : Addr) (n : List Pc) (x : Int), vs = [.ref m, .int x] ∧ NMap C H m n ∧ chn none n ∧ n.length ≤ 1000 ∧ Q (.int (evalP n x)) H
theorem sc_result : FnScope ["self", "value"] ["self", "value"] (defScope s_nresult) := ⟨rfl, rfl, rfl, by decide +kernel, rfl, by decide +kernel, by decide +kernel⟩
section
variable {P : Program} {w : World} {K : PySem.W.Frag} {mg : Str → Option Value} {base : Heap} {f fT fP : Addr} {fd dT dP : FuncData}
theorem ok_place (F : FD K "_place_of" s_place f fd) (tl : mg "len" = none) : FnOk P w K mg base CX0 1 f fd ["pieces", "value"] spPlace := by
  refine F.ok sc_place (fun vs H Q E h => ?_) (fun cdv A outer s H vs Q E hr h => ?_)
  · obtain ⟨L, l, x, rfl, _⟩ := h
    rfl
  obtain ⟨L, l, x, rfl, hl, hc, hlen, q⟩ := h
  refine ⟨_, PSs.nox (pss_cons (ps_if (pt_cmp (pc_isN (pv 1))) pss_never pss_nil)
    (pss_cons (ps_par (i := 2) (j := 3) (by rfl) sc_place.nd rfl rfl (by decide) rfl rfl (pa_cons pe_int (pa_cons (pe_op op_sub (pe_callB call_len_seq (by rfl) tl boot_len (pa_cons (pv 0) pa_nil)) pe_int) pa_nil)) (by rfl))
    (pss_cons (ps_while PassesOwn.never (pt_cmpR op_lt (pv 2) (pv 3) (nomark _))
      (pss_cons (ps_set (i := 4) sc_place.nd rfl (Or.inl rfl) (pe_op op_fdiv (pe_op op_add (pv 2) (pv 3)) pe_int))
      (pss_one (ps_if (pt_cmpR op_lt (pe_ix ix_tup (pe_ix ix_seq (pv 0) (pv 4) (fun _ _ => rfl)) pe_int (fun _ _ => rfl)) (pv 1) (nomark _))
        (pss_one (ps_set (i := 2) sc_place.nd rfl (Or.inl rfl) (pe_op op_add (pv 4) pe_int)))
        (pss_one (ps_set (i := 3) sc_place.nd rfl (Or.inl rfl) (pv 4)))))))
    (pss_one (ps_ret (pv 2)))))), ?_⟩
  refine ⟨_, rfl, _, rfl, ?_⟩
  refine (show (if decide (V.int x = V.non) = true then _ else _) from ?_)
  rw [show decide (V.int x = V.non) = false from decide_eq_false (fun z => nomatch z), if_neg (by decide)]
  obtain ⟨xs, hx, hxl⟩ := hl.len (K := K)
  refine ⟨_, rfl, L, xs, rfl, hx, _, _, rfl, rfl, _, _, rfl, ?_⟩
  have l0 : 0 < l.length := List.length_pos_iff.mpr (chn_ne hc)
  have il := idx_lt x hc
  refine ⟨fun m σ' H' => ∃ (a b : Nat) (y : Option V), σ' = [some (.ref L), some (.int x), some (.int a), some (.int b), y] ∧ H' = H ∧ a ≤ idxP l x ∧ idxP l x ≤ b ∧ b < l.length ∧ m = b - a, ⟨l.length - 1 - 0, 0, l.length - 1, none, ?_, rfl, Nat.zero_le _, by omega, by omega, rfl⟩, ?_⟩
  · have ee : ((l.length : Int) - 1) = ((l.length - 1 : Nat) : Int) := by omega
    show [some (V.ref L), some (V.int x), some (V.int 0), some (V.int ((xs.length : Int) - 1)), none] = _
    rw [hxl, ee] <;> rfl
  rintro m σ' H' ⟨a, b, y, rfl, rfl, h1, h2, h3, rfl⟩
  refine ⟨_, rfl, _, rfl, a, b, rfl, rfl, _, rfl, ?_⟩
  refine ite2 (fun h => ?_) (fun h => ?_)
  · have ab : a < b := by
      have := of_decide_eq_true h
      omega
    refine ⟨fun σ2 H2 => ∃ (a2 b2 : Nat) (y : Option V), b2 - a2 < b - a ∧ σ2 = [some (.ref L), some (.int x), some (.int a2), some (.int b2), y] ∧ H2 = H' ∧ a2 ≤ idxP l x ∧ idxP l x ≤ b2 ∧ b2 < l.length, fun σ2 H2 ⟨a2, b2, y, k0, k1, k2, k3, k4, k5⟩ => ⟨b2 - a2, k0, a2, b2, y, k1, k2, k3, k4, k5, rfl⟩, ?_⟩
    refine ⟨_, rfl, _, rfl, a, b, rfl, rfl, _, _, rfl, rfl, ⟨(by decide : (0 : Int) < 2), (by decide : (2 : Int) < 1073741824)⟩, ?_⟩
    have em : ((a : Int) + (b : Int)) / 2 = (((a + b) / 2 : Nat) : Int) := by omega
    have ml : (a + b) / 2 < l.length := by omega
    have hm : l[(a + b) / 2]? = some (l[(a + b) / 2]'ml) := List.getElem?_eq_getElem ml
    generalize l[(a + b) / 2]'ml = p at hm
    obtain ⟨e, he⟩ : ∃ e, p.2.1 = some e := by
      cases z : p.2.1 with
      | none =>
        have := (chn_last hc hm).mp z
        omega
      | some e => exact ⟨e, rfl⟩
    refine ⟨_, rfl, _, rfl, ?_⟩
    show rIx K (.ref L) (V.int (((a : Int) + (b : Int)) / 2)) H' _
    rw [em]
    refine ix_pc hl hm fun t ht => ?_
    refine ⟨t, _, _, _, rfl, rfl, SqT.of ht, rfl, _, rfl, ?_⟩
    rw [he]
    refine ⟨e, x, rfl, rfl, _, rfl, ?_⟩
    have key := idx_le (x := x) hc hm
    rw [he, leO_some] at key
    refine ite2 (fun h => ?_) (fun h => ?_)
    · have ex : e < x := of_decide_eq_true h
      refine ⟨_, rfl, _, _, rfl, rfl, ?_⟩
      have : ¬ idxP l x ≤ (a + b) / 2 := fun z => by have := key.mpr z; omega
      exact ⟨(a + b) / 2 + 1, b, _, by omega, (by show [some (V.ref L), some (V.int x), some (V.int (((a : Int) + (b : Int)) / 2 + 1)), some (V.int (b : Int)), some (V.int (((a : Int) + (b : Int)) / 2))] = _; rw [em]; rfl), rfl, by omega, h2, h3⟩
    · have ex : x ≤ e := by
        have : ¬ e < x := fun z => h (decide_eq_true z)
        omega
      refine ⟨_, rfl, ?_⟩
      exact ⟨a, (a + b) / 2, _, by omega, (by show [some (V.ref L), some (V.int x), some (V.int (a : Int)), some (V.int (((a : Int) + (b : Int)) / 2)), some (V.int (((a : Int) + (b : Int)) / 2))] = _; rw [em]), rfl, h1, key.mp ex, by omega⟩
  · have ab : ¬ a < b := fun z => h (decide_eq_true (by omega))
    have e : a = idxP l x := by omega
    subst e
    exact ⟨_, rfl, q⟩
theorem ok_result {C : Addr} (F : FM K "_result" "NumberMap._result" s_nresult f fd) (N : NMc K C) (TK : Kn P w K mg base 1 "_taken" fT dT ["what", "value"] spTaken) (PL : Kn P w K mg base 1 "_place_of" fP dP ["pieces", "value"] spPlace) : FnOk P w K mg base CX0 2 f fd ["self", "value"] (spResult C) := by
  refine F.ok sc_result (fun vs H Q E h => ?_) (fun cdv A outer s H vs Q E hr h => ?_)
  · obtain ⟨m, n, x, rfl, _⟩ := h
    rfl
  obtain ⟨m, n, x, rfl, ⟨dx, u, hm, hu⟩, hc, hl, q⟩ := h
  refine ⟨_, PSs.nox (pss_one (ps_ret (pe_call TK.f hr rfl TK.m TK.k TK.b .nil pass0 (pa_cons (pe_ix ix_tup (pe_ix ix_seq (pe_fld (pv 0) rfl) (pe_call PL.f hr rfl PL.m PL.k PL.b .nil pass0 (pa_cons (pe_fld (pv 0) rfl) (pa_cons (pv 1) pa_nil))) (fun _ _ => rfl)) pe_int (fun _ _ => rfl)) (pa_cons (pv 1) pa_nil))))), ?_⟩
  obtain ⟨p, hp, _, hv⟩ := eval_idx x hc
  rw [hv] at q
  refine ⟨_, rfl, m, C, dx, _, .ref u, rfl, hm, N.cl, N.nP, rfl, _, rfl, m, C, dx, _, .ref u, rfl, hm, N.cl, N.nP, rfl, _, rfl, u, n, x, rfl, hu.pcs, hc, hl, ?_⟩
  refine ix_pc hu.pcs hp fun t ht => ?_
  exact ⟨t, _, _, _, rfl, rfl, SqT.of ht, rfl, _, rfl, p.2.2, x, rfl, q⟩
end
end C11

end PT11
section PU11
set_option maxHeartbeats 4000000
namespace C11
open PySem PySem.Spec L2 PyProof.Rows
/-! ### what the written part says of the classes; at of a number, and of anything else; ==, repr, pieces -/
structure TcO (K : PySem.W.Frag) (C CM : Addr) (kd : Str) : Prop where
  cl : Cls K C
  ha : PySem.W.findIn K (.ref C) "__class__" = some (some (.builtin "object.__class__"))
  hn : PySem.W.specialIn K (.builtin "object.__class__") "__get__" = some (some (.builtin "getset_descriptor.__get__"))
  htk : PySem.W.takesIn K (.builtin "object.__class__") = some true
  hm : PySem.W.mroIn K C (.type "object") = some true
  kit : PySem.W.kitOne K (.ref C) (.ref CM) = some true
  knd : ∃ u, Con K C "KIND" (.str kd) u
theorem TcO.ty {K : PySem.W.Frag} {C CM : Addr} {kd : Str} (T : TcO K C CM kd) {H : Hp} {a dx : Addr} {fs : List (Str × V)} (e : H a = some (.ins C dx fs)) : TyX K H (.ref a) (.ref C) := .base (.ins e T.cl T.ha T.hn T.htk T.hm)
def spIsKindN (K : PySem.W.Frag) : Sp := fun vs H Q _ => vs = [.str "number"] ∧ ∀ H', Same H H' → Q (.bl true) H'
def spIsValN (K : PySem.W.Frag) : Sp := fun vs H Q _ => ∃ (x : V) (t : Value) (b1 b2 : Bool), vs = [x, .str "number"] ∧ TyX K H x t ∧ PySem.W.kitOne K t (.type "int") = some b1 ∧ PySem.W.kitOne K t (.type "bool") = some b2 ∧ ∀ H', Same H H' → Q (.bl (b1 && !b2)) H'
def spAtN (C : Addr) : Sp := fun vs H Q _ => ∃ (m : Addr) (n : List Pc) (x : Int), vs = [.ref m, .int x] ∧ NMap C H m n ∧ chn none n ∧ n.length ≤ 1000 ∧ ∀ H', Same H H' → Q (.int (evalP n x)) H'
def spAtX (K : PySem.W.Frag) (C CI : Addr) : Sp := fun vs H _ E => ∃ (m : Addr) (n : List Pc) (x : V) (t : Value) (b1 b2 : Bool), vs = [.ref m, x] ∧ NMap C H m n ∧ TyX K H x t ∧ PySem.W.kitOne K t (.type "int") = some b1 ∧ PySem.W.kitOne K t (.type "bool") = some b2 ∧ (b1 && !b2) = false ∧
  ∀ d H', Same H H' → H' d = some (.xd [("value", x)]) → E (.ref CI) (some d) H'
theorem sc_mat : FnScope ["self", "value"] ["self", "value"] (defScope s_mat) := ⟨rfl, rfl, rfl, by decide +kernel, rfl, by decide +kernel, by decide +kernel⟩
theorem sc_kind : FnScope ["self"] ["self"] (defScope s_kind) := ⟨rfl, rfl, rfl, by decide +kernel, rfl, by decide +kernel, by decide +kernel⟩
theorem sc_ncontent : FnScope ["self"] ["self"] (defScope s_ncontent) := ⟨rfl, rfl, rfl, by decide +kernel, rfl, by decide +kernel, by decide +kernel⟩
theorem sc_npieces : FnScope ["self"] ["self"] (defScope s_npieces) := ⟨rfl, rfl, rfl, by decide +kernel, rfl, by decide +kernel, by decide +kernel⟩
theorem sc_nrepr : FnScope ["self"] ["self"] (defScope s_nrepr) := ⟨rfl, rfl, rfl, by decide +kernel, rfl, by decide +kernel, by decide +kernel⟩
theorem sc_meq : FnScope ["self", "other"] ["self", "other"] (defScope s_meq) := ⟨rfl, rfl, rfl, by decide +kernel, rfl, by decide +kernel, by decide +kernel⟩
def spKind (C : Addr) : Sp := fun vs H Q _ => ∃ (m dx : Addr) (fs : List (Str × V)), vs = [.ref m] ∧ H m = some (.ins C dx fs) ∧ fs.lookup ("KIND" : Str) = none ∧ Q (.str "number") H
def spContent (C : Addr) : Sp := fun vs H Q _ => ∃ (m dx u : Addr), vs = [.ref m] ∧ H m = some (.ins C dx [("_pieces", .ref u)]) ∧ Q (.ref u) H
/-- a list of pieces at t -/
def LstAt (H : Hp) (t : Addr) (l : List Pc) : Prop := ∃ ts : List Addr, H t = some (.lst (ts.map V.ref)) ∧ Paired (PcAt H) ts l
theorem LstAt.same {H H' : Hp} {t : Addr} {l : List Pc} (s : Same H H') (h : LstAt H t l) : LstAt H' t l := by
  obtain ⟨ts, a, b⟩ := h
  exact ⟨ts, s _ _ a, b.mono fun t p e => s _ _ e⟩
theorem LstAt.pcs {H : Hp} {t : Addr} {l : List Pc} (h : LstAt H t l) : PcsAt H t l := by
  obtain ⟨ts, a, b⟩ := h
  exact ⟨ts, .inl a, b⟩
def spPiecesM (C : Addr) : Sp := fun vs H Q _ => ∃ (m : Addr) (n : List Pc), vs = [.ref m] ∧ NMap C H m n ∧ ∀ g H', H g = none → Same H H' → LstAt H' g n → Q (.ref g) H'
/-! data -/
def oD : Option Int → PyData
  | none => .none
  | some i => .int i
def pD (p : Pc) : PyData := .tuple [oD p.1, oD p.2.1, oD p.2.2]
theorem eqv_oD {a b : Option Int} : PyData.eqv (oD a) (oD b) = decide (a = b) := by
  cases a with
  | none => cases b with
    | none => rfl
    | some j => exact (decide_eq_false (fun z => nomatch z)).symm
  | some i => cases b with
    | none => exact (decide_eq_false (fun z => nomatch z)).symm
    | some j =>
      show (i == j) = _
      by_cases e : i = j
      · subst e
        rw [beq_self_eq_true, decide_eq_true rfl]
      · rw [beq_eq_false_iff_ne.mpr e, decide_eq_false fun z => e (Option.some.inj z)]
theorem eqv_pD {p q : Pc} : PyData.eqv (pD p) (pD q) = decide (p = q) := by
  show (PyData.eqv (oD p.1) (oD q.1) && (PyData.eqv (oD p.2.1) (oD q.2.1) && (PyData.eqv (oD p.2.2) (oD q.2.2) && true))) = _
  rw [eqv_oD, eqv_oD, eqv_oD, Bool.and_true, ← Bool.decide_and, ← Bool.decide_and]
  refine decide_eq_decide.mpr ⟨fun ⟨a, b, c⟩ => Prod.ext a (Prod.ext b c), fun e => by rw [e]; exact ⟨rfl, rfl, rfl⟩⟩
theorem eqv_pDs : ∀ (l n : List Pc), PyData.eqvAll (l.map pD) (n.map pD) = decide (l = n)
  | [], [] => rfl
  | [], _ :: _ => by
    rw [decide_eq_false (fun e => nomatch e)] <;> rfl
  | _ :: _, [] => by
    rw [decide_eq_false (fun e => nomatch e)] <;> rfl
  | p :: l, q :: n => by
    show (PyData.eqv (pD p) (pD q) && PyData.eqvAll (l.map pD) (n.map pD)) = _
    rw [eqv_pDs l n, eqv_pD, ← Bool.decide_and]
    exact decide_eq_decide.mpr ⟨fun ⟨a, b⟩ => by rw [a, b], fun e => ⟨(List.cons.inj e).1, (List.cons.inj e).2⟩⟩
theorem dp_oV {K : PySem.W.Frag} {H : Hp} : ∀ a : Option Int, Dp K H (oV a) (oD a)
  | none => .non
  | some i => .int i
theorem dp_pc {K : PySem.W.Frag} {H : Hp} {t : Addr} {p : Pc} (h : PcAt H t p) : Dp K H (.ref t) (pD p) := .tup (SqT.of h) (.cons (dp_oV _) (.cons (dp_oV _) (.cons (dp_oV _) .nil)))
theorem dp_pcs {K : PySem.W.Frag} {H : Hp} : ∀ {ts : List Addr} {l : List Pc}, Paired (PcAt H) ts l → DpAll K H (ts.map V.ref) (l.map pD)
  | _, _, .nil => .nil
  | _, _, .cons h t => .cons (dp_pc h) (dp_pcs t)
theorem dp_tup {K : PySem.W.Frag} {H : Hp} {t : Addr} {l : List Pc} (h : TupAt H t l) : Dp K H (.ref t) (.tuple (l.map pD)) := by
  obtain ⟨ts, a, b⟩ := h
  exact .tup (SqT.of a) (dp_pcs b)
theorem dp_lst {K : PySem.W.Frag} {H : Hp} {t : Addr} {l : List Pc} (h : LstAt H t l) : Dp K H (.ref t) (.list (l.map pD)) := by
  obtain ⟨ts, a, b⟩ := h
  exact .lst (SqL.of a) (dp_pcs b)
theorem rp_oV {H : Hp} : ∀ a : Option Int, Rp H (oV a) (oD a)
  | none => .non
  | some i => .int i
theorem rp_pc {H : Hp} {t : Addr} {p : Pc} (h : PcAt H t p) : Rp H (.ref t) (pD p) := .tup h (.cons (rp_oV _) (.cons (rp_oV _) (.cons (rp_oV _) .nil)))
theorem rp_pcs {H : Hp} : ∀ {ts : List Addr} {l : List Pc}, Paired (PcAt H) ts l → RpAll H (ts.map V.ref) (l.map pD)
  | _, _, .nil => .nil
  | _, _, .cons h t => .cons (rp_pc h) (rp_pcs t)
theorem rp_lst {H : Hp} {t : Addr} {l : List Pc} (h : LstAt H t l) : Rp H (.ref t) (.list (l.map pD)) := by
  obtain ⟨ts, a, b⟩ := h
  exact .lst a (rp_pcs b)
theorem lay_oD : ∀ a : Option Int, PyData.canLay0 (oD a) = true ∧ PyData.depth (oD a) ≤ 1
  | none => ⟨rfl, by decide⟩
  | some i => ⟨rfl, by
    first
      | decide
      | (show 1 ≤ 1; decide)
      | (show 0 ≤ 1; decide)⟩
theorem lay_pDs : ∀ l : List Pc, PyData.canLayAll0 (l.map pD) = true ∧ PyData.depthAll (l.map pD) ≤ 2
  | [] => ⟨rfl, by simp [PyData.depthAll]⟩
  | p :: l => by
    obtain ⟨a, b⟩ := lay_pDs l
    obtain ⟨a1, b1⟩ := lay_oD p.1
    obtain ⟨a2, b2⟩ := lay_oD p.2.1
    obtain ⟨a3, b3⟩ := lay_oD p.2.2
    refine ⟨?_, ?_⟩
    · show ((PyData.canLay0 (oD p.1) && (PyData.canLay0 (oD p.2.1) && (PyData.canLay0 (oD p.2.2) && true))) && PyData.canLayAll0 (l.map pD)) = true
      rw [a, a1, a2, a3] <;> rfl
    · simp only [List.map_cons, pD, PyData.depthAll, PyData.depth]
      omega
theorem shaped_tup (l : List Pc) : SeqAt.shaped (.tuple (l.map pD)) = true := by
  obtain ⟨a, b⟩ := lay_pDs l
  have h2 : PyData.depth (.tuple (l.map pD)) ≤ 64 := by
    simp only [PyData.depth]
    omega
  show (PyData.canLayAll0 (l.map pD) && decide (PyData.depth (.tuple (l.map pD)) ≤ 64)) = true
  rw [a, decide_eq_true h2] <;> rfl
theorem shaped_lst (l : List Pc) : SeqAt.shaped (.list (l.map pD)) = true := by
  obtain ⟨a, b⟩ := lay_pDs l
  have h2 : PyData.depth (.list (l.map pD)) ≤ 64 := by
    simp only [PyData.depth]
    omega
  show (PyData.canLayAll0 (l.map pD) && decide (PyData.depth (.list (l.map pD)) ≤ 64)) = true
  rw [a, decide_eq_true h2] <;> rfl
end C11

end PU11
section PV11
set_option maxHeartbeats 4000000
namespace C11
open PySem PySem.Spec L2 PyProof.Rows
/-! ### numbers of up to forty digits: what repr tells of pieces -/
def SmO (a : Option Int) : Prop := ∀ i, a = some i → i.natAbs < 10 ^ 40
def SmP (l : List Pc) : Prop := ∀ p ∈ l, SmO p.1 ∧ SmO p.2.1 ∧ SmO p.2.2
theorem small_log {i : Int} (h : i.natAbs < 10 ^ 40) : i.natAbs.log2 < 1920 := by
  by_cases z : i.natAbs = 0
  · rw [z]
    decide
  · exact (Nat.log2_lt z).mpr (Nat.lt_of_lt_of_le h (by decide))
theorem shown_oD {a : Option Int} (h : SmO a) : (oD a).shown.length ≤ 41 := by
  cases a with
  | none =>
    show (PyData.none).shown.length ≤ 41
    decide +kernel
  | some i =>
    have e := int_text_length_le10 (k := 40) (by decide) (h i rfl)
    show (Str.ofString (toString i)).length ≤ 41
    rw [PySem.ofString_length]
    exact e
theorem showable_oD {a : Option Int} (h : SmO a) : (oD a).showable = true := by
  cases a with
  | none => rfl
  | some i => exact decide_eq_true (small_log (h i rfl))
theorem shown_pD {p : Pc} (h : SmO p.1 ∧ SmO p.2.1 ∧ SmO p.2.2) : (pD p).shown.length ≤ 140 := by
  have a := shown_oD h.1
  have b := shown_oD h.2.1
  have c := shown_oD h.2.2
  have t := tupleText_len_le [(oD p.1).shown, (oD p.2.1).shown, (oD p.2.2).shown]
  show (tupleText [(oD p.1).shown, (oD p.2.1).shown, (oD p.2.2).shown]).length ≤ 140
  simp only [List.map_cons, List.map_nil, List.sum_cons, List.sum_nil, List.length_cons, List.length_nil] at t
  omega
theorem showable_pD {p : Pc} (h : SmO p.1 ∧ SmO p.2.1 ∧ SmO p.2.2) : (pD p).showable = true := by
  show (PyData.showable (oD p.1) && (PyData.showable (oD p.2.1) && (PyData.showable (oD p.2.2) && true))) = true
  rw [showable_oD h.1, showable_oD h.2.1, showable_oD h.2.2] <;> rfl
theorem shown_sum : ∀ {l : List Pc}, SmP l → ((PyData.shownAll (l.map pD)).map (·.length)).sum ≤ 140 * l.length ∧ (PyData.shownAll (l.map pD)).length = l.length
  | [], _ => ⟨Nat.le_refl _, rfl⟩
  | p :: l, h => by
    obtain ⟨a, b⟩ := shown_sum (l := l) fun q hq => h q (List.mem_cons_of_mem _ hq)
    have c := shown_pD (h p List.mem_cons_self)
    refine ⟨?_, ?_⟩
    · show ((pD p).shown.length :: (PyData.shownAll (l.map pD)).map (·.length)).sum ≤ _
      rw [List.sum_cons, List.length_cons]
      omega
    · show (PyData.shownAll (l.map pD)).length + 1 = l.length + 1
      rw [b]
theorem showable_all : ∀ {l : List Pc}, SmP l → PyData.showableAll (l.map pD) = true
  | [], _ => rfl
  | p :: l, h => by
    show ((pD p).showable && PyData.showableAll (l.map pD)) = true
    rw [showable_pD (h p List.mem_cons_self), showable_all fun q hq => h q (List.mem_cons_of_mem _ hq)] <;> rfl
theorem lst_shown {l : List Pc} (h : SmP l) (hl : l.length ≤ 100) : (PyData.list (l.map pD)).showable = true ∧ (PyData.list (l.map pD)).shown.length ≤ 15000 ∧ (PyData.list (l.map pD)).depth ≤ 60 := by
  obtain ⟨a, b⟩ := shown_sum h
  refine ⟨showable_all h, ?_, ?_⟩
  · have t := listText_len_le (PyData.shownAll (l.map pD))
    show (listText (PyData.shownAll (l.map pD))).length ≤ 15000
    omega
  · have := (lay_pDs l).2
    show PyData.depthAll (l.map pD) + 1 ≤ 60
    omega
def nmText (n : List Pc) : Str := Str.empty ++ "NumberMap(" ++ (PyData.list (n.map pD)).shown ++ ")"
def spReprN (C : Addr) : Sp := fun vs H Q _ => ∃ (m : Addr) (n : List Pc), vs = [.ref m] ∧ NMap C H m n ∧ SmP n ∧ n.length ≤ 100 ∧ ∀ H', Same H H' → Q (.str (nmText n)) H'
def spEq (C CT : Addr) : Sp := fun vs H Q _ => ∃ (m : Addr) (n : List Pc) (y : V), vs = [.ref m, y] ∧ NMap C H m n ∧
  ((∃ (m2 : Addr) (n2 : List Pc), y = .ref m2 ∧ NMap C H m2 n2 ∧ Q (.bl (decide (n = n2))) H) ∨
    (∃ (b : Addr) (xs : List V), y = .ref b ∧ H b = some (.lst xs) ∧ Q (.bl false) H) ∨ ∃ (b dx : Addr) (fs : List (Str × V)), y = .ref b ∧ H b = some (.ins CT dx fs) ∧ fs.lookup ("KIND" : Str) = none ∧ Q (.bl false) H)
section
variable {P : Program} {w : World} {K : PySem.W.Frag} {mg : Str → Option Value} {base : Heap} {f fK fN fV fR fC fI C CM CT CI : Addr} {fd dK dN dV dR dC dI : FuncData}
theorem ok_is_kindN (F : FD K "is_kind" s_is_kind f fd) (T : TW mg) : FnOk P w K mg base CX0 1 f fd ["value"] (spIsKindN K) := by
  refine F.ok sc_is_kind (fun vs H Q E h => ?_) (fun cdv A outer s H vs Q E hr h => ?_)
  · obtain ⟨rfl, _⟩ := h
    rfl
  obtain ⟨rfl, q⟩ := h
  refine ⟨_, PSs.nox (pss_one (ps_ret (pe_and (pe_callB call_isi (by rfl) T.isi boot_isi (pa_cons (pv 0) (pa_cons (pe_bltn (v := .ty "str") (by rfl) T.str (by decide +kernel) rfl) pa_nil))) (pe_one (pe_cmpR op_in_seq (pv 0) (pe_tup (pa_cons pe_str (pa_cons pe_str pa_nil))) (by rfl)))))), ?_⟩
  refine ⟨_, rfl, .str "number", .ty "str", .type "str", _, _, rfl, .ty _, .base (.str _), kit_ty (show kitB "str" "str" = some true by decide +kernel), true, rfl, ?_⟩
  refine (show (if true = true then _ else _) from ?_)
  rw [if_pos rfl]
  refine ⟨_, rfl, by show 2 ≤ sizeLine; decide, fun p hp => ?_⟩
  exact ⟨p, _, rfl, .inr (SqT.of upd_same), rfl, rfl, q _ (same_upd hp)⟩
theorem ok_is_valN (F : FD K "is_value" s_is_value f fd) (KI : Kn P w K mg base 1 "is_kind" fK dK ["value"] (spIsKindN K)) (N : Kn P w K mg base 1 "is_number" fN dN ["value"] (spIsNumber K)) : FnOk P w K mg base CX0 2 f fd ["value", "kind"] (spIsValN K) := by
  refine F.ok sc_is_value (fun vs H Q E h => ?_) (fun cdv A outer s H vs Q E hr h => ?_)
  · obtain ⟨x, t, b1, b2, rfl, _⟩ := h
    rfl
  obtain ⟨x, t, b1, b2, rfl, ty, k1, k2, q⟩ := h
  refine ⟨_, PSs.nox (pss_cons (ps_if (pt_not (pt_val (pe_call KI.f hr rfl KI.m KI.k KI.b .nil pass0 (pa_cons (pv 1) pa_nil)))) (pss_one (ps_ret pe_bl)) pss_nil)
    (pss_cons (ps_if (pt_cmpR op_eq (pv 1) pe_str (nomark _)) (pss_one (ps_ret (pe_call N.f hr rfl N.m N.k N.b .nil pass0 (pa_cons (pv 0) pa_nil)))) pss_nil) pss_never)), ?_⟩
  refine ⟨_, rfl, rfl, fun H1 s1 => ⟨true, rfl, ?_⟩⟩
  refine (show (if (!true) = true then _ else _) from ?_)
  rw [if_neg (by decide)]
  refine ⟨_, rfl, rfl, true, ?_, ?_⟩
  · show V.bl (decide (V.str "number" = V.str "number")) = V.bl true
    rw [decide_eq_true rfl]
  refine (show (if true = true then _ else _) from ?_)
  rw [if_pos rfl]
  exact ⟨_, rfl, x, t, b1, b2, rfl, tyx_same s1 ty, k1, k2, fun H2 s2 => q H2 (s1.trans s2)⟩
theorem ok_at_n (F : FM K "at" "Map.at" s_mat f fd) (N : NMc K C) (O : TcO K C CM "number") (IV : Kn P w K mg base 2 "is_value" fV dV ["value", "kind"] (spIsValN K)) (GR : FnOk P w K mg base CX0 2 fR dR ["self", "value"] (spResult C)) (bR : Binds K dR ["self", "value"] []) (mR : Meth K C "_result" fR) : FnOk P w K mg base CX0 3 f fd ["self", "value"] (spAtN C) := by
  refine F.ok sc_mat (fun vs H Q E h => ?_) (fun cdv A outer s H vs Q E hr h => ?_)
  · obtain ⟨m, n, x, rfl, _⟩ := h
    rfl
  obtain ⟨m, n, x, rfl, nm, hc, hl, q⟩ := h
  obtain ⟨u1, k1⟩ := O.knd
  refine ⟨_, PSs.nox (pss_cons (ps_if (pt_not (pt_val (pe_call IV.f hr rfl IV.m IV.k IV.b .nil pass0 (pa_cons (pv 1) (pa_cons (pe_con (pv 0) rfl) pa_nil))))) pss_never pss_nil)
    (pss_one (ps_ret (pe_meth (pv 0) N.cl mR GR hr bR .nil pass0 (pa_cons (pv 1) pa_nil))))), ?_⟩
  obtain ⟨dx, u, hm, hu⟩ := nm
  refine ⟨_, rfl, _, rfl, m, C, dx, _, _, u1, rfl, hm, N.cl, k1, rfl, .int x, .type "int", true, false, rfl, .base (.int x), kit_ty (show kitB "int" "int" = some true by decide +kernel), kit_ty (show kitB "int" "bool" = some false by decide +kernel), fun H1 s1 => ⟨true, rfl, ?_⟩⟩
  refine (show (if (!true) = true then _ else _) from ?_)
  rw [if_neg (by decide)]
  exact ⟨_, rfl, m, dx, _, rfl, s1 _ _ hm, rfl, _, rfl, m, n, x, rfl, ⟨dx, u, s1 _ _ hm, hu.same s1⟩, hc, hl, q H1 s1⟩
theorem ok_at_x (F : FM K "at" "Map.at" s_mat f fd) (N : NMc K C) (O : TcO K C CM "number") (IV : Kn P w K mg base 2 "is_value" fV dV ["value", "kind"] (spIsValN K)) (GR : FnOk P w K mg base CX0 2 fR dR ["self", "value"] (spResult C)) (bR : Binds K dR ["self", "value"] []) (mR : Meth K C "_result" fR)
    (XI : XcO P w K mg base CI fI dI "InvalidValue" "value") : FnOk P w K mg base (L2.CX P w) 3 f fd ["self", "value"] (spAtX K C CI) := by
  refine F.ok sc_mat (fun vs H Q E h => ?_) (fun cdv A outer s H vs Q E hr h => ?_)
  · obtain ⟨m, n, x, t, b1, b2, rfl, _⟩ := h
    rfl
  obtain ⟨m, n, x, t, b1, b2, rfl, ⟨dx, u, hm, hu⟩, ty, k2, k3, no, q⟩ := h
  have hr2 : Room 2 _ := hr
  obtain ⟨u1, k1⟩ := O.knd
  refine ⟨_, pss_cons (ps_if (pt_not (pt_val (pe_call IV.f hr rfl IV.m IV.k IV.b .nil pass0 (pa_cons (pv 1) (pa_cons (pe_con (pv 0) rfl) pa_nil))))) (pss_one (ps_raise rfl (takes_of rfl rfl rfl rfl) (pmk_xe XI.x XI.i XI.t XI.g hr2 XI.b pass0 (by decide) rfl XI.m (pa_cons (pv 1) pa_nil)))) pss_nil)
    (pss_one (ps_ret (pe_meth (pv 0) N.cl mR GR hr bR .nil pass0 (pa_cons (pv 1) pa_nil)))), ?_⟩
  refine ⟨_, rfl, _, rfl, m, C, dx, _, _, u1, rfl, hm, N.cl, k1, rfl, x, t, b1, b2, rfl, ty, k2, k3, fun H1 s1 => ⟨b1 && !b2, rfl, ?_⟩⟩
  rw [no]
  refine (show (if (!false) = true then _ else _) from ?_)
  rw [if_pos (by decide)]
  exact xraise XI.x XI.no rfl fun d H2 s2 e2 => q d H2 (s1.trans s2) e2
theorem ok_kind (F : FM K "kind" "Map.kind" s_kind f fd) (O : TcO K C CM "number") : FnOk P w K mg base CX0 1 f fd ["self"] (spKind C) := by
  refine F.ok sc_kind (fun vs H Q E h => ?_) (fun cdv A outer s H vs Q E hr h => ?_)
  · obtain ⟨m, dx, fs, rfl, _⟩ := h
    rfl
  obtain ⟨m, dx, fs, rfl, hm, hl, q⟩ := h
  obtain ⟨u1, k1⟩ := O.knd
  exact ⟨_, PSs.nox (pss_one (ps_ret (pe_con (pv 0) rfl))), _, rfl, m, C, dx, _, _, u1, rfl, hm, O.cl, k1, hl, q⟩
theorem ok_content (F : FM K "_content" "NumberMap._content" s_ncontent f fd) (N : NMc K C) : FnOk P w K mg base CX0 1 f fd ["self"] (spContent C) := by
  refine F.ok sc_ncontent (fun vs H Q E h => ?_) (fun cdv A outer s H vs Q E hr h => ?_)
  · obtain ⟨m, dx, u, rfl, _⟩ := h
    rfl
  obtain ⟨m, dx, u, rfl, hm, q⟩ := h
  exact ⟨_, PSs.nox (pss_one (ps_ret (pe_fld (pv 0) rfl))), _, rfl, m, C, dx, _, .ref u, rfl, hm, N.cl, N.nP, rfl, q⟩
theorem ok_npieces (F : FM K "pieces" "NumberMap.pieces" s_npieces f fd) (N : NMc K C) (tl : mg "list" = none) : FnOk P w K mg base CX0 1 f fd ["self"] (spPiecesM C) := by
  refine F.ok sc_npieces (fun vs H Q E h => ?_) (fun cdv A outer s H vs Q E hr h => ?_)
  · obtain ⟨m, n, rfl, _⟩ := h
    rfl
  obtain ⟨m, n, rfl, ⟨dx, u, hm, ts, hu, pr⟩, q⟩ := h
  refine ⟨_, PSs.nox (pss_one (ps_ret (pe_callTy call_list_of (by rfl) tl (by decide +kernel) (pa_cons (pe_fld (pv 0) rfl) pa_nil)))), ?_⟩
  refine ⟨_, rfl, m, C, dx, _, .ref u, rfl, hm, N.cl, N.nP, rfl, u, _, rfl, .inr (SqT.of hu), fun g hg => ?_⟩
  have s1 := same_upd (o := HO.lst (ts.map V.ref)) hg
  exact q g _ hg s1 ⟨ts, upd_same, pr.mono fun t p e => s1 _ _ e⟩
theorem ok_nrepr (F : FM K "__repr__" "NumberMap.__repr__" s_nrepr f fd) (N : NMc K C) (tl : mg "list" = none) (hK : noMods K = true) : FnG P w K mg base CX0 1 f fd ["self"] (spReprN C) := by
  refine F.okG sc_nrepr (fun vs H Q E h => ?_) (fun cdv A outer s H vs Q E hg hr h => ?_)
  · obtain ⟨m, n, rfl, _⟩ := h
    rfl
  obtain ⟨m, n, rfl, ⟨dx, u, hm, ts, hu, pr⟩, sm, hl, q⟩ := h
  have hG := deeper_guards (env := PyProof.Rows.envOfC "NumberMap.__repr__" (defScope s_nrepr) s.heap.objs.size f cdv) hg
  have hu' := hr.units
  refine ⟨_, PSs.nox (pss_one (ps_ret (pe_joined (.cons pe_str (.cons (pe_fmtD (by exact hG) (by exact hu') (by exact hK) (pe_callTy call_list_of (by rfl) tl (by decide +kernel) (pa_cons (pe_fld (pv 0) rfl) pa_nil))) (.cons pe_str .nil)))))), ?_⟩
  obtain ⟨a1, a2, a3⟩ := lst_shown sm hl
  have e1 : (Str.empty ++ "NumberMap(" : Str).length = 10 := by decide +kernel
  have e2 : (")" : Str).length = 1 := by decide +kernel
  have big : 20000 ≤ sizeLine := by decide
  refine ⟨_, rfl, by rw [e1]; exact Nat.le_trans (by decide) big, _, rfl, m, C, dx, _, .ref u, rfl, hm, N.cl, N.nP, rfl, u, _, rfl, .inr (SqT.of hu), fun g hgg => ?_⟩
  have s1 := same_upd (o := HO.lst (ts.map V.ref)) hgg
  have lg : LstAt (upd H g (.lst (ts.map V.ref))) g n := ⟨ts, upd_same, pr.mono fun t p e => s1 _ _ e⟩
  refine ⟨_, rp_lst lg, a1, Nat.le_trans a2 (by decide), a3, _, rfl, ?_, _, rfl, ?_, q _ s1⟩
  · rw [strLen_append, e1]
    omega
  · rw [strLen_append, strLen_append, e1, e2]
    omega
theorem ok_meq (F : FM K "__eq__" "Map.__eq__" s_meq f fd) (N : NMc K C) (O : TcO K C CM "number") (OT : TcO K CT CM "text") (kl : PySem.W.kitOne K (.type "list") (.ref CM) = some false) (ti : mg "isinstance" = none) (tM : mg "Map" = some (.ref CM))
    (GC : FnOk P w K mg base CX0 1 fC dC ["self"] (spContent C)) (bC : Binds K dC ["self"] []) (mC : Meth K C "_content" fC) : FnOk P w K mg base CX0 2 f fd ["self", "other"] (spEq C CT) := by
  refine F.ok sc_meq (fun vs H Q E h => ?_) (fun cdv A outer s H vs Q E hr h => ?_)
  · obtain ⟨m, n, y, rfl, _⟩ := h
    rfl
  obtain ⟨m, n, y, rfl, ⟨dx, u, hm, hu⟩, h⟩ := h
  have hun := hr.units
  obtain ⟨u1, k1⟩ := O.knd
  obtain ⟨u2, k2⟩ := OT.knd
  refine ⟨_, PSs.nox (pss_one (ps_ret (pe_and (pe_callB call_isi (by rfl) ti boot_isi (pa_cons (pv 1) (pa_cons (pe_glob (v := .ref CM) rfl tM rfl) pa_nil))) (pe_and (pe_cmpR op_eq (pe_con (pv 0) rfl) (pe_con (pv 1) rfl) (nomark _))
    (pe_one (pe_cmpR (op_eqD (by exact hun)) (pe_meth0 (pv 0) N.cl mC GC hr bC .nil pass0) (pe_meth0 (pv 1) N.cl mC GC hr bC .nil pass0) (nomark _))))))), ?_⟩
  rcases h with ⟨m2, n2, rfl, ⟨dy, v, hm2, hv⟩, q⟩ | ⟨b, xs, rfl, hb, q⟩ | ⟨b, dy, fs, rfl, hb, hl, q⟩
  · refine ⟨_, rfl, .ref m2, .ref CM, .ref C, _, _, rfl, .own _, O.ty hm2, O.kit, true, rfl, ?_⟩
    refine (show (if true = true then _ else _) from ?_)
    rw [if_pos rfl]
    refine ⟨_, rfl, m, C, dx, _, _, u1, rfl, hm, N.cl, k1, rfl, _, rfl, m2, C, dy, _, _, u1, rfl, hm2, N.cl, k1, rfl, rfl, true, ?_, ?_⟩
    · show V.bl (decide (V.str "number" = V.str "number")) = V.bl true
      rw [decide_eq_true rfl]
    refine (show (if true = true then _ else _) from ?_)
    rw [if_pos rfl]
    refine ⟨_, rfl, m, dx, _, rfl, hm, rfl, m, dx, u, rfl, hm, _, rfl, m2, dy, _, rfl, hm2, rfl, m2, dy, v, rfl, hm2, _, _, dp_tup hu, dp_tup hv, shaped_tup n, shaped_tup n2, ?_⟩
    show Q (V.bl (PyData.eqvAll (n.map pD) (n2.map pD))) H
    rw [eqv_pDs]
    exact q
  · refine ⟨_, rfl, .ref b, .ref CM, .type "list", _, _, rfl, .own _, .base (.lst hb), kl, false, rfl, ?_⟩
    refine (show (if false = true then _ else _) from ?_)
    rw [if_neg (by decide)]
    exact q
  · refine ⟨_, rfl, .ref b, .ref CM, .ref CT, _, _, rfl, .own _, OT.ty hb, OT.kit, true, rfl, ?_⟩
    refine (show (if true = true then _ else _) from ?_)
    rw [if_pos rfl]
    refine ⟨_, rfl, m, C, dx, _, _, u1, rfl, hm, N.cl, k1, rfl, _, rfl, b, CT, dy, _, _, u2, rfl, hb, OT.cl, k2, hl, rfl, false, ?_, ?_⟩
    · show V.bl (decide (V.str "number" = V.str "text")) = V.bl false
      rw [decide_eq_false (by decide +kernel)]
    refine (show (if false = true then _ else _) from ?_)
    rw [if_neg (by decide)]
    exact q
end
end C11

end PV11
section PW11
set_option maxHeartbeats 4000000
/-! set(xs), xs a list of integers. -/
namespace InSet
open PySem PySem.Spec PyProof.Rows L2
abbrev newSet (w : World) : Obj := { cls := .type "set", dict := none, data := .set #[] 0 (.fresh 0 0 (!w.params.followText "set-order")) }
theorem new_setI {w : World} {h : Heap} {a : Addr} (ho : h.get? a = some (newSet w)) : SetR w h a (fun j => decide (j ∈ ([] : List Int).take 0)) 0 :=
  ⟨_, #[], 0, _, ho, ⟨rfl, rfl, rfl⟩, rfl, (fun e he => by simp at he), (by simp), (fun k => by simp), (by decide), (by rfl), rfl, List.Pairwise.nil, by
    show _ ∨ (!w.params.followText "set-order") = true
    cases w.params.followText "set-order"
    · exact .inr rfl
    · exact .inl rfl⟩
section
variable {P : Program} {w : World} {A : Around} {E : Value → Shared → Prop} {s : Shared}
set_option maxHeartbeats 6400000 in
theorem set_ofI {l : Addr} {items : Array Value} {ns : List Int} {Q : Value → Shared → Prop} (hh : A.handled = none) (hl : s.heap.IsList l items) (hi : IntsAre items.toList ns) (hb : ns.length + 1 < scanBound)
    (h : ∀ (h' : Heap) (tk c : Nat), SetR w h' s.heap.objs.size (fun j => decide (j ∈ ns)) c → c ≤ ns.length → (∀ b o, b < s.heap.objs.size → s.heap.get? b = some o → h'.get? b = some o) → Q (.ref s.heap.objs.size) { s with heap := h', toks := tk }) :
    wpAny (model P w) A (call (.type "set") [.ref l]) Q E s := by
  obtain ⟨c, tl, hmro⟩ := PySem.F.called_set.mro
  have m1 := PySem.F.called_set.made
  have m2 := PySem.F.called_set.sub
  refine wpAny_call (codeAny_of_tree ?_)
  show wpAny _ _ (callAny (.type "set") _) _ _ _
  refine wpAny_pure ⟨Code.quiet_builtin _ (by decide +kernel), codeAny_builtin PySem.F.entry_type_call ?_⟩
  rw [Around.under_plain (weight_type_call_type "set" [.ref l] []) rfl]
  have m3 := PySem.F.called_set.notType
  have m4 := PySem.F.called_set.canCreate
  have m5 := PySem.F.typeCall_set_1 (.ref l)
  repeat (any_goals (first | assumption | wp_step))
  refine codeAny_mono (code_set_led1 (.ref l) (E := E) (Q₁ := fun obj s₁ => obj = .ref s.heap.objs.size ∧ s₁ = { s with heap := s.heap.push (newSet w) }) ⟨rfl, rfl⟩) fun r s₁ hr => ?_
  cases r with
  | error e => exact hr
  | ok fl =>
    cases fl with
    | ret obj =>
      obtain ⟨rfl, rfl⟩ := hr
      have hS : (s.heap.push (newSet w)).get? s.heap.objs.size = some (newSet w) := Heap.get?_push_size _ rfl
      have hT : Shared.TypeIs { s with heap := s.heap.push (newSet w) } (.ref s.heap.objs.size) "set" := ⟨_, hS, rfl⟩
      have m6 := PySem.F.called_set.init.lookup
      have m7 := PySem.F.called_set.init.bind (.ref s.heap.objs.size)
      repeat (any_goals (first | assumption | wp_step))
      refine codeAny_mono (codeAny_call_builtin (R := wants (fun r s₂ => r = .none ∧ ∃ h' tk c, s₂ = { s with heap := h', toks := tk } ∧ SetR w h' s.heap.objs.size (fun j => decide (j ∈ ns)) c ∧ c ≤ ns.length ∧ (∀ b o, b < s.heap.objs.size → s.heap.get? b = some o → h'.get? b = some o)) E)
        PySem.F.called_set.init.plain PySem.F.entry_set_init (check_set_init_1 hT ?_)) fun r₂ s₂ hr₂ => ?_
      · obtain ⟨⟨ocls, odict, odata, oslots⟩, hol, hcl, nl, hdl⟩ := hl
        simp only at hcl hdl
        subst hcl hdl
        have hol' : (s.heap.push (newSet w)).get? l = some { cls := .type "list", dict := odict, data := .seq items nl, slots := oslots } := Heap.get?_push_of_some _ hol
        have hsls := PySem.F.sub_list_set
        have hslf := PySem.F.sub_list_frozenset
        have hne : (Value.type "list" == Value.type "dict") = false := by decide
        have hl1 : (s.heap.push (newSet w)).IsList l items := ⟨_, hol', rfl, nl, rfl⟩
        unfold Builtin.«set.__init__» noKeywords Builtin.Frozenset.updateFrom
        generalize hPI : pyIter = PI
        wp_walk
        subst hPI
        refine wpAny_pyIter_list hl1 ?_
        refine wpAny_bind (wpAny_runValue ?_)
        have hlS : l < s.heap.objs.size := Heap.lt_size hol
        have hh3 : A.in1.in1.in1.handled = none := by simp [hh]
        have hneI : l ≠ (s.heap.push (newSet w)).objs.size := by
          rw [Heap.size_push]
          exact Nat.ne_of_lt (Nat.lt_succ_of_lt hlS)
        have hSf : s.heap.objs.size ∉ [(s.heap.push (newSet w)).objs.size, l] := by
          rw [Heap.size_push]
          simp only [List.mem_cons, List.mem_singleton, List.not_mem_nil, or_false, not_or]
          exact ⟨Nat.ne_of_lt (Nat.lt_succ_self _), Nat.ne_of_gt hlS⟩
        have hisz : items.size = ns.length := by
          have q := IntsAre.length hi
          rw [Array.length_toList] at q
          exact q
        have hval : ∀ (i : Nat) (v : Value), items[i]? = some v → ∃ k t, ns[i]? = some k ∧ v = .int k t := fun i v hv => by
          have hlt : i < ns.length := by rw [← hisz]; exact (Array.getElem?_eq_some_iff.mp hv).1
          obtain ⟨t, e⟩ := PyProof.Rows.IntsAre.int_at hi i v (by rw [Array.getElem?_toList]; exact hv)
          refine ⟨ns[i], t, List.getElem?_eq_getElem hlt, ?_⟩
          rw [e, List.getD_eq_getElem?_getD, List.getElem?_eq_getElem hlt] <;> rfl
        refine set_update_ints ((Walks.list hh3 _ l hneI items).toS) s.heap.objs.size hSf ns hisz hb hval (items.size - 0) 0 _ (by omega) (Nat.zero_le _)
          ⟨⟨_, Heap.get?_push_size _ rfl, rfl, rfl⟩, (hl1.push _)⟩ ?start ?last
        case start =>
          have z : ((s.heap.push (newSet w)).push { cls := .type "list_iterator", data := .fields #[.ref l, .int 0 0] }).get? s.heap.objs.size = some (newSet w) := Heap.get?_push_of_some _ hS
          exact ⟨0, Nat.le_refl _, new_setI z⟩
        case last =>
          intro s' c0 hm hc0 hS'
          obtain ⟨h', g', d', tk', os'⟩ := s'
          have eg : g' = s.gens := hm.gens
          have ed : d' = s.drawn := hm.drawn
          have eo : os' = s.os := hm.os
          subst eg ed eo
          show wpAny _ _ _ _ _ _
          refine wpAny_pure ?_
          show wpAny _ _ (ret Value.none) _ _ _
          refine wpAny_pure ⟨rfl, h', tk', c0, rfl, hS', by rw [← hisz]; exact hc0, fun b o hb e => ?_⟩
          refine hm.heap b o ?_ (Heap.get?_push_of_some _ (Heap.get?_push_of_some _ e))
          rw [Heap.size_push]
          simp only [List.mem_cons, List.mem_singleton, List.not_mem_nil, or_false, not_or]
          exact ⟨Nat.ne_of_lt hb, Nat.ne_of_lt (Nat.lt_succ_of_lt hb)⟩
      · cases r₂ with
        | error e => exact hr₂
        | ok fl₂ =>
          cases fl₂ with
          | ret r =>
            obtain ⟨rfl, h', tk, c0, rfl, hS', hc0, hk'⟩ := hr₂
            repeat (any_goals (first | assumption | wp_step))
            exact h _ _ _ hS' hc0 hk'
          | _ => exact hr₂.elim
    | _ => exact hr.elim
end
end InSet
namespace L2
open PySem PySem.Spec PyProof.Rows
def rSetIn (K : PySem.W.Frag) (w : World) : List V → Hp → VK → Prop := fun vs H Q => ∃ (l : Addr) (ns : List Int), vs = [V.ref l] ∧ SqL K H l (ns.map V.int) ∧ ns.length ≤ 4000 ∧ ∀ a c, H a = none → c ≤ ns.length → Q (.ref a) (upd H a (SetO w a (fun j => decide (j ∈ ns)) c))
theorem cr_setIn {X : Cx} (hc : X.calm = true) : CallR X (.type "set") (rSetIn X.K X.w) := by
  intro pins s σ H vs us Q I r h
  obtain ⟨l, ns, rfl, hs, hb, q⟩ := h
  obtain ⟨its, rv, hl, _⟩ := I.list hs
  rw [Vals.ref1 r]
  refine InSet.set_ofI (I.ok.hd hc) hl.isList rv.ints (by unfold scanBound; omega) fun h' tk c hS hle k => ?_
  have kk : ∀ b o, s.heap.get? b = some o → h'.get? b = some o := fun b o e => k b o (Heap.lt_size e) e
  exact ⟨.ref _, upd H s.heap.objs.size (SetO X.w s.heap.objs.size (fun j => decide (j ∈ ns)) c), I.laid (t' := tk) kk (Nat.le_refl _) (setO_new hS), rfl, q _ c (I.hok.fresh (Nat.le_refl _)) hle⟩
end L2

end PW11
section PX11
set_option maxHeartbeats 4000000
namespace C11
open PySem PySem.Spec L2 PyProof.Rows
/-! ### limits, rows -/
abbrev s_limit : Stmt := top 27
abbrev s_rows : Stmt := top 28
def Lim (v : Int) : Prop := v.natAbs < 10 ^ 30
def spLimit : Sp := fun vs H Q _ => ∃ (p : Addr), vs = [.ref p] ∧ PotAt H p ∧ ∀ (v : Int) (H' : Hp), Lim v → Bt p H H' → PotAt H' p → Q (.int v) H'
theorem sc_limit : FnScope ["_law_pot_here"] ["_law_pot_here"] (defScope s_limit) := ⟨rfl, rfl, rfl, by decide +kernel, rfl, by decide +kernel, by decide +kernel⟩
section
variable {P : Program} {w : World} {K : PySem.W.Frag} {mg : Str → Option Value} {base : Heap} {f fD fP : Addr} {fd dD dP : FuncData}
theorem ok_limit (F : FD K "_law_limit" s_limit f fd) (D : Kn P w K mg base 1 "_law_draw" fD dD ["_law_pot_here", "_law_many"] spDraw) (PK : Kn P w K mg base 2 "_law_pick" fP dP ["_law_pot_here", "_law_some"] (spPick K)) : FnOk P w K mg base CX0 3 f fd ["_law_pot_here"] spLimit := by
  refine F.ok sc_limit (fun vs H Q E h => ?_) (fun cdv A outer s H vs Q E hr h => ?_)
  · obtain ⟨p, rfl, _⟩ := h
    rfl
  obtain ⟨p, rfl, hP, q⟩ := h
  refine ⟨_, PSs.nox (pss_cons (ps_if (pt_cmpR op_eq (pe_call D.f (hr.mono (by decide)) rfl D.m D.k D.b .nil pass0 (pa_cons (pv 0) (pa_cons pe_int pa_nil))) pe_int (nomark _))
      (pss_one (ps_ret (pe_call PK.f hr rfl PK.m PK.k PK.b .nil pass0 (pa_cons (pv 0) (pa_cons (pe_lst (pa_cons (pe_op op_pow pe_int pe_int) (pa_cons (pe_un un_neg (pe_op op_pow pe_int pe_int)) (pa_cons (pe_op op_add (pe_op op_pow pe_int pe_int) pe_int) (pa_cons (pe_op op_pow pe_int pe_int) (pa_cons (pe_un un_neg (pe_op op_pow pe_int pe_int)) pa_nil)))))) pa_nil))))) pss_nil)
    (pss_one (ps_ret (pe_call PK.f hr rfl PK.m PK.k PK.b .nil pass0 (pa_cons (pv 0) (pa_cons (pe_lst (pa_cons pe_int (pa_cons pe_int (pa_cons (pe_un un_neg pe_int) (pa_cons pe_int (pa_cons pe_int (pa_cons (pe_un un_neg pe_int) (pa_cons pe_int (pa_cons pe_int pa_nil))))))))) pa_nil)))))), ?_⟩
  refine ⟨_, rfl, p, 12, rfl, hP, by decide, by decide, fun n H1 n0 n1 b1 hP1 => ⟨rfl, _, rfl, ?_⟩⟩
  have cp20 : CPow 10 20 := ⟨by decide, by decide, by decide⟩
  have cp29 : CPow 10 29 := ⟨by decide, by decide, by decide⟩
  have fin : ∀ (xs : List Int), 0 < xs.length → xs.length ≤ 1000 → (∀ v ∈ xs, Lim v) → ∀ l, H1 l = none → spPick K [.ref p, .ref l] (upd H1 l (.lst (xs.map V.int))) Q E0 := fun xs x0 x1 hx l hl => by
    refine ⟨p, l, _, rfl, hP1.bt (same_upd hl), pot_ne hP1 hl, upd_same, by rw [List.length_map]; exact x0, by rw [List.length_map]; exact x1, fun i v H2 hi b2 hP2 => ?_⟩
    rw [List.getElem?_map] at hi
    cases e : xs[i]? with
    | none =>
      rw [e] at hi
      cases hi
    | some u =>
      rw [e] at hi
      cases (show V.int u = v from Option.some.inj hi)
      exact q u H2 (hx u (List.mem_of_getElem? e)) (b1.trans ((Same.bt (same_upd hl)).trans b2)) hP2
  refine ite2 (fun h => ?_) (fun h => ?_)
  · refine ⟨_, rfl, 10, 20, rfl, rfl, cp20, 10, 20, rfl, rfl, cp20, _, rfl, 10, 20, rfl, rfl, cp20, _, _, rfl, rfl, 10, 29, rfl, rfl, cp29, 10, 29, rfl, rfl, cp29, _, rfl, by show 5 ≤ sizeLine; decide, fun l hl => ?_⟩
    refine fin [10 ^ 20, -(10 ^ 20), 10 ^ 20 + 1, 10 ^ 29, -(10 ^ 29)] (by decide) (by decide) (fun v hv => ?_) l hl
    simp only [List.mem_cons, List.not_mem_nil, or_false] at hv
    rcases hv with rfl | rfl | rfl | rfl | rfl <;> (show Int.natAbs _ < 10 ^ 30; decide)
  · refine ⟨_, rfl, _, rfl, _, rfl, by show 8 ≤ sizeLine; decide, fun l hl => ?_⟩
    refine fin [0, 1, -1, 2, 5, -3, 9, 10] (by decide) (by decide) (fun v hv => ?_) l hl
    simp only [List.mem_cons, List.not_mem_nil, or_false] at hv
    rcases hv with rfl | rfl | rfl | rfl | rfl | rfl | rfl | rfl <;> (show Int.natAbs _ < 10 ^ 30; decide)
end
end C11

end PX11
section PY11
set_option maxHeartbeats 4000000
namespace C11
open PySem PySem.Spec L2 PyProof.Rows
/-! ### drawn rows -/
theorem boot_sorted : bootBuiltins "sorted" = some (.builtin "sorted") := by decide +kernel
abbrev nRows : List Str := ["_law_pot_here", "_law_rows_here", "_law_low", "_law_edge", "_law_turn"]
theorem sc_rows : FnScope nRows ["_law_pot_here"] (defScope s_rows) := ⟨rfl, rfl, rfl, by decide +kernel, rfl, by decide +kernel, by decide +kernel⟩
/-- pieces with limits of up to thirty digits -/
def LimO (a : Option Int) : Prop := ∀ i, a = some i → i.natAbs ≤ 10 ^ 30
def LimP (l : List Pc) : Prop := ∀ p ∈ l, LimO p.1 ∧ LimO p.2.1 ∧ LimO p.2.2
theorem limO_of {v : Int} (h : Lim v) : LimO (some v) := fun i e => by
  cases e
  exact Nat.le_of_lt h
def spRows : Sp := fun vs H Q _ => ∃ (p : Addr), vs = [.ref p] ∧ PotAt H p ∧ ∀ (R : Addr) (l : List Pc) (H' : Hp), LstAt H' R l → chn none l → l.length ≤ 4 → LimP l → Bt p H H' → PotAt H' p → Q (.ref R) H'
structure TS11 (mg : Str → Option Value) : Prop where
  set : mg "set" = none
  sorted : mg "sorted" = none
  range : mg "range" = none
section
variable {P : Program} {w : World} {K : PySem.W.Frag} {mg : Str → Option Value} {base : Heap} {f fD fP fL : Addr} {fd dD dP dL : FuncData}
/-- pick(pot, [None, limit(pot)]) -/
theorem ok_pickN {σ : L2.St} {H : Hp} {p : Addr} {Q : VK} (e : σ[0]? = some (some (.ref p))) (hP : PotAt H p) (q : ∀ (w : Option Int) (H' : Hp), LimO w → Bt p H H' → PotAt H' p → Q (oV w) H') :
    tCall (spPick K) [] E0 (tCons (tVar 0) (tCons (tLst (tCons (tC .non) (tCons (tCall spLimit [] E0 (tCons (tVar 0) tNil)) tNil))) tNil)) σ H Q := by
  refine ⟨_, e, _, e, p, rfl, hP, fun v H1 hv b1 hP1 => ⟨by show 2 ≤ sizeLine; decide, fun l hl => ?_⟩⟩
  refine ⟨p, l, _, rfl, hP1.bt (same_upd hl), pot_ne hP1 hl, upd_same, by show 0 < 2; decide, by show 2 ≤ 1000; decide, fun i u H2 hi b2 hP2 => ?_⟩
  have b3 := b1.trans ((Same.bt (same_upd hl)).trans b2)
  have mem := List.mem_of_getElem? hi
  simp only [List.mem_cons, List.not_mem_nil, or_false] at mem
  rcases mem with rfl | rfl
  · exact q none H2 (fun i z => nomatch z) b3 hP2
  · exact q (some v) H2 (limO_of hv) b3 hP2
theorem ok_rows (F : FD K "_law_rows" s_rows f fd) (T : TS11 mg) (D : Kn P w K mg base 1 "_law_draw" fD dD ["_law_pot_here", "_law_many"] spDraw) (PK : Kn P w K mg base 2 "_law_pick" fP dP ["_law_pot_here", "_law_some"] (spPick K)) (LM : Kn P w K mg base 3 "_law_limit" fL dL ["_law_pot_here"] spLimit) : FnOk P w K mg base CX0 4 f fd ["_law_pot_here"] spRows := by
  refine F.ok sc_rows (fun vs H Q E h => ?_) (fun cdv A outer s H vs Q E hr h => ?_)
  · obtain ⟨p, rfl, _⟩ := h
    rfl
  obtain ⟨p, rfl, hP, q⟩ := h
  refine ⟨_, PSs.nox (pss_cons (ps_par (i := 1) (j := 2) (by rfl) sc_rows.nd rfl rfl (by decide) rfl rfl (pa_cons (pe_lst pa_nil) (pa_cons pe_non pa_nil)) (by rfl))
    (pss_cons (ps_for .never (by rfl) (pi_list (pe_callB (cr_sortedSet rfl) (by rfl) T.sorted boot_sorted (pa_cons (pe_callTy (cr_setIn rfl) (by rfl) T.set (by decide +kernel) (pa_cons (pe_lc (own := [("_law_turn", 4)]) (g := gName 4) (tt := tYes) (te := tCall spLimit [] E0 (tCons (tVar 0) tNil)) rfl sc_rows.nd (pi_range1 rfl T.range (pa_cons (pe_call D.f (hr.mono (by decide)) rfl D.m D.k D.b .nil pass0 (pa_cons (pv 0) (pa_cons pe_int pa_nil))) pa_nil)) (blkOk_by (N := nRows) (sc := defScope s_rows) (by decide +kernel)) (fun _ _ _ _ _ => pg_name (i := 4) sc_rows.nd rfl (Or.inl rfl)) (fun _ _ _ _ _ => pts_nil)
        (fun _ _ _ _ _ => by exact (pe_call LM.f hr rfl LM.m LM.k LM.b .nil pass0 (pa_cons (pv 0) pa_nil)))) pa_nil)) pa_nil))) (pg_name (i := 3) sc_rows.nd rfl (Or.inl rfl))
      (pss_cons (ps_expr (pe_bm PySem.F.plainAttrs_list PySem.F.slot_list_append PySem.F.type_list_append mt_append (pv 1) (pa_cons (pe_tup (pa_cons (pv 2) (pa_cons (pv 3) (pa_cons (pe_call PK.f (hr.mono (by decide)) rfl PK.m PK.k PK.b .nil pass0 (pa_cons (pv 0) (pa_cons (pe_lst (pa_cons pe_non (pa_cons (pe_call LM.f hr rfl LM.m LM.k LM.b .nil pass0 (pa_cons (pv 0) pa_nil)) pa_nil))) pa_nil))) pa_nil)))) pa_nil)))
      (pss_one (ps_set (i := 2) sc_rows.nd rfl (Or.inl rfl) (pe_op op_add (pv 3) pe_int)))))
    (pss_one (ps_ret (pe_op op_cat (pv 1) (pe_lst (pa_cons (pe_tup (pa_cons (pv 2) (pa_cons pe_non (pa_cons (pe_call PK.f (hr.mono (by decide)) rfl PK.m PK.k PK.b .nil pass0 (pa_cons (pv 0) (pa_cons (pe_lst (pa_cons pe_non (pa_cons (pe_call LM.f hr rfl LM.m LM.k LM.b .nil pass0 (pa_cons (pv 0) pa_nil)) pa_nil))) pa_nil))) pa_nil)))) pa_nil))))))), ?_⟩
  refine ⟨Nat.zero_le _, fun g hg => ⟨_, _, rfl, ?_⟩⟩
  have ngp : g ≠ p := pot_ne hP hg
  have c1 : Bt p H (upd H g (.lst [])) := Same.bt (same_upd hg)
  have hP1 := hP.bt (same_upd (o := HO.lst []) hg)
  have hg1 : (upd H g (.lst [])) g = some (.lst []) := upd_same
  generalize upd H g (.lst []) = H1 at c1 hP1 hg1 ⊢
  refine ⟨_, rfl, p, 4, rfl, hP1, by decide, by decide, fun k H2 k0 k1 b2 hP2 => ⟨k, rfl, by omega, by omega, fun D0 hD0 => ?_⟩⟩
  have nD0 := pot_ne hP2 hD0
  have c2 := c1.trans b2
  have hg2 := b2 _ _ ngp hg1
  refine lc_range (lo := 0) (n := k.toNat) (fun i H' => Bt p H2 H' ∧ PotAt H' p ∧ ∃ ns : List Int, H' D0 = some (.lst (ns.map V.int)) ∧ (∀ v ∈ ns, Lim v) ∧ ns.length = i) ⟨Same.bt (same_upd hD0), hP2.bt (same_upd hD0), [], upd_same, fun v h => absurd h List.not_mem_nil, rfl⟩ (fun i H3 hi ⟨c3, hP3, ns, hD3, hv, hl⟩ => ?_) fun H3 ⟨c3, hP3, ns, hD3, hv, hl⟩ => ?_
  · refine ⟨rfl, ?_⟩
    simp only [tYes, ↓reduceIte]
    refine ⟨_, rfl, p, rfl, hP3, fun v H4 lv b4 hP4 => ?_⟩
    have hD4 := b4 _ _ nD0 hD3
    refine ⟨_, hD4, by rw [List.length_map, hl]; exact Nat.lt_of_lt_of_le (show i < 4 by omega) (by decide), fun c o nc e => ?_, ?_, ns ++ [v], by rw [upd_same, List.map_append]; rfl, fun u hu => ?_, by rw [List.length_append, hl]; rfl⟩
    · rw [upd_ne (ne_of_none e hD0)]
      exact b4 _ _ nc (c3 _ _ nc e)
    · obtain ⟨a, b, e, r⟩ := hP4
      exact ⟨a, b, by rw [upd_ne (Ne.symm nD0)]; exact e, r⟩
    · rcases List.mem_append.mp hu with h | h
      · exact hv u h
      · rw [List.mem_singleton.mp h]
        exact lv
  have kl : ns.length ≤ 3 := by omega
  have c3' := c2.trans c3
  have hg3 := c3 _ _ ngp hg2
  refine ⟨D0, ns, rfl, SqL.of hD3, by omega, fun a c ha hc => ?_⟩
  refine ⟨a, _, c, rfl, upd_same, by omega, fun ms S hs hm hml hS => ?_⟩
  have nSp : S ≠ p := pot_ne (hP3.bt (same_upd ha)) hS
  have s5 : Same H3 (upd (upd H3 a (SetO (cxOf CX0 P w K mg base nRows "_law_rows" (defScope s_rows) f cdv A outer s H E).nox.w a (fun j => decide (j ∈ ns)) c)) S (.lst (ms.map V.int))) := (same_upd ha).trans (same_upd hS)
  have hS5 : (upd (upd H3 a (SetO (cxOf CX0 P w K mg base nRows "_law_rows" (defScope s_rows) f cdv A outer s H E).nox.w a (fun j => decide (j ∈ ns)) c)) S (.lst (ms.map V.int))) S = some (.lst (ms.map V.int)) := upd_same
  generalize upd (upd H3 a (SetO (cxOf CX0 P w K mg base nRows "_law_rows" (defScope s_rows) f cdv A outer s H E).nox.w a (fun j => decide (j ∈ ns)) c)) S (.lst (ms.map V.int)) = H5 at s5 hS5 ⊢
  have hP5 := hP3.bt s5
  have hg5 := s5 _ _ hg3
  have c5 := c3'.trans (Same.bt s5)
  have hlim : ∀ v ∈ ms, Lim v := fun v hv' => hv v (of_decide_eq_true ((hm v).mp hv'))
  have ml3 : ms.length ≤ 3 := by omega
  have hg0 : H g = none := hg
  clear hS hD3 hD0 c3 c3' c2 hP3 hP2 hP1 hg2 hg3 hg1 c1 b2 s5 hm
  refine ⟨S, rfl, ⟨_, SqL.of hS5⟩, ?_⟩
  refine for_list (xs := ms.map V.int) (fun i σ' H' => Bt p H H' ∧ PotAt H' p ∧ H' S = some (.lst (ms.map V.int)) ∧ ∃ (st : Option Int) (x : Option V) (ts : List Addr) (acc : List Pc), σ' = [some (.ref p), some (.ref g), some (oV st), x, none] ∧ H' g = some (.lst (ts.map V.ref)) ∧ Paired (PcAt H') ts acc ∧ acc.length = i ∧ (∀ r, chn st r → chn none (acc ++ r)) ∧ LimP acc ∧ LimO st ∧ ∀ b, st = some b → ∀ j v, i ≤ j → ms[j]? = some v → b ≤ v)
    ⟨c5, hP5, hS5, none, none, [], [], rfl, hg5, .nil, rfl, fun r hr' => hr', fun q hq => absurd hq List.not_mem_nil, fun i z => (nomatch z), fun b z => (nomatch z)⟩ (fun i σ' H' _ ⟨_, _, e, _⟩ => SqL.of e) (fun i x σ' H6 hx ⟨c6, hP6, hS6, st, y, ts, acc, eσ, hg6, pr, al, hch, la, ls, lo⟩ => ?_) (fun σ' H6 ⟨c6, hP6, hS6, st, y, ts, acc, eσ, hg6, pr, al, hch, la, ls, lo⟩ => ?_)
  · subst eσ
    rw [List.getElem?_map] at hx
    cases ei : ms[i]? with
    | none =>
      rw [ei] at hx
      cases hx
    | some v =>
      rw [ei] at hx
      cases (show V.int v = x from Option.some.inj hx)
      have lv := hlim v (List.mem_of_getElem? ei)
      have il : i < ms.length := (List.getElem?_eq_some_iff.mp ei).1
      have ngS : S ≠ g := fun z => by
        rw [z, hg6] at hS6
        have l1 := congrArg List.length (HO.lst.inj (Option.some.inj hS6))
        have tl : ts.length = acc.length := pr.length
        rw [List.length_map, List.length_map] at l1
        omega
      refine ⟨_, rfl, .inl ⟨rfl, _, SqL.of hg6⟩, _, rfl, _, rfl, ?_⟩
      refine ok_pickN (σ := [some (.ref p), some (.ref g), some (oV st), some (.int v), none]) rfl hP6 fun w0 H7 lw b7 hP7 => ?_
      refine ⟨by show 3 ≤ sizeLine; decide, fun t ht => ?_⟩
      have s8 := same_upd (o := HO.tup [oV st, V.int v, oV w0]) ht
      have hg7 := b7 _ _ ngp hg6
      have hg8 := s8 _ _ hg7
      have ht8 : (upd H7 t (.tup [oV st, V.int v, oV w0])) t = some (.tup [oV st, V.int v, oV w0]) := upd_same
      have nref : ∀ (c : Addr) (q : Pc), PcAt H6 c q → c ≠ p := fun c q e z => by
        obtain ⟨a, b, e2, _⟩ := hP6
        unfold PcAt at e
        rw [z, e2] at e
        cases e
      have keepP : ∀ (c : Addr) (q : Pc), PcAt H6 c q → PcAt (upd H7 t (.tup [oV st, V.int v, oV w0])) c q := fun c q e => s8 _ _ (b7 _ _ (nref c q e) e)
      have pr8 := pr.mono keepP
      have hP8 := hP7.bt s8
      have hS8 := s8 _ _ (b7 _ _ nSp hS6)
      have c8 : Bt p H (upd H7 t (.tup [oV st, V.int v, oV w0])) := (c6.trans b7).trans (Same.bt s8)
      generalize upd H7 t (.tup [oV st, V.int v, oV w0]) = H8 at s8 hg8 ht8 pr8 hP8 hS8 c8 ⊢
      have tl : ts.length = acc.length := pr.length
      refine ⟨g, _, _, rfl, rfl, hg8, by rw [List.length_map, tl, al]; exact Nat.lt_of_lt_of_le (show i < 4 by omega) (by decide), ?_⟩
      have keep : ∀ c xs, H8 c = some (HO.tup xs) → (upd H8 g (.lst (ts.map V.ref ++ [.ref t]))) c = some (HO.tup xs) := fun c xs e => by
        have n : c ≠ g := fun z => by
          rw [z, hg8] at e
          cases e
        rw [upd_ne n]
        exact e
      refine ⟨_, rfl, _, _, rfl, rfl, ?_⟩
      refine ⟨fun c o nc e => ?_, ?_, by rw [upd_ne ngS]; exact hS8, some (v + 1), _, ts ++ [t], acc ++ [(st, some v, w0)], rfl, by rw [upd_same, List.map_append]; rfl, (pr8.mono fun c q e => keep _ _ e).snoc (keep _ _ ht8), by rw [List.length_append, al]; rfl, fun r hr' => ?_, ?_, ?_, ?_⟩
      · rw [upd_ne (ne_of_none e hg0)]
        exact c8 _ _ nc e
      · obtain ⟨a, b, e, r⟩ := hP8
        exact ⟨a, b, by rw [upd_ne (Ne.symm ngp)]; exact e, r⟩
      · rw [List.append_assoc]
        exact hch ((st, some v, w0) :: r) ⟨rfl, .inr ⟨v, rfl, fun b z => lo b z i v (Nat.le_refl _) ei, hr'⟩⟩
      · intro q hq
        rcases List.mem_append.mp hq with h | h
        · exact la q h
        · rw [List.mem_singleton.mp h]
          exact ⟨ls, limO_of lv, lw⟩
      · intro b z
        cases z
        have : v.natAbs < 10 ^ 30 := lv
        omega
      · intro b z j u hj hu
        cases z
        have := List.pairwise_iff_getElem.mp hs i j il (List.getElem?_eq_some_iff.mp hu).1 hj
        rw [(List.getElem?_eq_some_iff.mp ei).2, (List.getElem?_eq_some_iff.mp hu).2] at this
        omega
  · subst eσ
    rw [List.length_map] at al
    refine ⟨_, rfl, _, rfl, ?_⟩
    refine ok_pickN (σ := [some (.ref p), some (.ref g), some (oV st), y, none]) rfl hP6 fun w0 H7 lw b7 hP7 => ?_
    refine ⟨by show 3 ≤ sizeLine; decide, fun t ht => ?_⟩
    have s8 := same_upd (o := HO.tup [oV st, V.non, oV w0]) ht
    have hg8 := s8 _ _ (b7 _ _ ngp hg6)
    have ht8 : (upd H7 t (.tup [oV st, V.non, oV w0])) t = some (.tup [oV st, V.non, oV w0]) := upd_same
    have nref : ∀ (c : Addr) (q : Pc), PcAt H6 c q → c ≠ p := fun c q e z => by
      obtain ⟨a, b, e2, _⟩ := hP6
      unfold PcAt at e
      rw [z, e2] at e
      cases e
    have pr8 := pr.mono (fun c q e => s8 _ _ (b7 _ _ (nref c q e) e) : ∀ c q, PcAt H6 c q → PcAt (upd H7 t (.tup [oV st, V.non, oV w0])) c q)
    have hP8 := hP7.bt s8
    have c8 : Bt p H (upd H7 t (.tup [oV st, V.non, oV w0])) := (c6.trans b7).trans (Same.bt s8)
    generalize upd H7 t (.tup [oV st, V.non, oV w0]) = H8 at s8 hg8 ht8 pr8 hP8 c8 ⊢
    refine ⟨by show 1 ≤ sizeLine; decide, fun l1 hl1 => ?_⟩
    have s9 := same_upd (o := HO.lst [V.ref t]) hl1
    have tl : ts.length = acc.length := pr.length
    refine ⟨g, l1, _, _, rfl, rfl, s9 _ _ hg8, upd_same, by rw [List.length_map, tl, al]; exact Nat.le_trans (show _ ≤ 4 by show ms.length + 1 ≤ 4; omega) (by decide), fun r hr' => ?_⟩
    have s10 := s9.trans (same_upd (o := HO.lst (ts.map V.ref ++ [V.ref t])) hr')
    refine q r (acc ++ [(st, none, w0)]) _ ⟨ts ++ [t], by rw [upd_same, List.map_append]; rfl, (pr8.mono fun c q e => s10 _ _ e).snoc (s10 _ _ ht8)⟩ (hch _ ⟨rfl, .inl ⟨rfl, rfl⟩⟩) (by rw [List.length_append, al]; show ms.length + 1 ≤ 4; omega) ?_ (c8.trans (Same.bt s10)) (hP8.bt s10)
    intro q hq
    rcases List.mem_append.mp hq with h | h
    · exact la q h
    · rw [List.mem_singleton.mp h]
      exact ⟨ls, fun i z => (nomatch z), lw⟩
end
end C11

end PY11
section PZ11
set_option maxHeartbeats 4000000
namespace L2
open PySem PySem.Spec PyProof.Rows
theorem nodup_len {α : Type} [BEq α] [LawfulBEq α] : ∀ {l m : List α}, l.Nodup → (∀ x ∈ l, x ∈ m) → l.length ≤ m.length
  | [], _, _, _ => Nat.zero_le _
  | a :: l, m, nd, h => by
    obtain ⟨n1, n2⟩ := List.nodup_cons.mp nd
    have pm := List.perm_cons_erase (h a List.mem_cons_self)
    have z := nodup_len (m := m.erase a) n2 fun x hx => (List.mem_erase_of_ne (show x ≠ a from fun z => n1 (z ▸ hx))).mpr (h x (List.mem_cons_of_mem _ hx))
    have q := pm.length_eq
    rw [List.length_cons] at q ⊢
    omega
/-- set(xs), ints: no more members than any list that holds them has -/
def rSetIz (K : PySem.W.Frag) (w : World) : List V → Hp → VK → Prop := fun vs H Q => ∃ (l : Addr) (ns : List Int), vs = [V.ref l] ∧ SqL K H l (ns.map V.int) ∧ ns.length ≤ 4000 ∧ ∀ a c, H a = none → (∀ zs : List Int, (∀ k ∈ ns, k ∈ zs) → c ≤ zs.length) → Q (.ref a) (upd H a (SetO w a (fun j => decide (j ∈ ns)) c))
theorem cr_setIz {X : Cx} (hc : X.calm = true) : CallR X (.type "set") (rSetIz X.K X.w) := by
  intro pins s σ H vs us Q I r h
  obtain ⟨l, ns, rfl, hs, hb, q⟩ := h
  obtain ⟨its, rv, hl, _⟩ := I.list hs
  rw [Vals.ref1 r]
  refine InSet.set_ofI (I.ok.hd hc) hl.isList rv.ints (by unfold scanBound; omega) fun h' tk c hS hle k => ?_
  have kk : ∀ b o, s.heap.get? b = some o → h'.get? b = some o := fun b o e => k b o (Heap.lt_size e) e
  have cnt : ∀ zs : List Int, (∀ k ∈ ns, k ∈ zs) → c ≤ zs.length := fun zs hz => by
    obtain ⟨o, es, ep, t, ho, hx, hd, g, nd, hm, hb, hf, hn, _⟩ := hS
    have e : (es.toList.map keyOf).length = c := by rw [List.length_map, Array.length_toList, hn]
    rw [← e]
    exact nodup_len nd fun x hx => hz x (of_decide_eq_true ((hm x).mpr hx))
  exact ⟨.ref _, upd H s.heap.objs.size (SetO X.w s.heap.objs.size (fun j => decide (j ∈ ns)) c), I.laid (t' := tk) kk (Nat.le_refl _) (setO_new hS), rfl, q _ c (I.hok.fresh (Nat.le_refl _)) cnt⟩
end L2
namespace C11
open PySem PySem.Spec L2 PyProof.Rows
/-! ### what rows say of a number -/
abbrev s_within : Stmt := top 29
abbrev s_at : Stmt := top 30
def geB (a : Option Int) (x : Int) : Bool := match a with
  | none => true
  | some b => decide (b ≤ x)
def spWithin : Sp := fun vs H Q _ => ∃ (a b : Option Int) (x : Int), vs = [oV a, .int x, oV b] ∧ Q (.bl (geB a x && leO x b)) H
def spAt : Sp := fun vs H Q _ => ∃ (R : Addr) (l : List Pc) (x : Int), vs = [.ref R, .int x] ∧ LstAt H R l ∧ chn none l ∧ Q (.int (evalP l x)) H
theorem sc_within : FnScope ["_law_low", "_law_number", "_law_high"] ["_law_low", "_law_number", "_law_high"] (defScope s_within) := ⟨rfl, rfl, rfl, by decide +kernel, rfl, by decide +kernel, by decide +kernel⟩
abbrev nAt : List Str := ["_law_rows_here", "_law_number", "_law_low", "_law_high", "_law_what"]
theorem sc_at : FnScope nAt ["_law_rows_here", "_law_number"] (defScope s_at) := ⟨rfl, rfl, rfl, by decide +kernel, rfl, by decide +kernel, by decide +kernel⟩
section
variable {P : Program} {w : World} {K : PySem.W.Frag} {mg : Str → Option Value} {base : Heap} {f fW : Addr} {fd dW : FuncData}
theorem ok_within (F : FD K "_law_within" s_within f fd) : FnOk P w K mg base CX0 1 f fd ["_law_low", "_law_number", "_law_high"] spWithin := by
  refine F.ok sc_within (fun vs H Q E h => ?_) (fun cdv A outer s H vs Q E hr h => ?_)
  · obtain ⟨a, b, x, rfl, _⟩ := h
    rfl
  obtain ⟨a, b, x, rfl, q⟩ := h
  refine ⟨_, PSs.nox (pss_one (ps_ret (pe_and (pe_or (pe_cmp (pc_isN (pv 0)) rfl) (pe_one (pe_cmpR op_le (pv 0) (pv 1) (nomark _)))) (pe_one (pe_or (pe_cmp (pc_isN (pv 2)) rfl) (pe_one (pe_cmpR op_le (pv 1) (pv 2) (nomark _)))))))), ?_⟩
  have part2 : ∀ (Q' : VK), Q' (.bl (leO x b)) H → tOrV (tIsN (tVar 2)) (tOp (rI0 fun i j => V.bl (decide (i ≤ j))) (tVar 1) (tVar 2)) [some (oV a), some (.int x), some (oV b)] H Q' := fun Q' q' => by
    refine ⟨_, rfl, decide (oV b = V.non), rfl, ?_⟩
    cases b with
    | none =>
      rw [show decide (oV none = V.non) = true from decide_eq_true rfl, if_pos rfl]
      exact q'
    | some e =>
      rw [show decide (oV (some e) = V.non) = false from decide_eq_false (fun z => nomatch z), if_neg (by decide)]
      exact ⟨_, rfl, _, rfl, x, e, rfl, rfl, q'⟩
  refine ⟨_, rfl, decide (oV a = V.non), rfl, ?_⟩
  cases a with
  | none =>
    rw [show decide (oV none = V.non) = true from decide_eq_true rfl, if_pos rfl]
    refine ⟨true, rfl, ?_⟩
    rw [if_pos rfl]
    exact part2 _ q
  | some d =>
    rw [show decide (oV (some d) = V.non) = false from decide_eq_false (fun z => nomatch z), if_neg (by decide)]
    refine ⟨_, rfl, _, rfl, d, x, rfl, rfl, decide (d ≤ x), rfl, ?_⟩
    refine ite2 (fun h => ?_) (fun h => ?_)
    · refine part2 _ ?_
      have e : geB (some d) x = true := h
      rw [e, Bool.true_and] at q
      exact q
    · have e : geB (some d) x = false := Bool.eq_false_iff.mpr h
      rw [e, Bool.false_and] at q
      exact q
theorem ok_at (F : FD K "_law_at" s_at f fd) (W : Kn P w K mg base 1 "_law_within" fW dW ["_law_low", "_law_number", "_law_high"] spWithin) : FnOk P w K mg base CX0 2 f fd ["_law_rows_here", "_law_number"] spAt := by
  refine F.ok sc_at (fun vs H Q E h => ?_) (fun cdv A outer s H vs Q E hr h => ?_)
  · obtain ⟨R, l, x, rfl, _⟩ := h
    rfl
  obtain ⟨R, l, x, rfl, ⟨ts, hR, pr⟩, hc, q⟩ := h
  refine ⟨_, PSs.nox (pss_cons (ps_for .never (by rfl) (pi_list (pv 0)) (pg_tup (by rfl) (pgs_cons (pg_name (i := 2) sc_at.nd rfl (Or.inl rfl)) (pgs_cons (pg_name (i := 3) sc_at.nd rfl (Or.inl rfl)) (pgs_cons (pg_name (i := 4) sc_at.nd rfl (Or.inl rfl)) pgs_nil))))
      (pss_one (ps_if (pt_val (pe_call W.f hr rfl W.m W.k W.b .nil pass0 (pa_cons (pv 2) (pa_cons (pv 1) (pa_cons (pv 3) pa_nil))))) (pss_one (ps_ret (pe_ifExp (pt_cmp (pc_isN (pv 4))) (pv 1) (pv 4)))) pss_nil)))
    pss_never), ?_⟩
  have tl : ts.length = l.length := pr.length
  refine ⟨_, rfl, R, rfl, ⟨_, SqL.of hR⟩, ?_⟩
  refine for_list (xs := ts.map V.ref) (fun i σ' H' => H' = H ∧ i ≤ idxP l x ∧ ∃ a b c : Option V, σ' = [some (.ref R), some (.int x), a, b, c]) ⟨rfl, Nat.zero_le _, none, none, none, rfl⟩ (fun i σ' H' _ ⟨e, _⟩ => by rw [e]; exact SqL.of hR) (fun i y σ' H' hy ⟨e, hle, a, b, c, eσ⟩ => ?_) (fun σ' H' ⟨e, hle, _⟩ => ?_)
  · subst e eσ
    have il : i < l.length := by
      have := (List.getElem?_eq_some_iff.mp hy).1
      rw [List.length_map] at this
      omega
    have hp : l[i]? = some (l[i]'il) := List.getElem?_eq_getElem il
    generalize l[i]'il = p at hp
    obtain ⟨t, e1, e2⟩ := paired_at pr hp
    rw [List.getElem?_map, e1] at hy
    cases (show V.ref t = y from Option.some.inj hy)
    refine ⟨t, _, rfl, SqT.of e2, rfl, _, _, rfl, _, _, rfl, _, _, rfl, rfl, ?_⟩
    have ge : geB p.1 x = true := by
      cases i with
      | zero => rw [chn_fst hc hp] <;> rfl
      | succ k =>
        obtain ⟨r, e, hr', re, pe⟩ := chn_prev hc hp
        rw [pe]
        have key := idx_le (x := x) hc hr'
        rw [re, leO_some] at key
        have : ¬ x ≤ e := fun z => by have := key.mp z; omega
        exact decide_eq_true (by omega)
    refine ⟨_, rfl, _, rfl, _, rfl, p.1, p.2.1, x, rfl, _, rfl, ?_⟩
    rw [ge, Bool.true_and]
    have key := idx_le (x := x) hc hp
    refine ite2 (fun h => ?_) (fun h => ?_)
    · have ie : idxP l x = i := by
        have := key.mp h
        omega
      have ev := (eval_at hc hp ie).1
      rw [ev] at q
      refine ⟨_, rfl, _, rfl, ?_⟩
      cases hw : p.2.2 with
      | none =>
        rw [hw] at q
        refine (show (if decide (oV none = V.non) = true then _ else _) from ?_)
        rw [show decide (oV none = V.non) = true from decide_eq_true rfl, if_pos rfl]
        exact ⟨_, rfl, q⟩
      | some v =>
        rw [hw] at q
        refine (show (if decide (oV (some v) = V.non) = true then _ else _) from ?_)
        rw [show decide (oV (some v) = V.non) = false from decide_eq_false (fun z => nomatch z), if_neg (by decide)]
        exact ⟨_, rfl, q⟩
    · exact ⟨rfl, by have : ¬ idxP l x ≤ i := fun z => h (key.mpr z); omega, _, _, _, rfl⟩
  · rw [List.length_map, tl] at hle
    have := idx_lt x hc
    omega
end
end C11

end PZ11
section PPA11
set_option maxHeartbeats 4000000
namespace C11
open PySem PySem.Spec L2 PyProof.Rows
/-! ### the numbers that the law asks -/
abbrev s_points : Stmt := top 31
abbrev nPoints : List Str := ["_law_rows_here", "_law_points_here", "_law_row", "_law_edge", "_law_one"]
theorem sc_points : FnScope nPoints ["_law_rows_here"] (defScope s_points) := ⟨rfl, rfl, rfl, by decide +kernel, rfl, by decide +kernel, by decide +kernel⟩
def oL : Option Int → List Int
  | none => []
  | some i => [i]
def intsP (p : Pc) : List Int := oL p.1 ++ oL p.2.1 ++ oL p.2.2
def near (v : Int) : List Int := [v - 1, v, v + 1]
def basePts : List Int := [0, 1, -1, 9 * 10 ^ 29, -(9 * 10 ^ 29)]
def ptsOf (l : List Pc) : List Int := basePts ++ l.flatMap fun p => (intsP p).flatMap near
def spPoints : Sp := fun vs H Q _ => ∃ (R : Addr) (l : List Pc), vs = [.ref R] ∧ LstAt H R l ∧ l.length ≤ 20 ∧ (∃ zs : List Int, zs.length < 64 ∧ ∀ k ∈ ptsOf l, k ∈ zs) ∧
  ∀ (S : Addr) (ys : List Int) (H' : Hp), (∀ k, k ∈ ys ↔ k ∈ ptsOf l) → ys.length < 64 → H' S = some (.lst (ys.map V.int)) → Same H H' → Q (.ref S) H'
/-- the ints among values -/
def intsV : List V → List Int
  | [] => []
  | .int i :: r => i :: intsV r
  | _ :: r => intsV r
theorem intsV_snoc : ∀ (l : List V) (a : Option Int), intsV (l ++ [oV a]) = intsV l ++ oL a
  | [], a => by cases a <;> rfl
  | y :: l, a => by
    have ih := intsV_snoc l a
    cases y <;> simp only [List.cons_append, intsV, ih] <;> rfl
theorem intsV_pc (p : Pc) : intsV [oV p.1, oV p.2.1, oV p.2.2] = intsP p := by
  obtain ⟨a, b, c⟩ := p
  cases a <;> cases b <;> cases c <;> rfl
theorem intsP_len (p : Pc) : (intsP p).length ≤ 3 := by
  have h : ∀ a : Option Int, (oL a).length ≤ 1 := fun a => by
    cases a with
    | none => exact Nat.zero_le _
    | some i => exact Nat.le_refl _
  have h1 := h p.1
  have h2 := h p.2.1
  have h3 := h p.2.2
  unfold intsP
  rw [List.length_append, List.length_append]
  omega
theorem near_len : ∀ l : List Int, (l.flatMap near).length = 3 * l.length
  | [] => rfl
  | v :: l => by
    rw [List.flatMap_cons, List.length_append, near_len l, List.length_cons]
    show 3 + _ = _
    omega
theorem ptsOf_len (l : List Pc) : (ptsOf l).length ≤ 5 + 9 * l.length := by
  have h : ∀ l : List Pc, (l.flatMap fun p => (intsP p).flatMap near).length ≤ 9 * l.length := fun l => by
    induction l with
    | nil => exact Nat.le_refl _
    | cons p l ih =>
      rw [List.flatMap_cons, List.length_append, near_len, List.length_cons]
      have := intsP_len p
      omega
  have := h l
  unfold ptsOf
  rw [List.length_append]
  show 5 + _ ≤ _
  omega
section
variable {P : Program} {w : World} {K : PySem.W.Frag} {mg : Str → Option Value} {base : Heap} {f : Addr} {fd : FuncData}
theorem ok_points (F : FD K "_law_points" s_points f fd) (T : TS11 mg) : FnOk P w K mg base CX0 1 f fd ["_law_rows_here"] spPoints := by
  refine F.ok sc_points (fun vs H Q E h => ?_) (fun cdv A outer s H vs Q E hr h => ?_)
  · obtain ⟨R, l, rfl, _⟩ := h
    rfl
  obtain ⟨R, l, rfl, ⟨ts, hR, pr⟩, l20, ⟨zs, hz, hsub⟩, q⟩ := h
  refine ⟨_, PSs.nox (pss_cons (ps_set (i := 1) sc_points.nd rfl (Or.inl rfl) (pe_lst (pa_cons pe_int (pa_cons pe_int (pa_cons (pe_un un_neg pe_int) (pa_cons (pe_op op_mul pe_int (pe_op op_pow pe_int pe_int)) (pa_cons (pe_un un_neg (pe_op op_mul pe_int (pe_op op_pow pe_int pe_int))) pa_nil)))))))
    (pss_cons (ps_for .never (by rfl) (pi_list (pv 0)) (pg_name (i := 2) sc_points.nd rfl (Or.inl rfl))
      (pss_one (ps_for .never (by rfl) (pi_list (pe_lc (own := [("_law_one", 4)]) (g := gName 4) (te := tVar 4) rfl sc_points.nd (pi_tup (pv 2)) (blkOk_by (N := nPoints) (sc := defScope s_points) (by decide +kernel)) (fun _ _ _ _ _ => pg_name (i := 4) sc_points.nd rfl (Or.inl rfl)) (fun _ _ _ _ _ => pts_one (pt_cmp (pc_notN (pv 4)))) (fun _ _ _ _ _ => by exact (pv 4)))) (pg_name (i := 3) sc_points.nd rfl (Or.inl rfl))
        (pss_one (ps_expr (pe_bm PySem.F.plainAttrs_list PySem.F.slot_list_extend PySem.F.type_list_extend mt_extend (pv 1) (pa_cons (pe_lst (pa_cons (pe_op op_sub (pv 3) pe_int) (pa_cons (pv 3) (pa_cons (pe_op op_add (pv 3) pe_int) pa_nil)))) pa_nil)))))))
    (pss_one (ps_ret (pe_callB (cr_sortedSet rfl) (by rfl) T.sorted boot_sorted (pa_cons (pe_callTy (cr_setIz rfl) (by rfl) T.set (by decide +kernel) (pa_cons (pv 1) pa_nil)) pa_nil)))))), ?_⟩
  have cp29 : CPow 10 29 := ⟨by decide, by decide, by decide⟩
  have cm : CMul 9 (10 ^ (29 : Int).toNat) := .inl ⟨by decide, by decide⟩
  have tl : ts.length = l.length := pr.length
  refine ⟨_, rfl, 10, 29, rfl, rfl, cp29, 9, _, rfl, rfl, cm, 10, 29, rfl, rfl, cp29, 9, _, rfl, rfl, cm, _, rfl, by show 5 ≤ sizeLine; decide, fun g hg => ?_⟩
  have s1 := same_upd (o := HO.lst (basePts.map V.int)) hg
  have hg1 : (upd H g (.lst (basePts.map V.int))) g = some (.lst (basePts.map V.int)) := upd_same
  have eb : HO.lst [V.int 0, V.int 1, V.int (-1), V.int (9 * 10 ^ (29 : Int).toNat), V.int (-(9 * 10 ^ (29 : Int).toNat))] = HO.lst (basePts.map V.int) := rfl
  rw [eb]
  generalize upd H g (.lst (basePts.map V.int)) = H1 at s1 hg1 ⊢
  refine ⟨_, rfl, R, rfl, ⟨_, SqL.of (s1 _ _ hR)⟩, ?_⟩
  refine for_list (xs := ts.map V.ref) (fun i σ' H' => Same H H' ∧ H' g = some (.lst ((ptsOf (l.take i)).map V.int)) ∧ ∃ a b : Option V, σ' = [some (.ref R), some (.ref g), a, b, none])
    ⟨s1, by rw [hg1]; rfl, none, none, rfl⟩ (fun i σ' H' _ ⟨z, _⟩ => SqL.of (z _ _ hR)) (fun i x σ' H2 hx ⟨s2, hg2, a, b, eσ⟩ => ?_) (fun σ' H2 ⟨s2, hg2, a, b, eσ⟩ => ?_)
  · subst eσ
    have il : i < l.length := by
      have := (List.getElem?_eq_some_iff.mp hx).1
      rw [List.length_map] at this
      omega
    have hp : l[i]? = some (l[i]'il) := List.getElem?_eq_getElem il
    generalize l[i]'il = p at hp
    obtain ⟨t, e1, e2⟩ := paired_at pr hp
    rw [List.getElem?_map, e1] at hx
    cases (show V.ref t = x from Option.some.inj hx)
    have ht2 : H2 t = some (.tup [oV p.1, oV p.2.1, oV p.2.2]) := s2 _ _ e2
    have tk : l.take (i + 1) = l.take i ++ [p] := by rw [List.take_succ, hp]; rfl
    refine ⟨_, rfl, t, rfl, ⟨_, SqT.of ht2⟩, fun D hD => ?_⟩
    have ngD : g ≠ D := ne_of_none hg2 hD
    refine lc_tup (xs := [oV p.1, oV p.2.1, oV p.2.2]) (fun j H' => Same H2 H' ∧ H' D = some (.lst ((intsV ([oV p.1, oV p.2.1, oV p.2.2].take j)).map V.int))) ⟨same_upd hD, upd_same⟩ (fun j H' _ ⟨z, _⟩ => SqT.of (z _ _ ht2)) (fun j y H3 hy ⟨s3, hD3⟩ => ?_) fun H3 ⟨s3, hD3⟩ => ?_
    · have jl : j < 3 := (List.getElem?_eq_some_iff.mp hy).1
      have ey : ∃ c : Option Int, y = oV c := by
        have mem := List.mem_of_getElem? hy
        simp only [List.mem_cons, List.not_mem_nil, or_false] at mem
        rcases mem with e | e | e
        · exact ⟨_, e⟩
        · exact ⟨_, e⟩
        · exact ⟨_, e⟩
      obtain ⟨c, rfl⟩ := ey
      have tkj : [oV p.1, oV p.2.1, oV p.2.2].take (j + 1) = [oV p.1, oV p.2.1, oV p.2.2].take j ++ [oV c] := by rw [List.take_succ, hy]; rfl
      refine ⟨rfl, _, rfl, _, rfl, ?_⟩
      cases c with
      | none =>
        refine (show (if (!decide (oV none = V.non)) = true then _ else _) from ?_)
        rw [show (!decide (oV none = V.non)) = false by rw [show decide (oV none = V.non) = true from decide_eq_true rfl]; rfl, if_neg (by decide)]
        refine ⟨s3, ?_⟩
        rw [hD3, tkj, intsV_snoc]
        simp [oL]
      | some v =>
        refine (show (if (!decide (oV (some v) = V.non)) = true then _ else _) from ?_)
        rw [show (!decide (oV (some v) = V.non)) = true by rw [show decide (oV (some v) = V.non) = false from decide_eq_false (fun z => nomatch z)]; rfl, if_pos rfl]
        have len : (intsV ([oV p.1, oV p.2.1, oV p.2.2].take j)).length ≤ 3 := by
          have h : ∀ l : List V, (intsV l).length ≤ l.length := fun l => by
            induction l with
            | nil => exact Nat.le_refl _
            | cons a l ih => cases a <;> simp only [intsV, List.length_cons] <;> omega
          have := h ([oV p.1, oV p.2.1, oV p.2.2].take j)
          rw [List.length_take] at this
          exact Nat.le_trans this (Nat.le_trans (Nat.min_le_right _ _) (Nat.le_refl _))
        refine ⟨_, rfl, _, hD3, by rw [List.length_map]; exact Nat.lt_of_le_of_lt len (by decide), same_over s3 hD, ?_⟩
        rw [upd_same, tkj, intsV_snoc, List.map_append] <;> rfl
    have eD : intsV ([oV p.1, oV p.2.1, oV p.2.2].take [oV p.1, oV p.2.1, oV p.2.2].length) = intsP p := by
      rw [List.take_length]
      exact intsV_pc p
    rw [eD] at hD3
    have s3' := s2.trans s3
    have hg3 := s3 _ _ hg2
    have pl := ptsOf_len (l.take i)
    have ll : (l.take i).length ≤ 20 := by
      rw [List.length_take]
      omega
    refine ⟨D, rfl, ⟨_, SqL.of hD3⟩, ?_⟩
    refine for_list (xs := (intsP p).map V.int) (fun j σ' H' => Same H H' ∧ H' D = some (.lst ((intsP p).map V.int)) ∧ H' g = some (.lst ((ptsOf (l.take i) ++ ((intsP p).take j).flatMap near).map V.int)) ∧ ∃ b : Option V, σ' = [some (.ref R), some (.ref g), some (.ref t), b, none])
      ⟨s3', hD3, by rw [hg3]; simp, b, rfl⟩ (fun j σ' H' _ ⟨_, e, _⟩ => SqL.of e) (fun j y σ' H4 hy ⟨s4, hD4, hg4, b2, eσ⟩ => ?_) (fun σ' H4 ⟨s4, hD4, hg4, b2, eσ⟩ => ?_)
    · subst eσ
      rw [List.getElem?_map] at hy
      cases ev : (intsP p)[j]? with
      | none =>
        rw [ev] at hy
        cases hy
      | some v =>
        rw [ev] at hy
        cases (show V.int v = y from Option.some.inj hy)
        have jl : j < 3 := Nat.lt_of_lt_of_le (List.getElem?_eq_some_iff.mp ev).1 (intsP_len p)
        have tkj : (intsP p).take (j + 1) = (intsP p).take j ++ [v] := by rw [List.take_succ, ev]; rfl
        refine ⟨_, rfl, .inl ⟨rfl, _, SqL.of hg4⟩, _, rfl, _, _, rfl, rfl, _, rfl, _, rfl, _, _, rfl, rfl, by show 3 ≤ sizeLine; decide, fun n hn => ?_⟩
        have s5 := same_upd (o := HO.lst ((near v).map V.int)) hn
        have ngn : g ≠ n := ne_of_none hg4 hn
        have nDn : D ≠ n := ne_of_none hD4 hn
        have en : HO.lst [V.int (v - 1), V.int v, V.int (v + 1)] = HO.lst ((near v).map V.int) := rfl
        rw [en]
        have nl := near_len ((intsP p).take j)
        have tjl : ((intsP p).take j).length ≤ 3 := by
          rw [List.length_take]
          omega
        refine ⟨g, n, _, _, rfl, rfl, s5 _ _ hg4, upd_same, ?_, same_over (s4.trans s5) hg, ?_, ?_, _, rfl⟩
        · rw [List.length_map, List.length_append, List.length_map]
          exact Nat.le_trans (show _ ≤ 300 by show (ptsOf (l.take i)).length + (((intsP p).take j).flatMap near).length + 3 ≤ 300; omega) (by decide)
        · rw [upd_ne (Ne.symm ngD), upd_ne nDn]
          exact hD4
        · rw [upd_same, tkj, List.flatMap_append, ← List.map_append, List.append_assoc] <;> simp
    · rw [List.length_map, List.take_length] at hg4
      refine ⟨s4, ?_, _, b2, eσ⟩
      rw [hg4, tk]
      unfold ptsOf
      rw [List.flatMap_append, ← List.append_assoc] <;> simp
  · subst eσ
    rw [List.length_map, tl, List.take_length] at hg2
    have pl := ptsOf_len l
    refine ⟨_, rfl, g, ptsOf l, rfl, SqL.of hg2, by omega, fun a c ha hc => ?_⟩
    have c64 : c < 64 := Nat.lt_of_le_of_lt (hc zs hsub) hz
    refine ⟨a, _, c, rfl, upd_same, c64, fun ms S hs hm hml hS => ?_⟩
    exact q S ms _ (fun k => (hm k).trans decide_eq_true_iff) (by omega) upd_same (s2.trans ((same_upd ha).trans (same_upd hS)))
end
end C11

end PPA11
section PPB11
set_option maxHeartbeats 4000000
namespace C11
open PySem PySem.Spec L2 PyProof.Rows
/-! ### a map says what rows say, at some numbers -/
abbrev s_agrees : Stmt := top 35
abbrev nAgrees : List Str := ["_law_mapping", "_law_rows_here", "_law_points_here", "_law_number", "_law_found"]
theorem sc_agrees : FnScope nAgrees ["_law_mapping", "_law_rows_here", "_law_points_here"] (defScope s_agrees) := ⟨rfl, rfl, rfl, by decide +kernel, rfl, by decide +kernel, by decide +kernel⟩
theorem boot_repr : bootBuiltins "repr" = some (.builtin "repr") := by decide +kernel
theorem rp_small {H : Hp} {i : Int} (h : i.natAbs < 10 ^ 40) : Rp H (.int i) (.int i) ∧ (PyData.int i).showable = true ∧ (PyData.int i).shown.length ≤ sizeLine ∧ (PyData.int i).depth ≤ 60 := by
  refine ⟨.int i, decide_eq_true (small_log h), ?_, ?_⟩
  · have e := shown_oD (a := some i) (fun j z => by cases z; exact h)
    exact Nat.le_trans (show (PyData.int i).shown.length ≤ 41 from e) (by decide)
  · first
      | decide
      | (show 1 ≤ 60; decide)
      | (show 0 ≤ 60; decide)
theorem eval_small {l : List Pc} {x : Int} (hc : chn none l) (h : LimP l) (hx : x.natAbs < 10 ^ 40) : (evalP l x).natAbs < 10 ^ 40 := by
  obtain ⟨p, e1, _, e2⟩ := eval_idx x hc
  rw [e2]
  cases hw : p.2.2 with
  | none => exact hx
  | some v =>
    show v.natAbs < 10 ^ 40
    have := (h p (List.mem_of_getElem? e1)).2.2 v hw
    exact Nat.lt_of_le_of_lt this (by decide)
def spAgrees (C : Addr) : Sp := fun vs H Q _ => ∃ (m R S : Addr) (n l : List Pc) (ys : List Int), vs = [.ref m, .ref R, .ref S] ∧ NMap C H m n ∧ chn none n ∧ n.length ≤ 1000 ∧ LstAt H R l ∧ chn none l ∧ (∀ x, evalP n x = evalP l x) ∧ H S = some (.lst (ys.map V.int)) ∧ (∀ y ∈ ys, (evalP l y).natAbs < 10 ^ 40) ∧ ∀ H', Same H H' → Q (.bl true) H'
section
variable {P : Program} {w : World} {K : PySem.W.Frag} {mg : Str → Option Value} {base : Heap} {f fA fT C : Addr} {fd dA dT : FuncData}
theorem ok_agrees (F : FD K "_law_agrees" s_agrees f fd) (N : NMc K C) (tr : mg "repr" = none) (hK : noMods K = true) (GA : FnOk P w K mg base CX0 3 fA dA ["self", "value"] (spAtN C)) (bA : Binds K dA ["self", "value"] []) (mA : Meth K C "at" fA)
    (AT : Kn P w K mg base 2 "_law_at" fT dT ["_law_rows_here", "_law_number"] spAt) : FnG P w K mg base CX0 4 f fd ["_law_mapping", "_law_rows_here", "_law_points_here"] (spAgrees C) := by
  refine F.okG sc_agrees (fun vs H Q E h => ?_) (fun cdv A outer s H vs Q E hg hr h => ?_)
  · obtain ⟨m, R, S, n, l, ys, rfl, _⟩ := h
    rfl
  obtain ⟨m, R, S, n, l, ys, rfl, nm, hcn, hnl, hR, hcl, hev, hS, hsm, q⟩ := h
  have hG := deeper_guards (env := PyProof.Rows.envOfC "_law_agrees" (defScope s_agrees) s.heap.objs.size f cdv) hg
  have hu := hr.units
  refine ⟨_, PSs.nox (pss_cons (ps_for .never (by rfl) (pi_list (pv 2)) (pg_name (i := 3) sc_agrees.nd rfl (Or.inl rfl))
      (pss_cons (ps_set (i := 4) sc_agrees.nd rfl (Or.inl rfl) (pe_meth (pv 0) N.cl mA GA hr bA .nil pass0 (pa_cons (pv 3) pa_nil)))
      (pss_one (ps_if (PW.pt (pw_or (pt_cmpR op_ne (pe_callB (call_reprD (by exact hG) (by exact hu) (by exact hK)) (by rfl) tr boot_repr (pa_cons (pv 4) pa_nil)) (pe_callB (call_reprD (by exact hG) (by exact hu) (by exact hK)) (by rfl) tr boot_repr (pa_cons (pe_call AT.f (hr.mono (by decide)) rfl AT.m AT.k AT.b .nil pass0 (pa_cons (pv 1) (pa_cons (pv 3) pa_nil))) pa_nil)) (nomark _))
        (pw_or1 (pt_cmpR op_ne (pe_meth (pv 0) N.cl mA GA hr bA .nil pass0 (pa_cons (pv 3) pa_nil)) (pv 4) (nomark _))))) (pss_one (ps_ret pe_bl)) pss_nil))))
    (pss_one (ps_ret pe_bl))), ?_⟩
  refine ⟨_, rfl, S, rfl, ⟨_, SqL.of hS⟩, ?_⟩
  refine for_list (xs := ys.map V.int) (fun i σ' H' => Same H H' ∧ ∃ a b : Option V, σ' = [some (.ref m), some (.ref R), some (.ref S), a, b]) ⟨Same.refl _, none, none, rfl⟩ (fun i σ' H' _ ⟨z, _⟩ => SqL.of (z _ _ hS)) (fun i x σ' H1 hx ⟨s1, a, b, eσ⟩ => ?_) (fun σ' H1 ⟨s1, a, b, eσ⟩ => ?_)
  · subst eσ
    rw [List.getElem?_map] at hx
    cases ev : ys[i]? with
    | none =>
      rw [ev] at hx
      cases hx
    | some v =>
      rw [ev] at hx
      cases (show V.int v = x from Option.some.inj hx)
      have sm := hsm v (List.mem_of_getElem? ev)
      obtain ⟨dx, u, hm, hu2⟩ := nm
      refine ⟨_, rfl, m, dx, _, rfl, s1 _ _ hm, rfl, _, rfl, m, n, v, rfl, ⟨dx, u, s1 _ _ hm, hu2.same s1⟩, hcn, hnl, fun H2 s2 => ?_⟩
      have z2 := s1.trans s2
      rw [hev v]
      obtain ⟨r1, r2, r3, r4⟩ := rp_small (H := H2) sm
      refine ⟨_, rfl, _, _, rfl, r1, r2, r3, r4, _, rfl, _, rfl, R, l, v, rfl, hR.same z2, hcl, _, _, rfl, r1, r2, r3, r4, rfl, false, ?_, ?_⟩
      · show V.bl (!decide (V.str (PyData.int (evalP l v)).shown = V.str (PyData.int (evalP l v)).shown)) = V.bl false
        rw [decide_eq_true rfl] <;> rfl
      refine (show (if false = true then _ else _) from ?_)
      rw [if_neg (by decide)]
      refine ⟨_, rfl, m, dx, _, rfl, z2 _ _ hm, rfl, _, rfl, m, n, v, rfl, ⟨dx, u, z2 _ _ hm, hu2.same z2⟩, hcn, hnl, fun H3 s3 => ?_⟩
      rw [hev v]
      refine ⟨_, rfl, rfl, false, ?_, ?_⟩
      · show V.bl (!decide (V.int (evalP l v) = V.int (evalP l v))) = V.bl false
        rw [decide_eq_true rfl] <;> rfl
      refine (show (if false = true then _ else _) from ?_)
      rw [if_neg (by decide)]
      exact ⟨z2.trans s3, _, _, rfl⟩
  · subst eσ
    exact q _ s1
end
end C11

end PPB11
section PPC11
set_option maxHeartbeats 4000000
namespace C11
open PySem PySem.Spec L2 PyProof.Rows
/-! ### pieces around a stretch; same, constant_map, cut, reset -/
theorem made_same {H H' : Hp} {m dx : Addr} {o : HO} {H0 : Hp} (hx : H m = none) (hd : H dx = none) (ne : dx ≠ m) (e : H0 = upd (upd H dx (.own m)) m o) (b : Bt m H0 H') : Same H H' := fun c u z => by
  subst e
  have n1 : c ≠ m := ne_of_none z hx
  have n2 : c ≠ dx := ne_of_none z hd
  exact b c u n1 (by rw [upd_ne n1, upd_ne n2]; exact z)
structure MkN (P : Program) (w : World) (K : PySem.W.Frag) (mg : Str → Option Value) (base : Heap) (C fI : Addr) (dI : FuncData) : Prop where
  mkC : Mk K C fI
  g : FnOk P w K mg base CX0 4 fI dI ["self", "pieces"] (spNInit C)
  b : Binds K dI ["self", "pieces"] []
  m : mg "NumberMap" = some (.ref C)
def lowP (a x : Option Int) : List Pc := match a with
  | none => []
  | some i => [(none, some (i - 1), x)]
def highP (b y : Option Int) : List Pc := match b with
  | none => []
  | some j => [(some (j + 1), none, y)]
def arnd (a b x y : Option Int) : List Pc := lowP a x ++ [(a, b, none)] ++ highP b y
theorem arnd_chn {a b x y : Option Int} (h : ∀ i j, a = some i → b = some j → i ≤ j) : chn none (arnd a b x y) := by
  have tail : ∀ s, (∀ i j, s = some i → b = some j → i ≤ j) → chn s ((s, b, none) :: highP b y) := fun s hs => by
    cases b with
    | none => exact ⟨rfl, .inl ⟨rfl, rfl⟩⟩
    | some j => exact ⟨rfl, .inr ⟨j, rfl, fun i z => hs i j z rfl, rfl, .inl ⟨rfl, rfl⟩⟩⟩
  cases a with
  | none => exact tail none h
  | some i =>
    refine ⟨rfl, .inr ⟨i - 1, rfl, (fun b z => nomatch z), ?_⟩⟩
    show chn (some (i - 1 + 1)) (([] ++ [(some i, b, none)]) ++ highP b y)
    rw [show i - 1 + 1 = i by omega]
    exact tail (some i) h
theorem arnd_len (a b x y : Option Int) : (arnd a b x y).length ≤ 3 := by
  unfold arnd
  rw [List.length_append, List.length_append]
  have h1 : (lowP a x).length ≤ 1 := by cases a <;> simp [lowP]
  have h2 : (highP b y).length ≤ 1 := by cases b <;> simp [highP]
  show _ + 1 + _ ≤ 3
  omega
def spAround : Sp := fun vs H Q _ => ∃ (a b x y : Option Int), vs = [oV a, oV b, oV x, oV y] ∧ ∀ L H', Same H H' → LstAt H' L (arnd a b x y) → Q (.ref L) H'
abbrev nAround : List Str := ["first", "last", "below", "above", "pieces"]
theorem sc_around : FnScope nAround ["first", "last", "below", "above"] (defScope s_around) := ⟨rfl, rfl, rfl, by decide +kernel, rfl, by decide +kernel, by decide +kernel⟩
theorem sc_nsame : FnScope ["cls"] ["cls"] (defScope s_nsame) := ⟨rfl, rfl, rfl, by decide +kernel, rfl, by decide +kernel, by decide +kernel⟩
theorem sc_nconst : FnScope ["cls", "value"] ["cls", "value"] (defScope s_nconst) := ⟨rfl, rfl, rfl, by decide +kernel, rfl, by decide +kernel, by decide +kernel⟩
theorem sc_ncut : FnScope ["cls", "first", "last"] ["cls", "first", "last"] (defScope s_ncut) := ⟨rfl, rfl, rfl, by decide +kernel, rfl, by decide +kernel, by decide +kernel⟩
theorem sc_nreset : FnScope ["cls", "first", "last", "value"] ["cls", "first", "last", "value"] (defScope s_nreset) := ⟨rfl, rfl, rfl, by decide +kernel, rfl, by decide +kernel, by decide +kernel⟩
/-- what comes of a call that makes a map of these pieces -/
def NewN (C : Addr) (l : List Pc) (H : Hp) (Q : VK) : Prop := ∀ m n H', NMap C H' m n → Nrm (evalP l) none n → n.length ≤ l.length → Same H H' → Q (.ref m) H'
def spSame (C : Addr) : Sp := fun vs H Q _ => vs = [.ref C] ∧ NewN C [(none, none, none)] H Q
def spConst (C : Addr) : Sp := fun vs H Q _ => ∃ v : Int, vs = [.ref C, .int v] ∧ NewN C [(none, none, some v)] H Q
def spCut (C : Addr) : Sp := fun vs H Q _ => ∃ a b : Option Int, vs = [.ref C, oV a, oV b] ∧ (∀ i j, a = some i → b = some j → i ≤ j) ∧ NewN C (arnd a b a b) H Q
def spReset (C : Addr) : Sp := fun vs H Q _ => ∃ (a b : Option Int) (v : Int), vs = [.ref C, oV a, oV b, .int v] ∧ (∀ i j, a = some i → b = some j → i ≤ j) ∧ NewN C (arnd a b (some v) (some v)) H Q
/-- C(pieces) at a list of pieces -/
theorem made_n {C L : Addr} {l : List Pc} {H : Hp} {Q : VK} (hl : LstAt H L l) (hc : chn none l) (hn : l.length ≤ 1000) (q : NewN C l H Q) : ∀ m dx, H m = none → H dx = none → dx ≠ m → spNInit C [.ref m, .ref L] (upd (upd H dx (.own m)) m (.ins C dx [])) (fun v H' => v = .non ∧ Q (.ref m) H') E0 := fun m dx hm hdx ne => by
  obtain ⟨ts, a, b⟩ := hl
  have keep : ∀ c o, H c = some o → (upd (upd H dx (.own m)) m (.ins C dx [])) c = some o := fun c o e => by
    rw [upd_ne (ne_of_none e hm), upd_ne (ne_of_none e hdx)]
    exact e
  refine ⟨m, dx, L, l, rfl, upd_same, ⟨ts, .inl (keep _ _ a), b.mono fun t p e => keep _ _ e⟩, hc, hn, fun H' u n hn' hle e1 tu hB => ⟨rfl, q m n H' ⟨dx, u, e1, tu⟩ hn' hle (made_same hm hdx ne rfl hB)⟩⟩
section
variable {P : Program} {w : World} {K : PySem.W.Frag} {mg : Str → Option Value} {base : Heap} {f fI fS fN fA C : Addr} {fd dI dS dN dA : FuncData}
theorem ok_around (F : FD K "_pieces_around" s_around f fd) : FnOk P w K mg base CX0 1 f fd ["first", "last", "below", "above"] spAround := by
  refine F.ok sc_around (fun vs H Q E h => ?_) (fun cdv A outer s H vs Q E hr h => ?_)
  · obtain ⟨a, b, x, y, rfl, _⟩ := h
    rfl
  obtain ⟨a, b, x, y, rfl, q⟩ := h
  refine ⟨_, PSs.nox (pss_cons (ps_set (i := 4) sc_around.nd rfl (Or.inl rfl) (pe_lst (pa_cons (pe_tup (pa_cons (pv 0) (pa_cons (pv 1) (pa_cons pe_non pa_nil)))) pa_nil)))
    (pss_cons (ps_if (pt_cmp (pc_notN (pv 0))) (pss_one (ps_set (i := 4) sc_around.nd rfl (Or.inl rfl) (pe_op op_cat (pe_lst (pa_cons (pe_tup (pa_cons pe_non (pa_cons (pe_op op_sub (pv 0) pe_int) (pa_cons (pv 2) pa_nil)))) pa_nil)) (pv 4)))) pss_nil)
    (pss_cons (ps_if (pt_cmp (pc_notN (pv 1))) (pss_one (ps_set (i := 4) sc_around.nd rfl (Or.inl rfl) (pe_op op_cat (pv 4) (pe_lst (pa_cons (pe_tup (pa_cons (pe_op op_add (pv 1) pe_int) (pa_cons pe_non (pa_cons (pv 3) pa_nil)))) pa_nil))))) pss_nil)
    (pss_one (ps_ret (pv 4)))))), ?_⟩
  refine ⟨_, rfl, _, rfl, by show 3 ≤ sizeLine; decide, fun t ht => ⟨by show 1 ≤ sizeLine; decide, fun g hg => ?_⟩⟩
  have s1 : Same H (upd (upd H t (.tup [oV a, oV b, .non])) g (.lst [.ref t])) := (same_upd ht).trans (same_upd hg)
  have l1 : LstAt (upd (upd H t (.tup [oV a, oV b, .non])) g (.lst [.ref t])) g [(a, b, none)] := ⟨[t], upd_same, .cons ((same_upd hg) _ _ upd_same) .nil⟩
  generalize upd (upd H t (.tup [oV a, oV b, .non])) g (.lst [.ref t]) = H1 at s1 l1 ⊢
  have high : ∀ (H2 : Hp) (g2 : Addr) (l : List Pc), Same H H2 → LstAt H2 g2 l → l.length ≤ 2 → l ++ highP b y = arnd a b x y →
      tSeq (tIfS (tB (tNotN (tVar 1))) (tSeq (tAsg (tOp rCat (tVar 4) (tLst (tCons (tTup (tCons (tOp (rI0 fun i j => V.int (i + j)) (tVar 1) (tC (.int 1))) (tCons (tC .non) (tCons (tVar 3) tNil)))) tNil))) (gName 4)) tNext) tNext) (tRet (tVar 4)) { nx := fun _ H' => Q .non H', rt := Q } [some (oV a), some (oV b), some (oV x), some (oV y), some (.ref g2)] H2 := fun H2 g2 l s2 l2 ll el => by
    refine ⟨_, rfl, _, rfl, ?_⟩
    cases b with
    | none =>
      refine (show (if (!decide (oV none = V.non)) = true then _ else _) from ?_)
      rw [show (!decide (oV none = V.non)) = false by rw [show decide (oV none = V.non) = true from decide_eq_true rfl]; rfl, if_neg (by decide)]
      refine ⟨_, rfl, q g2 H2 s2 ?_⟩
      rw [← el]
      show LstAt H2 g2 (l ++ [])
      rw [List.append_nil]
      exact l2
    | some j =>
      refine (show (if (!decide (oV (some j) = V.non)) = true then _ else _) from ?_)
      rw [show (!decide (oV (some j) = V.non)) = true by rw [show decide (oV (some j) = V.non) = false from decide_eq_false (fun z => nomatch z)]; rfl, if_pos rfl]
      refine ⟨_, rfl, _, rfl, j, 1, rfl, rfl, _, rfl, by show 3 ≤ sizeLine; decide, fun t2 ht2 => ⟨by show 1 ≤ sizeLine; decide, fun k hk => ?_⟩⟩
      have z1 := same_upd (o := HO.tup [V.int (j + 1), V.non, oV y]) ht2
      have z2 := z1.trans (same_upd (o := HO.lst [V.ref t2]) hk)
      have pt2 : PcAt (upd (upd H2 t2 (.tup [V.int (j + 1), V.non, oV y])) k (.lst [.ref t2])) t2 (some (j + 1), none, y) := (same_upd hk) _ _ upd_same
      obtain ⟨ts, a1, b1⟩ := l2.same z2
      have tl : ts.length = l.length := b1.length
      refine ⟨g2, k, _, _, rfl, rfl, a1, upd_same, by rw [List.length_map, tl]; exact Nat.le_trans (show _ ≤ 3 by show l.length + 1 ≤ 3; omega) (by decide), fun r hr' => ?_⟩
      have z3 := same_upd (o := HO.lst (ts.map V.ref ++ [V.ref t2])) hr'
      refine ⟨_, rfl, q r _ ((s2.trans z2).trans z3) ?_⟩
      rw [← el]
      exact ⟨ts ++ [t2], by rw [upd_same, List.map_append]; rfl, (b1.mono fun c p e => z3 _ _ e).snoc (z3 _ _ pt2)⟩
  refine ⟨_, rfl, _, rfl, ?_⟩
  cases a with
  | none =>
    refine (show (if (!decide (oV none = V.non)) = true then _ else _) from ?_)
    rw [show (!decide (oV none = V.non)) = false by rw [show decide (oV none = V.non) = true from decide_eq_true rfl]; rfl, if_neg (by decide)]
    exact high H1 g [(none, b, none)] s1 l1 (by show 1 ≤ 2; decide) rfl
  | some i =>
    refine (show (if (!decide (oV (some i) = V.non)) = true then _ else _) from ?_)
    rw [show (!decide (oV (some i) = V.non)) = true by rw [show decide (oV (some i) = V.non) = false from decide_eq_false (fun z => nomatch z)]; rfl, if_pos rfl]
    refine ⟨_, rfl, i, 1, rfl, rfl, _, rfl, by show 3 ≤ sizeLine; decide, fun t2 ht2 => ⟨by show 1 ≤ sizeLine; decide, fun k hk => ?_⟩⟩
    have z1 := same_upd (o := HO.tup [V.non, V.int (i - 1), oV x]) ht2
    have z2 := z1.trans (same_upd (o := HO.lst [V.ref t2]) hk)
    have pt2 : PcAt (upd (upd H1 t2 (.tup [V.non, V.int (i - 1), oV x])) k (.lst [.ref t2])) t2 (none, some (i - 1), x) := (same_upd hk) _ _ upd_same
    obtain ⟨ts, a1, b1⟩ := l1.same z2
    have tl : ts.length = 1 := b1.length
    refine ⟨_, rfl, k, g, _, _, rfl, rfl, upd_same, a1, by rw [List.length_map, tl]; exact (by decide : 1 + 1 ≤ sizeLine), fun r hr' => ?_⟩
    have z3 := same_upd (o := HO.lst ([V.ref t2] ++ ts.map V.ref)) hr'
    refine high _ r [(none, some (i - 1), x), (some i, b, none)] ((s1.trans z2).trans z3) ⟨t2 :: ts, upd_same, .cons (z3 _ _ pt2) (b1.mono fun c p e => z3 _ _ e)⟩ (by show 2 ≤ 2; decide) rfl
end
section
variable {P : Program} {w : World} {K : PySem.W.Frag} {mg : Str → Option Value} {base : Heap} {f fI fS fN fA C : Addr} {fd dI dS dN dA : FuncData}
theorem ok_nsame (F : FM K "same" "NumberMap.same" s_nsame f fd) (M : MkN P w K mg base C fI dI) : FnOk P w K mg base CX0 6 f fd ["cls"] (spSame C) := by
  refine F.ok sc_nsame (fun vs H Q E h => ?_) (fun cdv A outer s H vs Q E hr h => ?_)
  · obtain ⟨rfl, _⟩ := h
    rfl
  obtain ⟨rfl, q⟩ := h
  refine ⟨_, PSs.nox (pss_one (ps_ret (pe_makeL (i := 0) M.mkC M.g hr rfl (.inl rfl) M.b .nil pass0 (pa_cons (pe_lst (pa_cons (pe_tup (pa_cons pe_non (pa_cons pe_non (pa_cons pe_non pa_nil)))) pa_nil)) pa_nil)))), ?_⟩
  refine ⟨rfl, by show 3 ≤ sizeLine; decide, fun t ht => ⟨by show 1 ≤ sizeLine; decide, fun g hg => ?_⟩⟩
  have s1 : Same H (upd (upd H t (.tup [.non, .non, .non])) g (.lst [.ref t])) := (same_upd ht).trans (same_upd hg)
  have l1 : LstAt (upd (upd H t (.tup [.non, .non, .non])) g (.lst [.ref t])) g [(none, none, none)] := ⟨[t], upd_same, .cons ((same_upd hg) _ _ upd_same) .nil⟩
  exact made_n l1 ⟨rfl, .inl ⟨rfl, rfl⟩⟩ (by decide) fun m n H' a b c d => q m n H' a b c (s1.trans d)
theorem ok_nconst (F : FM K "constant_map" "NumberMap.constant_map" s_nconst f fd) (M : MkN P w K mg base C fI dI) (N : Kn P w K mg base 1 "is_number" fN dN ["value"] (spIsNumber K)) : FnOk P w K mg base CX0 6 f fd ["cls", "value"] (spConst C) := by
  refine F.ok sc_nconst (fun vs H Q E h => ?_) (fun cdv A outer s H vs Q E hr h => ?_)
  · obtain ⟨v, rfl, _⟩ := h
    rfl
  obtain ⟨v, rfl, q⟩ := h
  refine ⟨_, PSs.nox (pss_cons (ps_if (pt_not (pt_val (pe_call N.f (hr.mono (by decide)) rfl N.m N.k N.b .nil pass0 (pa_cons (pv 1) pa_nil)))) pss_never pss_nil)
    (pss_one (ps_ret (pe_makeL (i := 0) M.mkC M.g hr rfl (.inl rfl) M.b .nil pass0 (pa_cons (pe_lst (pa_cons (pe_tup (pa_cons pe_non (pa_cons pe_non (pa_cons (pv 1) pa_nil)))) pa_nil)) pa_nil))))), ?_⟩
  refine ⟨_, rfl, .int v, .type "int", true, false, rfl, .base (.int v), kit_ty (show kitB "int" "int" = some true by decide +kernel), kit_ty (show kitB "int" "bool" = some false by decide +kernel), fun H1 s0 => ⟨true, rfl, ?_⟩⟩
  refine (show (if (!true) = true then _ else _) from ?_)
  rw [if_neg (by decide)]
  refine ⟨rfl, _, rfl, by show 3 ≤ sizeLine; decide, fun t ht => ⟨by show 1 ≤ sizeLine; decide, fun g hg => ?_⟩⟩
  have s1 : Same H1 (upd (upd H1 t (.tup [.non, .non, .int v])) g (.lst [.ref t])) := (same_upd ht).trans (same_upd hg)
  have l1 : LstAt (upd (upd H1 t (.tup [.non, .non, .int v])) g (.lst [.ref t])) g [(none, none, some v)] := ⟨[t], upd_same, .cons ((same_upd hg) _ _ upd_same) .nil⟩
  exact made_n l1 ⟨rfl, .inl ⟨rfl, rfl⟩⟩ (by show 1 ≤ 1000; decide) fun m n H' a b c d => q m n H' a b c ((Same.trans s0 s1).trans d)
theorem ok_ncut (F : FM K "cut" "NumberMap.cut" s_ncut f fd) (M : MkN P w K mg base C fI dI) (S : Kn P w K mg base 2 "is_stretch" fS dS ["first", "last"] spStretch) (AR : Kn P w K mg base 1 "_pieces_around" fA dA ["first", "last", "below", "above"] spAround) : FnOk P w K mg base CX0 6 f fd ["cls", "first", "last"] (spCut C) := by
  refine F.ok sc_ncut (fun vs H Q E h => ?_) (fun cdv A outer s H vs Q E hr h => ?_)
  · obtain ⟨a, b, rfl, _⟩ := h
    rfl
  obtain ⟨a, b, rfl, hab, q⟩ := h
  refine ⟨_, PSs.nox (pss_cons (ps_if (pt_not (pt_val (pe_call S.f (hr.mono (by decide)) rfl S.m S.k S.b .nil pass0 (pa_cons (pv 1) (pa_cons (pv 2) pa_nil))))) pss_never pss_nil)
    (pss_one (ps_ret (pe_makeL (i := 0) M.mkC M.g hr rfl (.inl rfl) M.b .nil pass0 (pa_cons (pe_call AR.f (hr.mono (by decide)) rfl AR.m AR.k AR.b .nil pass0 (pa_cons (pv 1) (pa_cons (pv 2) (pa_cons (pv 1) (pa_cons (pv 2) pa_nil))))) pa_nil))))), ?_⟩
  refine ⟨_, rfl, _, rfl, a, b, rfl, hab, fun H1 s0 => ⟨true, rfl, ?_⟩⟩
  refine (show (if (!true) = true then _ else _) from ?_)
  rw [if_neg (by decide)]
  refine ⟨rfl, _, rfl, _, rfl, _, rfl, _, rfl, a, b, a, b, rfl, fun g H2 s1 l1 => ?_⟩
  exact made_n l1 (arnd_chn hab) (Nat.le_trans (arnd_len a b a b) (by decide)) fun m n H' x y z d => q m n H' x y z ((Same.trans s0 s1).trans d)
theorem ok_nreset (F : FM K "reset" "NumberMap.reset" s_nreset f fd) (M : MkN P w K mg base C fI dI) (S : Kn P w K mg base 2 "is_stretch" fS dS ["first", "last"] spStretch) (N : Kn P w K mg base 1 "is_number" fN dN ["value"] (spIsNumber K)) (AR : Kn P w K mg base 1 "_pieces_around" fA dA ["first", "last", "below", "above"] spAround) : FnOk P w K mg base CX0 6 f fd ["cls", "first", "last", "value"] (spReset C) := by
  refine F.ok sc_nreset (fun vs H Q E h => ?_) (fun cdv A outer s H vs Q E hr h => ?_)
  · obtain ⟨a, b, v, rfl, _⟩ := h
    rfl
  obtain ⟨a, b, v, rfl, hab, q⟩ := h
  refine ⟨_, PSs.nox (pss_cons (ps_if (pt_not (pt_val (pe_call S.f (hr.mono (by decide)) rfl S.m S.k S.b .nil pass0 (pa_cons (pv 1) (pa_cons (pv 2) pa_nil))))) pss_never pss_nil)
    (pss_cons (ps_if (pt_not (pt_val (pe_call N.f (hr.mono (by decide)) rfl N.m N.k N.b .nil pass0 (pa_cons (pv 3) pa_nil)))) pss_never pss_nil)
    (pss_one (ps_ret (pe_makeL (i := 0) M.mkC M.g hr rfl (.inl rfl) M.b .nil pass0 (pa_cons (pe_call AR.f (hr.mono (by decide)) rfl AR.m AR.k AR.b .nil pass0 (pa_cons (pv 1) (pa_cons (pv 2) (pa_cons (pv 3) (pa_cons (pv 3) pa_nil))))) pa_nil)))))), ?_⟩
  refine ⟨_, rfl, _, rfl, a, b, rfl, hab, fun H1 s0 => ⟨true, rfl, ?_⟩⟩
  refine (show (if (!true) = true then _ else _) from ?_)
  rw [if_neg (by decide)]
  refine ⟨_, rfl, .int v, .type "int", true, false, rfl, .base (.int v), kit_ty (show kitB "int" "int" = some true by decide +kernel), kit_ty (show kitB "int" "bool" = some false by decide +kernel), fun H2 s1 => ⟨true, rfl, ?_⟩⟩
  refine (show (if (!true) = true then _ else _) from ?_)
  rw [if_neg (by decide)]
  refine ⟨rfl, _, rfl, _, rfl, _, rfl, _, rfl, a, b, some v, some v, rfl, fun g H3 s2 l1 => ?_⟩
  exact made_n l1 (arnd_chn hab) (Nat.le_trans (arnd_len _ _ _ _) (by decide)) fun m n H' x y z d => q m n H' x y z (((Same.trans s0 s1).trans s2).trans d)
end
end C11

end PPC11
section PPD11
set_option maxHeartbeats 4000000
namespace C11
/-! ### normal pieces have no far limits; splitting a piece -/
theorem far_hi {l : List Pc} (hc : chn none l) (h : LimP l) : ∃ wL, LimO wL ∧ ∀ x : Int, 10 ^ 30 < x → evalP l x = takeW wL x := by
  have l0 : 0 < l.length := List.length_pos_iff.mpr (chn_ne hc)
  have hL : l[l.length - 1]? = some (l[l.length - 1]'(by omega)) := List.getElem?_eq_getElem (by omega)
  generalize l[l.length - 1]'(by omega) = q at hL
  refine ⟨q.2.2, (h q (List.mem_of_getElem? hL)).2.2, fun x hx => ?_⟩
  obtain ⟨p, e1, e2, e3⟩ := eval_idx x hc
  rw [e3]
  have pn : p.2.1 = none := by
    cases z : p.2.1 with
    | none => rfl
    | some e =>
      rw [z, leO_some] at e2
      have := (h p (List.mem_of_getElem? e1)).2.1 e z
      omega
  have ie := (chn_last hc e1).mp pn
  have : idxP l x = l.length - 1 := by omega
  rw [this, hL] at e1
  cases e1
  rfl
theorem far_lo {l : List Pc} (hc : chn none l) (h : LimP l) : ∃ wF, LimO wF ∧ ∀ x : Int, x < -(10 ^ 30) → evalP l x = takeW wF x := by
  have l0 : 0 < l.length := List.length_pos_iff.mpr (chn_ne hc)
  have hF : l[0]? = some (l[0]'l0) := List.getElem?_eq_getElem l0
  generalize l[0]'l0 = q at hF
  refine ⟨q.2.2, (h q (List.mem_of_getElem? hF)).2.2, fun x hx => ?_⟩
  have ie : idxP l x = 0 := idx_of hc hF (by rw [chn_fst hc hF]; exact fun b z => nomatch z) (by
    cases z : q.2.1 with
    | none => rfl
    | some e =>
      have := (h q (List.mem_of_getElem? hF)).2.1 e z
      exact leO_some.mpr (by omega))
  exact (eval_at hc hF ie).1
theorem desc_far {f : Int → Int} {s w v : Option Int} {e : Int} (wok : WOk f s w) (d : Desc f s w (some e)) (h0 : f (e - 1) = takeW v (e - 1)) (h1 : f e = takeW v e) (h2 : f (e + 1) = takeW v (e + 1)) : False := by
  obtain ⟨d1, d2, d3⟩ := d
  have wv : w = v := by
    by_cases g : geO (e - 1) s
    · have a := d2 (e - 1) g (by omega)
      have b := d2 e d1 (Int.le_refl _)
      refine take_two (x := e - 1) (a.symm.trans h0) ?_
      rw [show e - 1 + 1 = e by omega]
      exact b.symm.trans h1
    · have es : s = some e := by
        cases s with
        | none => exact absurd (fun b z => nomatch z) g
        | some b =>
          have := d1 b rfl
          by_cases q : b = e
          · rw [q]
          · exact absurd (fun c z => by cases z; omega) g
      rw [wok e es]
      exact wOf_own h1 h2
  exact d3 (by rw [wv]; exact h2)
def Bd (a : Option Int) : Prop := ∀ i, a = some i → i.natAbs ≤ 10 ^ 30 + 3
theorem eval_bd {l : List Pc} (hc : chn none l) (h : LimP l) {x : Int} (hx : x.natAbs ≤ 10 ^ 30 + 3) : (evalP l x).natAbs ≤ 10 ^ 30 + 3 := by
  obtain ⟨p, e1, _, e2⟩ := eval_idx x hc
  rw [e2]
  cases hw : p.2.2 with
  | none => exact hx
  | some v =>
    show v.natAbs ≤ _
    have := (h p (List.mem_of_getElem? e1)).2.2 v hw
    omega
theorem nrm_bd {l : List Pc} (hc : chn none l) (h : LimP l) : ∀ {n : List Pc} {s : Option Int}, Bd s → Nrm (evalP l) s n → ∀ p ∈ n, Bd p.1 ∧ Bd p.2.1 ∧ Bd p.2.2
  | p :: r, s, hs, ⟨h1, h2, h3, h4⟩, q, hq => by
    obtain ⟨wH, lH, fH⟩ := far_hi hc h
    obtain ⟨wF, lF, fF⟩ := far_lo hc h
    have bl : Bd p.2.1 := fun e z => by
      rw [z] at h3
      by_cases c1 : e > 10 ^ 30 + 2
      · exact (desc_far h2 h3 (fH _ (by omega)) (fH _ (by omega)) (fH _ (by omega))).elim
      · by_cases c2 : e < -(10 ^ 30 + 2)
        · exact (desc_far h2 h3 (fF _ (by omega)) (fF _ (by omega)) (fF _ (by omega))).elim
        · omega
    have bl2 : ∀ e, p.2.1 = some e → e.natAbs ≤ 10 ^ 30 + 2 := fun e z => by
      rw [z] at h3
      by_cases c1 : e > 10 ^ 30 + 2
      · exact (desc_far h2 h3 (fH _ (by omega)) (fH _ (by omega)) (fH _ (by omega))).elim
      · by_cases c2 : e < -(10 ^ 30 + 2)
        · exact (desc_far h2 h3 (fF _ (by omega)) (fF _ (by omega)) (fF _ (by omega))).elim
        · omega
    have bw : Bd p.2.2 := fun v z => by
      cases s with
      | some b =>
        have hb := hs b rfl
        have e := h2 b rfl
        rw [z] at e
        have fb := eval_bd hc h hb
        unfold wOf at e
        by_cases c : evalP l b = b
        · rw [if_pos c] at e
          by_cases d : evalP l (b + 1) = b
          · rw [if_pos d] at e
            cases e
            exact hb
          · rw [if_neg d] at e
            cases e
        · rw [if_neg c] at e
          cases e
          exact fb
      | none =>
        obtain ⟨e, he⟩ := desc_low h3
        rw [z] at he
        let x := (if e < -(10 ^ 30) then e else -(10 ^ 30)) - 1
        have x1 : x ≤ e ∧ x < -(10 ^ 30) := by
          show (if e < -(10 ^ 30) then e else -(10 ^ 30)) - 1 ≤ e ∧ (if e < -(10 ^ 30) then e else -(10 ^ 30)) - 1 < -(10 ^ 30)
          split <;> omega
        have a := (he x x1.1).symm.trans (fF x x1.2)
        have b := (he (x - 1) (by omega)).symm.trans (fF (x - 1) (by omega))
        cases hw : wF with
        | some c =>
          rw [hw] at a
          have e2 : v = c := a
          have := lF c hw
          omega
        | none =>
          rw [hw] at a b
          have e2 : v = x := a
          have e3 : v = x - 1 := b
          omega
    rcases List.mem_cons.mp hq with rfl | hq
    · exact ⟨by rw [h1]; exact hs, bl, bw⟩
    · cases z : p.2.1 with
      | none =>
        rw [z] at h4
        rw [show r = [] from h4] at hq
        cases hq
      | some e =>
        rw [z] at h4
        exact nrm_bd hc h (fun b y => by cases y; have := bl2 e z; omega) (show Nrm (evalP l) (some (e + 1)) r from h4) q hq
theorem nrm_sm {l n : List Pc} (hc : chn none l) (h : LimP l) (hn : Nrm (evalP l) none n) : SmP n := fun p hp => by
  obtain ⟨a, b, c⟩ := nrm_bd hc h (fun i (z : none = some i) => nomatch z) hn p hp
  have g : ∀ o : Option Int, Bd o → SmO o := fun o k i z => Nat.lt_of_le_of_lt (k i z) (by decide)
  exact ⟨g _ a, g _ b, g _ c⟩
/-! splitting -/
def amid (w : Option Int) (t : Int) : Option Int := if w = some t then none else some (w.getD t)
def loP (p : Pc) (t : Int) : List Pc := match p.1 with
  | none => [(none, some (t - 1), p.2.2)]
  | some a => if a < t then [(some a, some (t - 1), p.2.2)] else []
def upP (p : Pc) (t : Int) : List Pc := match p.2.1 with
  | none => [(some (t + 1), none, p.2.2)]
  | some b => if t < b then [(some (t + 1), some b, p.2.2)] else []
def partsP (p : Pc) (t : Int) : List Pc := if (geB p.1 t && leO t p.2.1) = true then loP p t ++ [(some t, some t, amid p.2.2 t)] ++ upP p t else [p]
theorem amid_at {w : Option Int} {t : Int} : takeW (amid w t) t = takeW w t := by
  unfold amid
  by_cases e : w = some t
  · rw [if_pos e, e] <;> rfl
  · rw [if_neg e]
    cases w with
    | none => rfl
    | some v => rfl
theorem eval_cons {p : Pc} {r : List Pc} {x : Int} : evalP (p :: r) x = if leO x p.2.1 = true then takeW p.2.2 x else evalP r x := rfl
theorem split_ok {p : Pc} {r : List Pc} {s : Option Int} {t : Int} (h : chn s (p :: r)) : chn s (partsP p t ++ r) ∧ ∀ x, geO x s → evalP (partsP p t ++ r) x = evalP (p :: r) x := by
  unfold partsP
  by_cases wi : (geB p.1 t && leO t p.2.1) = true
  · rw [if_pos wi]
    obtain ⟨w1, w2⟩ := Bool.and_eq_true_iff.mp wi
    have U : chn (some (t + 1)) (upP p t ++ r) ∧ ∀ x, t + 1 ≤ x → evalP (upP p t ++ r) x = evalP (p :: r) x := by
      rcases h.2 with ⟨z, rfl⟩ | ⟨e, z, g, c⟩
      · have eu : upP p t = [(some (t + 1), none, p.2.2)] := by
          unfold upP
          rw [z]
        rw [eu]
        refine ⟨⟨rfl, .inl ⟨rfl, rfl⟩⟩, fun x hx => ?_⟩
        rw [eval_cons, z]
        rfl
      · rw [z, leO_some] at w2
        by_cases q : t < e
        · have eu : upP p t = [(some (t + 1), some e, p.2.2)] := by
            unfold upP
            rw [z]
            exact if_pos q
          rw [eu]
          refine ⟨⟨rfl, .inr ⟨e, rfl, fun b y => by cases y; omega, c⟩⟩, fun x hx => ?_⟩
          show evalP ((some (t + 1), some e, p.2.2) :: r) x = _
          rw [eval_cons, eval_cons, z]
        · have eu : upP p t = [] := by
            unfold upP
            rw [z]
            exact if_neg q
          have et : t = e := by omega
          rw [eu, et]
          refine ⟨c, fun x hx => ?_⟩
          show evalP r x = _
          rw [eval_cons, z, if_neg (fun y => by have := leO_some.mp y; omega)]
    obtain ⟨u1, u2⟩ := U
    have M : chn (some t) ((some t, some t, amid p.2.2 t) :: (upP p t ++ r)) ∧ ∀ x, t ≤ x → evalP ((some t, some t, amid p.2.2 t) :: (upP p t ++ r)) x = evalP (p :: r) x := by
      refine ⟨⟨rfl, .inr ⟨t, rfl, fun b y => by cases y; exact Int.le_refl _, u1⟩⟩, fun x hx => ?_⟩
      rw [eval_cons]
      by_cases q : x ≤ t
      · have ex : x = t := by omega
        subst ex
        rw [if_pos (leO_some.mpr q), amid_at, eval_cons, if_pos w2]
      · rw [if_neg (fun y => q (leO_some.mp y))]
        exact u2 x (by omega)
    obtain ⟨m1, m2⟩ := M
    have el : (loP p t ++ [(some t, some t, amid p.2.2 t)] ++ upP p t) ++ r = loP p t ++ ((some t, some t, amid p.2.2 t) :: (upP p t ++ r)) := by
      rw [List.append_assoc, List.append_assoc] <;> rfl
    rw [el]
    have low : ∀ a : Option Int, (∀ b, a = some b → b < t) → chn a ((a, some (t - 1), p.2.2) :: ((some t, some t, amid p.2.2 t) :: (upP p t ++ r))) ∧ ∀ x, geO x a → evalP ((a, some (t - 1), p.2.2) :: ((some t, some t, amid p.2.2 t) :: (upP p t ++ r))) x = evalP (p :: r) x := fun a ha => by
      refine ⟨⟨rfl, .inr ⟨t - 1, rfl, fun b y => by have := ha b y; omega, by rw [show t - 1 + 1 = t by omega]; exact m1⟩⟩, fun x _ => ?_⟩
      rw [eval_cons]
      by_cases q : x ≤ t - 1
      · rw [if_pos (leO_some.mpr q), eval_cons, if_pos (leO_trans (show x ≤ t by omega) w2)]
      · rw [if_neg (fun y => q (leO_some.mp y))]
        exact m2 x (by omega)
    have hs := h.1
    subst hs
    cases z : p.1 with
    | none =>
      have e : loP p t = [(none, some (t - 1), p.2.2)] := by
        unfold loP
        rw [z]
      rw [e]
      exact low none fun b y => (nomatch y)
    | some a =>
      by_cases q : a < t
      · have e : loP p t = [(some a, some (t - 1), p.2.2)] := by
          unfold loP
          rw [z]
          exact if_pos q
        rw [e]
        exact low (some a) fun b y => by cases y; exact q
      · have e : loP p t = [] := by
          unfold loP
          rw [z]
          exact if_neg q
        rw [z] at w1
        have at' : a ≤ t := of_decide_eq_true w1
        have ea : a = t := by omega
        rw [e, ea]
        exact ⟨m1, fun x hx => m2 x (hx t rfl)⟩
  · rw [if_neg wi]
    exact ⟨h, fun x _ => rfl⟩
/-- each piece split at a number -/
def moreP (qs : List (Pc × Int)) : List Pc := qs.flatMap fun q => partsP q.1 q.2
theorem more_ok : ∀ {qs : List (Pc × Int)} {s : Option Int}, chn s (qs.map (·.1)) → chn s (moreP qs) ∧ ∀ x, geO x s → evalP (moreP qs) x = evalP (qs.map (·.1)) x
  | [], _, h => h.elim
  | (p, t) :: r, s, h => by
    have h' : chn s (p :: r.map (·.1)) := h
    have key : chn s (p :: moreP r) ∧ ∀ x, geO x s → evalP (p :: moreP r) x = evalP (p :: r.map (·.1)) x := by
      rcases h'.2 with ⟨z, e⟩ | ⟨e, z, g, c⟩
      · have er : r = [] := List.map_eq_nil_iff.mp e
        subst er
        exact ⟨⟨h'.1, .inl ⟨z, rfl⟩⟩, fun x _ => rfl⟩
      · obtain ⟨a, b⟩ := more_ok c
        refine ⟨⟨h'.1, .inr ⟨e, z, g, a⟩⟩, fun x hx => ?_⟩
        rw [eval_cons, eval_cons, z]
        by_cases q : x ≤ e
        · rw [if_pos (leO_some.mpr q), if_pos (leO_some.mpr q)]
        · rw [if_neg (fun y => q (leO_some.mp y)), if_neg (fun y => q (leO_some.mp y))]
          exact b x fun c y => by cases y; omega
    obtain ⟨a, b⟩ := split_ok (t := t) key.1
    exact ⟨a, fun x hx => (b x hx).trans (key.2 x hx)⟩
end C11

end PPD11
section PPE11
set_option maxHeartbeats 4000000
namespace C11
open PySem PySem.Spec L2 PyProof.Rows
/-! ### a piece in parts, rows by more pieces -/
abbrev s_parts : Stmt := top 32
abbrev s_more : Stmt := top 33
abbrev nParts : List Str := ["_law_low", "_law_at_here", "_law_high", "_law_what", "_law_amid", "_law_lower", "_law_upper"]
theorem sc_parts : FnScope nParts ["_law_low", "_law_at_here", "_law_high", "_law_what"] (defScope s_parts) := ⟨rfl, rfl, rfl, by decide +kernel, rfl, by decide +kernel, by decide +kernel⟩
abbrev nMore : List Str := ["_law_pot_here", "_law_rows_here", "_law_made", "_law_low", "_law_high", "_law_what", "_law_at_here"]
theorem sc_more : FnScope nMore ["_law_pot_here", "_law_rows_here"] (defScope s_more) := ⟨rfl, rfl, rfl, by decide +kernel, rfl, by decide +kernel, by decide +kernel⟩
def spParts : Sp := fun vs H Q _ => ∃ (p : Pc) (t : Int), vs = [oV p.1, .int t, oV p.2.1, oV p.2.2] ∧ ∀ L H', Same H H' → LstAt H' L (partsP p t) → Q (.ref L) H'
theorem cat_lst {H : Hp} {a b : Addr} {l m : List Pc} {Q : VK} (ha : LstAt H a l) (hb : LstAt H b m) (len : l.length + m.length ≤ 1000) (q : ∀ r H', Same H H' → LstAt H' r (l ++ m) → Q (.ref r) H') : rCat (.ref a) (.ref b) H Q := by
  obtain ⟨ts, a1, a2⟩ := ha
  obtain ⟨us, b1, b2⟩ := hb
  have tl : ts.length = l.length := a2.length
  have ul : us.length = m.length := b2.length
  refine ⟨a, b, _, _, rfl, rfl, a1, b1, by rw [List.length_map, List.length_map, tl, ul]; exact Nat.le_trans len (by decide), fun r hr => ?_⟩
  have s := same_upd (o := HO.lst (ts.map V.ref ++ us.map V.ref)) hr
  have app : ∀ {xs : List Addr} {ys : List Pc} {xs2 : List Addr} {ys2 : List Pc} {H : Hp}, Paired (PcAt H) xs ys → Paired (PcAt H) xs2 ys2 → Paired (PcAt H) (xs ++ xs2) (ys ++ ys2) := fun h1 h2 => by
    induction h1 with
    | nil => exact h2
    | cons h t ih => exact .cons h ih
  exact q r _ s ⟨ts ++ us, by rw [upd_same, List.map_append], app (a2.mono fun t p e => s _ _ e) (b2.mono fun t p e => s _ _ e)⟩
/-- [(a, b, c)] -/
theorem one_lst {H : Hp} {a b c : V} {p : Pc} {Q : VK} (ea : a = oV p.1) (eb : b = oV p.2.1) (ec : c = oV p.2.2) (q : ∀ r H', Same H H' → LstAt H' r [p] → Q (.ref r) H') :
    [a, b, c].length ≤ sizeLine ∧ ∀ t, H t = none → [V.ref t].length ≤ sizeLine ∧ ∀ g, (upd H t (.tup [a, b, c])) g = none → Q (.ref g) (upd (upd H t (.tup [a, b, c])) g (.lst [.ref t])) := by
  subst ea eb ec
  refine ⟨by show 3 ≤ sizeLine; decide, fun t ht => ⟨by show 1 ≤ sizeLine; decide, fun g hg => ?_⟩⟩
  exact q g _ ((same_upd ht).trans (same_upd hg)) ⟨[t], upd_same, .cons ((same_upd hg) _ _ upd_same) .nil⟩
theorem one_at {H : Hp} {t g : Addr} {p : Pc} (ht : H t = none) (hg : (upd H t (.tup [oV p.1, oV p.2.1, oV p.2.2])) g = none) : Same H (upd (upd H t (.tup [oV p.1, oV p.2.1, oV p.2.2])) g (.lst [.ref t])) ∧ LstAt (upd (upd H t (.tup [oV p.1, oV p.2.1, oV p.2.2])) g (.lst [.ref t])) g [p] :=
  ⟨(same_upd ht).trans (same_upd hg), [t], upd_same, .cons ((same_upd hg) _ _ upd_same) .nil⟩
/-- the end of parts: lower, upper, all of it -/
theorem parts_tail {K : PySem.W.Frag} {p : Pc} {t : Int} {H : Hp} {Q : VK} (wi : (geB p.1 t && leO t p.2.1) = true) (q : ∀ L H', Same H H' → LstAt H' L (loP p t ++ [(some t, some t, amid p.2.2 t)] ++ upP p t) → Q (.ref L) H') :
    tSeq (tAsg (tIf (tOr (tB (tIsN (tVar 0))) (tTest (tOp (rI0 fun i j => V.bl (decide (i < j))) (tVar 0) (tVar 1)))) (tLst (tCons (tTup (tCons (tVar 0) (tCons (tOp (rI0 fun i j => V.int (i - j)) (tVar 1) (tC (.int 1))) (tCons (tVar 3) tNil)))) tNil)) (tLst tNil)) (gName 5))
      (tSeq (tAsg (tIf (tOr (tB (tIsN (tVar 2))) (tTest (tOp (rI0 fun i j => V.bl (decide (i < j))) (tVar 1) (tVar 2)))) (tLst (tCons (tTup (tCons (tOp (rI0 fun i j => V.int (i + j)) (tVar 1) (tC (.int 1))) (tCons (tVar 2) (tCons (tVar 3) tNil)))) tNil)) (tLst tNil)) (gName 6))
        (tRet (tOp rCat (tOp rCat (tVar 5) (tLst (tCons (tTup (tCons (tVar 1) (tCons (tVar 1) (tCons (tVar 4) tNil)))) tNil))) (tVar 6))))
      { nx := fun _ H' => Q .non H', rt := Q } [some (oV p.1), some (.int t), some (oV p.2.1), some (oV p.2.2), some (oV (amid p.2.2 t)), none, none] H := by
  obtain ⟨w1, w2⟩ := Bool.and_eq_true_iff.mp wi
  have up : ∀ (H1 : Hp) (g : Addr), Same H H1 → LstAt H1 g (loP p t) →
      tSeq (tAsg (tIf (tOr (tB (tIsN (tVar 2))) (tTest (tOp (rI0 fun i j => V.bl (decide (i < j))) (tVar 1) (tVar 2)))) (tLst (tCons (tTup (tCons (tOp (rI0 fun i j => V.int (i + j)) (tVar 1) (tC (.int 1))) (tCons (tVar 2) (tCons (tVar 3) tNil)))) tNil)) (tLst tNil)) (gName 6))
        (tRet (tOp rCat (tOp rCat (tVar 5) (tLst (tCons (tTup (tCons (tVar 1) (tCons (tVar 1) (tCons (tVar 4) tNil)))) tNil))) (tVar 6)))
        { nx := fun _ H' => Q .non H', rt := Q } [some (oV p.1), some (.int t), some (oV p.2.1), some (oV p.2.2), some (oV (amid p.2.2 t)), some (.ref g), none] H1 := fun H1 g s1 l1 => by
    have ll : (loP p t).length ≤ 1 := by
      unfold loP
      split
      · exact Nat.le_refl _
      · split <;> simp
    have ul : (upP p t).length ≤ 1 := by
      unfold upP
      split
      · exact Nat.le_refl _
      · split <;> simp
    have fin : ∀ (H2 : Hp) (k : Addr), Same H H2 → LstAt H2 g (loP p t) → LstAt H2 k (upP p t) → tRet (tOp rCat (tOp rCat (tVar 5) (tLst (tCons (tTup (tCons (tVar 1) (tCons (tVar 1) (tCons (tVar 4) tNil)))) tNil))) (tVar 6)) { nx := fun _ H' => Q .non H', rt := Q } [some (oV p.1), some (.int t), some (oV p.2.1), some (oV p.2.2), some (oV (amid p.2.2 t)), some (.ref g), some (.ref k)] H2 := fun H2 k s2 a b => by
      refine ⟨_, rfl, _, rfl, _, rfl, _, rfl, by show 3 ≤ sizeLine; decide, fun t1 ht1 => ⟨by show 1 ≤ sizeLine; decide, fun r hr1 => ?_⟩⟩
      obtain ⟨s3, c⟩ := one_at (p := (some t, some t, amid p.2.2 t)) ht1 hr1
      refine cat_lst (a.same s3) c (by show (loP p t).length + 1 ≤ 1000; omega) fun r2 H4 s4 d => ?_
      refine ⟨_, rfl, cat_lst d ((b.same s3).same s4) (by rw [List.length_append]; show (loP p t).length + 1 + _ ≤ 1000; omega) fun r3 H5 s5 e => ?_⟩
      exact q r3 H5 (((s2.trans s3).trans s4).trans s5) e
    have nil : upP p t = [] → ∀ k, H1 k = none → tRet (tOp rCat (tOp rCat (tVar 5) (tLst (tCons (tTup (tCons (tVar 1) (tCons (tVar 1) (tCons (tVar 4) tNil)))) tNil))) (tVar 6)) { nx := fun _ H' => Q .non H', rt := Q } [some (oV p.1), some (.int t), some (oV p.2.1), some (oV p.2.2), some (oV (amid p.2.2 t)), some (.ref g), some (.ref k)] (upd H1 k (.lst [])) := fun e k hk =>
      fin _ k (s1.trans (same_upd hk)) (l1.same (same_upd hk)) (by rw [e]; exact ⟨[], upd_same, .nil⟩)
    refine ⟨_, rfl, _, rfl, ?_⟩
    cases z : p.2.1 with
    | none =>
      refine (show (if decide (oV none = V.non) = true then _ else _) from ?_)
      rw [show decide (oV none = V.non) = true from decide_eq_true rfl, if_pos rfl]
      refine (show (if true = true then _ else _) from ?_)
      rw [if_pos rfl]
      have e : upP p t = [(some (t + 1), none, p.2.2)] := by
        unfold upP
        rw [z]
      refine ⟨_, rfl, t, 1, rfl, rfl, _, rfl, _, rfl, by show 3 ≤ sizeLine; decide, fun t1 ht1 => ⟨by show 1 ≤ sizeLine; decide, fun r hr1 => ?_⟩⟩
      obtain ⟨s2, c2⟩ := one_at (p := (some (t + 1), none, p.2.2)) ht1 hr1
      have y := fin _ r (s1.trans s2) (l1.same s2) (by rw [e]; exact c2)
      rw [z] at y
      exact y
    | some b =>
      refine (show (if decide (oV (some b) = V.non) = true then _ else _) from ?_)
      rw [show decide (oV (some b) = V.non) = false from decide_eq_false (fun z => nomatch z), if_neg (by decide)]
      refine ⟨_, rfl, _, rfl, t, b, rfl, rfl, _, rfl, ?_⟩
      by_cases c : t < b
      · rw [decide_eq_true c]
        refine (show (if true = true then _ else _) from ?_)
        rw [if_pos rfl]
        have e : upP p t = [(some (t + 1), some b, p.2.2)] := by
          unfold upP
          rw [z]
          exact if_pos c
        refine ⟨_, rfl, t, 1, rfl, rfl, _, rfl, _, rfl, by show 3 ≤ sizeLine; decide, fun t1 ht1 => ⟨by show 1 ≤ sizeLine; decide, fun r hr1 => ?_⟩⟩
        obtain ⟨s2, c2⟩ := one_at (p := (some (t + 1), some b, p.2.2)) ht1 hr1
        have y := fin _ r (s1.trans s2) (l1.same s2) (by rw [e]; exact c2)
        rw [z] at y
        exact y
      · rw [decide_eq_false c]
        refine (show (if false = true then _ else _) from ?_)
        rw [if_neg (by decide)]
        have e : upP p t = [] := by
          unfold upP
          rw [z]
          exact if_neg c
        refine ⟨Nat.zero_le _, fun k hk => ?_⟩
        have y := nil e k hk
        rw [z] at y
        exact y
  refine ⟨_, rfl, _, rfl, ?_⟩
  cases z : p.1 with
  | none =>
    refine (show (if decide (oV none = V.non) = true then _ else _) from ?_)
    rw [show decide (oV none = V.non) = true from decide_eq_true rfl, if_pos rfl]
    refine (show (if true = true then _ else _) from ?_)
    rw [if_pos rfl]
    have e : loP p t = [(none, some (t - 1), p.2.2)] := by
      unfold loP
      rw [z]
    refine ⟨_, rfl, _, rfl, t, 1, rfl, rfl, _, rfl, by show 3 ≤ sizeLine; decide, fun t1 ht1 => ⟨by show 1 ≤ sizeLine; decide, fun r hr1 => ?_⟩⟩
    obtain ⟨s2, c2⟩ := one_at (p := (none, some (t - 1), p.2.2)) ht1 hr1
    have y := up _ r s2 (by rw [e]; exact c2)
    rw [z] at y
    exact y
  | some a =>
    refine (show (if decide (oV (some a) = V.non) = true then _ else _) from ?_)
    rw [show decide (oV (some a) = V.non) = false from decide_eq_false (fun z => nomatch z), if_neg (by decide)]
    refine ⟨_, rfl, _, rfl, a, t, rfl, rfl, _, rfl, ?_⟩
    by_cases c : a < t
    · rw [decide_eq_true c]
      refine (show (if true = true then _ else _) from ?_)
      rw [if_pos rfl]
      have e : loP p t = [(some a, some (t - 1), p.2.2)] := by
        unfold loP
        rw [z]
        exact if_pos c
      refine ⟨_, rfl, _, rfl, t, 1, rfl, rfl, _, rfl, by show 3 ≤ sizeLine; decide, fun t1 ht1 => ⟨by show 1 ≤ sizeLine; decide, fun r hr1 => ?_⟩⟩
      obtain ⟨s2, c2⟩ := one_at (p := (some a, some (t - 1), p.2.2)) ht1 hr1
      have y := up _ r s2 (by rw [e]; exact c2)
      rw [z] at y
      exact y
    · rw [decide_eq_false c]
      refine (show (if false = true then _ else _) from ?_)
      rw [if_neg (by decide)]
      have e : loP p t = [] := by
        unfold loP
        rw [z]
        exact if_neg c
      refine ⟨Nat.zero_le _, fun k hk => ?_⟩
      have y := up _ k (same_upd hk) (by rw [e]; exact ⟨[], upd_same, .nil⟩)
      rw [z] at y
      exact y
section
variable {P : Program} {w : World} {K : PySem.W.Frag} {mg : Str → Option Value} {base : Heap} {f fW fD fP : Addr} {fd dW dD dP : FuncData}
set_option maxHeartbeats 8000000 in
theorem ok_parts (F : FD K "_law_parts" s_parts f fd) (W : Kn P w K mg base 1 "_law_within" fW dW ["_law_low", "_law_number", "_law_high"] spWithin) : FnOk P w K mg base CX0 2 f fd ["_law_low", "_law_at_here", "_law_high", "_law_what"] spParts := by
  refine F.ok sc_parts (fun vs H Q E h => ?_) (fun cdv A outer s H vs Q E hr h => ?_)
  · obtain ⟨p, t, rfl, _⟩ := h
    rfl
  obtain ⟨p, t, rfl, q⟩ := h
  refine ⟨_, PSs.nox (pss_cons (ps_if (pt_not (pt_val (pe_call W.f hr rfl W.m W.k W.b .nil pass0 (pa_cons (pv 0) (pa_cons (pv 1) (pa_cons (pv 2) pa_nil)))))) (pss_one (ps_ret (pe_lst (pa_cons (pe_tup (pa_cons (pv 0) (pa_cons (pv 2) (pa_cons (pv 3) pa_nil)))) pa_nil)))) pss_nil)
    (pss_cons (ps_set (i := 4) sc_parts.nd rfl (Or.inl rfl) (pe_ifExp (pt_cmp (pc_isN (pv 3))) (pv 1) (pv 3)))
    (pss_cons (ps_if (pt_cmpR op_eq (pv 3) (pv 1) (nomark _)) (pss_one (ps_set (i := 4) sc_parts.nd rfl (Or.inl rfl) pe_non)) pss_nil)
    (pss_cons (ps_set (i := 5) sc_parts.nd rfl (Or.inl rfl) (pe_ifExp (PW.pt (pw_or (pt_cmp (pc_isN (pv 0))) (pw_or1 (pt_cmpR op_lt (pv 0) (pv 1) (nomark _))))) (pe_lst (pa_cons (pe_tup (pa_cons (pv 0) (pa_cons (pe_op op_sub (pv 1) pe_int) (pa_cons (pv 3) pa_nil)))) pa_nil)) (pe_lst pa_nil)))
    (pss_cons (ps_set (i := 6) sc_parts.nd rfl (Or.inl rfl) (pe_ifExp (PW.pt (pw_or (pt_cmp (pc_isN (pv 2))) (pw_or1 (pt_cmpR op_lt (pv 1) (pv 2) (nomark _))))) (pe_lst (pa_cons (pe_tup (pa_cons (pe_op op_add (pv 1) pe_int) (pa_cons (pv 2) (pa_cons (pv 3) pa_nil)))) pa_nil)) (pe_lst pa_nil)))
    (pss_one (ps_ret (pe_op op_cat (pe_op op_cat (pv 5) (pe_lst (pa_cons (pe_tup (pa_cons (pv 1) (pa_cons (pv 1) (pa_cons (pv 4) pa_nil)))) pa_nil))) (pv 6))))))))), ?_⟩
  refine ⟨_, rfl, _, rfl, _, rfl, p.1, p.2.1, t, rfl, _, rfl, ?_⟩
  by_cases wi : (geB p.1 t && leO t p.2.1) = true
  · rw [wi]
    refine (show (if (!true) = true then _ else _) from ?_)
    rw [if_neg (by decide)]
    have eP : partsP p t = loP p t ++ [(some t, some t, amid p.2.2 t)] ++ upP p t := if_pos wi
    rw [eP] at q
    have tl := parts_tail (K := K) wi q
    refine ⟨_, rfl, _, rfl, ?_⟩
    obtain ⟨pa, pb, pw⟩ := p
    cases pw with
    | none =>
      refine (show (if decide (oV none = V.non) = true then _ else _) from ?_)
      rw [show decide (oV none = V.non) = true from decide_eq_true rfl, if_pos rfl]
      refine ⟨_, rfl, _, rfl, _, rfl, rfl, false, ?_, ?_⟩
      · show V.bl (decide (V.non = V.int t)) = V.bl false
        rw [decide_eq_false (fun z => nomatch z)]
      refine (show (if false = true then _ else _) from ?_)
      rw [if_neg (by decide)]
      exact tl
    | some v =>
      refine (show (if decide (oV (some v) = V.non) = true then _ else _) from ?_)
      rw [show decide (oV (some v) = V.non) = false from decide_eq_false (fun z => nomatch z), if_neg (by decide)]
      refine ⟨_, rfl, _, rfl, _, rfl, rfl, decide (v = t), ?_, ?_⟩
      · show V.bl (decide (V.int v = V.int t)) = V.bl (decide (v = t))
        by_cases e : v = t
        · rw [decide_eq_true e, decide_eq_true (by rw [e])]
        · rw [decide_eq_false e, decide_eq_false fun z => e (V.int.inj z)]
      by_cases e : v = t
      · subst e
        rw [decide_eq_true rfl]
        refine (show (if true = true then _ else _) from ?_)
        rw [if_pos rfl]
        have ea : amid (some v) v = none := if_pos rfl
        rw [ea] at tl
        exact tl
      · rw [decide_eq_false e]
        refine (show (if false = true then _ else _) from ?_)
        rw [if_neg (by decide)]
        have ea : amid (some v) t = some v := if_neg fun z => e (Option.some.inj z)
        rw [ea] at tl
        exact tl
  · rw [Bool.eq_false_iff.mpr wi]
    refine (show (if (!false) = true then _ else _) from ?_)
    rw [if_pos (by decide)]
    have eP : partsP p t = [p] := if_neg wi
    rw [eP] at q
    exact ⟨_, rfl, _, rfl, _, rfl, one_lst rfl rfl rfl fun r H' s l => q r H' s l⟩
end
end C11

end PPE11
section PPF11
set_option maxHeartbeats 4000000
namespace C11
open PySem PySem.Spec L2 PyProof.Rows
theorem lst_ne {H : Hp} {p R : Addr} {l : List Pc} (hP : PotAt H p) (h : LstAt H R l) : R ≠ p := fun z => by
  obtain ⟨a, b, e, _⟩ := hP
  obtain ⟨ts, e2, _⟩ := h
  rw [z, e] at e2
  have e3 := HO.lst.inj (Option.some.inj e2)
  cases ts with
  | nil => cases e3
  | cons t ts =>
    rw [List.map_cons] at e3
    cases (List.cons.inj e3).1
theorem pc_ne {H : Hp} {p t : Addr} {q : Pc} (hP : PotAt H p) (h : PcAt H t q) : t ≠ p := fun z => by
  obtain ⟨a, b, e, _⟩ := hP
  unfold PcAt at h
  rw [z, e] at h
  cases h
theorem LstAt.bt {H H' : Hp} {p R : Addr} {l : List Pc} (hP : PotAt H p) (b : Bt p H H') (h : LstAt H R l) : LstAt H' R l := by
  have ne := lst_ne hP h
  obtain ⟨ts, e1, e2⟩ := h
  exact ⟨ts, b _ _ ne e1, e2.mono fun t q e => b _ _ (pc_ne hP e) e⟩
theorem parts_len (p : Pc) (t : Int) : (partsP p t).length ≤ 3 := by
  unfold partsP
  split
  · have ll : (loP p t).length ≤ 1 := by
      unfold loP
      split
      · exact Nat.le_refl _
      · split <;> simp
    have ul : (upP p t).length ≤ 1 := by
      unfold upP
      split
      · exact Nat.le_refl _
      · split <;> simp
    rw [List.length_append, List.length_append]
    show _ + 1 + _ ≤ 3
    omega
  · show 1 ≤ 3
    decide
theorem more_len : ∀ qs : List (Pc × Int), (moreP qs).length ≤ 3 * qs.length
  | [] => Nat.le_refl _
  | q :: qs => by
    have a := more_len qs
    have b := parts_len q.1 q.2
    show (partsP q.1 q.2 ++ moreP qs).length ≤ _
    rw [List.length_append, List.length_cons]
    omega
def spMore : Sp := fun vs H Q _ => ∃ (p R : Addr) (l : List Pc), vs = [.ref p, .ref R] ∧ PotAt H p ∧ LstAt H R l ∧ l.length ≤ 20 ∧ ∀ (g : Addr) (qs : List (Pc × Int)) (H' : Hp), qs.map (·.1) = l → LstAt H' g (moreP qs) → Bt p H H' → PotAt H' p → Q (.ref g) H'
section
variable {P : Program} {w : World} {K : PySem.W.Frag} {mg : Str → Option Value} {base : Heap} {f fD fP : Addr} {fd dD dP : FuncData}
/-- made.extend(parts(low, at, high, what)), at in the slot 6 -/
theorem ext_ok {K : PySem.W.Frag} {H : Hp} {p R g : Addr} {q : Pc} {t : Int} {m : List Pc} {D : Ends} (hg : LstAt H g m) (hl : m.length ≤ 900) (k : ∀ H', (∀ c o, c ≠ g → H c = some o → H' c = some o) → LstAt H' g (m ++ partsP q t) → D.nx [some (.ref p), some (.ref R), some (.ref g), some (oV q.1), some (oV q.2.1), some (oV q.2.2), some (.int t)] H') :
    tDrop (tBM K "list" rExtend (tVar 2) (tCons (tCall spParts [] E0 (tCons (tVar 3) (tCons (tVar 6) (tCons (tVar 4) (tCons (tVar 5) tNil))))) tNil)) D [some (.ref p), some (.ref R), some (.ref g), some (oV q.1), some (oV q.2.1), some (oV q.2.2), some (.int t)] H := by
  obtain ⟨ts, a1, a2⟩ := hg
  refine ⟨_, rfl, .inl ⟨rfl, _, SqL.of a1⟩, _, rfl, _, rfl, _, rfl, _, rfl, q, t, rfl, fun L H1 s1 ⟨us, b1, b2⟩ => ?_⟩
  have tl : ts.length = m.length := a2.length
  have ul : us.length = (partsP q t).length := b2.length
  have pl := parts_len q t
  have a1' := s1 _ _ a1
  refine ⟨g, L, _, _, rfl, rfl, a1', b1, by rw [List.length_map, List.length_map, tl, ul]; exact Nat.le_trans (show _ ≤ 1000 by omega) (by decide), ?_⟩
  have keep : ∀ c xs, H1 c = some (HO.tup xs) → (upd H1 g (.lst (ts.map V.ref ++ us.map V.ref))) c = some (HO.tup xs) := fun c xs e => by
    have n : c ≠ g := fun z => by
      rw [z, a1'] at e
      cases e
    rw [upd_ne n]
    exact e
  have app : ∀ {xs : List Addr} {ys : List Pc} {xs2 : List Addr} {ys2 : List Pc} {H : Hp}, Paired (PcAt H) xs ys → Paired (PcAt H) xs2 ys2 → Paired (PcAt H) (xs ++ xs2) (ys ++ ys2) := fun h1 h2 => by
    induction h1 with
    | nil => exact h2
    | cons h t ih => exact .cons h ih
  refine k _ (fun c o nc e => ?_) ⟨ts ++ us, by rw [upd_same, List.map_append], app (a2.mono fun t p e => keep _ _ (s1 _ _ e)) (b2.mono fun t p e => keep _ _ e)⟩
  rw [upd_ne nc]
  exact s1 _ _ e
set_option maxHeartbeats 8000000 in
theorem ok_more (F : FD K "_law_more_rows" s_more f fd) (D : Kn P w K mg base 1 "_law_draw" fD dD ["_law_pot_here", "_law_many"] spDraw) (PT : Kn P w K mg base 2 "_law_parts" fP dP ["_law_low", "_law_at_here", "_law_high", "_law_what"] spParts) : FnOk P w K mg base CX0 3 f fd ["_law_pot_here", "_law_rows_here"] spMore := by
  refine F.ok sc_more (fun vs H Q E h => ?_) (fun cdv A outer s H vs Q E hr h => ?_)
  · obtain ⟨p, R, l, rfl, _⟩ := h
    rfl
  obtain ⟨p, R, l, rfl, hP, hl, l20, q⟩ := h
  refine ⟨_, PSs.nox (pss_cons (ps_set (i := 2) sc_more.nd rfl (Or.inl rfl) (pe_lst pa_nil))
    (pss_cons (ps_for .never (by rfl) (pi_list (pv 1)) (pg_tup (by rfl) (pgs_cons (pg_name (i := 3) sc_more.nd rfl (Or.inl rfl)) (pgs_cons (pg_name (i := 4) sc_more.nd rfl (Or.inl rfl)) (pgs_cons (pg_name (i := 5) sc_more.nd rfl (Or.inl rfl)) pgs_nil))))
      (pss_cons (ps_set (i := 6) sc_more.nd rfl (Or.inl rfl) (pe_ifExp (pt_cmp (pc_notN (pv 3))) (pv 3) (pe_ifExp (pt_cmp (pc_isN (pv 4))) pe_int (pv 4))))
      (pss_cons (ps_if (PW.pt (pw_and (pt_cmp (pc_notN (pv 5))) (pw_and1 (pt_cmpR op_eq (pe_call D.f (hr.mono (by decide)) rfl D.m D.k D.b .nil pass0 (pa_cons (pv 0) (pa_cons pe_int pa_nil))) pe_int (nomark _))))) (pss_one (ps_set (i := 6) sc_more.nd rfl (Or.inl rfl) (pv 5))) pss_nil)
      (pss_one (ps_expr (pe_bm PySem.F.plainAttrs_list PySem.F.slot_list_extend PySem.F.type_list_extend mt_extend (pv 2) (pa_cons (pe_call PT.f hr rfl PT.m PT.k PT.b .nil pass0 (pa_cons (pv 3) (pa_cons (pv 6) (pa_cons (pv 4) (pa_cons (pv 5) pa_nil))))) pa_nil)))))))
    (pss_one (ps_ret (pv 2))))), ?_⟩
  refine ⟨Nat.zero_le _, fun g hg => ?_⟩
  have s1 := same_upd (o := HO.lst []) hg
  have ngp : g ≠ p := pot_ne hP hg
  have hg1 : LstAt (upd H g (.lst [])) g [] := ⟨[], upd_same, .nil⟩
  have hP1 := hP.bt s1
  have hl1 := hl.same s1
  have nRg : R ≠ g := fun z => by
    obtain ⟨ts, e, _⟩ := hl
    rw [z, hg] at e
    cases e
  have c1 : Bt p H (upd H g (.lst [])) := Same.bt s1
  generalize upd H g (.lst []) = H1 at hg1 hP1 hl1 c1 ⊢
  obtain ⟨ts, hR, pr⟩ := hl1
  have tl : ts.length = l.length := pr.length
  have nRp : R ≠ p := lst_ne hP1 ⟨ts, hR, pr⟩
  refine ⟨_, rfl, R, rfl, ⟨_, SqL.of hR⟩, ?_⟩
  refine for_list (xs := ts.map V.ref) (fun i σ' H' => Bt p H H' ∧ PotAt H' p ∧ H' R = some (.lst (ts.map V.ref)) ∧ Paired (PcAt H') ts l ∧ ∃ (qs : List (Pc × Int)) (a b c d : Option V), σ' = [some (.ref p), some (.ref R), some (.ref g), a, b, c, d] ∧ qs.map (·.1) = l.take i ∧ LstAt H' g (moreP qs))
    ⟨c1, hP1, hR, pr, [], none, none, none, none, rfl, rfl, hg1⟩ (fun i σ' H' _ ⟨_, _, e, _⟩ => SqL.of e) (fun i x σ' H2 hx ⟨c2, hP2, hR2, pr2, qs, a, b, c, d, eσ, eq, hg2⟩ => ?_) (fun σ' H2 ⟨c2, hP2, hR2, pr2, qs, a, b, c, d, eσ, eq, hg2⟩ => ?_)
  · subst eσ
    have il : i < l.length := by
      have := (List.getElem?_eq_some_iff.mp hx).1
      rw [List.length_map] at this
      omega
    have hq : l[i]? = some (l[i]'il) := List.getElem?_eq_getElem il
    generalize l[i]'il = v at hq
    obtain ⟨t, e1, e2⟩ := paired_at pr2 hq
    rw [List.getElem?_map, e1] at hx
    cases (show V.ref t = x from Option.some.inj hx)
    have tk : l.take (i + 1) = l.take i ++ [v] := by rw [List.take_succ, hq]; rfl
    have qsl : qs.length ≤ 20 := by
      have := congrArg List.length eq
      rw [List.length_map, List.length_take] at this
      omega
    have ml := more_len qs
    refine ⟨t, _, rfl, SqT.of e2, rfl, _, _, rfl, _, _, rfl, _, _, rfl, rfl, ?_⟩
    have fin : ∀ (H3 : Hp) (u : Int), Bt p H H3 → PotAt H3 p → H3 R = some (.lst (ts.map V.ref)) → Paired (PcAt H3) ts l → LstAt H3 g (moreP qs) → ∀ H', (∀ c o, c ≠ g → H3 c = some o → H' c = some o) → LstAt H' g (moreP qs ++ partsP v u) →
        Bt p H H' ∧ PotAt H' p ∧ H' R = some (.lst (ts.map V.ref)) ∧ Paired (PcAt H') ts l ∧ ∃ (qs : List (Pc × Int)) (a b c d : Option V), [some (.ref p), some (.ref R), some (.ref g), some (oV v.1), some (oV v.2.1), some (oV v.2.2), some (.int u)] = [some (.ref p), some (.ref R), some (.ref g), a, b, c, d] ∧ qs.map (·.1) = l.take (i + 1) ∧ LstAt H' g (moreP qs) := fun H3 u c3 hP3 hR3 pr3 hg3 H' kp lg => by
      refine ⟨fun c o nc e => ?_, ?_, kp _ _ nRg hR3, pr3.mono fun c z e => ?_, qs ++ [(v, u)], _, _, _, _, rfl, ?_, ?_⟩
      · exact kp _ _ (ne_of_none e hg) (c3 _ _ nc e)
      · obtain ⟨x, y, e, r⟩ := hP3
        exact ⟨x, y, kp _ _ (Ne.symm ngp) e, r⟩
      · refine kp _ _ (fun z2 => ?_) e
        obtain ⟨us, f1, _⟩ := hg3
        unfold PcAt at e
        rw [z2, f1] at e
        cases e
      · rw [List.map_append, eq, tk] <;> rfl
      · unfold moreP
        rw [List.flatMap_append, List.flatMap_cons, List.flatMap_nil, List.append_nil]
        exact lg
    have rest : ∀ (u : Int) (y : Option V), tSeq (tIfS (tAnd (tB (tNotN (tVar 5))) (tTest (tOp rEq (tCall spDraw [] E0 (tCons (tVar 0) (tCons (tC (.int 2)) tNil))) (tC (.int 0))))) (tSeq (tAsg (tVar 5) (gName 6)) tNext) tNext) (tSeq (tDrop (tBM K "list" rExtend (tVar 2) (tCons (tCall spParts [] E0 (tCons (tVar 3) (tCons (tVar 6) (tCons (tVar 4) (tCons (tVar 5) tNil))))) tNil))) tNext)
        { nx := fun σ' H' => Bt p H H' ∧ PotAt H' p ∧ H' R = some (.lst (ts.map V.ref)) ∧ Paired (PcAt H') ts l ∧ ∃ (qs : List (Pc × Int)) (a b c d : Option V), σ' = [some (.ref p), some (.ref R), some (.ref g), a, b, c, d] ∧ qs.map (·.1) = l.take (i + 1) ∧ LstAt H' g (moreP qs), rt := Q }
        [some (.ref p), some (.ref R), some (.ref g), some (oV v.1), some (oV v.2.1), some (oV v.2.2), some (.int u)] H2 := fun u y => by
      have one : ∀ (H3 : Hp) (u : Int), Bt p H2 H3 → PotAt H3 p → tSeq (tDrop (tBM K "list" rExtend (tVar 2) (tCons (tCall spParts [] E0 (tCons (tVar 3) (tCons (tVar 6) (tCons (tVar 4) (tCons (tVar 5) tNil))))) tNil))) tNext
          { nx := fun σ' H' => Bt p H H' ∧ PotAt H' p ∧ H' R = some (.lst (ts.map V.ref)) ∧ Paired (PcAt H') ts l ∧ ∃ (qs : List (Pc × Int)) (a b c d : Option V), σ' = [some (.ref p), some (.ref R), some (.ref g), a, b, c, d] ∧ qs.map (·.1) = l.take (i + 1) ∧ LstAt H' g (moreP qs), rt := Q }
          [some (.ref p), some (.ref R), some (.ref g), some (oV v.1), some (oV v.2.1), some (oV v.2.2), some (.int u)] H3 := fun H3 u b3 hP3 => by
        have hg3 := hg2.bt hP2 b3
        refine ext_ok (K := K) (q := v) (t := u) hg3 (by omega) fun H' kp lg => ?_
        exact fin H3 u (c2.trans b3) hP3 (b3 _ _ nRp hR2) (pr2.mono fun c z e => b3 _ _ (pc_ne hP2 e) e) hg3 H' kp lg
      refine ⟨_, rfl, _, rfl, ?_⟩
      cases hw : v.2.2 with
      | none =>
        refine (show (if (!decide (oV none = V.non)) = true then _ else _) from ?_)
        rw [show (!decide (oV none = V.non)) = false by rw [show decide (oV none = V.non) = true from decide_eq_true rfl]; rfl, if_neg (by decide)]
        refine (show (if false = true then _ else _) from ?_)
        rw [if_neg (by decide)]
        have z := one H2 u (Bt.refl p H2) hP2
        rw [hw] at z
        exact z
      | some w0 =>
        refine (show (if (!decide (oV (some w0) = V.non)) = true then _ else _) from ?_)
        rw [show (!decide (oV (some w0) = V.non)) = true by rw [show decide (oV (some w0) = V.non) = false from decide_eq_false (fun z => nomatch z)]; rfl, if_pos rfl]
        refine ⟨_, rfl, p, 2, rfl, hP2, by decide, by decide, fun n H3 n0 n1 b3 hP3 => ⟨rfl, _, rfl, ?_⟩⟩
        refine ite2 (fun h => ?_) (fun h => ?_)
        · have z := one H3 w0 b3 hP3
          rw [hw] at z
          exact ⟨_, rfl, z⟩
        · have z := one H3 u b3 hP3
          rw [hw] at z
          exact z
    refine ⟨_, rfl, _, rfl, ?_⟩
    cases h1 : v.1 with
    | some a1 =>
      refine (show (if (!decide (oV (some a1) = V.non)) = true then _ else _) from ?_)
      rw [show (!decide (oV (some a1) = V.non)) = true by rw [show decide (oV (some a1) = V.non) = false from decide_eq_false (fun z => nomatch z)]; rfl, if_pos rfl]
      refine ⟨_, rfl, ?_⟩
      have z := rest a1 none
      rw [h1] at z
      exact z
    | none =>
      refine (show (if (!decide (oV none = V.non)) = true then _ else _) from ?_)
      rw [show (!decide (oV none = V.non)) = false by rw [show decide (oV none = V.non) = true from decide_eq_true rfl]; rfl, if_neg (by decide)]
      refine ⟨_, rfl, _, rfl, ?_⟩
      cases h2 : v.2.1 with
      | none =>
        refine (show (if decide (oV none = V.non) = true then _ else _) from ?_)
        rw [show decide (oV none = V.non) = true from decide_eq_true rfl, if_pos rfl]
        have z := rest 0 none
        rw [h1, h2] at z
        exact z
      | some b1 =>
        refine (show (if decide (oV (some b1) = V.non) = true then _ else _) from ?_)
        rw [show decide (oV (some b1) = V.non) = false from decide_eq_false (fun z => nomatch z), if_neg (by decide)]
        refine ⟨_, rfl, ?_⟩
        have z := rest b1 none
        rw [h1, h2] at z
        exact z
  · subst eσ
    rw [List.length_map, tl, List.take_length] at eq
    exact ⟨_, rfl, q g qs H2 eq hg2 c2 hP2⟩
end
end C11

end PPF11
section PPG11
set_option maxHeartbeats 4000000
namespace C11
open PySem PySem.Spec L2 PyProof.Rows
/-! ### rows in sequence -/
abbrev s_stated : Stmt := top 34
abbrev nStated : List Str := ["_law_rows_here", "_law_lows", "_law_row", "_law_low", "_law_high", "_law_what"]
theorem sc_stated : FnScope nStated ["_law_rows_here"] (defScope s_stated) := ⟨rfl, rfl, rfl, by decide +kernel, rfl, by decide +kernel, by decide +kernel⟩
def lowsOf (l : List Pc) : List (Option Int) := none :: l.dropLast.map fun p => p.2.1.map (· + 1)
theorem chn_lows : ∀ {l : List Pc} {s : Option Int}, chn s l → l.map (·.1) = s :: l.dropLast.map fun p => p.2.1.map (· + 1)
  | [p], s, h => by
    show [p.1] = [s]
    rw [h.1]
  | p :: q :: r, s, h => by
    rcases h.2 with ⟨_, z⟩ | ⟨e, z, _, c⟩
    · cases z
    · have ih := chn_lows c
      show p.1 :: (q :: r).map (·.1) = s :: (p.2.1.map (· + 1) :: (q :: r).dropLast.map fun p => p.2.1.map (· + 1))
      rw [ih, h.1, z] <;> rfl
theorem chn_high : ∀ {l : List Pc} {s : Option Int}, chn s l → ∀ p ∈ l.dropLast, ∃ e, p.2.1 = some e
  | [p], s, h, q, hq => absurd hq List.not_mem_nil
  | p :: r :: t, s, h, q, hq => by
    rcases h.2 with ⟨_, z⟩ | ⟨e, z, _, c⟩
    · cases z
    · have hq' : q ∈ p :: (r :: t).dropLast := hq
      rcases List.mem_cons.mp hq' with rfl | hq'
      · exact ⟨e, z⟩
      · exact chn_high c q hq'
theorem cut_last (xs : List V) : cutV xs none (some (-1)) = xs.dropLast := by
  have e : HT.sIx xs.length xs.length (some (-1)) - HT.sIx xs.length 0 none = xs.length - 1 ∧ HT.sIx xs.length 0 none = 0 := by
    unfold HT.sIx
    refine ⟨?_, ?_⟩
    · simp
      omega
    · simp
  unfold cutV
  rw [e.1, e.2, List.drop_zero, List.dropLast_eq_take]
theorem at_last {α : Type} {xs : List α} {v : α} (h : xs[xs.length - 1]? = some v) : atI xs (-1) = some v := by
  have hl : xs.length - 1 < xs.length := (List.getElem?_eq_some_iff.mp h).1
  have e : ixN xs.length (-1) = some (xs.length - 1) := by
    unfold ixN
    rw [if_neg (by decide), if_pos (by omega)]
    congr 1
    omega
  unfold atI
  rw [e]
  exact h
def spStated : Sp := fun vs H Q _ => ∃ (R : Addr) (l : List Pc), vs = [.ref R] ∧ LstAt H R l ∧ chn none l ∧ l.length ≤ 100 ∧ ∀ H', Same H H' → Q (.bl true) H'
def rLenSeq (K : PySem.W.Frag) : List V → Hp → VK → Prop := fun xs H Q => ∃ p ys, xs = [.ref p] ∧ (SqL K H p ys ∨ SqT K H p ys) ∧ Q (.int ys.length) H
structure TI11 (mg : Str → Option Value) : Prop where
  isi : mg "isinstance" = none
  list : mg "list" = none
  tup : mg "tuple" = none
  all : mg "all" = none
  len : mg "len" = none
section
variable {P : Program} {w : World} {K : PySem.W.Frag} {mg : Str → Option Value} {base : Heap} {f : Addr} {fd : FuncData}
set_option maxHeartbeats 8000000 in
theorem ok_stated (F : FD K "_law_is_stated" s_stated f fd) (T : TI11 mg) : FnOk P w K mg base CX0 1 f fd ["_law_rows_here"] spStated := by
  refine F.ok sc_stated (fun vs H Q E h => ?_) (fun cdv A outer s H vs Q E hr h => ?_)
  · obtain ⟨R, l, rfl, _⟩ := h
    rfl
  obtain ⟨R, l, rfl, ⟨ts, hR, pr⟩, hc, hl, q⟩ := h
  have hu := hr.units
  refine ⟨_, PSs.nox (pss_cons (ps_if (PW.pt (pw_or (pt_not (pt_val (pe_callB call_isi (by rfl) T.isi boot_isi (pa_cons (pv 0) (pa_cons (pe_bltn (v := .ty "list") (by rfl) T.list (by decide +kernel) rfl) pa_nil)))))
      (pw_or1 (pt_not (pt_val (pe_callB (cr_all rfl) (by rfl) T.all boot_all (pa_cons (pe_lc (own := [("_law_row", 2)]) (g := gName 2) (tt := tYes) (te := tAndV (tCB (rIsi K) (tCons (tVar 2) (tCons (tC (.ty "tuple")) tNil))) (tOp rEq (tCB (rLenSeq K) (tCons (tVar 2) tNil)) (tC (.int 3)))) rfl sc_stated.nd (pi_list (pv 0)) (blkOk_by (N := nStated) (sc := defScope s_stated) (by decide +kernel)) (fun _ _ _ _ _ => pg_name (i := 2) sc_stated.nd rfl (Or.inl rfl)) (fun _ _ _ _ _ => pts_nil)
        (fun _ _ _ _ _ => by exact (pe_and (pe_callB call_isi (by rfl) T.isi boot_isi (pa_cons (pv 2) (pa_cons (pe_bltn (v := .ty "tuple") (by rfl) T.tup (by decide +kernel) rfl) pa_nil))) (pe_one (pe_cmpR op_eq (pe_callB call_len_seq (by rfl) T.len boot_len (pa_cons (pv 2) pa_nil)) pe_int (nomark _)))))) pa_nil))))))) pss_never pss_nil)
    (pss_cons (ps_set (i := 1) sc_stated.nd rfl (Or.inl rfl) (pe_op op_cat (pe_lst (pa_cons pe_non pa_nil)) (pe_lc (own := [("_law_low", 3), ("_law_high", 4), ("_law_what", 5)]) (g := gTup K 3 (gCons (gName 3) (gCons (gName 4) (gCons (gName 5) gNil)))) (te := tOp (rI0 fun i j => V.int (i + j)) (tVar 4) (tC (.int 1))) rfl sc_stated.nd (pi_list (pe_slice sl_list (pv 0) po_none (po_some (pe_un un_neg pe_int)))) (blkOk_by (N := nStated) (sc := defScope s_stated) (by decide +kernel))
        (fun _ _ _ _ _ => by exact (pg_tup (by rfl) (pgs_cons (pg_name (i := 3) sc_stated.nd rfl (Or.inl rfl)) (pgs_cons (pg_name (i := 4) sc_stated.nd rfl (Or.inl rfl)) (pgs_cons (pg_name (i := 5) sc_stated.nd rfl (Or.inl rfl)) pgs_nil))))) (fun _ _ _ _ _ => pts_one (pt_cmp (pc_notN (pv 4)))) (fun _ _ _ _ _ => by exact (pe_op op_add (pv 4) pe_int)))))
    (pss_one (ps_ret (pe_and (pe_cmpR (op_eqD (by exact hu)) (pe_lc (own := [("_law_low", 3), ("_law_high", 4), ("_law_what", 5)]) (g := gTup K 3 (gCons (gName 3) (gCons (gName 4) (gCons (gName 5) gNil)))) (tt := tYes) (te := tVar 3) rfl sc_stated.nd (pi_list (pv 0)) (blkOk_by (N := nStated) (sc := defScope s_stated) (by decide +kernel))
        (fun _ _ _ _ _ => by exact (pg_tup (by rfl) (pgs_cons (pg_name (i := 3) sc_stated.nd rfl (Or.inl rfl)) (pgs_cons (pg_name (i := 4) sc_stated.nd rfl (Or.inl rfl)) (pgs_cons (pg_name (i := 5) sc_stated.nd rfl (Or.inl rfl)) pgs_nil))))) (fun _ _ _ _ _ => pts_nil) (fun _ _ _ _ _ => by exact (pv 3))) (pv 1) (nomark _))
      (pe_one (pe_cmp (pc_isN (pe_ix ix_tup (pe_ix ix_seq (pv 0) (pe_un un_neg pe_int) (fun _ _ => rfl)) pe_int (fun _ _ => rfl))) rfl))))))), ?_⟩
  have tl : ts.length = l.length := pr.length
  refine ⟨_, rfl, .ref R, .ty "list", .type "list", _, true, rfl, .ty _, .base (.lst hR), kit_ty (by decide +kernel), true, rfl, ?_⟩
  refine (show (if (!true) = true then _ else _) from ?_)
  rw [if_neg (by decide)]
  refine ⟨_, rfl, R, rfl, ⟨_, SqL.of hR⟩, fun D hD => ?_⟩
  refine lc_list (xs := ts.map V.ref) (fun i H' => Same H H' ∧ H' D = some (.lst (List.replicate i (V.bl true)))) ⟨same_upd hD, upd_same⟩ (fun i H' _ ⟨z, _⟩ => SqL.of (z _ _ hR)) (fun i x H1 hx ⟨z1, hD1⟩ => ?_) fun H1 ⟨z1, hD1⟩ => ?_
  · have il : i < l.length := by
      have := (List.getElem?_eq_some_iff.mp hx).1
      rw [List.length_map] at this
      omega
    have hp : l[i]? = some (l[i]'il) := List.getElem?_eq_getElem il
    generalize l[i]'il = p at hp
    obtain ⟨t, e1, e2⟩ := paired_at pr hp
    rw [List.getElem?_map, e1] at hx
    cases (show V.ref t = x from Option.some.inj hx)
    have ht : H1 t = some (.tup [oV p.1, oV p.2.1, oV p.2.2]) := z1 _ _ e2
    refine ⟨rfl, ?_⟩
    simp only [tYes, ↓reduceIte]
    refine ⟨_, rfl, .ref t, .ty "tuple", .type "tuple", _, true, rfl, .ty _, .base (.tup ht), kit_ty (by decide +kernel), true, rfl, ?_⟩
    refine (show (if true = true then _ else _) from ?_)
    rw [if_pos rfl]
    refine ⟨_, rfl, t, _, rfl, .inr (SqT.of ht), rfl, ?_⟩
    refine ⟨_, hD1, by rw [List.length_replicate]; exact Nat.lt_of_lt_of_le (show i < 100 by omega) (by decide), same_over z1 hD, ?_⟩
    show (upd H1 D (.lst (List.replicate i (V.bl true) ++ [V.bl (decide (V.int ((([oV p.1, oV p.2.1, oV p.2.2] : List V).length : Nat) : Int) = V.int 3))]))) D = _
    rw [decide_eq_true (by rfl), upd_same, List.replicate_succ']
  refine ⟨D, List.replicate (ts.map V.ref).length true, rfl, SqL.of (by rw [hD1, List.map_replicate]), true, ?_, ?_⟩
  · rw [all_true]
  refine (show (if (!true) = true then _ else _) from ?_)
  rw [if_neg (by decide)]
  have hR1 := z1 _ _ hR
  -- the lows
  refine ⟨by show 1 ≤ sizeLine; decide, fun n0 hn0 => ?_⟩
  have s2 := same_upd (o := HO.lst [V.non]) hn0
  have hn1 : (upd H1 n0 (.lst [V.non])) n0 = some (.lst [V.non]) := upd_same
  have z2 := z1.trans s2
  generalize upd H1 n0 (.lst [V.non]) = H2 at s2 hn1 z2 ⊢
  refine ⟨_, rfl, _, rfl, ?_⟩
  have hR2 := z2 _ _ hR
  refine ⟨-1, rfl, R, _, rfl, SqL.of hR2, fun k hk => ?_⟩
  rw [cut_last]
  have s3 := same_upd (o := HO.lst (ts.map V.ref).dropLast) hk
  have hk3 : (upd H2 k (.lst (ts.map V.ref).dropLast)) k = some (.lst (ts.map V.ref).dropLast) := upd_same
  have hn3 := s3 _ _ hn1
  have z3 := z2.trans s3
  generalize upd H2 k (.lst (ts.map V.ref).dropLast) = H3 at s3 hk3 hn3 z3 ⊢
  refine ⟨k, rfl, ⟨_, SqL.of hk3⟩, fun D2 hD2 => ?_⟩
  have high := chn_high hc
  have dl : l.dropLast.length = l.length - 1 := List.length_dropLast
  refine lc_list (xs := (ts.map V.ref).dropLast) (fun i H' => Same H3 H' ∧ H' D2 = some (.lst ((l.dropLast.take i).map fun p => oV (p.2.1.map (· + 1))))) ⟨same_upd hD2, upd_same⟩ (fun i H' _ ⟨z, _⟩ => SqL.of (z _ _ hk3)) (fun i x H4 hx ⟨z4, hD4⟩ => ?_) fun H4 ⟨z4, hD4⟩ => ?_
  · have il : i < l.dropLast.length := by
      have := (List.getElem?_eq_some_iff.mp hx).1
      rw [List.length_dropLast, List.length_map] at this
      omega
    have hq : l.dropLast[i]? = some (l.dropLast[i]'il) := List.getElem?_eq_getElem il
    generalize l.dropLast[i]'il = p at hq
    have hp : l[i]? = some p := by
      rw [List.getElem?_dropLast] at hq
      split at hq
      · exact hq
      · cases hq
    obtain ⟨t, e1, e2⟩ := paired_at pr hp
    have hx' : (ts.map V.ref)[i]? = some x := by
      rw [List.getElem?_dropLast] at hx
      split at hx
      · exact hx
      · cases hx
    rw [List.getElem?_map, e1] at hx'
    cases (show V.ref t = x from Option.some.inj hx')
    obtain ⟨e, he⟩ := high p (List.mem_of_getElem? hq)
    have ht : H4 t = some (.tup [oV p.1, oV p.2.1, oV p.2.2]) := z4 _ _ (z3 _ _ e2)
    have tk : l.dropLast.take (i + 1) = l.dropLast.take i ++ [p] := by rw [List.take_succ, hq]; rfl
    refine ⟨t, _, rfl, SqT.of ht, rfl, _, _, rfl, _, _, rfl, _, _, rfl, rfl, rfl, _, rfl, _, rfl, ?_⟩
    rw [he]
    refine (show (if (!decide (oV (some e) = V.non)) = true then _ else _) from ?_)
    rw [show (!decide (oV (some e) = V.non)) = true by rw [show decide (oV (some e) = V.non) = false from decide_eq_false (fun z => nomatch z)]; rfl, if_pos rfl]
    refine ⟨_, rfl, e, 1, rfl, rfl, _, hD4, ?_, same_over z4 hD2, ?_⟩
    · rw [List.length_map, List.length_take]
      exact Nat.lt_of_le_of_lt (show _ ≤ 100 by omega) (by decide)
    · rw [upd_same, tk, List.map_append, List.map_cons, List.map_nil, he] <;> rfl
  have el : l.dropLast.take (ts.map V.ref).dropLast.length = l.dropLast := by
    refine List.take_of_length_le ?_
    rw [List.length_dropLast, List.length_dropLast, List.length_map, tl]
    omega
  rw [el] at hD4
  have z5 := z3.trans z4
  have hn4 := z4 _ _ hn3
  refine ⟨n0, D2, _, _, rfl, rfl, hn4, hD4, ?_, fun g hg => ?_⟩
  · rw [List.length_map, dl]
    exact Nat.le_trans (show _ ≤ 101 by show 1 + (l.length - 1) ≤ 101; omega) (by decide)
  have elow : [V.non] ++ l.dropLast.map (fun p => oV (p.2.1.map (· + 1))) = (l.map (·.1)).map oV := by
    rw [chn_lows hc]
    show V.non :: l.dropLast.map (fun p => oV (p.2.1.map (· + 1))) = V.non :: ((l.dropLast.map fun p => p.2.1.map (· + 1)).map oV)
    rw [List.map_map] <;> rfl
  rw [elow]
  have s6 := same_upd (o := HO.lst ((l.map (·.1)).map oV)) hg
  have hg6 : (upd H4 g (.lst ((l.map (·.1)).map oV))) g = some (.lst ((l.map (·.1)).map oV)) := upd_same
  have z6 := z5.trans s6
  generalize upd H4 g (.lst ((l.map (·.1)).map oV)) = H6 at s6 hg6 z6 ⊢
  have hR6 := z6 _ _ hR
  refine ⟨_, rfl, R, rfl, ⟨_, SqL.of hR6⟩, fun D3 hD3 => ?_⟩
  refine lc_list (xs := ts.map V.ref) (fun i H' => Same H6 H' ∧ H' D3 = some (.lst (((l.take i).map (·.1)).map oV))) ⟨same_upd hD3, upd_same⟩ (fun i H' _ ⟨z, _⟩ => SqL.of (z _ _ hR6)) (fun i x H7 hx ⟨z7, hD7⟩ => ?_) fun H7 ⟨z7, hD7⟩ => ?_
  · have il : i < l.length := by
      have := (List.getElem?_eq_some_iff.mp hx).1
      rw [List.length_map] at this
      omega
    have hp : l[i]? = some (l[i]'il) := List.getElem?_eq_getElem il
    generalize l[i]'il = p at hp
    obtain ⟨t, e1, e2⟩ := paired_at pr hp
    rw [List.getElem?_map, e1] at hx
    cases (show V.ref t = x from Option.some.inj hx)
    have ht : H7 t = some (.tup [oV p.1, oV p.2.1, oV p.2.2]) := z7 _ _ (z6 _ _ e2)
    have tk : l.take (i + 1) = l.take i ++ [p] := by rw [List.take_succ, hp]; rfl
    refine ⟨t, _, rfl, SqT.of ht, rfl, _, _, rfl, _, _, rfl, _, _, rfl, rfl, rfl, ?_⟩
    simp only [tYes, ↓reduceIte]
    refine ⟨_, rfl, _, hD7, ?_, same_over z7 hD3, ?_⟩
    · rw [List.length_map, List.length_map, List.length_take]
      exact Nat.lt_of_le_of_lt (show _ ≤ 100 by omega) (by decide)
    · rw [upd_same, tk, List.map_append, List.map_append] <;> rfl
  rw [List.length_map, tl, List.take_length] at hD7
  have hg7 := z7 _ _ hg6
  have dpo : ∀ (k : PySem.W.Frag) (xs : List (Option Int)), DpAll k H7 (xs.map oV) (xs.map oD) := fun k xs => by
    induction xs with
    | nil => exact .nil
    | cons a r ih => exact .cons (dp_oV a) ih
  have evo : ∀ xs : List (Option Int), PyData.eqvAll (xs.map oD) (xs.map oD) = true := fun xs => by
    induction xs with
    | nil => rfl
    | cons a r ih =>
      show (PyData.eqv (oD a) (oD a) && PyData.eqvAll (r.map oD) (r.map oD)) = true
      rw [ih, eqv_oD, decide_eq_true rfl] <;> rfl
  have shp : ∀ xs : List (Option Int), SeqAt.shaped (.list (xs.map oD)) = true := fun xs => by
    have h : PyData.canLayAll0 (xs.map oD) = true ∧ PyData.depthAll (xs.map oD) ≤ 1 := by
      induction xs with
      | nil => exact ⟨rfl, by simp [PyData.depthAll]⟩
      | cons a r ih =>
        obtain ⟨b1, b2⟩ := lay_oD a
        refine ⟨?_, ?_⟩
        · show (PyData.canLay0 (oD a) && PyData.canLayAll0 (r.map oD)) = true
          rw [b1, ih.1] <;> rfl
        · have := ih.2
          simp only [List.map_cons, PyData.depthAll]
          omega
    have h2 : PyData.depth (.list (xs.map oD)) ≤ 64 := by
      have := h.2
      simp only [PyData.depth]
      omega
    show (PyData.canLayAll0 (xs.map oD) && decide (PyData.depth (.list (xs.map oD)) ≤ 64)) = true
    rw [h.1, decide_eq_true h2] <;> rfl
  refine ⟨_, rfl, _, _, .lst (SqL.of hD7) (dpo _ _), .lst (SqL.of hg7) (dpo _ _), shp _, shp _, true, ?_, ?_⟩
  · show V.bl (PyData.eqvAll ((l.map (·.1)).map oD) ((l.map (·.1)).map oD)) = V.bl true
    rw [evo]
  refine (show (if true = true then _ else _) from ?_)
  rw [if_pos rfl]
  have l0 : 0 < l.length := List.length_pos_iff.mpr (chn_ne hc)
  have hp : l[l.length - 1]? = some (l[l.length - 1]'(by omega)) := List.getElem?_eq_getElem (by omega)
  generalize l[l.length - 1]'(by omega) = p at hp
  obtain ⟨t, e1, e2⟩ := paired_at pr hp
  have pn : p.2.1 = none := (chn_last hc hp).mpr (by omega)
  have z8 := z6.trans z7
  have hat : atI (ts.map V.ref) (-1) = some (V.ref t) := at_last (by rw [List.length_map, tl, List.getElem?_map, e1]; rfl)
  refine ⟨_, rfl, _, rfl, .inl ⟨R, _, -1, _, rfl, rfl, SqL.of (z8 _ _ hR), hat, ?_⟩⟩
  refine ⟨t, _, 1, _, rfl, rfl, SqT.of (z8 _ _ e2), rfl, ?_⟩
  show Q (V.bl (decide (oV p.2.1 = V.non))) H7
  rw [pn, show decide (oV none = V.non) = true from decide_eq_true rfl]
  exact q _ z8
end
end C11

end PPG11
section PPH11
set_option maxHeartbeats 4000000
namespace C11
open PySem PySem.Spec L2 PyProof.Rows
/-! ### what a map tells -/
abbrev s_told : Stmt := top 36
abbrev nTold : List Str := ["_law_pot_here", "_law_mapping", "_law_rows_here", "_law_points_here", "_law_told", "_law_more", "_law_one"]
theorem sc_told : FnScope nTold ["_law_pot_here", "_law_mapping", "_law_rows_here"] (defScope s_told) := ⟨rfl, rfl, rfl, by decide +kernel, rfl, by decide +kernel, by decide +kernel⟩
structure EqF (P : Program) (w : World) (K : PySem.W.Frag) (mg : Str → Option Value) (base : Heap) (C CT fE : Addr) (dE : FuncData) : Prop where
  o : EqO K C fE
  g : FnOk P w K mg base CX0 2 fE dE ["self", "other"] (spEq C CT)
  b : Binds K dE ["self", "other"] []
structure ReF (P : Program) (w : World) (K : PySem.W.Frag) (mg : Str → Option Value) (base : Heap) (C fR : Addr) (dR : FuncData) : Prop where
  s : PySem.W.findIn K (.ref C) "__repr__" = some (some (.ref fR))
  fn : PySem.W.isFn K (.ref fR) = true
  g : FnG P w K mg base CX0 1 fR dR ["self"] (spReprN C)
  b : Binds K dR ["self"] []
theorem notFirst_self {K : PySem.W.Frag} {C : Addr} : PySem.W.notFirst K C (.ref C) = true := by simp [PySem.W.notFirst]
theorem new_pcs {C L m dx : Addr} {l : List Pc} {H : Hp} (hl : PcsAt H L l) (hm : H m = none) (hdx : H dx = none) : PcsAt (upd (upd H dx (.own m)) m (.ins C dx [])) L l := by
  obtain ⟨ts, a, b⟩ := hl
  have keep : ∀ c o, H c = some o → (upd (upd H dx (.own m)) m (.ins C dx [])) c = some o := fun c o e => by
    rw [upd_ne (ne_of_none e hm), upd_ne (ne_of_none e hdx)]
    exact e
  exact ⟨ts, a.imp (keep _ _) (keep _ _), b.mono fun t p e => keep _ _ e⟩
/-- C(pieces), pieces in a list or a tuple -/
theorem made_p {C L : Addr} {l : List Pc} {H : Hp} {Q : VK} (hl : PcsAt H L l) (hc : chn none l) (hn : l.length ≤ 1000) (q : NewN C l H Q) : ∀ m dx, H m = none → H dx = none → dx ≠ m → spNInit C [.ref m, .ref L] (upd (upd H dx (.own m)) m (.ins C dx [])) (fun v H' => v = .non ∧ Q (.ref m) H') E0 := fun m dx hm hdx ne => by
  obtain ⟨ts, a, b⟩ := hl
  have keep : ∀ c o, H c = some o → (upd (upd H dx (.own m)) m (.ins C dx [])) c = some o := fun c o e => by
    rw [upd_ne (ne_of_none e hm), upd_ne (ne_of_none e hdx)]
    exact e
  refine ⟨m, dx, L, l, rfl, upd_same, ⟨ts, a.imp (keep _ _) (keep _ _), b.mono fun t p e => keep _ _ e⟩, hc, hn, fun H' u n hn' hle e1 tu hB => ⟨rfl, q m n H' ⟨dx, u, e1, tu⟩ hn' hle (made_same hm hdx ne rfl hB)⟩⟩
theorem nrm_congr {f g : Int → Int} {n m : List Pc} (h : Nrm f none n) (k : Nrm g none m) (e : ∀ x, f x = g x) : n = m := by
  have : f = g := funext e
  subst this
  exact nrm_uniq h k
theorem none_ge (x : Int) : geO x none := fun b z => nomatch z
theorem NMap.bt {C : Addr} {H H' : Hp} {p m : Addr} {n : List Pc} (hP : PotAt H p) (b : Bt p H H') (h : NMap C H m n) : NMap C H' m n := by
  obtain ⟨dx, u, e1, ts, e2, pr⟩ := h
  obtain ⟨x, y, e, _⟩ := hP
  have n1 : m ≠ p := fun z => by
    rw [z, e] at e1
    cases e1
  have n2 : u ≠ p := fun z => by
    rw [z, e] at e2
    cases e2
  exact ⟨dx, u, b _ _ n1 e1, ts, b _ _ n2 e2, pr.mono fun c q f => b _ _ (pc_ne ⟨x, y, e, by assumption⟩ f) f⟩
def spTold (C : Addr) : Sp := fun vs H Q _ => ∃ (p m R : Addr) (n l : List Pc), vs = [.ref p, .ref m, .ref R] ∧ PotAt H p ∧ NMap C H m n ∧ Nrm (evalP l) none n ∧ n.length ≤ 4 ∧ LstAt H R l ∧ chn none l ∧ l.length ≤ 4 ∧ LimP l ∧ ∀ H', Bt p H H' → PotAt H' p → Q (.bl true) H'
section
variable {P : Program} {w : World} {K : PySem.W.Frag} {mg : Str → Option Value} {base : Heap} {f fS fG fT fE fR fI fM fQ C CT : Addr} {fd dS dG dT dE dR dI dM dQ : FuncData}
set_option maxHeartbeats 16000000 in
theorem ok_told (F : FD K "_law_told_right" s_told f fd) (N : NMc K C) (T : TI11 mg) (tr : mg "repr" = none) (hK : noMods K = true) (PO : Kn P w K mg base 1 "_law_points" fQ dQ ["_law_rows_here"] spPoints) (GP : FnOk P w K mg base CX0 1 fG dG ["self"] (spPiecesM C)) (bP : Binds K dG ["self"] []) (mP : Meth K C "pieces" fG)
    (ST : Kn P w K mg base 1 "_law_is_stated" fS dS ["_law_rows_here"] spStated) (AT : Kn P w K mg base 2 "_law_at" fT dT ["_law_rows_here", "_law_number"] spAt) (EF : EqF P w K mg base C CT fE dE) (RF : ReF P w K mg base C fR dR) (MN : MkN P w K mg base C fI dI) (MO : Kn P w K mg base 3 "_law_more_rows" fM dM ["_law_pot_here", "_law_rows_here"] spMore) :
    FnG P w K mg base CX0 6 f fd ["_law_pot_here", "_law_mapping", "_law_rows_here"] (spTold C) := by
  refine F.okG sc_told (fun vs H Q E h => ?_) (fun cdv A outer s H vs Q E hg hr h => ?_)
  · obtain ⟨p, m, R, n, l, rfl, _⟩ := h
    rfl
  obtain ⟨p, m, R, n, l, rfl, hP, nm, hn, nl, hR, hc, ll, lim, q⟩ := h
  have hG := deeper_guards (env := PyProof.Rows.envOfC "_law_told_right" (defScope s_told) s.heap.objs.size f cdv) hg
  have hu := hr.units
  refine ⟨_, PSs.nox (pss_cons (ps_asg (pe_tup (pa_cons (pe_call PO.f (hr.mono (by decide)) rfl PO.m PO.k PO.b .nil pass0 (pa_cons (pv 2) pa_nil)) (pa_cons (pe_meth0 (pv 1) N.cl mP GP (hr.mono (by decide)) bP .nil pass0) pa_nil))) (pg_tup (by rfl) (pgs_cons (pg_name (i := 3) sc_told.nd rfl (Or.inl rfl)) (pgs_cons (pg_name (i := 4) sc_told.nd rfl (Or.inr rfl)) pgs_nil))))
    (pss_cons (ps_if (pt_not (pt_val (pe_call ST.f (hr.mono (by decide)) rfl ST.m ST.k ST.b .nil pass0 (pa_cons (pv 4) pa_nil)))) pss_never pss_nil)
    (pss_cons (ps_if (pt_not (pt_val (pe_callB (cr_all rfl) (by rfl) T.all boot_all (pa_cons (pe_lc (own := [("_law_one", 6)]) (g := gName 6) (tt := tYes) (te := tOp rEq (tCall spAt [] E0 (tCons (tVar 4) (tCons (tVar 6) tNil))) (tCall spAt [] E0 (tCons (tVar 2) (tCons (tVar 6) tNil)))) rfl sc_told.nd (pi_list (pv 3)) (blkOk_by (N := nTold) (sc := defScope s_told) (by decide +kernel)) (fun _ _ _ _ _ => pg_name (i := 6) sc_told.nd rfl (Or.inl rfl)) (fun _ _ _ _ _ => pts_nil)
        (fun _ _ _ _ _ => by exact (pe_cmpR op_eq (pe_call AT.f (hr.mono (by decide)) rfl AT.m AT.k AT.b .nil pass0 (pa_cons (pv 4) (pa_cons (pv 6) pa_nil))) (pe_call AT.f (hr.mono (by decide)) rfl AT.m AT.k AT.b .nil pass0 (pa_cons (pv 2) (pa_cons (pv 6) pa_nil))) (nomark _)))) pa_nil)))) pss_never pss_nil)
    (pss_cons (ps_if (PW.pt (pw_or (pt_cmpR op_ne (pe_callB (call_reprO RF.s RF.fn RF.g (by exact hG) RF.b (hr.mono (by decide))) (by rfl) tr boot_repr (pa_cons (pv 1) pa_nil)) (pe_op op_add_str (pe_op op_add_str pe_str (pe_callB (call_reprD (by exact hG) (by exact hu) (by exact hK)) (by rfl) tr boot_repr (pa_cons (pv 4) pa_nil))) pe_str) (nomark _))
        (pw_or1 (pt_cmpR (op_neO EF.o EF.g EF.b (hr.mono (by decide))) (pe_make MN.mkC MN.g hr rfl MN.m MN.b .nil pass0 (pa_cons (pe_callTy call_tuple_of (by rfl) T.tup (by decide +kernel) (pa_cons (pv 4) pa_nil)) pa_nil)) (pv 1) (nomark _))))) pss_never pss_nil)
    (pss_cons (ps_expr (pe_bm PySem.F.plainAttrs_list PySem.F.slot_list_append PySem.F.type_list_append mt_append (pv 4) (pa_cons (pe_tup (pa_cons pe_non (pa_cons pe_non (pa_cons pe_int pa_nil)))) pa_nil)))
    (pss_cons (ps_set (i := 5) sc_told.nd rfl (Or.inl rfl) (pe_make MN.mkC MN.g hr rfl MN.m MN.b .nil pass0 (pa_cons (pe_call MO.f (hr.mono (by decide)) rfl MO.m MO.k MO.b .nil pass0 (pa_cons (pv 0) (pa_cons (pv 2) pa_nil))) pa_nil)))
    (pss_cons (ps_if (PW.pt (pw_or (pt_cmpR (op_neO EF.o EF.g EF.b (hr.mono (by decide))) (pv 5) (pv 1) (nomark _)) (pw_or1 (pt_cmpR op_ne (pe_callB (call_reprO RF.s RF.fn RF.g (by exact hG) RF.b (hr.mono (by decide))) (by rfl) tr boot_repr (pa_cons (pv 5) pa_nil)) (pe_callB (call_reprO RF.s RF.fn RF.g (by exact hG) RF.b (hr.mono (by decide))) (by rfl) tr boot_repr (pa_cons (pv 1) pa_nil)) (nomark _))))) pss_never pss_nil)
    (pss_one (ps_ret (pe_cmpR (op_eqD (by exact hu)) (pe_meth0 (pv 1) N.cl mP GP (hr.mono (by decide)) bP .nil pass0) (pe_slice sl_list (pv 4) po_none (po_some (pe_un un_neg pe_int))) (nomark _))))))))))), ?_⟩
  obtain ⟨cn, en⟩ := nrm_chn hn
  have sm := nrm_sm hc lim hn
  have pl := ptsOf_len l
  obtain ⟨dx, u, hm, hu2⟩ := nm
  refine ⟨_, rfl, R, l, rfl, hR, by omega, ⟨ptsOf l, by omega, fun k hk => hk⟩, fun S ys H1 hy hyl hS s1 => ?_⟩
  refine ⟨_, rfl, m, dx, _, rfl, s1 _ _ hm, rfl, m, n, rfl, ⟨dx, u, s1 _ _ hm, hu2.same s1⟩, fun g H2 hg0 s2a hg2a => ⟨by show 2 ≤ sizeLine; decide, fun tt htt => ⟨tt, _, rfl, SqT.of upd_same, rfl, _, _, rfl, _, _, rfl, rfl, ?_⟩⟩⟩
  have sT := same_upd (o := HO.tup [V.ref S, V.ref g]) htt
  have s2 := Same.trans s2a sT
  have hg2 := hg2a.same sT
  generalize upd H2 tt (.tup [V.ref S, V.ref g]) = H2 at s2 hg2 ⊢
  have z2 := s1.trans s2
  refine ⟨_, rfl, g, n, rfl, hg2, cn, by omega, fun H3 s3 => ⟨true, rfl, ?_⟩⟩
  refine (show (if (!true) = true then _ else _) from ?_)
  rw [if_neg (by decide)]
  have z3 := z2.trans s3
  have hS3 := s3 _ _ (s2 _ _ hS)
  have hg3 := hg2.same s3
  have hR3 := hR.same z3
  refine ⟨_, rfl, S, rfl, ⟨_, SqL.of hS3⟩, fun D hD => ?_⟩
  refine lc_list (xs := ys.map V.int) (fun i H' => Same H3 H' ∧ H' D = some (.lst (List.replicate i (V.bl true)))) ⟨same_upd hD, upd_same⟩ (fun i H' _ ⟨z, _⟩ => SqL.of (z _ _ hS3)) (fun i x H4 hx ⟨z4, hD4⟩ => ?_) fun H4 ⟨z4, hD4⟩ => ?_
  · rw [List.getElem?_map] at hx
    cases ev : ys[i]? with
    | none =>
      rw [ev] at hx
      cases hx
    | some v =>
      rw [ev] at hx
      cases (show V.int v = x from Option.some.inj hx)
      have il : i < ys.length := (List.getElem?_eq_some_iff.mp ev).1
      refine ⟨rfl, ?_⟩
      simp only [tYes, ↓reduceIte]
      refine ⟨_, rfl, _, rfl, g, n, v, rfl, hg3.same z4, cn, _, rfl, _, rfl, R, l, v, rfl, hR3.same z4, hc, rfl, ?_⟩
      refine ⟨_, hD4, by rw [List.length_replicate]; exact Nat.lt_of_lt_of_le (show i < 64 by omega) (by decide), same_over z4 hD, ?_⟩
      rw [en v (none_ge v), upd_same, decide_eq_true rfl, List.replicate_succ']
  refine ⟨D, List.replicate (ys.map V.int).length true, rfl, SqL.of (by rw [hD4, List.map_replicate]), true, ?_, ?_⟩
  · rw [all_true]
  refine (show (if (!true) = true then _ else _) from ?_)
  rw [if_neg (by decide)]
  have z5 := z3.trans z4
  have hg5 := hg3.same z4
  have nm0 : NMap C H m n := ⟨dx, u, hm, hu2⟩
  have hgn : H g = none := s1.free hg0
  have nm4 := nm0.same z5
  have hP4 := hP.bt z5
  have hR4 := hR.same z5
  have c4 : Bt p H H4 := Same.bt z5
  clear hS3 hg3 hR3 hD4 z4 z3 z2 s3 s2 sT s1 hS hD hg2 hg2a s2a hg0 hm hu2
  -- what repr tells, the same by the told pieces
  obtain ⟨d4, u4, hm4, hu4⟩ := nm4
  obtain ⟨a1, a2, a3⟩ := lst_shown sm (show n.length ≤ 100 by omega)
  have e1 : ("NumberMap(" : Str).length = 10 := by decide +kernel
  have e2 : (")" : Str).length = 1 := by decide +kernel
  have big : 20000 ≤ sizeLine := by decide
  have txt : nmText n = "NumberMap(" ++ (PyData.list (n.map pD)).shown ++ ")" := by
    unfold nmText
    rw [PySem.Str.empty_append]
  refine ⟨_, rfl, m, d4, _, rfl, hm4, m, n, rfl, ⟨d4, u4, hm4, hu4⟩, sm, by omega, fun H5 s5 => ⟨_, rfl, ?_⟩⟩
  have hg6 := hg5.same s5
  refine ⟨_, rfl, _, _, rfl, rp_lst hg6, a1, Nat.le_trans a2 (by decide), a3, _, _, rfl, rfl, ?_, _, _, rfl, rfl, ?_, rfl, false, ?_, ?_⟩
  · rw [e1]
    omega
  · rw [strLen_append, e1, e2]
    omega
  · show V.bl (!decide (V.str (nmText n) = V.str ("NumberMap(" ++ (PyData.list (n.map pD)).shown ++ ")"))) = V.bl false
    rw [txt, decide_eq_true rfl] <;> rfl
  refine (show (if false = true then _ else _) from ?_)
  rw [if_neg (by decide)]
  obtain ⟨gs, g1, g2⟩ := hg6
  refine ⟨_, rfl, g, _, rfl, .inl ⟨SqL.of g1, fun tu htu => ?_⟩⟩
  have s7 := same_upd (o := HO.tup (gs.map V.ref)) htu
  have ptu : PcsAt (upd H5 tu (.tup (gs.map V.ref))) tu n := ⟨gs, .inr upd_same, g2.mono fun t q e => s7 _ _ e⟩
  intro m2 dd xm xd xn
  refine ⟨m2, dd, tu, n, rfl, upd_same, new_pcs ptu xm xd, cn, by omega, fun H6 u2 n2 hn2 hle2 xe xt xB => ⟨rfl, ?_⟩⟩
  have nm2 : NMap C H6 m2 n2 := ⟨dd, u2, xe, xt⟩
  have s8 := made_same xm xd xn rfl xB
  have en2 : n2 = n := nrm_congr hn2 hn fun x => en x (none_ge x)
  subst en2
  have s58 := (Same.trans s5 s7).trans s8
  obtain ⟨d2, u2, hm2, hu2⟩ := nm2
  refine ⟨_, rfl, m2, d2, _, rfl, hm2, ⟨m, rfl, .inl ⟨C, d4, _, s58 _ _ hm4, notFirst_self⟩⟩, m2, n2, .ref m, rfl, ⟨d2, u2, hm2, hu2⟩, .inl ⟨m, n2, rfl, ⟨d4, u4, s58 _ _ hm4, hu4.same s58⟩, ⟨_, rfl, false, ?_, ?_⟩⟩⟩
  · rw [decide_eq_true rfl] <;> rfl
  refine (show (if false = true then _ else _) from ?_)
  rw [if_neg (by decide)]
  -- the told list is changed
  have hg8 : LstAt H6 g n2 := ⟨gs, s8 _ _ (s7 _ _ g1), g2.mono fun t q e => s8 _ _ (s7 _ _ e)⟩
  have nm6 : NMap C H6 m n2 := ⟨d4, u4, s58 _ _ hm4, hu4.same s58⟩
  have hP6 := hP4.bt s58
  have hR6 := hR4.same s58
  have c6 : Bt p H H6 := c4.trans (Same.bt s58)
  have nl2 := nl
  clear hm2 hu2 s58 s8 s7 s5 hm4 hu4 ptu
  obtain ⟨gs8, g81, g82⟩ := hg8
  have gl : gs8.length = n2.length := g82.length
  refine ⟨_, rfl, .inl ⟨rfl, _, SqL.of g81⟩, by show 3 ≤ sizeLine; decide, fun t3 ht3 => ?_⟩
  have s9 := same_upd (o := HO.tup [V.non, V.non, V.int 3]) ht3
  refine ⟨g, _, _, rfl, rfl, s9 _ _ g81, by rw [List.length_map, gl]; exact Nat.lt_of_le_of_lt nl2 (by decide), ?_⟩
  have keepS : ∀ c o, H c = some o → c ≠ g := fun c o e => ne_of_none e hgn
  have ngm : ∀ c o, H6 c = some o → (∀ xs, o ≠ .lst xs) → c ≠ g := fun c o e nn z => by
    rw [z, g81] at e
    exact nn _ (Option.some.inj e).symm
  have k9 : ∀ c o, c ≠ g → H6 c = some o → (upd (upd H6 t3 (.tup [V.non, V.non, V.int 3])) g (.lst (gs8.map V.ref ++ [V.ref t3]))) c = some o := fun c o nc e => by
    rw [upd_ne nc]
    exact s9 _ _ e
  have hg9 : (upd (upd H6 t3 (.tup [V.non, V.non, V.int 3])) g (.lst (gs8.map V.ref ++ [V.ref t3]))) g = some (.lst (gs8.map V.ref ++ [V.ref t3])) := upd_same
  generalize upd (upd H6 t3 (.tup [V.non, V.non, V.int 3])) g (.lst (gs8.map V.ref ++ [V.ref t3])) = H7 at k9 hg9 ⊢
  have nRg : R ≠ g := by
    obtain ⟨ts, e, _⟩ := hR
    exact keepS _ _ e
  have npg : p ≠ g := by
    obtain ⟨x, y, e, _⟩ := hP
    exact keepS _ _ e
  have hP7 : PotAt H7 p := by
    obtain ⟨x, y, e, r⟩ := hP6
    exact ⟨x, y, k9 _ _ npg e, r⟩
  have hR7 : LstAt H7 R l := by
    obtain ⟨ts, e, pr⟩ := hR6
    exact ⟨ts, k9 _ _ nRg e, pr.mono fun c q e => k9 _ _ (ngm _ _ e (fun xs z => by cases z)) e⟩
  have nm7 : NMap C H7 m n2 := by
    obtain ⟨dx, u, f1, ts, f2, pr⟩ := nm6
    exact ⟨dx, u, k9 _ _ (ngm _ _ f1 (fun xs z => by cases z)) f1, ts, k9 _ _ (ngm _ _ f2 (fun xs z => by cases z)) f2, pr.mono fun c q e => k9 _ _ (ngm _ _ e (fun xs z => by cases z)) e⟩
  have pr7 : Paired (PcAt H7) gs8 n2 := g82.mono fun c q e => k9 _ _ (ngm _ _ e (fun xs z => by cases z)) e
  have c7 : Bt p H H7 := fun c o nc e => k9 _ _ (keepS _ _ e) (c6 c o nc e)
  clear k9 ngm hP6 hR6 nm6 c6 s9 g82 g81
  -- the same map by more pieces
  refine ⟨_, rfl, _, rfl, p, R, l, rfl, hP7, hR7, by omega, fun gm qs H8 hq hgm b8 hP8 => ?_⟩
  obtain ⟨mc, me⟩ := more_ok (qs := qs) (s := none) (by rw [hq]; exact hc)
  have ql : qs.length ≤ 4 := by
    have := congrArg List.length hq
    rw [List.length_map] at this
    omega
  have ml := more_len qs
  intro m3 dd xm xd xn
  refine ⟨m3, dd, gm, _, rfl, upd_same, new_pcs hgm.pcs xm xd, mc, by omega, fun H9 u3 n3 hn3 hle3 xe xt xB => ⟨rfl, ?_⟩⟩
  have nm3 : NMap C H9 m3 n3 := ⟨dd, u3, xe, xt⟩
  have s9 := made_same xm xd xn rfl xB
  have en3 : n3 = n2 := nrm_congr hn3 hn fun x => (me x (none_ge x)).trans (by rw [hq])
  subst en3
  have nm9 := (nm7.bt hP7 b8).same s9
  have ngp : g ≠ p := Ne.symm npg
  have hg9' := s9 _ _ (b8 _ _ ngp hg9)
  have pr9 := (pr7.mono fun c q e => s9 _ _ (b8 _ _ (pc_ne hP7 e) e) : Paired (PcAt H9) gs8 n3)
  have hP9 := hP8.bt s9
  have c9 : Bt p H H9 := (c7.trans b8).trans (Same.bt s9)
  clear hP7 hR7 nm7 pr7 c7 b8 hP8 hg9 hgm s9
  obtain ⟨d3, u3, hm3, hu3⟩ := nm3
  obtain ⟨d9, u9, hm9, hu9⟩ := nm9
  refine ⟨_, rfl, _, rfl, m3, d3, _, rfl, hm3, ⟨m, rfl, .inl ⟨C, d9, _, hm9, notFirst_self⟩⟩, m3, n3, .ref m, rfl, ⟨d3, u3, hm3, hu3⟩, .inl ⟨m, n3, rfl, ⟨d9, u9, hm9, hu9⟩, ⟨_, rfl, false, ?_, ?_⟩⟩⟩
  · rw [decide_eq_true rfl] <;> rfl
  refine (show (if false = true then _ else _) from ?_)
  rw [if_neg (by decide)]
  refine ⟨_, rfl, m3, d3, _, rfl, hm3, m3, n3, rfl, ⟨d3, u3, hm3, hu3⟩, sm, by omega, fun H10 s10 => ⟨_, rfl, ?_⟩⟩
  refine ⟨_, rfl, m, d9, _, rfl, s10 _ _ hm9, m, n3, rfl, ⟨d9, u9, s10 _ _ hm9, hu9.same s10⟩, sm, by omega, fun H11 s11 => ⟨_, rfl, rfl, false, ?_, ?_⟩⟩
  · show V.bl (!decide (V.str (nmText n3) = V.str (nmText n3))) = V.bl false
    rw [decide_eq_true rfl] <;> rfl
  refine (show (if false = true then _ else _) from ?_)
  rw [if_neg (by decide)]
  have z11 := Same.trans s10 s11
  refine ⟨_, rfl, m, d9, _, rfl, z11 _ _ hm9, rfl, m, n3, rfl, ⟨d9, u9, z11 _ _ hm9, hu9.same z11⟩, fun g2 H12 _ s12 hg12 => ?_⟩
  have z12 := z11.trans s12
  refine ⟨_, rfl, _, rfl, -1, rfl, g, _, rfl, SqL.of (z12 _ _ hg9'), fun k hk => ?_⟩
  have s13 := same_upd (o := HO.lst (cutV (gs8.map V.ref ++ [V.ref t3]) none (some (-1)))) hk
  have hk13 : LstAt (upd H12 k (.lst (cutV (gs8.map V.ref ++ [V.ref t3]) none (some (-1))))) k n3 := ⟨gs8, by rw [upd_same, cut_last, List.dropLast_concat], pr9.mono fun c q e => s13 _ _ (z12 _ _ e)⟩
  refine ⟨_, _, dp_lst (hg12.same s13), dp_lst hk13, shaped_lst _, shaped_lst _, ?_⟩
  show Q (V.bl (PyData.eqvAll (n3.map pD) (n3.map pD))) _
  rw [eqv_pDs, decide_eq_true rfl]
  exact q _ (c9.trans (Same.bt (z12.trans s13))) (hP9.bt (z12.trans s13))
end
end C11

end PPH11
section PQH11
set_option maxHeartbeats 4000000
namespace C11
open PySem PySem.Spec L2 PyProof.Rows
/-! ### two maps are the same exactly where their rows do the same -/
theorem pts_mem {l : List Pc} {p : Pc} (hp : p ∈ l) {v k : Int} (hv : v ∈ intsP p) (hk : k ∈ near v) : k ∈ ptsOf l :=
  List.mem_append.mpr (.inr (List.mem_flatMap.mpr ⟨p, hp, List.mem_flatMap.mpr ⟨v, hv, hk⟩⟩))
theorem pts_low {l : List Pc} {p : Pc} (hp : p ∈ l) {v k : Int} (hv : p.1 = some v) (hk : k ∈ near v) : k ∈ ptsOf l :=
  pts_mem hp (by unfold intsP; rw [hv]; exact List.mem_append.mpr (.inl (List.mem_append.mpr (.inl (List.mem_singleton.mpr rfl))))) hk
theorem pts_high {l : List Pc} {p : Pc} (hp : p ∈ l) {v k : Int} (hv : p.2.1 = some v) (hk : k ∈ near v) : k ∈ ptsOf l :=
  pts_mem hp (by unfold intsP; rw [hv]; exact List.mem_append.mpr (.inl (List.mem_append.mpr (.inr (List.mem_singleton.mpr rfl))))) hk
theorem near0 {v : Int} : v ∈ near v := by simp [near]
theorem near1 {v : Int} : v + 1 ∈ near v := by simp [near]
theorem near2 {v : Int} : v - 1 ∈ near v := by simp [near]
theorem pts_l {l m : List Pc} {k : Int} (h : k ∈ ptsOf l) : k ∈ ptsOf (l ++ m) := by
  unfold ptsOf at *
  rw [List.flatMap_append]
  simp only [List.mem_append] at *
  exact h.imp id .inl
theorem pts_r {l m : List Pc} {k : Int} (h : k ∈ ptsOf m) : k ∈ ptsOf (l ++ m) := by
  unfold ptsOf at *
  rw [List.flatMap_append]
  simp only [List.mem_append] at *
  exact h.imp id .inr
theorem geO_of {x : Int} {s : Option Int} (h : s = none ∨ ∃ a, s = some a ∧ a ≤ x) : geO x s := fun b e => by
  obtain h | ⟨a, h, k⟩ := h
  · rw [h] at e
    cases e
  · rw [h] at e
    cases e
    exact k
theorem leO_of {x : Int} {s : Option Int} (h : ∀ b, s = some b → x ≤ b) : leO x s = true := by
  cases s with
  | none => rfl
  | some b => exact leO_some.mpr (h b rfl)
theorem le_of_leO {x b : Int} {s : Option Int} (h : leO x s = true) (e : s = some b) : x ≤ b := by
  rw [e] at h
  exact leO_some.mp h
theorem eval_same {l m : List Pc} (hl : chn none l) (hm : chn none m) (h : ∀ k ∈ ptsOf (l ++ m), evalP l k = evalP m k) : ∀ x, evalP l x = evalP m x := fun x => by
  obtain ⟨p, i1, i2, i3⟩ := eval_idx x hl
  obtain ⟨q, j1, j2, j3⟩ := eval_idx x hm
  have i4 := idx_ge hl (none_ge x) i1 rfl
  have j4 := idx_ge hm (none_ge x) j1 rfl
  have hp := List.mem_of_getElem? i1
  have hq := List.mem_of_getElem? j1
  -- the pieces' answers agree at every asked number of both
  have E : ∀ y, y ∈ ptsOf (l ++ m) → geO y p.1 → leO y p.2.1 = true → geO y q.1 → leO y q.2.1 = true → takeW p.2.2 y = takeW q.2.2 y := fun y hy a b c d => by
    rw [← (eval_at hl i1 (idx_of hl i1 a b)).1, ← (eval_at hm j1 (idx_of hm j1 c d)).1]
    exact h y hy
  have fin : p.2.2 = q.2.2 → evalP l x = evalP m x := fun e => by rw [i3, j3, e]
  have up : ∀ a : Int, a ∈ ptsOf (l ++ m) → a + 1 ∈ ptsOf (l ++ m) → geO a p.1 → geO a q.1 → a ≤ x → evalP l x = evalP m x := fun a m0 m1 g1 g2 ax => by
    by_cases e : a = x
    · subst e
      exact h _ m0
    · have b1 : a + 1 ≤ x := by omega
      exact fin (take_two (E a m0 g1 (leO_trans ax i2) g2 (leO_trans ax j2)) (E (a + 1) m1 (fun b z => by have := g1 b z; omega) (leO_trans b1 i2) (fun b z => by have := g2 b z; omega) (leO_trans b1 j2)))
  have down : ∀ b : Int, b ∈ ptsOf (l ++ m) → b - 1 ∈ ptsOf (l ++ m) → leO b p.2.1 = true → leO b q.2.1 = true → p.1 = none → q.1 = none → x ≤ b → evalP l x = evalP m x := fun b m0 m1 g1 g2 n1 n2 bx => by
    have k1 : ∀ y, geO y p.1 := fun y => by rw [n1]; exact none_ge y
    have k2 : ∀ y, geO y q.1 := fun y => by rw [n2]; exact none_ge y
    have b1 : b - 1 ≤ b := by omega
    have r0 := E b m0 (k1 _) g1 (k2 _) g2
    have r1 := E (b - 1) m1 (k1 _) (leO_trans b1 g1) (k2 _) (leO_trans b1 g2)
    have e : b - 1 + 1 = b := by omega
    exact fin (take_two (x := b - 1) r1 (by rw [e]; exact r0))
  cases ep : p.1 with
  | some a => cases eq : q.1 with
    | some c =>
      have ax := i4 a ep
      have cx := j4 c eq
      by_cases ac : a ≤ c
      · exact up c (pts_r (pts_low hq eq near0)) (pts_r (pts_low hq eq near1)) (geO_of (.inr ⟨a, ep, ac⟩)) (geO_of (.inr ⟨c, eq, Int.le_refl c⟩)) cx
      · exact up a (pts_l (pts_low hp ep near0)) (pts_l (pts_low hp ep near1)) (geO_of (.inr ⟨a, ep, Int.le_refl a⟩)) (geO_of (.inr ⟨c, eq, by omega⟩)) ax
    | none => exact up a (pts_l (pts_low hp ep near0)) (pts_l (pts_low hp ep near1)) (geO_of (.inr ⟨a, ep, Int.le_refl a⟩)) (geO_of (.inl eq)) (i4 a ep)
  | none => cases eq : q.1 with
    | some c => exact up c (pts_r (pts_low hq eq near0)) (pts_r (pts_low hq eq near1)) (geO_of (.inl ep)) (geO_of (.inr ⟨c, eq, Int.le_refl c⟩)) (j4 c eq)
    | none =>
      cases fp : p.2.1 with
      | none => cases fq : q.2.1 with
        | none =>
          have z : ∀ k : Int, k ∈ basePts → k ∈ ptsOf (l ++ m) := fun k hk => List.mem_append.mpr (.inl hk)
          have t : ∀ y, y ∈ ptsOf (l ++ m) → takeW p.2.2 y = takeW q.2.2 y := fun y hy => E y hy (geO_of (.inl ep)) (by rw [fp]; rfl) (geO_of (.inl eq)) (by rw [fq]; rfl)
          exact fin (take_two (x := 0) (t 0 (z 0 (by simp [basePts]))) (t (0 + 1) (z (0 + 1) (by simp [basePts]))))
        | some d => exact down d (pts_r (pts_high hq fq near0)) (pts_r (pts_high hq fq near2)) (by rw [fp]; rfl) (leO_of fun b e => by rw [fq] at e; cases e; exact Int.le_refl _) ep eq (le_of_leO j2 fq)
      | some b =>
        have xb := le_of_leO i2 fp
        cases fq : q.2.1 with
        | none => exact down b (pts_l (pts_high hp fp near0)) (pts_l (pts_high hp fp near2)) (leO_of fun b e => by rw [fp] at e; cases e; exact Int.le_refl _) (by rw [fq]; rfl) ep eq xb
        | some d =>
          have xd := le_of_leO j2 fq
          by_cases bd : b ≤ d
          · exact down b (pts_l (pts_high hp fp near0)) (pts_l (pts_high hp fp near2)) (leO_of fun b e => by rw [fp] at e; cases e; exact Int.le_refl _) (leO_of fun c e => by rw [fq] at e; cases e; exact bd) ep eq xb
          · exact down d (pts_r (pts_high hq fq near0)) (pts_r (pts_high hq fq near2)) (leO_of fun c e => by rw [fp] at e; cases e; omega) (leO_of fun c e => by rw [fq] at e; cases e; exact Int.le_refl _) ep eq xd
/-! the asked numbers are few -/
def fewP (p : Pc) : List Int := (oL p.2.1).flatMap (fun e => [e - 1, e, e + 1, e + 2]) ++ (oL p.2.2).flatMap near
def fewOf (l : List Pc) : List Int := l.flatMap fewP
theorem few_w (p : Pc) : ((oL p.2.2).flatMap near).length ≤ 3 := by
  cases p.2.2 <;> simp [oL, near]
theorem few_len : ∀ {l : List Pc} {s : Option Int}, chn s l → (fewOf l).length + 4 ≤ 7 * l.length
  | [], s, h => absurd rfl (chn_ne h)
  | [p], s, h => by
    have e : p.2.1 = none := (chn_last (i := 0) h rfl).mpr rfl
    have w := few_w p
    unfold fewOf
    simp only [List.flatMap_cons, List.flatMap_nil, List.append_nil, fewP, e, oL, List.length_append, List.length_nil, List.length_cons] at w ⊢
    omega
  | p :: q :: r, s, h => by
    obtain ⟨t, ht⟩ : ∃ t, chn t (q :: r) := by
      obtain ⟨_, ⟨_, z⟩ | ⟨e, _, _, z⟩⟩ := h
      · cases z
      · exact ⟨_, z⟩
    have ih := few_len ht
    have w := few_w p
    have w1 : ((oL p.2.1).flatMap (fun e : Int => [e - 1, e, e + 1, e + 2])).length ≤ 4 := by
      cases p.2.1 <;> simp [oL]
    have e : (fewOf (p :: q :: r)).length = (fewP p).length + (fewOf (q :: r)).length := by
      unfold fewOf
      rw [List.flatMap_cons, List.length_append]
    rw [e]
    unfold fewP
    rw [List.length_append]
    simp only [List.length_cons] at ih ⊢
    omega
theorem few_mem : ∀ {l : List Pc} {s : Option Int}, chn s l → ∀ p ∈ l, ∀ v ∈ intsP p, ∀ k ∈ near v, k ∈ fewOf l ∨ ∃ b, s = some b ∧ k ∈ near b
  | [], s, h => absurd rfl (chn_ne h)
  | p0 :: r, s, h => fun p hp v hv k hk => by
    obtain ⟨h1, h2⟩ := h
    have own : k ∈ fewP p0 → k ∈ fewOf (p0 :: r) := fun z => by
      unfold fewOf
      rw [List.flatMap_cons]
      exact List.mem_append.mpr (.inl z)
    obtain rfl | hp := List.mem_cons.mp hp
    · unfold intsP at hv
      simp only [List.mem_append] at hv
      obtain (hv | hv) | hv := hv
      · cases e : p.1 with
        | none =>
          rw [e] at hv
          cases hv
        | some b =>
          rw [e] at hv
          cases List.mem_singleton.mp hv
          exact .inr ⟨v, by rw [← h1, e], hk⟩
      · cases e : p.2.1 with
        | none =>
          rw [e] at hv
          cases hv
        | some b =>
          rw [e] at hv
          cases List.mem_singleton.mp hv
          refine .inl (own ?_)
          unfold fewP
          rw [e]
          refine List.mem_append.mpr (.inl ?_)
          simp only [near, List.mem_cons, List.not_mem_nil, or_false] at hk
          simp only [oL, List.flatMap_cons, List.flatMap_nil, List.append_nil, List.mem_cons, List.not_mem_nil, or_false]
          omega
      · refine .inl (own ?_)
        unfold fewP
        exact List.mem_append.mpr (.inr (List.mem_flatMap.mpr ⟨v, hv, hk⟩))
    · obtain ⟨_, z⟩ | ⟨e, he, _, z⟩ := h2
      · rw [z] at hp
        cases hp
      · obtain a | ⟨b, a1, a2⟩ := few_mem z p hp v hv k hk
        · refine .inl ?_
          unfold fewOf
          rw [List.flatMap_cons]
          exact List.mem_append.mpr (.inr a)
        · cases a1
          refine .inl (own ?_)
          unfold fewP
          rw [he]
          refine List.mem_append.mpr (.inl ?_)
          simp only [near, List.mem_cons, List.not_mem_nil, or_false] at a2
          simp only [oL, List.flatMap_cons, List.flatMap_nil, List.append_nil, List.mem_cons, List.not_mem_nil, or_false]
          omega
theorem few_two {l m : List Pc} (hl : chn none l) (hm : chn none m) (ll : l.length ≤ 4) (ml : m.length ≤ 4) : ∃ zs : List Int, zs.length < 64 ∧ ∀ k ∈ ptsOf (l ++ m), k ∈ zs := by
  have a := few_len hl
  have b := few_len hm
  refine ⟨basePts ++ (fewOf l ++ fewOf m), ?_, fun k hk => ?_⟩
  · rw [List.length_append, List.length_append]
    show 5 + _ < 64
    omega
  · obtain hk | hk := List.mem_append.mp hk
    · exact List.mem_append.mpr (.inl hk)
    · refine List.mem_append.mpr (.inr ?_)
      obtain ⟨p, hp, hk⟩ := List.mem_flatMap.mp hk
      obtain ⟨v, hv, hk⟩ := List.mem_flatMap.mp hk
      obtain hp | hp := List.mem_append.mp hp
      · obtain z | ⟨b, z, _⟩ := few_mem hl p hp v hv k hk
        · exact List.mem_append.mpr (.inl z)
        · cases z
      · obtain z | ⟨b, z, _⟩ := few_mem hm p hp v hv k hk
        · exact List.mem_append.mpr (.inr z)
        · cases z
/-! ### two maps -/
abbrev s_two : Stmt := top 37
abbrev nTwo : List Str := ["_law_rows_here", "_law_others", "_law_points_here", "_law_are_alike", "_law_one", "_law_two", "_law_number"]
theorem sc_two : FnScope nTwo ["_law_rows_here", "_law_others"] (defScope s_two) := ⟨rfl, rfl, rfl, by decide +kernel, rfl, by decide +kernel, by decide +kernel⟩
def spTwo : Sp := fun vs H Q _ => ∃ (R S : Addr) (l m : List Pc), vs = [.ref R, .ref S] ∧ LstAt H R l ∧ LstAt H S m ∧ chn none l ∧ chn none m ∧ l.length ≤ 4 ∧ m.length ≤ 4 ∧ ∀ H', Same H H' → Q (.bl true) H'
section
variable {P : Program} {w : World} {K : PySem.W.Frag} {mg : Str → Option Value} {base : Heap} {f fT fE fI fQ C CT : Addr} {fd dT dE dI dQ : FuncData}
set_option maxHeartbeats 16000000 in
theorem ok_two (F : FD K "_law_two_right" s_two f fd) (T : TI11 mg) (PO : Kn P w K mg base 1 "_law_points" fQ dQ ["_law_rows_here"] spPoints)
    (AT : Kn P w K mg base 2 "_law_at" fT dT ["_law_rows_here", "_law_number"] spAt) (EF : EqF P w K mg base C CT fE dE) (MN : MkN P w K mg base C fI dI) :
    FnOk P w K mg base CX0 6 f fd ["_law_rows_here", "_law_others"] spTwo := by
  refine F.ok sc_two (fun vs H Q E h => ?_) (fun cdv A outer s H vs Q E hr h => ?_)
  · obtain ⟨R, S, l, m, rfl, _⟩ := h
    rfl
  obtain ⟨R, S, l, m, rfl, hR, hS, hl, hm, ll, ml, q⟩ := h
  refine ⟨_, PSs.nox (pss_cons (ps_set (i := 2) sc_two.nd rfl (Or.inl rfl) (pe_call PO.f (hr.mono (by decide)) rfl PO.m PO.k PO.b .nil pass0 (pa_cons (pe_op op_cat (pv 0) (pv 1)) pa_nil)))
    (pss_cons (ps_set (i := 3) sc_two.nd rfl (Or.inl rfl) (pe_callB (cr_all rfl) (by rfl) T.all boot_all (pa_cons (pe_lc (own := [("_law_number", 6)]) (g := gName 6) (tt := tYes) (te := tOp rEq (tCall spAt [] E0 (tCons (tVar 0) (tCons (tVar 6) tNil))) (tCall spAt [] E0 (tCons (tVar 1) (tCons (tVar 6) tNil)))) rfl sc_two.nd (pi_list (pv 2)) (blkOk_by (N := nTwo) (sc := defScope s_two) (by decide +kernel)) (fun _ _ _ _ _ => pg_name (i := 6) sc_two.nd rfl (Or.inl rfl)) (fun _ _ _ _ _ => pts_nil)
        (fun _ _ _ _ _ => by exact (pe_cmpR op_eq (pe_call AT.f (hr.mono (by decide)) rfl AT.m AT.k AT.b .nil pass0 (pa_cons (pv 0) (pa_cons (pv 6) pa_nil))) (pe_call AT.f (hr.mono (by decide)) rfl AT.m AT.k AT.b .nil pass0 (pa_cons (pv 1) (pa_cons (pv 6) pa_nil))) (nomark _)))) pa_nil)))
    (pss_cons (ps_par (i := 4) (j := 5) (by rfl) sc_two.nd rfl rfl (by decide) rfl rfl (pa_cons (pe_make MN.mkC MN.g hr rfl MN.m MN.b .nil pass0 (pa_cons (pv 0) pa_nil)) (pa_cons (pe_make MN.mkC MN.g hr rfl MN.m MN.b .nil pass0 (pa_cons (pv 1) pa_nil)) pa_nil)) (by rfl))
    (pss_one (ps_ret (pe_and (pe_cmpR op_eq (pe_cmpR (op_eqO EF.o EF.g EF.b (hr.mono (by decide))) (pv 4) (pv 5) (nomark _)) (pv 3) (nomark _)) (pe_one (pe_cmpR op_ne (pe_cmpR (op_neO EF.o EF.g EF.b (hr.mono (by decide))) (pv 5) (pv 4) (nomark _)) (pv 3) (nomark _))))))))), ?_⟩
  refine ⟨_, rfl, _, rfl, cat_lst hR hS (by omega) fun RS H1 s1 h1 => ?_⟩
  refine ⟨RS, l ++ m, rfl, h1, by rw [List.length_append]; omega, few_two hl hm ll ml, fun S2 ys H3 hy hyl hP s3 => ?_⟩
  have z3 := s1.trans s3
  have hR3 := hR.same z3
  have hS3 := hS.same z3
  refine ⟨_, rfl, S2, rfl, ⟨_, SqL.of hP⟩, fun D hD => ?_⟩
  refine lc_list (xs := ys.map V.int) (fun i H' => Same H3 H' ∧ H' D = some (.lst (((ys.take i).map fun k => decide (evalP l k = evalP m k)).map V.bl))) ⟨same_upd hD, upd_same⟩ (fun i H' _ ⟨z, _⟩ => SqL.of (z _ _ hP)) (fun i x H4 hx ⟨z4, hD4⟩ => ?_) fun H4 ⟨z4, hD4⟩ => ?_
  · rw [List.getElem?_map] at hx
    cases ev : ys[i]? with
    | none =>
      rw [ev] at hx
      cases hx
    | some v =>
      rw [ev] at hx
      cases (show V.int v = x from Option.some.inj hx)
      obtain ⟨il, ie⟩ := List.getElem?_eq_some_iff.mp ev
      refine ⟨rfl, ?_⟩
      simp only [tYes, ↓reduceIte]
      refine ⟨_, rfl, _, rfl, R, l, v, rfl, hR3.same z4, hl, _, rfl, _, rfl, S, m, v, rfl, hS3.same z4, hm, rfl, ?_⟩
      refine ⟨_, hD4, by rw [List.length_map, List.length_map, List.length_take]; exact Nat.lt_of_lt_of_le (show min i ys.length < 64 by omega) (by decide), same_over z4 hD, ?_⟩
      rw [upd_same, List.take_succ, ev, Option.toList_some, List.map_append, List.map_append, show decide (V.int (evalP l v) = V.int (evalP m v)) = decide (evalP l v = evalP m v) from decide_eq_decide.mpr ⟨V.int.inj, fun e => by rw [e]⟩] <;> rfl
  refine ⟨D, ys.map fun k => decide (evalP l k = evalP m k), rfl, SqL.of (by rw [hD4, List.length_map, List.take_length]), ?_⟩
  have hb : ((ys.map fun k => decide (evalP l k = evalP m k)).all id = true) ↔ ∀ x, evalP l x = evalP m x := by
    rw [List.all_eq_true]
    refine ⟨fun h => eval_same hl hm fun k hk => ?_, fun h b hb => ?_⟩
    · exact of_decide_eq_true (h _ (List.mem_map.mpr ⟨k, (hy k).mpr hk, rfl⟩))
    · obtain ⟨k, _, rfl⟩ := List.mem_map.mp hb
      exact decide_eq_true (h k)
  generalize (ys.map fun k => decide (evalP l k = evalP m k)).all id = al at hb ⊢
  have hR4 := hR3.same z4
  have hS4 := hS3.same z4
  refine ⟨_, rfl, fun m1 d1 xm xd xn => ⟨m1, d1, R, l, rfl, upd_same, new_pcs hR4.pcs xm xd, hl, by omega, fun H5 u1 n1 hn1 _ xe xt xB => ⟨rfl, ?_⟩⟩⟩
  have s5 := made_same xm xd xn rfl xB
  have nm1 : NMap C H5 m1 n1 := ⟨d1, u1, xe, xt⟩
  clear xm xd xn xe xt xB
  refine ⟨_, rfl, fun m2 d2 xm xd xn => ⟨m2, d2, S, m, rfl, upd_same, new_pcs (hS4.same s5).pcs xm xd, hm, by omega, fun H6 u2 n2 hn2 _ xe xt xB => ⟨rfl, ?_⟩⟩⟩
  have s6 := made_same xm xd xn rfl xB
  have nm2 : NMap C H6 m2 n2 := ⟨d2, u2, xe, xt⟩
  have nm1 := nm1.same s6
  clear xm xd xn xe xt xB
  have hn : al = decide (n1 = n2) := by
    refine Bool.eq_iff_iff.mpr (hb.trans ⟨fun e => decide_eq_true ?_, fun e x => ?_⟩)
    · exact nrm_congr hn1 hn2 e
    · have e := of_decide_eq_true e
      subst e
      rw [← (nrm_chn hn1).2 x (none_ge x), ← (nrm_chn hn2).2 x (none_ge x)]
  have z6 : Same H H6 := ((z3.trans z4).trans s5).trans s6
  obtain ⟨d1', v1, hm1, hv1⟩ := nm1
  obtain ⟨d2', v2, hm2, hv2⟩ := nm2
  refine ⟨_, _, rfl, ?_⟩
  refine ⟨_, rfl, _, rfl, m1, d1', _, rfl, hm1, ⟨m2, rfl, .inl ⟨C, d2', _, hm2, notFirst_self⟩⟩, m1, n1, .ref m2, rfl, ⟨d1', v1, hm1, hv1⟩, .inl ⟨m2, n2, rfl, ⟨d2', v2, hm2, hv2⟩, ?_⟩⟩
  refine ⟨_, rfl, _, rfl, rfl, true, ?_, ?_⟩
  · rw [hn]
    show V.bl (decide (V.bl (decide (n1 = n2)) = V.bl (decide (n1 = n2)))) = V.bl true
    rw [decide_eq_true rfl]
  refine (show (if true = true then _ else _) from ?_)
  rw [if_pos rfl]
  refine ⟨_, rfl, _, rfl, m2, d2', _, rfl, hm2, ⟨m1, rfl, .inl ⟨C, d1', _, hm1, notFirst_self⟩⟩, m2, n2, .ref m1, rfl, ⟨d2', v2, hm2, hv2⟩, .inl ⟨m1, n1, rfl, ⟨d1', v1, hm1, hv1⟩, ?_⟩⟩
  refine ⟨_, rfl, _, rfl, rfl, ?_⟩
  rw [hn]
  show Q (V.bl (!decide (V.bl (!decide (n2 = n1)) = V.bl (decide (n1 = n2))))) H6
  have fin : (!decide (V.bl (!decide (n2 = n1)) = V.bl (decide (n1 = n2)))) = true := by
    by_cases e : n1 = n2
    · rw [decide_eq_true e, decide_eq_true e.symm] <;> rfl
    · rw [decide_eq_false e, decide_eq_false (p := n2 = n1) fun z => e z.symm] <;> rfl
  rw [fin]
  exact q _ z6
end
end C11

end PQH11
section PRH11
set_option maxHeartbeats 4000000
namespace C11
open PySem PySem.Spec L2 PyProof.Rows
/-! ### the made maps -/
abbrev s_made : Stmt := top 38
abbrev nMade : List Str := ["_law_pot_here", "_law_ends", "_law_low", "_law_high", "_law_far", "_law_below", "_law_above", "_law_outside", "_law_points_here", "_law_one"]
theorem sc_made : FnScope nMade ["_law_pot_here"] (defScope s_made) := ⟨rfl, rfl, rfl, by decide +kernel, rfl, by decide +kernel, by decide +kernel⟩
/-- a classmethod of a class -/
structure CMk (P : Program) (w : World) (K : PySem.W.Frag) (mg : Str → Option Value) (base : Heap) (C : Addr) (mc : Value) (x : Str) (p f : Addr) (d : FuncData) (ps : List Str) (sp : Sp) : Prop where
  r : ClX.CRead K C mc
  c : ClX.CMet K C mc x p f
  g : FnOk P w K mg base CX0 6 f d ps sp
  b : Binds K d ps []
/-! the pieces of the program -/
section
variable {K : PySem.W.Frag}
abbrev σM (p g : Addr) (a b : Option Int) (x4 x5 x6 x7 x8 : Option V) : L2.St := [some (.ref p), some (.ref g), some (oV a), some (oV b), x4, x5, x6, x7, x8, none]
theorem if_ends {p g : Addr} {a b : Option Int} {H : Hp} {u : TS} {D : Ends} (la : LimO a) (lb : LimO b) (hg : H g = some (.lst [oV a, oV b]))
    (k : ∀ a b H', LimO a → LimO b → (∀ i j, a = some i → b = some j → i ≤ j) → Same H H' → u D (σM p g a b none none none none none) H') :
    tSeq (tIfS (tAnd (tB (tNotN (tVar 2))) (tB (tNotN (tVar 3)))) (tAsg (tCB (rSortedI K) (tCons (tVar 1) tNil)) (gUnl K 2 (gCons (gName 2) (gCons (gName 3) gNil)))) tNext) u D (σM p g a b none none none none none) H := by
  refine ⟨_, rfl, _, rfl, ?_⟩
  cases a with
  | none =>
    refine (show (if (!decide (oV none = V.non)) = true then _ else _) from ?_)
    rw [show (!decide (oV none = V.non)) = false by rw [show decide (oV none = V.non) = true from decide_eq_true rfl]; rfl, if_neg (by decide)]
    exact k none b H la lb (fun i j z => nomatch z) (Same.refl _)
  | some i =>
    refine (show (if (!decide (oV (some i) = V.non)) = true then _ else _) from ?_)
    rw [show (!decide (oV (some i) = V.non)) = true by rw [show decide (oV (some i) = V.non) = false from decide_eq_false (fun z => nomatch z)]; rfl, if_pos rfl]
    refine ⟨_, rfl, _, rfl, ?_⟩
    cases b with
    | none =>
      refine (show (if (!decide (oV none = V.non)) = true then _ else _) from ?_)
      rw [show (!decide (oV none = V.non)) = false by rw [show decide (oV none = V.non) = true from decide_eq_true rfl]; rfl, if_neg (by decide)]
      exact k (some i) none H la lb (fun i j _ z => nomatch z) (Same.refl _)
    | some j =>
      refine (show (if (!decide (oV (some j) = V.non)) = true then _ else _) from ?_)
      rw [show (!decide (oV (some j) = V.non)) = true by rw [show decide (oV (some j) = V.non) = false from decide_eq_false (fun z => nomatch z)]; rfl, if_pos rfl]
      refine ⟨_, rfl, g, [i, j], rfl, SqL.of hg, fun ns q perm srt hq => ?_⟩
      have hl := perm.length_eq
      match ns, perm, srt, hl with
      | [c, d], perm, srt, _ =>
        refine ⟨q, _, rfl, SqL.of upd_same, rfl, _, _, rfl, _, _, rfl, rfl, ?_⟩
        have mem : ∀ e ∈ [c, d], e = i ∨ e = j := fun e he => by
          have := perm.mem_iff.mp he
          simp only [List.mem_cons, List.not_mem_nil, or_false] at this
          exact this
        have lim : ∀ e ∈ [c, d], LimO (some e) := fun e he => by
          rcases mem e he with z | z <;> subst z <;> assumption
        refine k (some c) (some d) _ (lim c (by simp)) (lim d (by simp)) (fun x y ex ey => ?_) (same_upd hq)
        cases ex
        cases ey
        exact (List.pairwise_cons.mp srt).1 d (by simp)
theorem low_cond {p g : Addr} {a b : Option Int} {x4 x5 x6 x7 x8 : Option V} {H : Hp} {u : TS} {D : Ends}
    (k : ∀ L H', Same H H' → LstAt H' L (lowP a a) → u D (σM p g a b x4 (some (.ref L)) x6 x7 x8) H') :
    tSeq (tAsg (tIf (tB (tNotN (tVar 2))) (tLst (tCons (tTup (tCons (tC V.non) (tCons (tOp (rI0 fun i j => V.int (i - j)) (tVar 2) (tC (V.int 1))) (tCons (tVar 2) tNil)))) tNil)) (tLst tNil)) (gName 5)) u D (σM p g a b x4 x5 x6 x7 x8) H := by
  refine ⟨_, rfl, _, rfl, ?_⟩
  cases a with
  | none =>
    refine (show (if (!decide (oV none = V.non)) = true then _ else _) from ?_)
    rw [show (!decide (oV none = V.non)) = false by rw [show decide (oV none = V.non) = true from decide_eq_true rfl]; rfl, if_neg (by decide)]
    exact ⟨Nat.zero_le _, fun L hL => k L _ (same_upd hL) ⟨[], upd_same, .nil⟩⟩
  | some i =>
    refine (show (if (!decide (oV (some i) = V.non)) = true then _ else _) from ?_)
    rw [show (!decide (oV (some i) = V.non)) = true by rw [show decide (oV (some i) = V.non) = false from decide_eq_false (fun z => nomatch z)]; rfl, if_pos rfl]
    refine ⟨_, rfl, i, 1, rfl, rfl, _, rfl, by show 3 ≤ sizeLine; decide, fun t ht => ⟨by show 1 ≤ sizeLine; decide, fun L hL => ?_⟩⟩
    obtain ⟨s1, l1⟩ := one_at (p := (none, some (i - 1), some i)) ht hL
    exact k L _ s1 l1
theorem high_cond {p g : Addr} {a b : Option Int} {x4 x5 x6 x7 x8 : Option V} {H : Hp} {u : TS} {D : Ends}
    (k : ∀ L H', Same H H' → LstAt H' L (highP b b) → u D (σM p g a b x4 x5 (some (.ref L)) x7 x8) H') :
    tSeq (tAsg (tIf (tB (tNotN (tVar 3))) (tLst (tCons (tTup (tCons (tOp (rI0 fun i j => V.int (i + j)) (tVar 3) (tC (V.int 1))) (tCons (tC V.non) (tCons (tVar 3) tNil)))) tNil)) (tLst tNil)) (gName 6)) u D (σM p g a b x4 x5 x6 x7 x8) H := by
  refine ⟨_, rfl, _, rfl, ?_⟩
  cases b with
  | none =>
    refine (show (if (!decide (oV none = V.non)) = true then _ else _) from ?_)
    rw [show (!decide (oV none = V.non)) = false by rw [show decide (oV none = V.non) = true from decide_eq_true rfl]; rfl, if_neg (by decide)]
    exact ⟨Nat.zero_le _, fun L hL => k L _ (same_upd hL) ⟨[], upd_same, .nil⟩⟩
  | some i =>
    refine (show (if (!decide (oV (some i) = V.non)) = true then _ else _) from ?_)
    rw [show (!decide (oV (some i) = V.non)) = true by rw [show decide (oV (some i) = V.non) = false from decide_eq_false (fun z => nomatch z)]; rfl, if_pos rfl]
    refine ⟨_, rfl, i, 1, rfl, rfl, _, rfl, by show 3 ≤ sizeLine; decide, fun t ht => ⟨by show 1 ≤ sizeLine; decide, fun L hL => ?_⟩⟩
    obtain ⟨s1, l1⟩ := one_at (p := (some (i + 1), none, some i)) ht hL
    exact k L _ s1 l1
def farP (v : Int) (l : List Pc) : List Pc := l.map fun p => (p.1, p.2.1, some v)
theorem comp_far {s0 s1 s2 s3 s5 s6 s7 s8 s9 : Option V} {iX : Nat} {L : Addr} {l : List Pc} {v : Int} {H : Hp} {Q : VK} (e : [s0, s1, s2, s3, some (.int v), s5, s6, s7, s8, s9][iX]? = some (some (.ref L))) (hl : LstAt H L l) (n1 : l.length ≤ 2)
    (q : ∀ D H', Same H H' → LstAt H' D (farP v l) → Q (.ref D) H') :
    tLc (iList K (tVar iX)) (gName 9) tYes (tTup (tCons (tOp (rIxT K) (tVar 9) (tC (V.int 0))) (tCons (tOp (rIxT K) (tVar 9) (tC (V.int 1))) (tCons (tVar 4) tNil)))) [9] [s0, s1, s2, s3, some (.int v), s5, s6, s7, s8, s9] H Q := by
  obtain ⟨ts, e1, e2⟩ := hl
  refine ⟨_, e, L, rfl, ⟨_, SqL.of e1⟩, fun D hD => ?_⟩
  refine lc_list (xs := ts.map V.ref) (fun i H' => Same H H' ∧ LstAt H' D (farP v (l.take i))) ⟨same_upd hD, [], upd_same, .nil⟩ (fun i H' _ ⟨z, _⟩ => SqL.of (z _ _ e1)) (fun i x H4 hx ⟨z4, l4⟩ => ?_) fun H4 ⟨z4, l4⟩ => ?_
  · rw [List.getElem?_map] at hx
    cases ev : ts[i]? with
    | none =>
      rw [ev] at hx
      cases hx
    | some t =>
      rw [ev] at hx
      cases (show V.ref t = x from Option.some.inj hx)
      have il : i < ts.length := (List.getElem?_eq_some_iff.mp ev).1
      have tl : ts.length = l.length := e2.length
      obtain ⟨p, ep, hp⟩ : ∃ p, l[i]? = some p ∧ PcAt H t p := by
        obtain ⟨p, ep⟩ : ∃ p, l[i]? = some p := ⟨_, List.getElem?_eq_getElem (by omega)⟩
        obtain ⟨t2, et, hp⟩ := paired_at e2 ep
        rw [ev] at et
        cases et
        exact ⟨p, ep, hp⟩
      have hp4 : PcAt H4 t p := z4 _ _ hp
      refine ⟨rfl, ?_⟩
      simp only [tYes, ↓reduceIte]
      refine ⟨_, rfl, t, _, 0, _, rfl, rfl, SqT.of hp4, rfl, _, rfl, t, _, 1, _, rfl, rfl, SqT.of hp4, rfl, _, rfl, by show 3 ≤ sizeLine; decide, fun t2 ht2 => ?_⟩
      obtain ⟨us, f1, f2⟩ := l4
      have s5 := same_upd (o := HO.tup [oV p.1, oV p.2.1, V.int v]) ht2
      have ul : us.length ≤ 2 := by
        have := f2.length
        unfold farP at this
        rw [List.length_map, List.length_take] at this
        omega
      have nt : t2 ≠ D := fun z => by
        rw [z, f1] at ht2
        cases ht2
      have keep : ∀ c xs, H4 c = some (HO.tup xs) → (upd (upd H4 t2 (.tup [oV p.1, oV p.2.1, V.int v])) D (.lst (us.map V.ref ++ [.ref t2]))) c = some (HO.tup xs) := fun c xs e => by
        have n : c ≠ D := fun z => by
          rw [z, f1] at e
          cases e
        rw [upd_ne n]
        exact s5 _ _ e
      refine ⟨_, s5 _ _ f1, by rw [List.length_map]; exact Nat.lt_of_le_of_lt ul (by decide), same_over (z4.trans s5) hD, us ++ [t2], by rw [upd_same, List.map_append]; rfl, ?_⟩
      rw [List.take_succ, ep, Option.toList_some]
      unfold farP
      rw [List.map_append]
      refine Paired.snoc (f2.mono fun c q e => keep _ _ e) ?_
      show (upd (upd H4 t2 (.tup [oV p.1, oV p.2.1, V.int v])) D (.lst (us.map V.ref ++ [.ref t2]))) t2 = _
      rw [upd_ne nt, upd_same]
      rfl
  · refine q D H4 z4 ?_
    rw [List.length_map, e2.length, List.take_length] at l4
    exact l4
theorem asg_i {te : TE} {g : TG} {u : TS} {D : Ends} {σ : L2.St} {H : Hp} (h : te σ H fun v H1 => g v σ H1 fun σ' H2 => u D σ' H2) : tSeq (tAsg te g) u D σ H := h
theorem op_i {r : R2} {ta tb : TE} {σ : L2.St} {H : Hp} {Q : VK} (h : ta σ H fun x H1 => tb σ H1 fun y H2 => r x y H2 Q) : tOp r ta tb σ H Q := h
abbrev farE (K : PySem.W.Frag) : TE := tTup (tCons (tOp (rIxT K) (tVar 9) (tC (V.int 0))) (tCons (tOp (rIxT K) (tVar 9) (tC (V.int 1))) (tCons (tVar 4) tNil)))
theorem out_one {p g : Addr} {a b : Option Int} {v : Int} {L1 : Addr} {l : List Pc} {x6 x7 x8 : Option V} {H : Hp} {u : TS} {D : Ends} (hl : LstAt H L1 l) (n1 : l.length ≤ 2)
    (k : ∀ L H', Same H H' → LstAt H' L (farP v l ++ [(a, b, none)]) → u D (σM p g a b (some (.int v)) (some (.ref L1)) x6 (some (.ref L)) x8) H') :
    tSeq (tAsg (tOp rCat (tLc (iList K (tVar 5)) (gName 9) tYes (farE K) [9]) (tLst (tCons (tTup (tCons (tVar 2) (tCons (tVar 3) (tCons (tC V.non) tNil)))) tNil))) (gName 7)) u D (σM p g a b (some (.int v)) (some (.ref L1)) x6 x7 x8) H := by
  refine asg_i (op_i (comp_far (iX := 5) rfl hl n1 fun D1 H1 s1 d1 => ?_))
  refine ⟨_, rfl, _, rfl, by show 3 ≤ sizeLine; decide, fun t ht => ⟨by show 1 ≤ sizeLine; decide, fun L hL => ?_⟩⟩
  obtain ⟨s2, l2⟩ := one_at (p := (a, b, none)) ht hL
  refine cat_lst (d1.same s2) l2 (by unfold farP; rw [List.length_map]; exact Nat.le_trans (Nat.add_le_add_right n1 _) (by show 3 ≤ 1000; decide)) fun r H3 s3 l3 => ?_
  exact k r H3 ((s1.trans s2).trans s3) l3
theorem out_two {p g : Addr} {a b : Option Int} {v : Int} {L2 L7 : Addr} {l m : List Pc} {x5 x8 : Option V} {H : Hp} {u : TS} {D : Ends} (hl : LstAt H L2 l) (hm : LstAt H L7 m) (n1 : l.length ≤ 2) (n2 : m.length ≤ 2)
    (k : ∀ L H', Same H H' → LstAt H' L (m ++ farP v l) → u D (σM p g a b (some (.int v)) x5 (some (.ref L2)) (some (.ref L)) x8) H') :
    tSeq (tAsg (tOp rCat (tVar 7) (tLc (iList K (tVar 6)) (gName 9) tYes (farE K) [9])) (gName 7)) u D (σM p g a b (some (.int v)) x5 (some (.ref L2)) (some (.ref L7)) x8) H := by
  refine asg_i (op_i ⟨_, rfl, ?_⟩)
  refine comp_far (iX := 6) rfl hl n1 fun D1 H1 s1 d1 => ?_
  refine cat_lst (hm.same s1) d1 (by unfold farP; rw [List.length_map]; exact Nat.le_trans (Nat.add_le_add n2 n1) (by show 4 ≤ 1000; decide)) fun r H3 s3 l3 => ?_
  exact k r H3 (s1.trans s3) l3
theorem far_arnd {a b : Option Int} {v : Int} : farP v (lowP a a) ++ [(a, b, none)] ++ farP v (highP b b) = arnd a b (some v) (some v) := by
  cases a <;> cases b <;> rfl
theorem arnd_lim {a b x y : Option Int} (hx : LimO x) (hy : LimO y) : ∀ p ∈ arnd a b x y, LimO p.2.2 := fun p hp => by
  unfold arnd at hp
  simp only [List.mem_append, List.mem_cons, List.not_mem_nil, or_false] at hp
  obtain (hp | rfl) | hp := hp
  · cases a with
    | none => cases hp
    | some i =>
      cases List.mem_singleton.mp hp
      exact hx
  · exact fun i z => nomatch z
  · cases b with
    | none => cases hp
    | some i =>
      cases List.mem_singleton.mp hp
      exact hy
theorem asked_lim {a b : Option Int} {v : Int} (la : LimO a) (lb : LimO b) (lv : LimO (some v)) : ∀ p ∈ lowP a a ++ highP b b ++ [(none, none, some v)], ∀ k ∈ intsP p, k.natAbs ≤ 10 ^ 30 + 1 := fun p hp k hk => by
  simp only [List.mem_append, List.mem_cons, List.not_mem_nil, or_false] at hp
  obtain (hp | hp) | rfl := hp
  · cases a with
    | none => cases hp
    | some i =>
      cases List.mem_singleton.mp hp
      have := la i rfl
      simp only [intsP, oL, List.nil_append, List.cons_append, List.mem_cons, List.not_mem_nil, or_false] at hk
      generalize (10 : Nat) ^ 30 = N at this ⊢
      omega
  · cases b with
    | none => cases hp
    | some i =>
      cases List.mem_singleton.mp hp
      have := lb i rfl
      simp only [intsP, oL, List.nil_append, List.append_nil, List.cons_append, List.mem_cons, List.not_mem_nil, or_false] at hk
      generalize (10 : Nat) ^ 30 = N at this ⊢
      omega
  · have := lv v rfl
    simp only [intsP, oL, List.nil_append, List.append_nil, List.mem_cons, List.not_mem_nil, or_false] at hk
    generalize (10 : Nat) ^ 30 = N at this ⊢
    omega
theorem eval_small2 {l : List Pc} {x : Int} (hc : chn none l) (h : ∀ p ∈ l, LimO p.2.2) (hx : x.natAbs < 10 ^ 40) : (evalP l x).natAbs < 10 ^ 40 := by
  obtain ⟨p, e1, _, e2⟩ := eval_idx x hc
  rw [e2]
  cases hw : p.2.2 with
  | none => exact hx
  | some v =>
    show v.natAbs < 10 ^ 40
    have := h p (List.mem_of_getElem? e1) v hw
    exact Nat.lt_of_le_of_lt this (by decide)
theorem pts_small {l : List Pc} (h : ∀ p ∈ l, ∀ v ∈ intsP p, v.natAbs ≤ 10 ^ 30 + 1) : ∀ y ∈ ptsOf l, y.natAbs < 10 ^ 40 := fun y hy => by
  have c : (10 : Nat) ^ 30 + 2 < 10 ^ 40 := by decide
  obtain hy | hy := List.mem_append.mp hy
  · simp only [basePts, List.mem_cons, List.not_mem_nil, or_false] at hy
    obtain rfl | rfl | rfl | rfl | rfl := hy <;> decide
  · obtain ⟨p, hp, hy⟩ := List.mem_flatMap.mp hy
    obtain ⟨v, hv, hy⟩ := List.mem_flatMap.mp hy
    have b := h p hp v hv
    simp only [near, List.mem_cons, List.not_mem_nil, or_false] at hy
    generalize (10 : Nat) ^ 40 = M at c ⊢
    generalize (10 : Nat) ^ 30 = N at b c
    omega
end
def spMade : Sp := fun vs H Q _ => ∃ p : Addr, vs = [.ref p] ∧ PotAt H p ∧ ∀ H', Bt p H H' → PotAt H' p → Q (.bl true) H'
section
variable {P : Program} {w : World} {K : PySem.W.Frag} {mg : Str → Option Value} {base : Heap} {f fP fL fQ fA C : Addr} {fd dP dL dQ dA : FuncData} {mc : Value} {p1 p2 p3 p4 m1 m2 m3 m4 : Addr} {e1 e2 e3 e4 : FuncData}
set_option maxHeartbeats 16000000 in
theorem ok_made (F : FD K "_law_made_right" s_made f fd) (TS : TS11 mg) (mC : mg "NumberMap" = some (.ref C)) (PK : Kn P w K mg base 2 "_law_pick" fP dP ["_law_pot_here", "_law_some"] (spPick K)) (LM : Kn P w K mg base 3 "_law_limit" fL dL ["_law_pot_here"] spLimit)
    (PO : Kn P w K mg base 1 "_law_points" fQ dQ ["_law_rows_here"] spPoints) (AG : KnG P w K mg base 4 "_law_agrees" fA dA ["_law_mapping", "_law_rows_here", "_law_points_here"] (spAgrees C))
    (CS : CMk P w K mg base C mc "same" p1 m1 e1 ["cls"] (spSame C)) (CC : CMk P w K mg base C mc "constant_map" p2 m2 e2 ["cls", "value"] (spConst C)) (CU : CMk P w K mg base C mc "cut" p3 m3 e3 ["cls", "first", "last"] (spCut C)) (CR : CMk P w K mg base C mc "reset" p4 m4 e4 ["cls", "first", "last", "value"] (spReset C)) :
    FnG P w K mg base CX0 7 f fd ["_law_pot_here"] spMade := by
  refine F.okG sc_made (fun vs H Q E h => ?_) (fun cdv A outer s H vs Q E hg hr h => ?_)
  · obtain ⟨p, rfl, _⟩ := h
    rfl
  obtain ⟨p, rfl, hP, q⟩ := h
  have hG := deeper_guards (env := PyProof.Rows.envOfC "_law_made_right" (defScope s_made) s.heap.objs.size f cdv) hg
  have hu := hr.units
  have gS := CS.g.raw CS.b .nil
  have gC := CC.g.raw CC.b .nil
  have gU := CU.g.raw CU.b .nil
  have gR := CR.g.raw CR.b .nil
  refine ⟨_, PSs.nox (pss_cons (ps_set (i := 1) sc_made.nd rfl (Or.inl rfl) (pe_lst (pa_cons (pe_call PK.f (hr.mono (by decide)) rfl PK.m PK.k PK.b .nil pass0 (pa_cons (pv 0) (pa_cons (pe_lst (pa_cons pe_non (pa_cons (pe_call LM.f (hr.mono (by decide)) rfl LM.m LM.k LM.b .nil pass0 (pa_cons (pv 0) pa_nil)) pa_nil))) pa_nil))) (pa_cons (pe_call PK.f (hr.mono (by decide)) rfl PK.m PK.k PK.b .nil pass0 (pa_cons (pv 0) (pa_cons (pe_lst (pa_cons pe_non (pa_cons (pe_call LM.f (hr.mono (by decide)) rfl LM.m LM.k LM.b .nil pass0 (pa_cons (pv 0) pa_nil)) pa_nil))) pa_nil))) pa_nil))))
    (pss_cons (ps_asg (pv 1) (pg_unl (by rfl) (pgs_cons (pg_name (i := 2) sc_made.nd rfl (Or.inl rfl)) (pgs_cons (pg_name (i := 3) sc_made.nd rfl (Or.inl rfl)) pgs_nil))))
    (pss_cons (ps_if (PW.pt (pw_and (pt_cmp (pc_notN (pv 2))) (pw_and1 (pt_cmp (pc_notN (pv 3)))))) (pss_one (ps_asg (pe_callB cr_sortedI (by rfl) TS.sorted boot_sorted (pa_cons (pv 1) pa_nil)) (pg_unl (by rfl) (pgs_cons (pg_name (i := 2) sc_made.nd rfl (Or.inl rfl)) (pgs_cons (pg_name (i := 3) sc_made.nd rfl (Or.inl rfl)) pgs_nil))))) pss_nil)
    (pss_cons (ps_set (i := 4) sc_made.nd rfl (Or.inr rfl) (pe_call LM.f (hr.mono (by decide)) rfl LM.m LM.k LM.b .nil pass0 (pa_cons (pv 0) pa_nil)))
    (pss_cons (ps_set (i := 5) sc_made.nd rfl (Or.inl rfl) (pe_ifExp (pt_cmp (pc_notN (pv 2))) (pe_lst (pa_cons (pe_tup (pa_cons pe_non (pa_cons (pe_op op_sub (pv 2) pe_int) (pa_cons (pv 2) pa_nil)))) pa_nil)) (pe_lst pa_nil)))
    (pss_cons (ps_set (i := 6) sc_made.nd rfl (Or.inl rfl) (pe_ifExp (pt_cmp (pc_notN (pv 3))) (pe_lst (pa_cons (pe_tup (pa_cons (pe_op op_add (pv 3) pe_int) (pa_cons pe_non (pa_cons (pv 3) pa_nil)))) pa_nil)) (pe_lst pa_nil)))
    (pss_cons (ps_set (i := 7) sc_made.nd rfl (Or.inl rfl) (pe_op op_cat (pe_lc (own := [("_law_one", 9)]) (g := gName 9) (tt := tYes) (te := tTup (tCons (tOp (rIxT K) (tVar 9) (tC (.int 0))) (tCons (tOp (rIxT K) (tVar 9) (tC (.int 1))) (tCons (tVar 4) tNil)))) rfl sc_made.nd (pi_list (pv 5)) (blkOk_by (N := nMade) (sc := defScope s_made) (by decide +kernel)) (fun _ _ _ _ _ => pg_name (i := 9) sc_made.nd rfl (Or.inl rfl)) (fun _ _ _ _ _ => pts_nil)
        (fun _ _ _ _ _ => by exact (pe_tup (pa_cons (pe_ix ix_tup (pv 9) pe_int (fun _ _ => rfl)) (pa_cons (pe_ix ix_tup (pv 9) pe_int (fun _ _ => rfl)) (pa_cons (pv 4) pa_nil)))))) (pe_lst (pa_cons (pe_tup (pa_cons (pv 2) (pa_cons (pv 3) (pa_cons pe_non pa_nil)))) pa_nil))))
    (pss_cons (ps_set (i := 7) sc_made.nd rfl (Or.inl rfl) (pe_op op_cat (pv 7) (pe_lc (own := [("_law_one", 9)]) (g := gName 9) (tt := tYes) (te := tTup (tCons (tOp (rIxT K) (tVar 9) (tC (.int 0))) (tCons (tOp (rIxT K) (tVar 9) (tC (.int 1))) (tCons (tVar 4) tNil)))) rfl sc_made.nd (pi_list (pv 6)) (blkOk_by (N := nMade) (sc := defScope s_made) (by decide +kernel)) (fun _ _ _ _ _ => pg_name (i := 9) sc_made.nd rfl (Or.inl rfl)) (fun _ _ _ _ _ => pts_nil)
        (fun _ _ _ _ _ => by exact (pe_tup (pa_cons (pe_ix ix_tup (pv 9) pe_int (fun _ _ => rfl)) (pa_cons (pe_ix ix_tup (pv 9) pe_int (fun _ _ => rfl)) (pa_cons (pv 4) pa_nil))))))))
    (pss_cons (ps_set (i := 8) sc_made.nd rfl (Or.inl rfl) (pe_call PO.f (hr.mono (by decide)) rfl PO.m PO.k PO.b .nil pass0 (pa_cons (pe_op op_cat (pe_op op_cat (pv 5) (pv 6)) (pe_lst (pa_cons (pe_tup (pa_cons pe_non (pa_cons pe_non (pa_cons (pv 4) pa_nil)))) pa_nil))) pa_nil)))
    (pss_cons (ps_if (pt_not (pt_val (pe_callG AG.f (by exact hG) (hr.mono (by decide)) rfl AG.m AG.k AG.b .nil pass0 (pa_cons (ClX.pe_cmeth (pe_glob (v := .ref C) rfl mC rfl) CU.r CU.c gU hr pass0 (pa_cons (pv 2) (pa_cons (pv 3) pa_nil))) (pa_cons (pe_op op_cat (pe_op op_cat (pv 5) (pe_lst (pa_cons (pe_tup (pa_cons (pv 2) (pa_cons (pv 3) (pa_cons pe_non pa_nil)))) pa_nil))) (pv 6)) (pa_cons (pv 8) pa_nil)))))) pss_never pss_nil)
    (pss_cons (ps_if (pt_not (pt_val (pe_callG AG.f (by exact hG) (hr.mono (by decide)) rfl AG.m AG.k AG.b .nil pass0 (pa_cons (ClX.pe_cmeth (pe_glob (v := .ref C) rfl mC rfl) CR.r CR.c gR hr pass0 (pa_cons (pv 2) (pa_cons (pv 3) (pa_cons (pv 4) pa_nil)))) (pa_cons (pv 7) (pa_cons (pv 8) pa_nil)))))) pss_never pss_nil)
    (pss_cons (ps_if (pt_not (pt_val (pe_callG AG.f (by exact hG) (hr.mono (by decide)) rfl AG.m AG.k AG.b .nil pass0 (pa_cons (ClX.pe_cmeth (pe_glob (v := .ref C) rfl mC rfl) CC.r CC.c gC hr pass0 (pa_cons (pv 4) pa_nil)) (pa_cons (pe_lst (pa_cons (pe_tup (pa_cons pe_non (pa_cons pe_non (pa_cons (pv 4) pa_nil)))) pa_nil)) (pa_cons (pv 8) pa_nil)))))) pss_never pss_nil)
    (pss_one (ps_ret (pe_callG AG.f (by exact hG) (hr.mono (by decide)) rfl AG.m AG.k AG.b .nil pass0 (pa_cons (pe_cmeth0 (pe_glob (v := .ref C) rfl mC rfl) CS.r CS.c gS hr pass0) (pa_cons (pe_lst (pa_cons (pe_tup (pa_cons pe_non (pa_cons pe_non (pa_cons pe_non pa_nil)))) pa_nil)) (pa_cons (pv 8) pa_nil)))))))))))))))))), ?_⟩
  refine ok_pickN (σ := L2.start nMade [.ref p]) rfl hP fun a0 H1 la0 b1 hP1 => ?_
  refine ok_pickN (σ := L2.start nMade [.ref p]) rfl hP1 fun b0 H2 lb0 b2 hP2 => ?_
  refine ⟨by show 2 ≤ sizeLine; decide, fun g hg => ?_⟩
  refine ⟨_, rfl, g, _, rfl, SqL.of upd_same, rfl, _, _, rfl, _, _, rfl, rfl, ?_⟩
  have s3 := same_upd (o := HO.lst [oV a0, oV b0]) hg
  refine if_ends (p := p) (g := g) la0 lb0 upd_same fun a b H4 la lb ord s4 => ?_
  have z4 := s3.trans s4
  have c4 : Bt p H H4 := (b1.trans b2).trans (Same.bt z4)
  have hP4 := hP2.bt z4
  clear s3 s4 z4 hg la0 lb0 b1 b2 hP1 hP2
  refine ⟨_, rfl, p, rfl, hP4, fun v H5 lv b5 hP5 => ?_⟩
  have c5 := c4.trans b5
  refine low_cond fun L1 H6 s6 l6 => ?_
  refine high_cond fun L2 H7 s7 l7 => ?_
  have l6 := l6.same s7
  have q1 : (lowP a a).length ≤ 1 := by cases a <;> simp [lowP]
  have q2 : (highP b b).length ≤ 1 := by cases b <;> simp [highP]
  refine out_one (K := K) l6 (by omega) fun D1 H8 s8 l8 => ?_
  refine out_two (K := K) (l7.same s8) l8 (by omega) (by rw [List.length_append]; unfold farP; rw [List.length_map]; show _ + 1 ≤ 2; omega) fun D2 H9 s9 l9 => ?_
  rw [far_arnd] at l9
  have l6 := l6.same (s8.trans s9)
  have l7 := l7.same (s8.trans s9)
  have z9 := ((s6.trans s7).trans s8).trans s9
  have hP9 := hP5.bt z9
  have c9 := c5.trans (Same.bt z9)
  clear s6 s7 s8 s9 l8 c4 c5 b5 hP4 hP5 z9
  -- the asked numbers
  refine asg_i ?_
  refine ⟨_, rfl, _, rfl, cat_lst l6 l7 (by omega) fun B1 H10 s10 l10 => ?_⟩
  refine ⟨_, rfl, by show 3 ≤ sizeLine; decide, fun t ht => ⟨by show 1 ≤ sizeLine; decide, fun L hL => ?_⟩⟩
  obtain ⟨s11, l11⟩ := one_at (p := (none, none, some v)) ht hL
  refine cat_lst (l10.same s11) l11 (by rw [List.length_append]; show _ + 1 ≤ 1000; omega) fun B2 H12 s12 l12 => ?_
  have len12 : (lowP a a ++ highP b b ++ [((none : Option Int), (none : Option Int), some v)]).length ≤ 3 := by
    rw [List.length_append, List.length_append]
    show _ + 1 ≤ 3
    omega
  have pl := ptsOf_len (lowP a a ++ highP b b ++ [(none, none, some v)])
  refine ⟨B2, _, rfl, l12, by omega, ⟨_, by omega, fun k hk => hk⟩, fun S ys H13 hy hyl hS s13 => ?_⟩
  have small : ∀ y ∈ ys, y.natAbs < 10 ^ 40 := fun y hy2 => pts_small (asked_lim la lb (limO_of lv)) y ((hy y).mp hy2)
  have z13 := ((s10.trans s11).trans s12).trans s13
  have l6 := l6.same z13
  have l7 := l7.same z13
  have l9 := l9.same z13
  have hP13 := hP9.bt z13
  have c13 := c9.trans (Same.bt z13)
  clear s10 s11 s12 s13 l10 l11 l12 ht hL hP9 c9 z13
  -- cut
  refine ⟨rfl, _, rfl, _, rfl, a, b, rfl, ord, fun m1 n1 H14 nm1 hn1 hle1 s14 => ?_⟩
  refine ⟨_, rfl, _, rfl, _, rfl, by show 3 ≤ sizeLine; decide, fun t ht => ⟨by show 1 ≤ sizeLine; decide, fun L hL => ?_⟩⟩
  obtain ⟨s15, l15⟩ := one_at (p := (a, b, none)) ht hL
  have z15 := s14.trans s15
  refine cat_lst (l6.same z15) l15 (by show _ + 1 ≤ 1000; omega) fun B3 H16 s16 l16 => ?_
  have z16 := z15.trans s16
  refine ⟨_, rfl, cat_lst l16 (l7.same z16) (by rw [List.length_append]; show _ + 1 + _ ≤ 1000; omega) fun B4 H17 s17 l17 => ?_⟩
  have z17 := z16.trans s17
  refine ⟨_, rfl, m1, B4, S, n1, arnd a b a b, ys, rfl, nm1.same ((s15.trans s16).trans s17), (nrm_chn hn1).1, by have := arnd_len a b a b; omega, l17, arnd_chn ord, fun x => (nrm_chn hn1).2 x (none_ge x), z17 _ _ hS, fun y hy2 => eval_small2 (arnd_chn ord) (arnd_lim la lb) (small y hy2), fun H18 s18 => ⟨true, rfl, ?_⟩⟩
  refine (show (if (!true) = true then _ else _) from ?_)
  rw [if_neg (by decide)]
  have z18 := z17.trans s18
  have l9 := l9.same z18
  have hP18 := hP13.bt z18
  have c18 := c13.trans (Same.bt z18)
  have hS := z18 _ _ hS
  clear s14 s15 s16 s17 s18 l15 l16 l17 l6 l7 z15 z16 z17 z18 nm1 hn1 hle1 ht hL hP13 c13
  -- reset
  refine ⟨rfl, _, rfl, _, rfl, _, rfl, a, b, v, rfl, ord, fun m2 n2 H19 nm2 hn2 hle2 s19 => ?_⟩
  refine ⟨_, rfl, _, rfl, m2, D2, S, n2, arnd a b (some v) (some v), ys, rfl, nm2, (nrm_chn hn2).1, by have := arnd_len a b (some v) (some v); omega, l9.same s19, arnd_chn ord, fun x => (nrm_chn hn2).2 x (none_ge x), s19 _ _ hS, fun y hy2 => eval_small2 (arnd_chn ord) (arnd_lim (limO_of lv) (limO_of lv)) (small y hy2), fun H20 s20 => ⟨true, rfl, ?_⟩⟩
  refine (show (if (!true) = true then _ else _) from ?_)
  rw [if_neg (by decide)]
  have z20 := s19.trans s20
  have hP20 := hP18.bt z20
  have c20 := c18.trans (Same.bt z20)
  have hS := z20 _ _ hS
  clear s19 s20 z20 nm2 hn2 hle2 hP18 c18 l9
  -- constant
  refine ⟨rfl, _, rfl, v, rfl, fun m3 n3 H21 nm3 hn3 hle3 s21 => ?_⟩
  refine ⟨_, rfl, by show 3 ≤ sizeLine; decide, fun t ht => ⟨by show 1 ≤ sizeLine; decide, fun L hL => ?_⟩⟩
  obtain ⟨s22, l22⟩ := one_at (p := (none, none, some v)) ht hL
  have z22 := s21.trans s22
  have ch1 : ∀ o : Option Int, chn none [((none : Option Int), (none : Option Int), o)] := fun o => ⟨rfl, .inl ⟨rfl, rfl⟩⟩
  refine ⟨_, rfl, m3, L, S, n3, [(none, none, some v)], ys, rfl, nm3.same s22, (nrm_chn hn3).1, Nat.le_trans hle3 (by show 1 ≤ 1000; decide), l22, ch1 _, fun x => (nrm_chn hn3).2 x (none_ge x), z22 _ _ hS, fun y hy2 => eval_small2 (ch1 _) (fun p hp => by cases List.mem_singleton.mp hp; exact limO_of lv) (small y hy2), fun H23 s23 => ⟨true, rfl, ?_⟩⟩
  refine (show (if (!true) = true then _ else _) from ?_)
  rw [if_neg (by decide)]
  have z23 := z22.trans s23
  have hP23 := hP20.bt z23
  have c23 := c20.trans (Same.bt z23)
  have hS := z23 _ _ hS
  clear s21 s22 s23 z22 z23 nm3 hn3 hle3 hP20 c20 l22 ht hL
  -- same
  refine ⟨rfl, rfl, fun m4 n4 H24 nm4 hn4 hle4 s24 => ?_⟩
  refine ⟨by show 3 ≤ sizeLine; decide, fun t ht => ⟨by show 1 ≤ sizeLine; decide, fun L hL => ?_⟩⟩
  obtain ⟨s25, l25⟩ := one_at (p := (none, none, none)) ht hL
  have z25 := s24.trans s25
  refine ⟨_, rfl, m4, L, S, n4, [(none, none, none)], ys, rfl, nm4.same s25, (nrm_chn hn4).1, Nat.le_trans hle4 (by show 1 ≤ 1000; decide), l25, ch1 _, fun x => (nrm_chn hn4).2 x (none_ge x), z25 _ _ hS, fun y hy2 => eval_small2 (ch1 _) (fun p hp => by cases List.mem_singleton.mp hp; exact fun i z => nomatch z) (small y hy2), fun H26 s26 => ?_⟩
  have z26 := z25.trans s26
  exact q _ (c23.trans (Same.bt z26)) (hP23.bt z26)
end
end C11

end PRH11
section PSI11
set_option maxHeartbeats 4000000
namespace C11
open PySem PySem.Spec L2 PyProof.Rows
/-! ### what is no number is refused -/
section
variable {P : Program} {w : World} {K : PySem.W.Frag} {mg : Str → Option Value} {base : Heap} {f C : Addr} {fd : FuncData}
theorem ok_nreprW (F : FM K "__repr__" "NumberMap.__repr__" s_nrepr f fd) (N : NMc K C) (tl : mg "list" = none) (hK : noMods K = true) : FnW P w K mg base 1 f fd ["self"] (spReprN C) := by
  refine F.okW sc_nrepr (fun vs H Q E h => ?_) (fun cdv A outer s H vs Q E p hg hr h => ?_)
  · obtain ⟨m, n, rfl, _⟩ := h
    rfl
  obtain ⟨m, n, rfl, ⟨dx, u, hm, ts, hu, pr⟩, sm, hl, q⟩ := h
  have hG := deeper_guards (env := PyProof.Rows.envOfC "NumberMap.__repr__" (defScope s_nrepr) s.heap.objs.size f cdv) hg
  have hu' : (A.deeper (PyProof.Rows.envOfC "NumberMap.__repr__" (defScope s_nrepr) s.heap.objs.size f cdv)).units + 64 < cLine := by
    have := hr.un
    omega
  refine ⟨_, PSs.nox (pss_one (ps_ret (pe_joined (.cons pe_str (.cons (pe_fmtD (by exact hG) (by exact hu') (by exact hK) (pe_callTy call_list_of (by rfl) tl (by decide +kernel) (pa_cons (pe_fld (pv 0) rfl) pa_nil))) (.cons pe_str .nil)))))), ?_⟩
  obtain ⟨a1, a2, a3⟩ := lst_shown sm hl
  have e1 : (Str.empty ++ "NumberMap(" : Str).length = 10 := by decide +kernel
  have e2 : (")" : Str).length = 1 := by decide +kernel
  have big : 20000 ≤ sizeLine := by decide
  refine ⟨_, rfl, by rw [e1]; exact Nat.le_trans (by decide) big, _, rfl, m, C, dx, _, .ref u, rfl, hm, N.cl, N.nP, rfl, u, _, rfl, .inr (SqT.of hu), fun g hgg => ?_⟩
  have s1 := same_upd (o := HO.lst (ts.map V.ref)) hgg
  have lg : LstAt (upd H g (.lst (ts.map V.ref))) g n := ⟨ts, upd_same, pr.mono fun t p e => s1 _ _ e⟩
  refine ⟨_, rp_lst lg, a1, Nat.le_trans a2 (by decide), a3, _, rfl, ?_, _, rfl, ?_, q _ s1⟩
  · rw [strLen_append, e1]
    omega
  · rw [strLen_append, strLen_append, e1, e2]
    omega
end
theorem eq_selfS {H : Hp} {Q : VK} (x : Str) (q : Q (.bl true) H) : rEq (.str x) (.str x) H Q := ⟨rfl, by rw [decide_eq_true rfl]; exact q⟩
abbrev s_refused : Stmt := top 39
def RpOk (H : Hp) (x : V) : Prop := ∃ d : PyData, Rp H x d ∧ d.showable = true ∧ d.shown.length ≤ sizeLine ∧ d.depth ≤ 60
theorem RpOk.same {H H' : Hp} {x : V} (s : Same H H') (h : RpOk H x) : RpOk H' x := by
  obtain ⟨d, r, q⟩ := h
  exact ⟨d, r.same s, q⟩
def OddOk (K : PySem.W.Frag) (H : Hp) (m : Addr) (x : V) : Prop := ∃ (t : Value) (b1 b2 : Bool), TyX K H x t ∧ PySem.W.kitOne K t (.type "int") = some b1 ∧ PySem.W.kitOne K t (.type "bool") = some b2 ∧ (b1 && !b2) = false ∧ (RpOk H x ∨ x = .ref m)
def spRefused (K : PySem.W.Frag) (C : Addr) : Sp := fun vs H Q _ => ∃ (m : Addr) (n : List Pc) (x : V), vs = [.ref m, x] ∧ NMap C H m n ∧ SmP n ∧ n.length ≤ 100 ∧ OddOk K H m x ∧ ∀ H', Same H H' → Q (.bl true) H'
abbrev nRefused : List Str := ["_law_mapping", "_law_thing", "e"]
theorem sc_refused : FnScope nRefused ["_law_mapping", "_law_thing"] (defScope s_refused) := ⟨rfl, rfl, rfl, by decide +kernel, rfl, by decide +kernel, by decide +kernel⟩
section
variable {P : Program} {w : World} {K : PySem.W.Frag} {mg : Str → Option Value} {base : Heap} {f C CI fS fA fR : Addr} {fd dS dA dR : FuncData}
theorem ok_refused (F : FD K "_law_refused" s_refused f fd) (N : NMc K C) (tr : mg "repr" = none) (hK : noMods K = true) (GX : FnOk P w K mg base (L2.CX P w) 3 fA dA ["self", "value"] (spAtX K C CI)) (bA : Binds K dA ["self", "value"] []) (mA : Meth K C "at" fA) (XI : XcO P w K mg base CI fS dS "InvalidValue" "value")
    (RW : FnW P w K mg base 1 fR dR ["self"] (spReprN C)) (hexm : PySem.W.exmOne K (.ref CI) (.ref CI) = some true) (RF : ReF P w K mg base C fR dR) : FnG P w K mg base CX0 4 f fd ["_law_mapping", "_law_thing"] (spRefused K C) := by
  refine F.okG sc_refused (fun vs H Q E h => ?_) (fun cdv A outer s H vs Q E hg hr h => ?_)
  · obtain ⟨m, n, x, rfl, _⟩ := h
    rfl
  obtain ⟨m, n, x, rfl, tm, sm, nl, ⟨ty, b1, b2, hty, k1, k2, bb, hx⟩, q⟩ := h
  have hG := deeper_guards (env := PyProof.Rows.envOfC "_law_refused" (defScope s_refused) s.heap.objs.size f cdv) hg
  have hu := hr.units
  have rH := hr.mono (show 2 ≤ 3 by decide)
  rcases hx with hx | rfl
  · refine ⟨_, pss_cons (ps_try_as (i := 2) (n := "e") (c := .ref CI) (tb := fun W => tSeq (tDrop (tMethW C "at" (spAtX K C CI) (WE W) (tVar 0) (tCons (tVar 1) tNil))) tNext) (ts := fun a cls d => tRet (tOp rEq (tCB rRepr (tCons (tXf a cls d CI "value" (tVar 2)) tNil)) (tCB rRepr (tCons (tVar 1) tNil)))) rfl rfl sc_refused.nd rfl (by rfl) ⟨by rfl, by decide, Or.inl XI.m⟩ takes_no
        (fun W pn xe tk ho => pss_one (ps_expr (pe_methW (pv 0) N.cl mA GX hr bA (fun σ => passAt tk σ) (pa_cons (pv 1) pa_nil))))
        (fun a oe cls d pn hz hf => pss_one (ps_ret (pe_cmpR op_eq (pe_callB (call_reprD (by exact hG) (by exact hu) (by exact hK)) (by rfl) tr boot_repr (pa_cons (pe_xf XI.x.xf XI.no hz hf (pv 2)) pa_nil)) (pe_callB (call_reprD (by exact hG) (by exact hu) (by exact hK)) (by rfl) tr boot_repr (pa_cons (pv 1) pa_nil)) (nomark _)))))
      (pss_one (ps_ret pe_bl)), ?_⟩
    obtain ⟨dx, u, hm, hd⟩ := tm
    refine ⟨_, rfl, m, dx, _, rfl, hm, rfl, _, rfl, m, n, x, ty, b1, b2, rfl, ⟨dx, u, hm, hd⟩, hty, k1, k2, bb, fun d2 H2 s2 x2 => ?_⟩
    refine ⟨true, hexm, fun _ a2 n2 => ?_, fun z => nomatch z⟩
    obtain ⟨dt, h1, h2, h3, h4⟩ := hx.same s2
    exact ⟨_, rfl, rfl, rfl, d2, _, x, rfl, x2, rfl, x, dt, rfl, h1, h2, h3, h4, _, rfl, x, dt, rfl, h1, h2, h3, h4, eq_selfS _ (q _ s2)⟩
  · refine ⟨_, pss_cons (ps_try_as (i := 2) (n := "e") (c := .ref CI) (tb := fun W => tSeq (tDrop (tMethW C "at" (spAtX K C CI) (WE W) (tVar 0) (tCons (tVar 1) tNil))) tNext) (ts := fun a cls d => tRet (tOp rEq (tCB (rReprO C (spReprN C)) (tCons (tXf a cls d CI "value" (tVar 2)) tNil)) (tCB (rReprO C (spReprN C)) (tCons (tVar 1) tNil)))) rfl rfl sc_refused.nd rfl (by rfl) ⟨by rfl, by decide, Or.inl XI.m⟩ takes_no
        (fun W pn xe tk ho => pss_one (ps_expr (pe_methW (pv 0) N.cl mA GX hr bA (fun σ => passAt tk σ) (pa_cons (pv 1) pa_nil))))
        (fun a oe cls d pn hz hf => pss_one (ps_ret (pe_cmpR op_eq (pe_callB (call_reprW RF.s RF.fn RW ⟨_, List.mem_cons_self⟩ (by exact hG) RF.b (by exact ⟨rH.dp, rH.un⟩)) (by rfl) tr boot_repr (pa_cons (pe_xf XI.x.xf XI.no hz hf (pv 2)) pa_nil)) (pe_callB (call_reprW RF.s RF.fn RW ⟨_, List.mem_cons_self⟩ (by exact hG) RF.b (by exact ⟨rH.dp, rH.un⟩)) (by rfl) tr boot_repr (pa_cons (pv 1) pa_nil)) (nomark _)))))
      (pss_one (ps_ret pe_bl)), ?_⟩
    obtain ⟨dx, u, hm, hd⟩ := tm
    refine ⟨_, rfl, m, dx, _, rfl, hm, rfl, _, rfl, m, n, .ref m, ty, b1, b2, rfl, ⟨dx, u, hm, hd⟩, hty, k1, k2, bb, fun d2 H2 s2 x2 => ?_⟩
    refine ⟨true, hexm, fun _ a2 n2 => ?_, fun z => nomatch z⟩
    have tm2 : NMap C H2 m n := ⟨dx, u, s2 _ _ hm, hd.same s2⟩
    refine ⟨_, rfl, rfl, rfl, d2, _, .ref m, rfl, x2, rfl, m, dx, _, rfl, s2 _ _ hm, m, n, rfl, tm2, sm, nl, fun H3 s3 => ⟨_, rfl, _, rfl, m, dx, _, rfl, s3 _ _ (s2 _ _ hm), m, n, rfl, tm2.same s3, sm, nl, fun H4 s4 => ⟨_, rfl, eq_selfS _ (q _ ((s2.trans s3).trans s4))⟩⟩⟩
end
end C11

end PSI11
section PTJ11
set_option maxHeartbeats 4000000
namespace L2
open PySem
/-- a dict comprehension over a walk: Pv by the turn and the heap (the new dict at D within) -/
theorem dc_it {J : It} {n : Nat} {G : Hp → Prop} {Y : Nat → Hp → V → Hp → Prop} (w : Walk J n G Y) {g : TG} {tt : TT} {tk tv : TE} {vs : List Nat} {σ : L2.St} {H1 : Hp} {D : Addr} {Qd : Hp → Prop} (Pv : Nat → Hp → Prop) (h0 : Pv 0 (upd H1 D (.dK []))) (hG : ∀ i H, i ≤ n → Pv i H → G H)
    (hs : ∀ i x H H', i < n → Pv i H → Y i H x H' → g x (wipe σ vs) H' fun σ2 H2 => wipe σ2 vs = wipe σ vs ∧ tt σ2 H2 fun b H3 =>
      if b = true then tk σ2 H3 fun y H4 => tv σ2 H4 fun z H5 => ∃ kvs k, y = kV k ∧ H5 D = some (.dK kvs) ∧ kvs.length < sizeLine ∧ Pv (i + 1) (upd H5 D (.dK (putK kvs k z))) else Pv (i + 1) H3) (hd : ∀ H, Pv n H → Qd H) :
    ∃ W : Nat → Nat → Hp → Prop, (∃ m, W 0 m (upd H1 D (.dK []))) ∧ ∀ i m H, W i m H →
      (J.stop i H ∧ Qd H) ∨ (J.go i H ∧ ∃ Nx : Hp → Prop, (∀ H', Nx H' → ∃ m', m' < m ∧ W (i + 1) m' H') ∧ ∀ x H', J.yld i H x H' → g x (wipe σ vs) H' fun σ2 H2 => wipe σ2 vs = wipe σ vs ∧ tt σ2 H2 fun b H3 =>
        if b = true then tk σ2 H3 fun y H4 => tv σ2 H4 fun z H5 => ∃ kvs k, y = kV k ∧ H5 D = some (.dK kvs) ∧ kvs.length < sizeLine ∧ Nx (upd H5 D (.dK (putK kvs k z))) else Nx H3) := by
  refine ⟨fun i m H => m = n - i ∧ i ≤ n ∧ Pv i H, ⟨n, by simp, Nat.zero_le _, h0⟩, ?_⟩
  rintro i m H ⟨rfl, hi, p⟩
  have q := hG i H hi p
  by_cases hlt : i < n
  · exact .inr ⟨w.goes i H hlt q, Pv (i + 1), fun H' p' => ⟨n - (i + 1), by omega, rfl, hlt, p'⟩, fun x H' y => hs i x H H' hlt p (w.yields i H x H' hlt q y)⟩
  · have e : i = n := by omega
    subst e
    exact .inl ⟨w.stops H q, hd H p⟩
end L2
namespace C11
open PySem PySem.Spec L2 PyProof.Rows
/-! ### TextMap() -/
abbrev s_tinit : Stmt := inCls (top 15) 1
abbrev s_usual : Stmt := inCls (top 15) 8
structure TMc (K : PySem.W.Frag) (C : Addr) : Prop where
  cl : Cls K C
  nR : NoAttr K C "_rest"
  nE : NoAttr K C "_exceptions"
def spNo : Sp := fun _ _ _ _ => False
theorem sc_usual : FnScope ["self", "value"] ["self", "value"] (defScope s_usual) := ⟨rfl, rfl, rfl, by decide +kernel, rfl, by decide +kernel, by decide +kernel⟩
abbrev nTinit : List Str := ["self", "exceptions", "rest", "given", "old", "new"]
theorem sc_tinit : FnScope nTinit ["self", "exceptions", "rest"] (defScope s_tinit) := ⟨rfl, rfl, rfl, by decide +kernel, rfl, by decide +kernel, by decide +kernel⟩
def spTInit (C : Addr) : Sp := fun vs H Q _ => ∃ (m dx : Addr), vs = [.ref m, .non, .non] ∧ H m = some (.ins C dx []) ∧
  ∀ H' d, H' m = some (.ins C dx [("_rest", .non), ("_exceptions", .ref d)]) → Bt m H H' → Q .non H'
theorem seq_made {te : TE} {u : TS} {D : Ends} {σ : L2.St} {σ2 : Addr → L2.St} {H : Hp} {i : Nat} (h1 : ∀ Q : VK, (∀ g, H g = none → Q (.ref g) (upd H g (.dK []))) → te σ H Q) (hs : ∀ g, σ.set i (some (.ref g)) = σ2 g) (h2 : ∀ g, H g = none → u D (σ2 g) (upd H g (.dK []))) :
    tSeq (tAsg te (gName i)) u D σ H := h1 _ fun g hg => by
  have z := h2 g hg
  rw [← hs g] at z
  exact z
theorem if_non {c : TT} {t v : TS} {D : Ends} {σ : L2.St} {H : Hp} (h : ∀ Q : Bool → Hp → Prop, (∀ H1, Same H H1 → Q false H1) → c σ H Q) (q : ∀ H1, Same H H1 → v D σ H1) : tSeq (tIfS c t tNext) v D σ H :=
  h _ fun H1 s => show (if false = true then _ else _) from by rw [if_neg (by decide)]; exact q H1 s
theorem tor {t u : TT} {σ : L2.St} {H : Hp} {Q : Bool → Hp → Prop} (ht : ∀ Q : Bool → Hp → Prop, (∀ H1, Same H H1 → Q false H1) → t σ H Q) (hu : ∀ H1, Same H H1 → u σ H1 Q) : tOr t u σ H Q :=
  ht _ fun H1 s => show (if false = true then _ else _) from by rw [if_neg (by decide)]; exact hu H1 s
structure TI15 (mg : Str → Option Value) : Prop where
  isi : mg "isinstance" = none
  dict : mg "dict" = none
  sorted : mg "sorted" = none
section
variable {P : Program} {w : World} {K : PySem.W.Frag} {mg : Str → Option Value} {base : Heap} {f fV fU fI C IM : Addr} {fd dV dU dI : FuncData}
theorem ok_usualNo (F : FM K "_usual" "TextMap._usual" s_usual f fd) : FnOk P w K mg base CX0 1 f fd ["self", "value"] spNo := by
  refine F.ok sc_usual (fun vs H Q E h => h.elim) (fun cdv A outer s H vs Q E hr h => h.elim)
theorem ok_tinit (F : FunD K "__init__" "TextMap.__init__" (defArgs s_tinit) (defBody s_tinit) (defScope s_tinit) [.non, .non] [] f fd) (T : TI15 mg) (TC : TMc K C) (IV : Kn P w K mg base 2 "is_value" fV dV ["value", "kind"] (spIsValN K))
    (GU : FnOk P w K mg base CX0 1 fU dU ["self", "value"] spNo) (bU : Binds K dU ["self", "value"] []) (mU : Meth K C "_usual" fU)
    (XI : XcO P w K mg base IM fI dI "InvalidMap" "position") :
    FnOk P w K mg base CX0 3 f fd ["self", "exceptions", "rest"] (spTInit C) := by
  refine F.ok sc_tinit (fun vs H Q E h => ?_) (fun cdv A outer s H vs Q E hr h => ?_)
  · obtain ⟨m, dx, rfl, _⟩ := h
    rfl
  obtain ⟨m, dx, rfl, hm, q⟩ := h
  have hu := hr.units
  have hu1 : A.units + 3 + 1 < cLine := by have h : A.units + 3 + 64 < cLine := hu; omega
  have hr2 : Room 2 _ := hr
  refine ⟨_, PSs.nox (pss_cons (ps_set (i := 3) sc_tinit.nd rfl (Or.inr rfl) (pe_ifExp (pt_cmp (pc_isN (pv 1))) pe_dnewK (pv 1)))
    (pss_cons (ps_if (PW.pt (pw_or (pt_not (pt_val (pe_callB call_isi (by rfl) T.isi boot_isi (pa_cons (pv 3) (pa_cons (pe_bltn (v := .ty "dict") (by rfl) T.dict (by decide +kernel) rfl) pa_nil))))) (pw_or1 (pt_not (PW.pt (pw_or (pt_cmp (pc_isN (pv 2))) (pw_or1 (pt_val (pe_call IV.f hr rfl IV.m IV.k IV.b .nil pass0 (pa_cons (pv 2) (pa_cons pe_str pa_nil)))))))))))
      (pss_one (ps_raise rfl takes_no (pmk_xe XI.x XI.i XI.t XI.g hr2 XI.b pass0 (by decide) rfl XI.m (pa_cons (pe_un un_neg pe_int) pa_nil)))) pss_nil)
    (pss_cons (ps_lock (ps_for .never (by rfl) (pi_items (pv 3)) (pg_tup (by rfl) (pgs_cons (pg_name (i := 4) sc_tinit.nd rfl (Or.inl rfl)) (pgs_cons (pg_name (i := 5) sc_tinit.nd rfl (Or.inl rfl)) pgs_nil)))
      (pss_one (ps_if (PW.pt (pw_or (pt_not (pt_val (pe_call IV.f hr rfl IV.m IV.k IV.b .nil pass0 (pa_cons (pv 4) (pa_cons pe_str pa_nil))))) (pw_or1 (pt_not (pt_val (pe_call IV.f hr rfl IV.m IV.k IV.b .nil pass0 (pa_cons (pv 5) (pa_cons pe_str pa_nil))))))))
        (pss_one (ps_raise rfl takes_no (pmk_xe XI.x XI.i XI.t XI.g hr2 XI.b pass0 (by decide) rfl XI.m (pa_cons (pe_un un_neg pe_int) pa_nil)))) pss_nil))))
    (pss_cons (ps_fld (pv 0) (pv 2) rfl)
    (pss_one (ps_fld (pv 0) (pe_dc (own := [("old", 4)]) (g := gName 4) (tk := tVar 4) (tv := tDGet (tVar 3) (tVar 4)) rfl sc_tinit.nd (pi_list (pe_callB (call_sortedD rfl) (by rfl) T.sorted boot_sorted (pa_cons (pv 3) pa_nil))) (blkOk_by (N := nTinit) (sc := defScope s_tinit) (by decide +kernel)) (fun _ _ _ _ _ => pg_name (i := 4) sc_tinit.nd rfl (Or.inl rfl))
      (fun _ _ _ _ _ => pts_one (pt_cmpR op_ne (pe_dget hu1 (pv 3) (pv 4) (fun _ _ => rfl)) (pe_meth (pv 0) TC.cl mU GU (hr.mono (by decide)) bU .nil pass0 (pa_cons (pv 4) pa_nil)) (nomark _)))
      (fun _ _ _ _ _ => by exact (pv 4)) (fun _ _ _ _ _ => by exact (pe_dget hu1 (pv 3) (pv 4) (fun _ _ => rfl)))) rfl)))))), ?_⟩
  refine seq_made (σ2 := fun g => [some (.ref m), some .non, some .non, some (.ref g), none, none]) (fun Q' k => ⟨_, rfl, _, rfl, fun g hg => k g hg⟩) (fun _ => rfl) (fun g hg => ?_)
  have s1 := same_upd (o := HO.dK []) hg
  have hg1 : (upd H g (.dK [])) g = some (.dK []) := upd_same
  have hm1 := s1 _ _ hm
  have nmg : m ≠ g := ne_of_none hm hg
  generalize upd H g (.dK []) = H1 at s1 hg1 hm1 ⊢
  refine if_non (fun Q0 q0 => ?_) fun H2 s2 => ?_
  · refine tor (fun Q1 q1 => ⟨_, rfl, .ref g, .ty "dict", .type "dict", _, true, rfl, .ty _, .base (.dK hg1), kit_ty (by decide +kernel), true, rfl, q1 H1 (Same.refl H1)⟩) fun H3 s3 => ?_
    exact ⟨_, rfl, _, rfl, q0 H3 s3⟩
  have hg2 := s2 _ _ hg1
  have hm2 := s2 _ _ hm1
  refine ⟨g, _, hg2, trivial, fun od => ⟨_, rfl, g, od, [], rfl, upd_same, ?_⟩⟩
  refine for_it walk_items (fun i σ' H' => σ' = [some (.ref m), some .non, some .non, some (.ref g), none, none] ∧ Same (upd H2 g (.frz od (.dK []))) H') ⟨rfl, Same.refl _⟩ (fun i σ' H' _ ⟨_, z⟩ => z _ _ upd_same) (fun i x σ' H' H'' hi _ y => absurd hi (Nat.not_lt_zero _)) (fun σ' H' ⟨e0, z⟩ => ?_)
  subst e0
  have s3 : Same H2 (upd H' g (.dK [])) := fun b o e => by
    by_cases h : b = g
    · rw [h, hg2] at e
      rw [h, upd_same]
      exact e
    · rw [upd_ne h]
      exact z b o (by rw [upd_ne h]; exact e)
  refine ⟨z _ _ upd_same, ?_⟩
  generalize upd H' g (.dK []) = H3 at s3
  have hm3 := s3 _ _ hm2
  have hg3 := s3 _ _ hg2
  refine ⟨_, rfl, _, rfl, m, C, dx, _, rfl, hm3, TC.cl, TC.nR, by decide, ?_⟩
  have hg4 : (upd H3 m (.ins C dx (putF "_rest" .non []))) g = some (.dK []) := by rw [upd_ne (Ne.symm nmg)]; exact hg3
  generalize hH4 : upd H3 m (.ins C dx (putF "_rest" .non [])) = H4 at hg4 ⊢
  have hm4 : H4 m = some (.ins C dx [("_rest", .non)]) := by rw [← hH4, upd_same]; rfl
  refine ⟨_, rfl, g, [], [], rfl, .inl hg4, rfl, by decide, fun ys p hperm hsort hp => ⟨p, rfl, ⟨_, SqL.of upd_same⟩, fun D hD => ?_⟩⟩
  have ye : ys = [] := hperm.eq_nil
  subst ye
  have nmD : m ≠ D := fun h => by
    rw [← h, upd_ne (ne_of_none hm4 hp), hm4] at hD
    cases hD
  have hm5 : (upd H4 p (.lst (([] : List Str).map V.str))) m = some (.ins C dx [("_rest", .non)]) := by rw [upd_ne (ne_of_none hm4 hp)]; exact hm4
  have hp5 : (upd H4 p (.lst (([] : List Str).map V.str))) p = some (.lst (([] : List Str).map V.str)) := upd_same
  have s45 : Same H4 (upd H4 p (.lst (([] : List Str).map V.str))) := same_upd hp
  generalize upd H4 p (.lst (([] : List Str).map V.str)) = H5 at *
  refine dc_it (walk_list (xs := ([] : List Str).map V.str)) (fun i H' => Same H5 H') (same_upd hD) (fun i H' _ z => SqL.of (z _ _ hp5)) (fun i x H6 H7 hi _ y => absurd hi (Nat.not_lt_zero _)) fun H6 z6 => ?_
  refine ⟨_, rfl, m, C, dx, _, rfl, z6 _ _ hm5, TC.cl, TC.nE, by show 1 < 1000; decide, ?_⟩
  refine q _ D upd_same fun b o nb eb => ?_
  rw [upd_ne nb]
  refine z6 _ _ (s45 _ _ ?_)
  rw [← hH4, upd_ne nb]
  exact s3 _ _ (s2 _ _ (s1 _ _ eb))
end
end C11

end PTJ11
section PUJ11
set_option maxHeartbeats 4000000
namespace C11
open PySem PySem.Spec L2 PyProof.Rows
/-! ### one pot -/
abbrev s_right : Stmt := top 40
abbrev nRight : List Str := ["_law_pot_here", "_law_rows_here", "_law_others", "_law_handed", "_law_mapping", "_law_spoken", "_law_odd"]
theorem sc_right : FnScope nRight ["_law_pot_here"] (defScope s_right) := ⟨rfl, rfl, rfl, by decide +kernel, rfl, by decide +kernel, by decide +kernel⟩
structure MkT (P : Program) (w : World) (K : PySem.W.Frag) (mg : Str → Option Value) (base : Heap) (C fI : Addr) (dI : FuncData) : Prop where
  mkC : Mk K C fI
  g : FnOk P w K mg base CX0 3 fI dI ["self", "exceptions", "rest"] (spTInit C)
  b2 : ∃ ds, Vals [V.non, V.non] ds ∧ Binds K dI ["self", "exceptions", "rest"] ds
  m : mg "TextMap" = some (.ref C)
structure PrF (P : Program) (w : World) (K : PySem.W.Frag) (mg : Str → Option Value) (base : Heap) (C p fP : Addr) (dP : FuncData) (nm : Str) (sp : Sp) : Prop where
  p : PropOf K C nm p fP
  g : FnOk P w K mg base CX0 1 fP dP ["self"] sp
  b : Binds K dP ["self"] []
structure TR11 (mg : Str → Option Value) : Prop where
  list : mg "list" = none
  tup : mg "tuple" = none
  rep : mg "repr" = none
  isi : mg "isinstance" = none
theorem sm_of {l : List Pc} (h : LimP l) : SmP l := fun p hp => by
  have k : ∀ a : Option Int, LimO a → SmO a := fun a z i e => Nat.lt_of_le_of_lt (z i e) (by decide)
  exact ⟨k _ (h p hp).1, k _ (h p hp).2.1, k _ (h p hp).2.2⟩
theorem rp_list {H : Hp} {h : Addr} {l : List Pc} (hl : LstAt H h l) (sm : SmP l) (n : l.length ≤ 100) : RpOk H (.ref h) := by
  obtain ⟨a, b, c⟩ := lst_shown sm n
  exact ⟨_, rp_lst hl, a, Nat.le_trans b (by decide), c⟩
theorem rp_tuple {H : Hp} {h : Addr} {l : List Pc} (hl : TupAt H h l) (sm : SmP l) (n : l.length ≤ 100) : RpOk H (.ref h) := by
  obtain ⟨ts, a, b⟩ := hl
  refine ⟨.tuple (l.map pD), .tup a (rp_pcs b), showable_all sm, ?_, ?_⟩
  · obtain ⟨x, y⟩ := shown_sum sm
    have t := tupleText_len_le (PyData.shownAll (l.map pD))
    have big : 20000 ≤ sizeLine := by decide
    show (tupleText (PyData.shownAll (l.map pD))).length ≤ sizeLine
    omega
  · have := (lay_pDs l).2
    show PyData.depthAll (l.map pD) + 1 ≤ 60
    omega
/-- the rows handed over: a list or a tuple -/
def Handed (H : Hp) (h : Addr) (l : List Pc) : Prop := LstAt H h l ∨ TupAt H h l
theorem Handed.pcs {H : Hp} {h : Addr} {l : List Pc} (x : Handed H h l) : PcsAt H h l := by
  obtain ⟨ts, a, b⟩ | ⟨ts, a, b⟩ := x
  · exact ⟨ts, .inl a, b⟩
  · exact ⟨ts, .inr a, b⟩
theorem Handed.same {H H' : Hp} {h : Addr} {l : List Pc} (s : Same H H') (x : Handed H h l) : Handed H' h l := by
  obtain z | ⟨ts, a, b⟩ := x
  · exact .inl (z.same s)
  · exact .inr ⟨ts, s _ _ a, b.mono fun t p e => s _ _ e⟩
theorem Handed.bt {H H' : Hp} {p h : Addr} {l : List Pc} (hP : PotAt H p) (b : Bt p H H') (x : Handed H h l) : Handed H' h l := by
  obtain z | ⟨ts, a, r⟩ := x
  · exact .inl (z.bt hP b)
  · refine .inr ⟨ts, b _ _ (fun z => ?_) a, r.mono fun t q e => b _ _ (pc_ne hP e) e⟩
    obtain ⟨x, y, e, _⟩ := hP
    rw [z, e] at a
    cases a
/-- what stands while a pot is asked -/
structure Al (C p R S M : Addr) (l m n : List Pc) (H : Hp) : Prop where
  pot : PotAt H p
  r : LstAt H R l
  s : LstAt H S m
  nm : NMap C H M n
theorem Al.same {C p R S M : Addr} {l m n : List Pc} {H H' : Hp} (a : Al C p R S M l m n H) (z : Same H H') : Al C p R S M l m n H' := ⟨a.pot.bt z, a.r.same z, a.s.same z, a.nm.same z⟩
theorem Al.bt {C p R S M : Addr} {l m n : List Pc} {H H' : Hp} (a : Al C p R S M l m n H) (z : Bt p H H') (hP : PotAt H' p) : Al C p R S M l m n H' := ⟨hP, a.r.bt a.pot z, a.s.bt a.pot z, a.nm.bt a.pot z⟩
theorem if_app {K : PySem.W.Frag} {h : Addr} {l : List Pc} {x1 x2 x4 x5 x6 x0 : Option V} {H : Hp} {u : TS} {D : Ends} (hh : Handed H h l) (n : l.length ≤ 4) (k : ∀ H', (∀ c o, c ≠ h → H c = some o → H' c = some o) → (∀ c o, H c = some o → (∀ xs, o ≠ .lst xs) → H' c = some o) → u D [x0, x1, x2, some (.ref h), x4, x5, x6] H') :
    tSeq (tIfS (tB (tCB (rIsi K) (tCons (tVar 3) (tCons (tC (V.ty "list")) tNil)))) (tDrop (tBM K "list" rAppend (tVar 3) (tCons (tC V.non) tNil))) tNext) u D [x0, x1, x2, some (.ref h), x4, x5, x6] H := by
  obtain ⟨ts, a, b⟩ | ⟨ts, a, b⟩ := hh
  · refine ⟨_, rfl, .ref h, .ty "list", .type "list", _, true, rfl, .ty _, .base (.lst a), kit_ty (show kitB "list" "list" = some true by decide +kernel), true, rfl, ?_⟩
    refine (show (if true = true then _ else _) from ?_)
    rw [if_pos rfl]
    refine ⟨_, rfl, .inl ⟨rfl, _, SqL.of a⟩, h, _, _, rfl, rfl, a, by rw [List.length_map, b.length]; exact Nat.lt_of_le_of_lt n (by decide), ?_⟩
    exact k _ (fun c o nc e => by rw [upd_ne nc]; exact e) fun c o e nn => by
      have nc : c ≠ h := fun z => by
        rw [z, a] at e
        exact nn _ (Option.some.inj e).symm
      rw [upd_ne nc]
      exact e
  · refine ⟨_, rfl, .ref h, .ty "list", .type "tuple", _, false, rfl, .ty _, .base (.tup a), kit_ty (show kitB "tuple" "list" = some false by decide +kernel), false, rfl, ?_⟩
    refine (show (if false = true then _ else _) from ?_)
    rw [if_neg (by decide)]
    exact k _ (fun c o nc e => e) fun c o e nn => e
theorem odd_all {K : PySem.W.Frag} {H : Hp} {C CM m t t1 l g dx : Addr} {fs : List (Str × V)} {x : V} (O : TcO K C CM "number") (k1 : PySem.W.kitOne K (.ref C) (.type "int") = some false) (k2 : PySem.W.kitOne K (.ref C) (.type "bool") = some false) (hm : H m = some (.ins C dx fs)) (ht : H t = some (.tup [])) (ht1 : H t1 = some (.tup [.int 1])) (hl : H l = some (.lst [])) (hg : H g = some (.dK []))
    (h : x ∈ [V.bl true, .bl false, .non, .str "a", .str "0", .ref t, .ref t1, .ref l, .ref g, .ref m]) : OddOk K H m x := by
  have big : 100 ≤ sizeLine := by decide
  simp only [List.mem_cons, List.not_mem_nil, or_false] at h
  rcases h with rfl | rfl | rfl | rfl | rfl | rfl | rfl | rfl | rfl | rfl
  · exact ⟨_, true, true, .base (.bl true), kit_ty (show kitB "bool" "int" = some true by decide +kernel), kit_ty (show kitB "bool" "bool" = some true by decide +kernel), rfl, .inl ⟨_, .bl true, rfl, Nat.le_trans (show _ ≤ 100 by decide +kernel) big, by decide⟩⟩
  · exact ⟨_, true, true, .base (.bl false), kit_ty (show kitB "bool" "int" = some true by decide +kernel), kit_ty (show kitB "bool" "bool" = some true by decide +kernel), rfl, .inl ⟨_, .bl false, rfl, Nat.le_trans (show _ ≤ 100 by decide +kernel) big, by decide⟩⟩
  · exact ⟨_, false, false, .base .non, kit_ty (show kitB "NoneType" "int" = some false by decide +kernel), kit_ty (show kitB "NoneType" "bool" = some false by decide +kernel), rfl, .inl ⟨_, .non, rfl, Nat.le_trans (show _ ≤ 100 by decide +kernel) big, by decide⟩⟩
  · exact ⟨_, false, false, .base (.str _), kit_ty (show kitB "str" "int" = some false by decide +kernel), kit_ty (show kitB "str" "bool" = some false by decide +kernel), rfl, .inl ⟨_, .str _, rfl, Nat.le_trans (show _ ≤ 100 by decide +kernel) big, by decide +kernel⟩⟩
  · exact ⟨_, false, false, .base (.str _), kit_ty (show kitB "str" "int" = some false by decide +kernel), kit_ty (show kitB "str" "bool" = some false by decide +kernel), rfl, .inl ⟨_, .str _, rfl, Nat.le_trans (show _ ≤ 100 by decide +kernel) big, by decide +kernel⟩⟩
  · exact ⟨_, false, false, .base (.tup ht), kit_ty (show kitB "tuple" "int" = some false by decide +kernel), kit_ty (show kitB "tuple" "bool" = some false by decide +kernel), rfl, .inl ⟨.tuple [], .tup ht .nil, by decide +kernel, Nat.le_trans (show _ ≤ 100 by decide +kernel) big, by decide +kernel⟩⟩
  · exact ⟨_, false, false, .base (.tup ht1), kit_ty (show kitB "tuple" "int" = some false by decide +kernel), kit_ty (show kitB "tuple" "bool" = some false by decide +kernel), rfl, .inl ⟨.tuple [.int 1], .tup ht1 (.cons (.int 1) .nil), by decide +kernel, Nat.le_trans (show _ ≤ 100 by decide +kernel) big, by decide +kernel⟩⟩
  · exact ⟨_, false, false, .base (.lst hl), kit_ty (show kitB "list" "int" = some false by decide +kernel), kit_ty (show kitB "list" "bool" = some false by decide +kernel), rfl, .inl ⟨.list [], .lst hl .nil, by decide +kernel, Nat.le_trans (show _ ≤ 100 by decide +kernel) big, by decide +kernel⟩⟩
  · exact ⟨_, false, false, .base (.dK hg), kit_ty (show kitB "dict" "int" = some false by decide +kernel), kit_ty (show kitB "dict" "bool" = some false by decide +kernel), rfl, .inl ⟨.dict [], .dic hg .nil, by decide +kernel, Nat.le_trans (show _ ≤ 100 by decide +kernel) big, by decide +kernel⟩⟩
  · exact ⟨_, false, false, O.ty hm, k1, k2, rfl, .inr rfl⟩
theorem Handed.rp {H : Hp} {h : Addr} {l : List Pc} (x : Handed H h l) (sm : SmP l) (n : l.length ≤ 100) : RpOk H (.ref h) := x.elim (fun z => rp_list z sm n) fun z => rp_tuple z sm n
section
variable {P : Program} {w : World} {K : PySem.W.Frag} {mg : Str → Option Value} {base : Heap} {f fD fPK fRW fPO fAG fTL fTT fMA fRE fE fI fT p1 g1 C CT : Addr} {fd dD dPK dRW dPO dAG dTL dTT dMA dRE dE dI dT e1 : FuncData}
set_option maxHeartbeats 16000000 in
theorem ok_right (F : FD K "_law_right" s_right f fd) (T : TR11 mg) (hK : noMods K = true) (N : NMc K C) {CM : Addr} (O : TcO K C CM "number") (k1 : PySem.W.kitOne K (.ref C) (.type "int") = some false) (k2 : PySem.W.kitOne K (.ref C) (.type "bool") = some false) (nf1 : PySem.W.notFirst K C (.type "list") = true) (nf2 : PySem.W.notFirst K C (.ref CT) = true) (D : Kn P w K mg base 1 "_law_draw" fD dD ["_law_pot_here", "_law_many"] spDraw) (PK : Kn P w K mg base 2 "_law_pick" fPK dPK ["_law_pot_here", "_law_some"] (spPick K)) (RW : Kn P w K mg base 4 "_law_rows" fRW dRW ["_law_pot_here"] spRows)
    (PO : Kn P w K mg base 1 "_law_points" fPO dPO ["_law_rows_here"] spPoints) (AG : KnG P w K mg base 4 "_law_agrees" fAG dAG ["_law_mapping", "_law_rows_here", "_law_points_here"] (spAgrees C)) (TL : KnG P w K mg base 6 "_law_told_right" fTL dTL ["_law_pot_here", "_law_mapping", "_law_rows_here"] (spTold C))
    (TT : Kn P w K mg base 6 "_law_two_right" fTT dTT ["_law_rows_here", "_law_others"] spTwo) (MA : KnG P w K mg base 7 "_law_made_right" fMA dMA ["_law_pot_here"] spMade) (RE : KnG P w K mg base 4 "_law_refused" fRE dRE ["_law_mapping", "_law_thing"] (spRefused K C))
    (EF : EqF P w K mg base C CT fE dE) (MN : MkN P w K mg base C fI dI) (MT : MkT P w K mg base CT fT dT) (PR : PrF P w K mg base C p1 g1 e1 "kind" (spKind C)) :
    FnG P w K mg base CX0 8 f fd ["_law_pot_here"] spMade := by
  refine F.okG sc_right (fun vs H Q E h => ?_) (fun cdv A outer s H vs Q E hg hr h => ?_)
  · obtain ⟨p, rfl, _⟩ := h
    rfl
  obtain ⟨p, rfl, hP, q⟩ := h
  have hG := deeper_guards (env := PyProof.Rows.envOfC "_law_right" (defScope s_right) s.heap.objs.size f cdv) hg
  have hu := hr.units
  obtain ⟨ds0, hds0, hb0⟩ := MT.b2
  refine ⟨_, PSs.nox (pss_cons (ps_par (i := 1) (j := 2) (by rfl) sc_right.nd rfl rfl (by decide) rfl rfl (pa_cons (pe_call RW.f (hr.mono (by decide)) rfl RW.m RW.k RW.b .nil pass0 (pa_cons (pv 0) pa_nil)) (pa_cons (pe_call RW.f (hr.mono (by decide)) rfl RW.m RW.k RW.b .nil pass0 (pa_cons (pv 0) pa_nil)) pa_nil)) (by rfl))
    (pss_cons (ps_set (i := 3) sc_right.nd rfl (Or.inl rfl) (pe_ix ix_list (pe_lst (pa_cons (pe_callTy call_list_of (by rfl) T.list (by decide +kernel) (pa_cons (pv 1) pa_nil)) (pa_cons (pe_callTy call_tuple_of (by rfl) T.tup (by decide +kernel) (pa_cons (pv 1) pa_nil)) pa_nil))) (pe_call D.f (hr.mono (by decide)) rfl D.m D.k D.b .nil pass0 (pa_cons (pv 0) (pa_cons pe_int pa_nil))) (fun _ _ => rfl)))
    (pss_cons (ps_par (i := 4) (j := 5) (by rfl) sc_right.nd rfl rfl (by decide) rfl rfl (pa_cons (pe_make MN.mkC MN.g (hr.mono (by decide)) rfl MN.m MN.b .nil pass0 (pa_cons (pv 3) pa_nil)) (pa_cons (pe_callB (call_reprD (by exact hG) (by exact hu) (by exact hK)) (by rfl) T.rep boot_repr (pa_cons (pv 3) pa_nil)) pa_nil)) (by rfl))
    (pss_cons (ps_if (PW.pt (pw_or (pt_cmpR op_ne (pe_prop (pv 4) N.cl PR.p PR.g (hr.mono (by decide)) PR.b .nil pass0 (by rfl)) pe_str (nomark _)) (pw_or (pt_cmpR op_ne (pe_callB (call_reprD (by exact hG) (by exact hu) (by exact hK)) (by rfl) T.rep boot_repr (pa_cons (pv 3) pa_nil)) (pv 5) (nomark _)) (pw_or1 (pt_not (pt_val (pe_callG AG.f (by exact hG) (hr.mono (by decide)) rfl AG.m AG.k AG.b .nil pass0 (pa_cons (pv 4) (pa_cons (pv 1) (pa_cons (pe_call PO.f (hr.mono (by decide)) rfl PO.m PO.k PO.b .nil pass0 (pa_cons (pv 1) pa_nil)) pa_nil)))))))))) pss_never pss_nil)
    (pss_cons (ps_if (pt_val (pe_callB call_isi (by rfl) T.isi boot_isi (pa_cons (pv 3) (pa_cons (pe_bltn (v := .ty "list") (by rfl) T.list (by decide +kernel) rfl) pa_nil)))) (pss_one (ps_expr (pe_bm PySem.F.plainAttrs_list PySem.F.slot_list_append PySem.F.type_list_append mt_append (pv 3) (pa_cons pe_non pa_nil)))) pss_nil)
    (pss_cons (ps_if (PW.pt (pw_or (pt_not (pt_val (pe_callG AG.f (by exact hG) (hr.mono (by decide)) rfl AG.m AG.k AG.b .nil pass0 (pa_cons (pv 4) (pa_cons (pv 1) (pa_cons (pe_call PO.f (hr.mono (by decide)) rfl PO.m PO.k PO.b .nil pass0 (pa_cons (pv 1) pa_nil)) pa_nil)))))) (pw_or1 (pt_not (pt_val (pe_callG TL.f (by exact hG) (hr.mono (by decide)) rfl TL.m TL.k TL.b .nil pass0 (pa_cons (pv 0) (pa_cons (pv 4) (pa_cons (pv 1) pa_nil))))))))) pss_never pss_nil)
    (pss_cons (ps_if (PW.pt (pw_or (pt_not (pt_val (pe_call TT.f (hr.mono (by decide)) rfl TT.m TT.k TT.b .nil pass0 (pa_cons (pv 1) (pa_cons (pv 2) pa_nil))))) (pw_or (pt_not (pt_val (pe_call TT.f (hr.mono (by decide)) rfl TT.m TT.k TT.b .nil pass0 (pa_cons (pv 1) (pa_cons (pv 1) pa_nil))))) (pw_or1 (pt_not (pt_val (pe_callG MA.f (by exact hG) (hr.mono (by decide)) rfl MA.m MA.k MA.b .nil pass0 (pa_cons (pv 0) pa_nil)))))))) pss_never pss_nil)
    (pss_cons (ps_set (i := 6) sc_right.nd rfl (Or.inl rfl) (pe_call PK.f (hr.mono (by decide)) rfl PK.m PK.k PK.b .nil pass0 (pa_cons (pv 0) (pa_cons (pe_lst (pa_cons pe_bl (pa_cons pe_bl (pa_cons pe_non (pa_cons pe_str (pa_cons pe_str (pa_cons (pe_tup pa_nil) (pa_cons (pe_tup (pa_cons pe_int pa_nil)) (pa_cons (pe_lst pa_nil) (pa_cons pe_dnewK (pa_cons (pv 4) pa_nil))))))))))) pa_nil))))
    (pss_one (ps_ret (pe_and (pe_callG RE.f (by exact hG) (hr.mono (by decide)) rfl RE.m RE.k RE.b .nil pass0 (pa_cons (pv 4) (pa_cons (pv 6) pa_nil))) (pe_and (pe_cmpR (op_neO EF.o EF.g EF.b (hr.mono (by decide))) (pv 4) (pv 1) (nomark _)) (pe_one (pe_cmpR (op_neO EF.o EF.g EF.b (hr.mono (by decide))) (pv 4) (pe_make0 MT.mkC MT.g (hr.mono (by decide)) rfl MT.m hb0 hds0 pass0) (nomark _))))))))))))))), ?_⟩
  refine ⟨_, rfl, p, rfl, hP, fun R l H1 hR hc ll lim b1 hP1 => ?_⟩
  refine ⟨_, rfl, p, rfl, hP1, fun S m H2 hS hcm ml limm b2 hP2 => ⟨_, _, rfl, ?_⟩⟩
  have hR2 := hR.bt hP1 b2
  have c2 := b1.trans b2
  clear b1 b2 hP1 hR
  obtain ⟨ts, e1, e2⟩ := hR2
  refine ⟨_, rfl, R, _, rfl, .inl (SqL.of e1), fun g hg => ?_⟩
  have s3 := same_upd (o := HO.lst (ts.map V.ref)) hg
  have hg3 : LstAt (upd H2 g (.lst (ts.map V.ref))) g l := ⟨ts, upd_same, e2.mono fun t q e => s3 _ _ e⟩
  have e3 := s3 _ _ e1
  generalize upd H2 g (.lst (ts.map V.ref)) = H3 at s3 hg3 e3 ⊢
  refine ⟨_, rfl, R, _, rfl, .inl ⟨SqL.of e3, fun u hu => ?_⟩⟩
  have s4 := same_upd (o := HO.tup (ts.map V.ref)) hu
  have hu4 : TupAt (upd H3 u (.tup (ts.map V.ref))) u l := ⟨ts, upd_same, e2.mono fun t q e => s4 _ _ (s3 _ _ e)⟩
  have hg4 := hg3.same s4
  have hun : H2 u = none := s3.free hu
  generalize upd H3 u (.tup (ts.map V.ref)) = H4 at s4 hg4 hu4 ⊢
  refine ⟨by show 2 ≤ sizeLine; decide, fun k hk => ?_⟩
  have s5 := same_upd (o := HO.lst [V.ref g, V.ref u]) hk
  have hk5 : (upd H4 k (.lst [V.ref g, V.ref u])) k = some (.lst [V.ref g, V.ref u]) := upd_same
  have hkp := pot_ne ((hP2.bt s3).bt s4) hk
  generalize upd H4 k (.lst [V.ref g, V.ref u]) = H5 at s5 hk5 ⊢
  have z5 := (s3.trans s4).trans s5
  refine ⟨_, rfl, p, 2, rfl, hP2.bt z5, by decide, by decide, fun i H6 i0 i1 b6 hP6 => ?_⟩
  have hk6 := b6 _ _ hkp hk5
  obtain ⟨h, hat, hh, hh2⟩ : ∃ h, atI [V.ref g, V.ref u] i = some (.ref h) ∧ Handed H5 h l ∧ H2 h = none := by
    obtain rfl | rfl : i = 0 ∨ i = 1 := by omega
    · exact ⟨g, rfl, .inl (hg4.same s5), hg⟩
    · exact ⟨u, rfl, .inr (hu4.same s5), hun⟩
  refine ⟨k, _, i, _, rfl, rfl, SqL.of hk6, hat, ?_⟩
  have hP5 := hP2.bt z5
  have hh6 := hh.bt hP5 b6
  have hS6 := (hS.same z5).bt hP5 b6
  have hR6 := (show LstAt H2 R l from ⟨ts, e1, e2⟩).same z5 |>.bt hP5 b6
  have c6 := (c2.trans (Same.bt z5)).trans b6
  have old : ∀ c o, c ≠ p → H c = some o → c ≠ h := fun c o nc e => ne_of_none (c2 _ _ nc e) hh2
  have nRh : R ≠ h := ne_of_none e1 hh2
  have nSh : S ≠ h := by
    obtain ⟨us, a, _⟩ := hS
    exact ne_of_none a hh2
  have nph : p ≠ h := by
    obtain ⟨x, y, e, _⟩ := hP2
    exact ne_of_none e hh2
  have nts : ∀ c q, PcAt H2 c q → c ≠ h := fun c q e => ne_of_none e hh2
  clear s3 s4 hg3 e3 hg4 hu4 hun hk s5 hk5 hkp hat hh hk6 b6 hg hu z5 hP5
  refine ⟨_, rfl, fun m1 d1 xm xd xn => ⟨m1, d1, h, l, rfl, upd_same, new_pcs hh6.pcs xm xd, hc, by omega, fun H7 u1 n hn hle xe xt xB => ⟨rfl, ?_⟩⟩⟩
  have s7 := made_same xm xd xn rfl xB
  have nm7 : NMap C H7 m1 n := ⟨d1, u1, xe, xt⟩
  clear xm xd xn xt xB
  have hh7 := hh6.same s7
  have al7 : Al C p R S m1 l m n H7 := ⟨hP6.bt s7, hR6.same s7, hS6.same s7, nm7⟩
  have c7 := c6.trans (Same.bt s7)
  obtain ⟨dt, r1, r2, r3, r4⟩ := hh7.rp (sm_of lim) (by omega)
  obtain ⟨cn, en⟩ := nrm_chn hn
  have sm := nrm_sm hc lim hn
  have pl := ptsOf_len l
  have small : ∀ ys : List Int, (∀ k, k ∈ ys ↔ k ∈ ptsOf l) → ∀ y ∈ ys, (evalP l y).natAbs < 10 ^ 40 := fun ys hy y hy2 => by
    refine eval_small2 hc (fun q hq => (lim q hq).2.2) (pts_small (fun q hq v hv => ?_) y ((hy y).mp hy2))
    have k := lim q hq
    obtain ⟨a, b, c⟩ := q
    have kk : ∀ o : Option Int, LimO o → v ∈ oL o → v.natAbs ≤ 10 ^ 30 + 1 := fun o z e => by
      cases o with
      | none => cases e
      | some w =>
        cases List.mem_singleton.mp e
        exact Nat.le_succ_of_le (z _ rfl)
    unfold intsP at hv
    simp only [List.mem_append] at hv
    obtain (hv | hv) | hv := hv
    · exact kk _ k.1 hv
    · exact kk _ k.2.1 hv
    · exact kk _ k.2.2 hv
  refine ⟨_, rfl, .ref h, dt, rfl, r1, r2, r3, r4, _, _, rfl, ?_⟩
  -- kind, what was handed over, the map
  refine ⟨_, rfl, m1, d1, _, rfl, xe, m1, d1, _, rfl, xe, rfl, rfl, false, ?_, ?_⟩
  · rw [decide_eq_true rfl] <;> rfl
  refine (show (if false = true then _ else _) from ?_)
  rw [if_neg (by decide)]
  refine ⟨_, rfl, .ref h, dt, rfl, r1, r2, r3, r4, _, rfl, rfl, false, ?_, ?_⟩
  · rw [decide_eq_true rfl] <;> rfl
  refine (show (if false = true then _ else _) from ?_)
  rw [if_neg (by decide)]
  refine ⟨_, rfl, _, rfl, _, rfl, R, l, rfl, al7.r, by omega, ⟨ptsOf l, by omega, fun k hk => hk⟩, fun S1 ys H8 hy hyl hS1 s8 => ?_⟩
  have al8 := al7.same s8
  refine ⟨m1, R, S1, n, l, ys, rfl, al8.nm, cn, by omega, al8.r, hc, fun x => en x (none_ge x), hS1, small ys hy, fun H9 s9 => ⟨true, rfl, ?_⟩⟩
  refine (show (if (!true) = true then _ else _) from ?_)
  rw [if_neg (by decide)]
  have al9 := al8.same s9
  have z9 := s8.trans s9
  have hh9 := hh7.same z9
  have c9 := c7.trans (Same.bt z9)
  clear al7 al8 s8 s9 hS1 hy r1 r2 r3 r4 hh7 nm7 c7 hP6 hR6 hS6 c6 xe
  refine if_app hh9 ll fun H10 w1 w2 => ?_
  have tp : ∀ c q, PcAt H9 c q → PcAt H10 c q := fun c q e => w2 _ _ e (fun xs z => by cases z)
  have al10 : Al C p R S m1 l m n H10 := by
    obtain ⟨⟨x, y, e, r⟩, ⟨us, a, b⟩, ⟨vs, a2, b2⟩, ⟨dx, u, f1, ws, f2, b3⟩⟩ := al9
    exact ⟨⟨x, y, w1 _ _ nph e, r⟩, ⟨us, w1 _ _ nRh a, b.mono tp⟩, ⟨vs, w1 _ _ nSh a2, b2.mono tp⟩, ⟨dx, u, w2 _ _ f1 (fun xs z => by cases z), ws, w2 _ _ f2 (fun xs z => by cases z), b3.mono tp⟩⟩
  have c10 : Bt p H H10 := fun c o nc e => w1 _ _ (old c o nc e) (c9 c o nc e)
  clear w1 w2 tp al9 c9 hh9 z9
  refine ⟨_, rfl, _, rfl, _, rfl, R, l, rfl, al10.r, by omega, ⟨ptsOf l, by omega, fun k hk => hk⟩, fun S2 ys2 H11 hy hyl hS1 s11 => ?_⟩
  have al11 := al10.same s11
  refine ⟨m1, R, S2, n, l, ys2, rfl, al11.nm, cn, by omega, al11.r, hc, fun x => en x (none_ge x), hS1, small ys2 hy, fun H12 s12 => ⟨true, rfl, ?_⟩⟩
  refine (show (if (!true) = true then _ else _) from ?_)
  rw [if_neg (by decide)]
  have al12 := al11.same s12
  have c12 := c10.trans (Same.bt (s11.trans s12))
  clear al10 al11 c10 s11 s12 hy hS1
  refine ⟨_, rfl, _, rfl, _, rfl, p, m1, R, n, l, rfl, al12.pot, al12.nm, hn, by omega, al12.r, hc, ll, lim, fun H13 b13 hP13 => ⟨true, rfl, ?_⟩⟩
  refine (show (if (!true) = true then _ else _) from ?_)
  rw [if_neg (by decide)]
  have al13 := al12.bt b13 hP13
  have c13 := c12.trans b13
  clear al12 c12 b13 hP13
  refine ⟨_, rfl, _, rfl, R, S, l, m, rfl, al13.r, al13.s, hc, hcm, ll, ml, fun H14 s14 => ⟨true, rfl, ?_⟩⟩
  refine (show (if (!true) = true then _ else _) from ?_)
  rw [if_neg (by decide)]
  have al14 := al13.same s14
  refine ⟨_, rfl, _, rfl, R, R, l, l, rfl, al14.r, al14.r, hc, hc, ll, ll, fun H15 s15 => ⟨true, rfl, ?_⟩⟩
  refine (show (if (!true) = true then _ else _) from ?_)
  rw [if_neg (by decide)]
  have al15 := al14.same s15
  refine ⟨_, rfl, p, rfl, al15.pot, fun H16 b16 hP16 => ⟨true, rfl, ?_⟩⟩
  refine (show (if (!true) = true then _ else _) from ?_)
  rw [if_neg (by decide)]
  have al16 := al15.bt b16 hP16
  have c16 := (c13.trans (Same.bt (s14.trans s15))).trans b16
  clear al13 al14 al15 c13 s14 s15 b16 hP16
  refine ⟨_, rfl, Nat.zero_le _, fun t0 ht0 => ⟨by show 1 ≤ sizeLine; decide, fun t1 ht1 => ⟨Nat.zero_le _, fun l0 hl0 => fun d0 hd0 => ⟨_, rfl, by show 10 ≤ sizeLine; decide, fun q0 hq0 => ?_⟩⟩⟩⟩
  have s0 := same_upd (o := HO.tup []) ht0
  have a0 : (upd H16 t0 (.tup [])) t0 = some (.tup []) := upd_same
  have n0 := pot_ne al16.pot ht0
  generalize upd H16 t0 (.tup []) = G0 at s0 a0 ht1 hl0 hd0 hq0 ⊢
  have al17 := al16.same s0
  have s1 := same_upd (o := HO.tup [V.int 1]) ht1
  have a1 : (upd G0 t1 (.tup [V.int 1])) t1 = some (.tup [V.int 1]) := upd_same
  have n1 := pot_ne al17.pot ht1
  replace a0 := s1 _ _ a0
  generalize upd G0 t1 (.tup [V.int 1]) = G1 at s1 a0 a1 hl0 hd0 hq0 ⊢
  have al18 := al17.same s1
  have s2 := same_upd (o := HO.lst []) hl0
  have a2 : (upd G1 l0 (.lst [])) l0 = some (.lst []) := upd_same
  have n2 := pot_ne al18.pot hl0
  replace a0 := s2 _ _ a0
  replace a1 := s2 _ _ a1
  generalize upd G1 l0 (.lst []) = G2 at s2 a0 a1 a2 hd0 hq0 ⊢
  have al19 := al18.same s2
  have s3 := same_upd (o := HO.dK []) hd0
  have a3 : (upd G2 d0 (.dK [])) d0 = some (.dK []) := upd_same
  have n3 := pot_ne al19.pot hd0
  replace a0 := s3 _ _ a0
  replace a1 := s3 _ _ a1
  replace a2 := s3 _ _ a2
  generalize upd G2 d0 (.dK []) = G3 at s3 a0 a1 a2 a3 hq0 ⊢
  have al20 := al19.same s3
  have s4 := same_upd (o := HO.lst [V.bl true, .bl false, .non, .str "a", .str "0", .ref t0, .ref t1, .ref l0, .ref d0, .ref m1]) hq0
  refine ⟨p, q0, _, rfl, al20.pot.bt s4, pot_ne al20.pot hq0, upd_same, by show 0 < 10; decide, by show 10 ≤ 1000; decide, fun i x H21 hi b21 hP21 => ?_⟩
  have al21 := (al20.same s4).bt b21 hP21
  replace a0 := b21 _ _ n0 (s4 _ _ a0)
  replace a1 := b21 _ _ n1 (s4 _ _ a1)
  replace a2 := b21 _ _ n2 (s4 _ _ a2)
  replace a3 := b21 _ _ n3 (s4 _ _ a3)
  have c21 := (c16.trans (Same.bt ((((s0.trans s1).trans s2).trans s3).trans s4))).trans b21
  clear s0 s1 s2 s3 s4 al16 al17 al18 al19 al20 b21 hP21 c16 ht0 ht1 hl0 hd0 hq0
  have nm21 := al21.nm
  obtain ⟨dm, um, hm21, hum⟩ := nm21
  refine ⟨_, rfl, _, rfl, m1, n, x, rfl, al21.nm, sm, by omega, odd_all O k1 k2 hm21 a0 a1 a2 a3 (List.mem_of_getElem? hi), fun H22 s22 => ⟨true, rfl, ?_⟩⟩
  refine (show (if true = true then _ else _) from ?_)
  rw [if_pos rfl]
  have al22 := al21.same s22
  obtain ⟨us, er, _⟩ := al22.r
  have hm22 := s22 _ _ hm21
  refine ⟨_, rfl, _, rfl, m1, dm, _, rfl, hm22, ⟨R, rfl, .inr ⟨_, er, nf1⟩⟩, m1, n, .ref R, rfl, al22.nm, .inr (.inl ⟨R, _, rfl, er, ⟨_, rfl, true, rfl, ?_⟩⟩)⟩
  refine (show (if true = true then _ else _) from ?_)
  rw [if_pos rfl]
  refine ⟨_, rfl, fun mt dt2 xm xd xn => ⟨mt, dt2, rfl, upd_same, fun H23 d3 e3 b23 => ⟨rfl, ?_⟩⟩⟩
  have s23 := made_same xm xd xn rfl b23
  refine ⟨m1, dm, _, rfl, s23 _ _ hm22, ⟨mt, rfl, .inl ⟨CT, dt2, _, e3, nf2⟩⟩, m1, n, .ref mt, rfl, al22.nm.same s23, .inr (.inr ⟨mt, dt2, _, rfl, e3, rfl, ⟨_, rfl, ?_⟩⟩)⟩
  exact q _ ((c21.trans (Same.bt s22)).trans (Same.bt s23)) ((al22.same s23).pot)
end
end C11

end PUJ11
section PVJ11
set_option maxHeartbeats 4000000
namespace C11
open PySem PySem.Spec L2 PyProof.Rows
section
variable {P : Program} {w : World} {K : PySem.W.Frag} {mg : Str → Option Value} {base : Heap} {f fPO fRI : Addr} {fd dPO dRI : FuncData}
theorem ok_law9 (F : FD K "law" s_law f fd) (T : TT0 mg) (TA : mg "all" = none) (TM : mg "max" = none) (TN : mg "min" = none) (PO : Kn P w K mg base 1 "_law_pot" fPO dPO ["_law_script", "_law_k"] (spPot K)) (RI : KnG P w K mg base 8 "_law_right" fRI dRI ["_law_pot_here"] spMade) :
    FnG P w K mg base CX0 9 f fd ["_law_script"] (spLaw K) := by
  refine F.okG sc_law (fun vs H Q E h => ?_) (fun cdv A outer s H vs Q E hg hr h => ?_)
  · obtain ⟨a, ns, rfl, _⟩ := h
    rfl
  obtain ⟨a, ns, rfl, hS, hl, q⟩ := h
  have hG := deeper_guards (env := PyProof.Rows.envOfC "law" (defScope s_law) s.heap.objs.size f cdv) hg
  refine ⟨_, PSs.nox (pss_one (ps_ret (pe_callB (cr_all rfl) (by rfl) TA boot_all (pa_cons (pe_lc (own := [("_law_k", 1)]) (g := gName 1) (tt := tYes) rfl sc_law.nd
      (pi_range1 rfl T.rng (pa_cons (pe_callB (call_max2 rfl) (by rfl) TM boot_max (pa_cons pe_int (pa_cons (pe_callB (call_min2 rfl) (by rfl) TN boot_min (pa_cons (pe_callB call_len_seq (by rfl) T.len boot_len (pa_cons (pv 0) pa_nil)) (pa_cons pe_int pa_nil))) pa_nil))) pa_nil))
      (blkOk_by (N := ["_law_script", "_law_k"]) (sc := defScope s_law) (by decide +kernel)) (fun _ _ _ _ _ => pg_name (i := 1) sc_law.nd rfl (Or.inl rfl)) (fun _ _ _ _ _ => pts_nil)
      (fun _ _ _ _ _ => by exact (pe_callG RI.f (by exact hG) hr rfl RI.m RI.k RI.b .nil pass0 (pa_cons (pe_call PO.f (hr.mono (by decide)) rfl PO.m PO.k PO.b .nil pass0 (pa_cons (pv 0) (pa_cons (pv 1) pa_nil))) pa_nil)))) pa_nil)))), ?_⟩
  have hl' : (ns.map V.int).length ≤ 63 := by rw [List.length_map]; exact hl
  refine ⟨_, rfl, a, _, rfl, .inl hS, _, _, rfl, _, _, rfl, ?_⟩
  generalize hm : (if (6 : Int) < (((ns.map V.int).length : Nat) : Int) then (6 : Int) else (((ns.map V.int).length : Nat) : Int)) = m
  have m0 : 0 ≤ m ∧ m ≤ 6 := by
    rw [← hm]
    split <;> omega
  generalize hj : (if m > 1 then m else (1 : Int)) = j
  have j0 : 0 ≤ j ∧ j ≤ 6 := by
    rw [← hj]
    split <;> omega
  refine ⟨_, rfl, by omega, by omega, fun D hD => ?_⟩
  refine lc_range (lo := 0) (n := j.toNat) (fun i H' => Same H H' ∧ H' D = some (.lst (List.replicate i (V.bl true)))) ⟨same_upd hD, upd_same⟩ (fun i H1 hi ⟨s1, hD1⟩ => ?_) fun H1 ⟨s1, hD1⟩ => ?_
  · refine ⟨rfl, ?_⟩
    refine iteT (A := tCall spMade [] E0 (tCons (tCall (spPot K) [] E0 (tCons (tVar 0) (tCons (tVar 1) tNil))) tNil) [some (.ref a), some (.int (0 + (i : Int)))] H1 _) (B := Same H H1 ∧ H1 D = some (.lst (List.replicate (i + 1) (V.bl true)))) ?_
    refine ⟨_, rfl, _, rfl, a, ns, 0 + (i : Int), rfl, s1.seq hS, hl, by omega, by omega, fun p x y hp hx hy hy2 => ⟨p, rfl, ⟨x, y, upd_same, hx, hy, hy2⟩, fun H3 b3 _ => ?_⟩⟩
    have s3 : Same H1 H3 := fun b o e => by
      have n : b ≠ p := ne_of_none e hp
      exact b3 b o n (by rw [upd_ne n]; exact e)
    refine ⟨_, s3 _ _ hD1, by rw [List.length_replicate]; exact Nat.lt_of_lt_of_le (show i < 6 by omega) (show 6 ≤ sizeLine by decide), same_over (s1.trans s3) hD, ?_⟩
    rw [upd_same, List.replicate_succ']
  · refine ⟨D, List.replicate j.toNat true, rfl, SqL.of (by rw [hD1, List.map_replicate]), ?_⟩
    rw [all_true]
    exact q H1
end
end C11
/-! ### the head's facts: defs that stand anywhere (properties, class methods), one Bool of the written part -/
namespace He
open PySem PySem.Spec PyProof.Rows L2
def asZ (g : Addr → Option Obj) (n : Nat) : List Addr := sysModules :: cStatics :: asD g n
/-- the def in the record of this type that the class has under this name -/
def rcA (K : PySem.W.Frag) (C : Addr) (T : String) (m : Str) : Addr := match PySem.W.recIn K (ma K C m) T with
  | some (.ref g :: _) => g
  | _ => 0
def fnZ (K : PySem.W.Frag) (a : Addr) : FnW := match K.lookup a with
  | some ⟨_, _, .func fd, _⟩ => some (fd.name, fd.qualname, fd.params, fd.body, fd.scope, fd.globals, fd.closure, fd.builtins)
  | _ => none
structure DefZ where
  adr : PySem.W.Frag → Addr
  name : Str
  qual : Str
  params : Arguments
  body : List Stmt
  scope : Scope
  dfl : List Dv := []
def DefZ.val (d : DefZ) : FnW := some (d.name, d.qual, d.params, .stmts d.body, d.scope, mainGlobals, [], builtinsNs)
def DefZ.dvs (K : PySem.W.Frag) (d : DefZ) : List V := d.dfl.map (Dv.v K)
def DefZ.ok (K : PySem.W.Frag) (d : DefZ) : Bool := PySem.W.keepIn K (.ref (d.adr K)) && (match K.lookup (d.adr K) with
  | some ⟨_, _, .func fd, _⟩ => PySem.W.codeIn K fd.code d.qual && dflB K fd.defaults (d.dvs K)
  | _ => false)
theorem DefZ.funD {K : PySem.W.Frag} {d : DefZ} (e : fnZ K (d.adr K) = d.val) (c : d.ok K = true) : ∃ fd, FunD K d.name d.qual d.params d.body d.scope (d.dvs K) [] (d.adr K) fd := by
  obtain ⟨kp, c2⟩ := ba c
  unfold fnZ at e
  cases q : K.lookup (d.adr K) with
  | none =>
    rw [q] at c2
    cases c2
  | some o =>
    obtain ⟨oc, od, dt, osl⟩ := o
    rw [q] at c2 e
    cases dt with
    | func fd =>
      obtain ⟨n1, n2, n3, n4, n5, n6, n7, n8, n9, n10, n11, n12, n13, n14, n15⟩ := fd
      have e2 : (some (n1, n2, n3, n4, n5, n6, n7, n15) : FnW) = some (d.name, d.qual, d.params, .stmts d.body, d.scope, mainGlobals, [], builtinsNs) := e
      simp only [Option.some.injEq, Prod.mk.injEq] at e2
      obtain ⟨h1, h2, h3, h4, h5, h6, h7, h8⟩ := e2
      subst h1 h2 h3 h4 h5 h6 h7 h8
      have c3 : (PySem.W.codeIn K n13 d.qual && dflB K n8 (d.dvs K)) = true := c2
      obtain ⟨k1, k2⟩ := ba c3
      exact ⟨_, ⟨oc, od, n8, n9, n10, n11, n12, n13, n14, osl, rfl, q, k1, dflB_ok k2, .inl rfl⟩, kp⟩
    | _ => cases c2
def obsZ (n : Nat) (fn : List DefZ) (ex : PySem.W.Frag → Bool) (g : Addr → Option Obj) : Bool × List FnW := ((fn.all fun d => d.ok (frG g (asZ g n))) && ex (frG g (asZ g n)), fn.map fun d => fnZ (frG g (asZ g n)) (d.adr (frG g (asZ g n))))
structure SaysZ (fn : List DefZ) (ex : PySem.W.Frag → Bool) (K : PySem.W.Frag) : Prop where
  ok : (fn.all fun d => d.ok K) = true
  more : ex K = true
  fns : fn.map (fun d => fnZ K (d.adr K)) = fn.map DefZ.val
theorem saysZ_of {n : Nat} {fn : List DefZ} {ex : PySem.W.Frag → Bool} {g : Addr → Option Obj} (e : obsZ n fn ex g = (true, fn.map DefZ.val)) : SaysZ fn ex (frG g (asZ g n)) := by
  have e1 : ((fn.all fun d => d.ok (frG g (asZ g n))) && ex (frG g (asZ g n))) = true := congrArg (fun z : Bool × List FnW => z.1) e
  exact ⟨(ba e1).1, (ba e1).2, congrArg (fun z : Bool × List FnW => z.2) e⟩
def hookZ (n : Nat) (fn : List DefZ) (ex : PySem.W.Frag → Bool) : PySem.W.Hook where
  α := Bool × List FnW
  obs := fun s => obsZ n fn ex s.heap.get?
  val := fun _ => (true, fn.map DefZ.val)
  says := fun _ h => ∃ K : PySem.W.Frag, K.In h ∧ SaysZ fn ex K
  of := fun _ _ e => ⟨_, frG_in, saysZ_of e⟩
  keeps := fun _ _ _ ⟨K, hK, c⟩ k => ⟨K, PySem.W.Frag.In.keeps hK k, c⟩
theorem obsZ_eq {n : Nat} {fn : List DefZ} {ex : PySem.W.Frag → Bool} {g : Addr → Option Obj} {s : Shared} (h : ∀ a, g a = s.heap.get? a) : obsZ n fn ex g = (hookZ n fn ex).obs s := by
  have e : g = s.heap.get? := funext h
  rw [e] <;> rfl
theorem SaysZ.def_ {fn : List DefZ} {ex : PySem.W.Frag → Bool} {K : PySem.W.Frag} (c : SaysZ fn ex K) (i : Nat) {d : DefZ} (h : fn[i]? = some d) : ∃ fd, FunD K d.name d.qual d.params d.body d.scope (d.dvs K) [] (d.adr K) fd := by
  have e2 : (fn.map fun d => fnZ K (d.adr K))[i]? = (fn.map DefZ.val)[i]? := by rw [c.fns]
  rw [List.getElem?_map, List.getElem?_map, h] at e2
  exact DefZ.funD (Option.some.inj e2) (List.all_eq_true.mp c.ok d (List.mem_of_getElem? h))
/-! ### a class method, a property -/
def cmB (K : PySem.W.Frag) (C : Addr) (m : Str) : Bool := (match PySem.W.findCls K (.ref C) (.type "type") m with
    | some (.get (.builtin b) (.ref p) .none (.ref C')) => decide (b = "classmethod.__get__") && (decide (p = ma K C m) && decide (C' = C))
    | _ => false) && ((match PySem.W.recIn K (ma K C m) "classmethod" with
    | some (.ref g :: _) => decide (g = rcA K C "classmethod" m)
    | _ => false) && PySem.W.fnIn K (rcA K C "classmethod" m))
theorem cmB_ok {K : PySem.W.Frag} {C : Addr} {m : Str} (h : cmB K C m = true) : ClX.CMet K C (.type "type") m (ma K C m) (rcA K C "classmethod" m) := by
  obtain ⟨h1, h⟩ := ba h
  obtain ⟨h2, h3⟩ := ba h
  refine ⟨?_, ?_, h3⟩
  · split at h1
    · rename_i b p C' e
      obtain ⟨e1, h1⟩ := ba h1
      obtain ⟨e2, e3⟩ := ba h1
      rw [e, of_decide_eq_true e1, of_decide_eq_true e2, of_decide_eq_true e3]
    · cases h1
  · split at h2
    · rename_i g r e
      exact ⟨r, by rw [e, of_decide_eq_true h2]⟩
    · cases h2
def prB (K : PySem.W.Frag) (C : Addr) (m : Str) : Bool := eqO (PySem.W.findIn K (.ref C) m) (some (some (.ref (ma K C m)))) && (eqO (PySem.W.specialIn K (.ref (ma K C m)) "__get__") (some (some (.builtin "property.__get__"))) && (decide (PySem.W.takesIn K (.ref (ma K C m)) = some true) &&
  (match PySem.W.recIn K (ma K C m) "property" with
    | some (.ref g :: _) => decide (g = rcA K C "property" m)
    | _ => false)))
theorem prB_ok {K : PySem.W.Frag} {C : Addr} {m : Str} (h : prB K C m = true) : PropOf K C m (ma K C m) (rcA K C "property" m) := by
  obtain ⟨h1, h⟩ := ba h
  obtain ⟨h2, h⟩ := ba h
  obtain ⟨h3, h4⟩ := ba h
  refine ⟨eqO_ok h1, eqO_ok h2, of_decide_eq_true h3, ?_⟩
  split at h4
  · rename_i g r e
    exact ⟨r, by rw [e, of_decide_eq_true h4]⟩
  · cases h4
def crB (K : PySem.W.Frag) (C : Addr) : Bool := PySem.W.readsIn K C (.type "type") && eqO (PySem.W.specialIn K (.ref C) "__getattribute__") (some (some (.builtin "type.__getattribute__")))
theorem crB_ok {K : PySem.W.Frag} {C : Addr} (h : crB K C = true) : ClX.CRead K C (.type "type") := by
  obtain ⟨h1, h2⟩ := ba h
  exact ⟨h1, eqO_ok h2⟩
end He

end PVJ11
section PWK11
set_option maxHeartbeats 0
namespace C11
open PySem PySem.Spec PyProof.Rows L2 He
def z0 : DefZ := ⟨fun K => ma K (ga K "InvalidValue") "__init__", "__init__", "InvalidValue.__init__", defArgs s_initIV, defBody s_initIV, defScope s_initIV, []⟩
def z1 : DefZ := ⟨fun K => ma K (ga K "InvalidMap") "__init__", "__init__", "InvalidMap.__init__", defArgs s_initIM, defBody s_initIM, defScope s_initIM, []⟩
def z2 : DefZ := ⟨fun K => ga K "is_number", "is_number", "is_number", defArgs s_is_number, defBody s_is_number, defScope s_is_number, []⟩
def z3 : DefZ := ⟨fun K => ga K "is_kind", "is_kind", "is_kind", defArgs s_is_kind, defBody s_is_kind, defScope s_is_kind, []⟩
def z4 : DefZ := ⟨fun K => ga K "is_value", "is_value", "is_value", defArgs s_is_value, defBody s_is_value, defScope s_is_value, []⟩
def z5 : DefZ := ⟨fun K => ga K "is_stretch", "is_stretch", "is_stretch", defArgs s_is_stretch, defBody s_is_stretch, defScope s_is_stretch, []⟩
def z6 : DefZ := ⟨fun K => rcA K (ga K "NumberMap") "property" "kind", "kind", "Map.kind", defArgs s_kind, defBody s_kind, defScope s_kind, []⟩
def z7 : DefZ := ⟨fun K => ma K (ga K "NumberMap") "at", "at", "Map.at", defArgs s_mat, defBody s_mat, defScope s_mat, []⟩
def z8 : DefZ := ⟨fun K => ma K (ga K "NumberMap") "__eq__", "__eq__", "Map.__eq__", defArgs s_meq, defBody s_meq, defScope s_meq, []⟩
def z9 : DefZ := ⟨fun K => ma K (ga K "NumberMap") "__init__", "__init__", "NumberMap.__init__", defArgs s_ninit, defBody s_ninit, defScope s_ninit, []⟩
def z10 : DefZ := ⟨fun K => rcA K (ga K "NumberMap") "classmethod" "same", "same", "NumberMap.same", defArgs s_nsame, defBody s_nsame, defScope s_nsame, []⟩
def z11 : DefZ := ⟨fun K => rcA K (ga K "NumberMap") "classmethod" "constant_map", "constant_map", "NumberMap.constant_map", defArgs s_nconst, defBody s_nconst, defScope s_nconst, []⟩
def z12 : DefZ := ⟨fun K => rcA K (ga K "NumberMap") "classmethod" "cut", "cut", "NumberMap.cut", defArgs s_ncut, defBody s_ncut, defScope s_ncut, []⟩
def z13 : DefZ := ⟨fun K => rcA K (ga K "NumberMap") "classmethod" "reset", "reset", "NumberMap.reset", defArgs s_nreset, defBody s_nreset, defScope s_nreset, []⟩
def z14 : DefZ := ⟨fun K => ma K (ga K "NumberMap") "pieces", "pieces", "NumberMap.pieces", defArgs s_npieces, defBody s_npieces, defScope s_npieces, []⟩
def z15 : DefZ := ⟨fun K => ma K (ga K "NumberMap") "__repr__", "__repr__", "NumberMap.__repr__", defArgs s_nrepr, defBody s_nrepr, defScope s_nrepr, []⟩
def z16 : DefZ := ⟨fun K => ma K (ga K "NumberMap") "_result", "_result", "NumberMap._result", defArgs s_nresult, defBody s_nresult, defScope s_nresult, []⟩
def z17 : DefZ := ⟨fun K => ma K (ga K "NumberMap") "_content", "_content", "NumberMap._content", defArgs s_ncontent, defBody s_ncontent, defScope s_ncontent, []⟩
def z18 : DefZ := ⟨fun K => ma K (ga K "TextMap") "__init__", "__init__", "TextMap.__init__", defArgs s_tinit, defBody s_tinit, defScope s_tinit, [.non, .non]⟩
def z19 : DefZ := ⟨fun K => ma K (ga K "TextMap") "_usual", "_usual", "TextMap._usual", defArgs s_usual, defBody s_usual, defScope s_usual, []⟩
def z20 : DefZ := ⟨fun K => ga K "_is_piece", "_is_piece", "_is_piece", defArgs s_is_piece, defBody s_is_piece, defScope s_is_piece, []⟩
def z21 : DefZ := ⟨fun K => ga K "_normal_pieces", "_normal_pieces", "_normal_pieces", defArgs s_pieces, defBody s_pieces, defScope s_pieces, []⟩
def z22 : DefZ := ⟨fun K => ga K "_normal_what", "_normal_what", "_normal_what", defArgs s_what, defBody s_what, defScope s_what, []⟩
def z23 : DefZ := ⟨fun K => ga K "_described", "_described", "_described", defArgs s_described, defBody s_described, defScope s_described, []⟩
def z24 : DefZ := ⟨fun K => ga K "_taken", "_taken", "_taken", defArgs s_taken, defBody s_taken, defScope s_taken, []⟩
def z25 : DefZ := ⟨fun K => ga K "_pieces_around", "_pieces_around", "_pieces_around", defArgs s_around, defBody s_around, defScope s_around, []⟩
def z26 : DefZ := ⟨fun K => ga K "_place_of", "_place_of", "_place_of", defArgs s_place, defBody s_place, defScope s_place, []⟩
def z27 : DefZ := ⟨fun K => ga K "_law_pot", "_law_pot", "_law_pot", defArgs sPot, defBody sPot, defScope sPot, []⟩
def z28 : DefZ := ⟨fun K => ga K "_law_draw", "_law_draw", "_law_draw", defArgs sDraw, defBody sDraw, defScope sDraw, []⟩
def z29 : DefZ := ⟨fun K => ga K "_law_pick", "_law_pick", "_law_pick", defArgs sPick, defBody sPick, defScope sPick, []⟩
def z30 : DefZ := ⟨fun K => ga K "_law_limit", "_law_limit", "_law_limit", defArgs s_limit, defBody s_limit, defScope s_limit, []⟩
def z31 : DefZ := ⟨fun K => ga K "_law_rows", "_law_rows", "_law_rows", defArgs s_rows, defBody s_rows, defScope s_rows, []⟩
def z32 : DefZ := ⟨fun K => ga K "_law_within", "_law_within", "_law_within", defArgs s_within, defBody s_within, defScope s_within, []⟩
def z33 : DefZ := ⟨fun K => ga K "_law_at", "_law_at", "_law_at", defArgs s_at, defBody s_at, defScope s_at, []⟩
def z34 : DefZ := ⟨fun K => ga K "_law_points", "_law_points", "_law_points", defArgs s_points, defBody s_points, defScope s_points, []⟩
def z35 : DefZ := ⟨fun K => ga K "_law_parts", "_law_parts", "_law_parts", defArgs s_parts, defBody s_parts, defScope s_parts, []⟩
def z36 : DefZ := ⟨fun K => ga K "_law_more_rows", "_law_more_rows", "_law_more_rows", defArgs s_more, defBody s_more, defScope s_more, []⟩
def z37 : DefZ := ⟨fun K => ga K "_law_is_stated", "_law_is_stated", "_law_is_stated", defArgs s_stated, defBody s_stated, defScope s_stated, []⟩
def z38 : DefZ := ⟨fun K => ga K "_law_agrees", "_law_agrees", "_law_agrees", defArgs s_agrees, defBody s_agrees, defScope s_agrees, []⟩
def z39 : DefZ := ⟨fun K => ga K "_law_told_right", "_law_told_right", "_law_told_right", defArgs s_told, defBody s_told, defScope s_told, []⟩
def z40 : DefZ := ⟨fun K => ga K "_law_two_right", "_law_two_right", "_law_two_right", defArgs s_two, defBody s_two, defScope s_two, []⟩
def z41 : DefZ := ⟨fun K => ga K "_law_made_right", "_law_made_right", "_law_made_right", defArgs s_made, defBody s_made, defScope s_made, []⟩
def z42 : DefZ := ⟨fun K => ga K "_law_refused", "_law_refused", "_law_refused", defArgs s_refused, defBody s_refused, defScope s_refused, []⟩
def z43 : DefZ := ⟨fun K => ga K "_law_right", "_law_right", "_law_right", defArgs s_right, defBody s_right, defScope s_right, []⟩
def z44 : DefZ := ⟨fun K => ga K "law", "law", "law", defArgs s_law, defBody s_law, defScope s_law, []⟩
def znA : List DefZ := [z0, z1, z2, z3, z4, z5, z6, z7, z8, z9, z10, z11, z12, z13, z14, z15, z16, z17, z18, z19]
def znB : List DefZ := [z20, z21, z22, z23, z24, z25, z26, z27, z28, z29, z30, z31, z32, z33, z34, z35, z36, z37, z38, z39, z40, z41, z42, z43, z44]
def zn : List DefZ := znA ++ znB
def frees : List Str := ["isinstance", "repr", "all", "len", "max", "abs", "int", "divmod", "range", "min", "str", "bool", "dict", "list", "set", "sorted", "tuple"]
def gloA : List Str := ["InvalidValue", "InvalidMap", "Map", "NumberMap", "TextMap", "is_number", "is_kind", "is_value", "is_stretch", "_is_piece", "_normal_pieces", "_normal_what"]
def gloB : List Str := ["_described", "_taken", "_pieces_around", "_place_of", "_law_pot", "_law_draw", "_law_pick", "_law_limit", "_law_rows", "_law_within", "_law_at", "_law_points", "_law_parts", "_law_more_rows", "_law_is_stated", "_law_agrees", "_law_told_right", "_law_two_right", "_law_made_right", "_law_refused", "_law_right", "law"]
def glos : List Str := gloA ++ gloB
abbrev gT (K : PySem.W.Frag) : Addr := ga K "TextMap"
abbrev gN (K : PySem.W.Frag) : Addr := ga K "NumberMap"
abbrev gM (K : PySem.W.Frag) : Addr := ga K "Map"
abbrev gV (K : PySem.W.Frag) : Addr := ga K "InvalidValue"
abbrev gI (K : PySem.W.Frag) : Addr := ga K "InvalidMap"
def fas : List Fa := [.cls "TextMap", .cls "NumberMap", .noat "TextMap" "_exceptions", .noat "TextMap" "_rest", .noat "NumberMap" "_pieces", .meth "TextMap" "_usual", .meth "NumberMap" "_result", .meth "NumberMap" "at", .meth "NumberMap" "pieces", .meth "NumberMap" "_content", .mkr "TextMap", .mkr "NumberMap", .exm "InvalidValue" "InvalidValue" true]
def xoB (K : PySem.W.Frag) (C : Addr) (f : Str) : Bool := xcB K C && (eqO (PySem.W.findIn K (.ref C) "__init__") (some (some (.ref (ma K C "__init__")))) && (decide (PySem.W.typeIn K (.ref (ma K C "__init__")) = some (.type "function")) && eqO (PySem.W.findIn K (.ref C) f) (some none)))
def tcB (K : PySem.W.Frag) (C : Str) (kd : Str) : Bool := eqO (PySem.W.findIn K (.ref (ga K C)) "__class__") (some (some (.builtin "object.__class__"))) && (eqO (PySem.W.specialIn K (.builtin "object.__class__") "__get__") (some (some (.builtin "getset_descriptor.__get__"))) && (decide (PySem.W.takesIn K (.builtin "object.__class__") = some true) &&
  (decide (PySem.W.mroIn K (ga K C) (.type "object") = some true) && (decide (PySem.W.kitOne K (.ref (ga K C)) (.ref (gM K)) = some true) && conB K C "KIND" (.str kd)))))
def eqB (K : PySem.W.Frag) (C : Addr) : Bool := eqO (PySem.W.findIn K (.ref C) "__eq__") (some (some (.ref (ma K C "__eq__")))) && (PySem.W.isFn K (.ref (ma K C "__eq__")) && (eqO (PySem.W.findIn K (.ref C) "__ne__") (some (some (.builtin "object.__ne__"))) && (decide (PySem.W.mroIn K C (.type "object") = some true) &&
  (eqO (PySem.W.findIn K (.ref C) "__repr__") (some (some (.ref (ma K C "__repr__")))) && PySem.W.isFn K (.ref (ma K C "__repr__"))))))
def otB (K : PySem.W.Frag) : Bool := decide (PySem.W.kitOne K (.type "list") (.ref (gM K)) = some false) && (PySem.W.notFirst K (gN K) (.type "list") && (PySem.W.notFirst K (gN K) (.ref (gT K)) && (decide (PySem.W.kitOne K (.ref (gN K)) (.type "int") = some false) && (decide (PySem.W.kitOne K (.ref (gN K)) (.type "bool") = some false) && noMods K))))
def exK (K : PySem.W.Frag) : Bool := (fas.all fun f => f.ok K) && ((frees.all fun x => eqO (PySem.W.nsIn K mainGlobals x) (some none)) && ((glos.all fun x => eqO (PySem.W.nsIn K mainGlobals x) (some (some (.ref (ga K x))))) && (xoB K (gV K) "value" && (xoB K (gI K) "position" && (tcB K "TextMap" "text" && (tcB K "NumberMap" "number" && (eqB K (gN K) &&
  (prB K (gN K) "kind" && (crB K (gN K) && (cmB K (gN K) "same" && (cmB K (gN K) "constant_map" && (cmB K (gN K) "cut" && (cmB K (gN K) "reset" && otB K)))))))))))))
abbrev R : PySem.W.OpenRow := PySem.W.OpenLaw.row PySem.Challenge.rw_keptedits_k11_whole_maps_of_numbers
abbrev hk : PySem.W.Hook := hookZ 5 zn exK
def ob (s : PySem.W.SharedT) : Bool × List FnW := obsZ 5 zn exK (HandSHeadRun.getT s)
theorem ob_eq (s : PySem.W.SharedT) : ob s = hk.obs s.abs := obsZ_eq (HandSHeadRun.getT_eq s)
def looseA : List Str := ["_wall", "KeptError", "InvalidValue", "InvalidMap", "TEXT_LENGTH", "is_number", "is_word", "is_kind", "is_value", "is_stretch", "Map", "NumberMap", "TextMap", "_is_piece", "_normal_pieces", "_normal_what", "_described", "_taken", "_pieces_around", "_place_of"]
def looseB : List Str := ["_law_pot", "_law_draw", "_law_pick", "_law_limit", "_law_rows", "_law_within", "_law_at", "_law_points", "_law_parts", "_law_more_rows", "_law_is_stated", "_law_agrees", "_law_told_right", "_law_two_right", "_law_made_right", "_law_refused", "_law_right"]
def loose : List Str := looseA ++ looseB
theorem run (w : World) : HandSHeadRun.RunEq R (PySem.W.view R.prog [41]) hk ob 9000 loose w := by
  intro os
  kernel_rfl
end C11

end PWK11
section PXL11
set_option maxHeartbeats 0
namespace C11
open PySem PySem.Spec PyProof.Rows L2 He
structure Facts (K : PySem.W.Frag) : Prop where
  a : ∀ f, f ∈ fas → f.ok K = true
  f : ∀ x, x ∈ frees → eqO (PySem.W.nsIn K mainGlobals x) (some none) = true
  g : ∀ x, x ∈ glos → eqO (PySem.W.nsIn K mainGlobals x) (some (some (.ref (ga K x)))) = true
  xv : xoB K (gV K) "value" = true
  xi : xoB K (gI K) "position" = true
  tt : tcB K "TextMap" "text" = true
  tn : tcB K "NumberMap" "number" = true
  eq : eqB K (gN K) = true
  pk : prB K (gN K) "kind" = true
  cn : crB K (gN K) = true
  ms : cmB K (gN K) "same" = true
  mc : cmB K (gN K) "constant_map" = true
  mu : cmB K (gN K) "cut" = true
  mr : cmB K (gN K) "reset" = true
  ot : otB K = true
theorem facts_of {K : PySem.W.Frag} (h : exK K = true) : Facts K := by
  obtain ⟨h_a, h⟩ := ba h
  obtain ⟨h_f, h⟩ := ba h
  obtain ⟨h_g, h⟩ := ba h
  obtain ⟨h_xv, h⟩ := ba h
  obtain ⟨h_xi, h⟩ := ba h
  obtain ⟨h_tt, h⟩ := ba h
  obtain ⟨h_tn, h⟩ := ba h
  obtain ⟨h_eq, h⟩ := ba h
  obtain ⟨h_pk, h⟩ := ba h
  obtain ⟨h_cn, h⟩ := ba h
  obtain ⟨h_ms, h⟩ := ba h
  obtain ⟨h_mc, h⟩ := ba h
  obtain ⟨h_mu, h⟩ := ba h
  obtain ⟨h_mr, h⟩ := ba h
  exact ⟨fun x hx => List.all_eq_true.mp h_a x hx, fun x hx => List.all_eq_true.mp h_f x hx, fun x hx => List.all_eq_true.mp h_g x hx, h_xv, h_xi, h_tt, h_tn, h_eq, h_pk, h_cn, h_ms, h_mc, h_mu, h_mr, h⟩
section
variable {P : Program} {w : World} {K : PySem.W.Frag} {h base : Heap} {mg : Str → Option Value}
theorem free_at (X : K.In h) (G : h.Ns mainGlobals mg) (c : Facts K) {x : Str} (hx : x ∈ frees) : mg x = none := PySem.W.mg_none_of X G (eqO_ok (c.f x hx))
theorem glo_at (X : K.In h) (G : h.Ns mainGlobals mg) (c : Facts K) {x : Str} (hx : x ∈ glos) : mg x = some (.ref (ga K x)) := PySem.W.mg_of X G (eqO_ok (c.g x hx))
theorem xo_at {C fI : Addr} {dI : FuncData} {xn f : Str} (e : xoB K C f = true) (hf : fI = ma K C "__init__") (hm : mg xn = some (.ref C)) (hg : FnOk P w K mg base CX0 1 fI dI ["self", f] (spXI K f)) (hb : KBn K dI ["self", f] 2 [] (fun us _ => us) (fun us _ => us)) : XcO P w K mg base C fI dI xn f := by
  obtain ⟨h1, e⟩ := ba e
  obtain ⟨h2, e⟩ := ba e
  obtain ⟨h3, h4⟩ := ba e
  subst hf
  exact ⟨xcB_ok h1, eqO_ok h2, of_decide_eq_true h3, hm, eqO_ok h4, hg, hb⟩
theorem tc_at {C kd : Str} (e : tcB K C kd = true) (hc : Cls K (ga K C)) : TcO K (ga K C) (gM K) kd := by
  obtain ⟨h1, e⟩ := ba e
  obtain ⟨h2, e⟩ := ba e
  obtain ⟨h3, e⟩ := ba e
  obtain ⟨h4, e⟩ := ba e
  obtain ⟨h5, h6⟩ := ba e
  exact ⟨hc, eqO_ok h1, eqO_ok h2, of_decide_eq_true h3, of_decide_eq_true h4, of_decide_eq_true h5, conB_ok h6⟩
end
theorem facts {P : Program} {w : World} {K : PySem.W.Frag} {h : Heap} {mg : Str → Option Value} {f : Addr} (X : K.In h) (G : h.Ns mainGlobals mg) (hfa : mg ("law" : Str) = some (.ref f)) (cc : SaysZ zn exK K) :
    ∃ fd : FuncData, (∀ (s : Shared) (v : Value), BindsTo s fd ⟨[v], []⟩ [("_law_script", v)]) ∧ ∀ base : Heap, K.In base → base.Ns mainGlobals mg → FnG P w K mg base CX0 9 f fd ["_law_script"] (spLaw K) := by
  have c := facts_of cc.more
  obtain ⟨d0, D0⟩ := cc.def_ 0 (d := z0) rfl
  obtain ⟨d1, D1⟩ := cc.def_ 1 (d := z1) rfl
  obtain ⟨d2, D2⟩ := cc.def_ 2 (d := z2) rfl
  obtain ⟨d3, D3⟩ := cc.def_ 3 (d := z3) rfl
  obtain ⟨d4, D4⟩ := cc.def_ 4 (d := z4) rfl
  obtain ⟨d5, D5⟩ := cc.def_ 5 (d := z5) rfl
  obtain ⟨d6, D6⟩ := cc.def_ 6 (d := z6) rfl
  obtain ⟨d7, D7⟩ := cc.def_ 7 (d := z7) rfl
  obtain ⟨d8, D8⟩ := cc.def_ 8 (d := z8) rfl
  obtain ⟨d9, D9⟩ := cc.def_ 9 (d := z9) rfl
  obtain ⟨d10, D10⟩ := cc.def_ 10 (d := z10) rfl
  obtain ⟨d11, D11⟩ := cc.def_ 11 (d := z11) rfl
  obtain ⟨d12, D12⟩ := cc.def_ 12 (d := z12) rfl
  obtain ⟨d13, D13⟩ := cc.def_ 13 (d := z13) rfl
  obtain ⟨d14, D14⟩ := cc.def_ 14 (d := z14) rfl
  obtain ⟨d15, D15⟩ := cc.def_ 15 (d := z15) rfl
  obtain ⟨d16, D16⟩ := cc.def_ 16 (d := z16) rfl
  obtain ⟨d17, D17⟩ := cc.def_ 17 (d := z17) rfl
  obtain ⟨d18, D18⟩ := cc.def_ 18 (d := z18) rfl
  obtain ⟨d19, D19⟩ := cc.def_ 19 (d := z19) rfl
  obtain ⟨d20, D20⟩ := cc.def_ 20 (d := z20) rfl
  obtain ⟨d21, D21⟩ := cc.def_ 21 (d := z21) rfl
  obtain ⟨d22, D22⟩ := cc.def_ 22 (d := z22) rfl
  obtain ⟨d23, D23⟩ := cc.def_ 23 (d := z23) rfl
  obtain ⟨d24, D24⟩ := cc.def_ 24 (d := z24) rfl
  obtain ⟨d25, D25⟩ := cc.def_ 25 (d := z25) rfl
  obtain ⟨d26, D26⟩ := cc.def_ 26 (d := z26) rfl
  obtain ⟨d27, D27⟩ := cc.def_ 27 (d := z27) rfl
  obtain ⟨d28, D28⟩ := cc.def_ 28 (d := z28) rfl
  obtain ⟨d29, D29⟩ := cc.def_ 29 (d := z29) rfl
  obtain ⟨d30, D30⟩ := cc.def_ 30 (d := z30) rfl
  obtain ⟨d31, D31⟩ := cc.def_ 31 (d := z31) rfl
  obtain ⟨d32, D32⟩ := cc.def_ 32 (d := z32) rfl
  obtain ⟨d33, D33⟩ := cc.def_ 33 (d := z33) rfl
  obtain ⟨d34, D34⟩ := cc.def_ 34 (d := z34) rfl
  obtain ⟨d35, D35⟩ := cc.def_ 35 (d := z35) rfl
  obtain ⟨d36, D36⟩ := cc.def_ 36 (d := z36) rfl
  obtain ⟨d37, D37⟩ := cc.def_ 37 (d := z37) rfl
  obtain ⟨d38, D38⟩ := cc.def_ 38 (d := z38) rfl
  obtain ⟨d39, D39⟩ := cc.def_ 39 (d := z39) rfl
  obtain ⟨d40, D40⟩ := cc.def_ 40 (d := z40) rfl
  obtain ⟨d41, D41⟩ := cc.def_ 41 (d := z41) rfl
  obtain ⟨d42, D42⟩ := cc.def_ 42 (d := z42) rfl
  obtain ⟨d43, D43⟩ := cc.def_ 43 (d := z43) rfl
  obtain ⟨d44, D44⟩ := cc.def_ 44 (d := z44) rfl
  have fr : ∀ x, x ∈ frees → mg x = none := fun x hx => free_at X G c hx
  have gl : ∀ x, x ∈ glos → mg x = some (.ref (ga K x)) := fun x hx => glo_at X G c hx
  have fa : ∀ f, f ∈ fas → f.ok K = true := c.a
  have b2 : Binds K d2 ["value"] [] := D2.bindsN fun _ _ _ _ _ _ us hl => match us, hl with | [_], _ => rfl
  have b3 : Binds K d3 ["value"] [] := D3.bindsN fun _ _ _ _ _ _ us hl => match us, hl with | [_], _ => rfl
  have b4 : Binds K d4 ["value", "kind"] [] := D4.bindsN fun _ _ _ _ _ _ us hl => match us, hl with | [_, _], _ => rfl
  have b5 : Binds K d5 ["first", "last"] [] := D5.bindsN fun _ _ _ _ _ _ us hl => match us, hl with | [_, _], _ => rfl
  have b6 : Binds K d6 ["self"] [] := D6.bindsN fun _ _ _ _ _ _ us hl => match us, hl with | [_], _ => rfl
  have b7 : Binds K d7 ["self", "value"] [] := D7.bindsN fun _ _ _ _ _ _ us hl => match us, hl with | [_, _], _ => rfl
  have b8 : Binds K d8 ["self", "other"] [] := D8.bindsN fun _ _ _ _ _ _ us hl => match us, hl with | [_, _], _ => rfl
  have b9 : Binds K d9 ["self", "pieces"] [] := D9.bindsN fun _ _ _ _ _ _ us hl => match us, hl with | [_, _], _ => rfl
  have b10 : Binds K d10 ["cls"] [] := D10.bindsN fun _ _ _ _ _ _ us hl => match us, hl with | [_], _ => rfl
  have b11 : Binds K d11 ["cls", "value"] [] := D11.bindsN fun _ _ _ _ _ _ us hl => match us, hl with | [_, _], _ => rfl
  have b12 : Binds K d12 ["cls", "first", "last"] [] := D12.bindsN fun _ _ _ _ _ _ us hl => match us, hl with | [_, _, _], _ => rfl
  have b13 : Binds K d13 ["cls", "first", "last", "value"] [] := D13.bindsN fun _ _ _ _ _ _ us hl => match us, hl with | [_, _, _, _], _ => rfl
  have b14 : Binds K d14 ["self"] [] := D14.bindsN fun _ _ _ _ _ _ us hl => match us, hl with | [_], _ => rfl
  have b15 : Binds K d15 ["self"] [] := D15.bindsN fun _ _ _ _ _ _ us hl => match us, hl with | [_], _ => rfl
  have b16 : Binds K d16 ["self", "value"] [] := D16.bindsN fun _ _ _ _ _ _ us hl => match us, hl with | [_, _], _ => rfl
  have b17 : Binds K d17 ["self"] [] := D17.bindsN fun _ _ _ _ _ _ us hl => match us, hl with | [_], _ => rfl
  have b19 : Binds K d19 ["self", "value"] [] := D19.bindsN fun _ _ _ _ _ _ us hl => match us, hl with | [_, _], _ => rfl
  have b20 : Binds K d20 ["pieces", "position"] [] := D20.bindsN fun _ _ _ _ _ _ us hl => match us, hl with | [_, _], _ => rfl
  have b21 : Binds K d21 ["pieces"] [] := D21.bindsN fun _ _ _ _ _ _ us hl => match us, hl with | [_], _ => rfl
  have b22 : Binds K d22 ["pieces", "at", "start"] [] := D22.bindsN fun _ _ _ _ _ _ us hl => match us, hl with | [_, _, _], _ => rfl
  have b23 : Binds K d23 ["pieces", "at", "start", "what"] [] := D23.bindsN fun _ _ _ _ _ _ us hl => match us, hl with | [_, _, _, _], _ => rfl
  have b24 : Binds K d24 ["what", "value"] [] := D24.bindsN fun _ _ _ _ _ _ us hl => match us, hl with | [_, _], _ => rfl
  have b25 : Binds K d25 ["first", "last", "below", "above"] [] := D25.bindsN fun _ _ _ _ _ _ us hl => match us, hl with | [_, _, _, _], _ => rfl
  have b26 : Binds K d26 ["pieces", "value"] [] := D26.bindsN fun _ _ _ _ _ _ us hl => match us, hl with | [_, _], _ => rfl
  have b27 : Binds K d27 ["_law_script", "_law_k"] [] := D27.bindsN fun _ _ _ _ _ _ us hl => match us, hl with | [_, _], _ => rfl
  have b28 : Binds K d28 ["_law_pot_here", "_law_many"] [] := D28.bindsN fun _ _ _ _ _ _ us hl => match us, hl with | [_, _], _ => rfl
  have b29 : Binds K d29 ["_law_pot_here", "_law_some"] [] := D29.bindsN fun _ _ _ _ _ _ us hl => match us, hl with | [_, _], _ => rfl
  have b30 : Binds K d30 ["_law_pot_here"] [] := D30.bindsN fun _ _ _ _ _ _ us hl => match us, hl with | [_], _ => rfl
  have b31 : Binds K d31 ["_law_pot_here"] [] := D31.bindsN fun _ _ _ _ _ _ us hl => match us, hl with | [_], _ => rfl
  have b32 : Binds K d32 ["_law_low", "_law_number", "_law_high"] [] := D32.bindsN fun _ _ _ _ _ _ us hl => match us, hl with | [_, _, _], _ => rfl
  have b33 : Binds K d33 ["_law_rows_here", "_law_number"] [] := D33.bindsN fun _ _ _ _ _ _ us hl => match us, hl with | [_, _], _ => rfl
  have b34 : Binds K d34 ["_law_rows_here"] [] := D34.bindsN fun _ _ _ _ _ _ us hl => match us, hl with | [_], _ => rfl
  have b35 : Binds K d35 ["_law_low", "_law_at_here", "_law_high", "_law_what"] [] := D35.bindsN fun _ _ _ _ _ _ us hl => match us, hl with | [_, _, _, _], _ => rfl
  have b36 : Binds K d36 ["_law_pot_here", "_law_rows_here"] [] := D36.bindsN fun _ _ _ _ _ _ us hl => match us, hl with | [_, _], _ => rfl
  have b37 : Binds K d37 ["_law_rows_here"] [] := D37.bindsN fun _ _ _ _ _ _ us hl => match us, hl with | [_], _ => rfl
  have b38 : Binds K d38 ["_law_mapping", "_law_rows_here", "_law_points_here"] [] := D38.bindsN fun _ _ _ _ _ _ us hl => match us, hl with | [_, _, _], _ => rfl
  have b39 : Binds K d39 ["_law_pot_here", "_law_mapping", "_law_rows_here"] [] := D39.bindsN fun _ _ _ _ _ _ us hl => match us, hl with | [_, _, _], _ => rfl
  have b40 : Binds K d40 ["_law_rows_here", "_law_others"] [] := D40.bindsN fun _ _ _ _ _ _ us hl => match us, hl with | [_, _], _ => rfl
  have b41 : Binds K d41 ["_law_pot_here"] [] := D41.bindsN fun _ _ _ _ _ _ us hl => match us, hl with | [_], _ => rfl
  have b42 : Binds K d42 ["_law_mapping", "_law_thing"] [] := D42.bindsN fun _ _ _ _ _ _ us hl => match us, hl with | [_, _], _ => rfl
  have b43 : Binds K d43 ["_law_pot_here"] [] := D43.bindsN fun _ _ _ _ _ _ us hl => match us, hl with | [_], _ => rfl
  have bNone := D18.binds1 (ps := ["self", "exceptions", "rest"]) 1 0 (by simp [DefZ.dvs, z18]) (by simp [DefZ.dvs, z18]) fun T kV doc pm an cdv ct us its hl hi => match us, hl, its, hi with | [_], _, [_, _], _ => ⟨_, rfl, rfl⟩
  have k0 : KBn K d0 ["self", "value"] 2 [] (fun us _ => us) (fun us _ => us) := D0.kbn 2 (fun us _ => us) (fun r _ => r) fun _ _ _ _ _ _ us ws hl hw => match us, hl, ws, hw with | [_, _], _, [], _ => rfl
  have k1 : KBn K d1 ["self", "position"] 2 [] (fun us _ => us) (fun us _ => us) := D1.kbn 2 (fun us _ => us) (fun r _ => r) fun _ _ _ _ _ _ us ws hl hw => match us, hl, ws, hw with | [_, _], _, [], _ => rfl
  have e := hfa.symm.trans (gl "law" (by decide +kernel))
  cases e
  have b := FunD.bindsA (ps := ["_law_script"]) D44 fun _ _ _ _ _ _ us hl => match us, hl with | [_], _ => rfl
  refine ⟨d44, fun s v => b s [v] rfl, fun base _ _ => ?_⟩
  have hT : TMc K (gT K) := ⟨cls_ok (fa _ (by simp [fas] : Fa.cls "TextMap" ∈ fas)), noat_ok (fa _ (by simp [fas] : Fa.noat "TextMap" "_rest" ∈ fas)), noat_ok (fa _ (by simp [fas] : Fa.noat "TextMap" "_exceptions" ∈ fas))⟩
  have hN : NMc K (gN K) := ⟨cls_ok (fa _ (by simp [fas] : Fa.cls "NumberMap" ∈ fas)), noat_ok (fa _ (by simp [fas] : Fa.noat "NumberMap" "_pieces" ∈ fas))⟩
  have oT := tc_at c.tt hT.cl
  have oN := tc_at c.tn hN.cl
  have mU := meth_ok (fa _ (by simp [fas] : Fa.meth "TextMap" "_usual" ∈ fas))
  have mR := meth_ok (fa _ (by simp [fas] : Fa.meth "NumberMap" "_result" ∈ fas))
  have mA := meth_ok (fa _ (by simp [fas] : Fa.meth "NumberMap" "at" ∈ fas))
  have mP := meth_ok (fa _ (by simp [fas] : Fa.meth "NumberMap" "pieces" ∈ fas))
  have mC := meth_ok (fa _ (by simp [fas] : Fa.meth "NumberMap" "_content" ∈ fas))
  have kT := mkr_ok (fa _ (by simp [fas] : Fa.mkr "TextMap" ∈ fas))
  have kN := mkr_ok (fa _ (by simp [fas] : Fa.mkr "NumberMap" ∈ fas))
  have hx := exm_ok (fa _ (by simp [fas] : Fa.exm "InvalidValue" "InvalidValue" true ∈ fas))
  obtain ⟨o1, oo⟩ := ba c.ot
  obtain ⟨o2, oo⟩ := ba oo
  obtain ⟨o3, oo⟩ := ba oo
  obtain ⟨o4, oo⟩ := ba oo
  obtain ⟨o5, hK⟩ := ba oo
  obtain ⟨q1, qq⟩ := ba c.eq
  obtain ⟨q2, qq⟩ := ba qq
  obtain ⟨q3, qq⟩ := ba qq
  obtain ⟨q4, qq⟩ := ba qq
  obtain ⟨q5, q6⟩ := ba qq
  have TPf : TxtP K mg := ⟨fr _ (by decide +kernel), fr _ (by decide +kernel), fr _ (by decide +kernel), fr _ (by decide +kernel), fr _ (by decide +kernel)⟩
  have TWf : TW mg := ⟨fr _ (by decide +kernel), fr _ (by decide +kernel), fr _ (by decide +kernel)⟩
  have TSf : TS11 mg := ⟨fr _ (by decide +kernel), fr _ (by decide +kernel), fr _ (by decide +kernel)⟩
  have TIf : TI11 mg := ⟨fr _ (by decide +kernel), fr _ (by decide +kernel), fr _ (by decide +kernel), fr _ (by decide +kernel), fr _ (by decide +kernel)⟩
  have TI5 : TI15 mg := ⟨fr _ (by decide +kernel), fr _ (by decide +kernel), fr _ (by decide +kernel)⟩
  have TRf : TR11 mg := ⟨fr _ (by decide +kernel), fr _ (by decide +kernel), fr _ (by decide +kernel), fr _ (by decide +kernel)⟩
  have T0f : TT0 mg := ⟨fr _ (by decide +kernel), trivial, fr _ (by decide +kernel)⟩
  have XV : XcO P w K mg base (gV K) _ d0 "InvalidValue" "value" := xo_at c.xv rfl (gl _ (by decide +kernel)) (ok_initIV D0) k0
  have XM : XcO P w K mg base (gI K) _ d1 "InvalidMap" "position" := xo_at c.xi rfl (gl _ (by decide +kernel)) (ok_initIM D1) k1
  have NU : Kn P w K mg base 1 "is_number" _ d2 _ (spIsNumber K) := ⟨ok_is_number D2 TWf (fr _ (by decide +kernel)) (fr _ (by decide +kernel)), b2, gl _ (by decide +kernel), D2.kp⟩
  have KI : Kn P w K mg base 1 "is_kind" _ d3 _ (spIsKindN K) := ⟨ok_is_kindN D3 TWf, b3, gl _ (by decide +kernel), D3.kp⟩
  have VA : Kn P w K mg base 2 "is_value" _ d4 _ (spIsValN K) := ⟨ok_is_valN D4 KI NU, b4, gl _ (by decide +kernel), D4.kp⟩
  have ST : Kn P w K mg base 2 "is_stretch" _ d5 _ spStretch := ⟨ok_stretch D5 TWf NU, b5, gl _ (by decide +kernel), D5.kp⟩
  have WH : Kn P w K mg base 1 "_normal_what" _ d22 _ spWhat := ⟨ok_what D22, b22, gl _ (by decide +kernel), D22.kp⟩
  have TK : Kn P w K mg base 1 "_taken" _ d24 _ spTaken := ⟨ok_taken D24, b24, gl _ (by decide +kernel), D24.kp⟩
  have DE : Kn P w K mg base 2 "_described" _ d23 _ spDescr := ⟨ok_described D23 TK, b23, gl _ (by decide +kernel), D23.kp⟩
  have IP : Kn P w K mg base 3 "_is_piece" _ d20 _ spPiece := ⟨ok_piece D20 TWf (fr _ (by decide +kernel)) ST NU, b20, gl _ (by decide +kernel), D20.kp⟩
  have NP : Kn P w K mg base 3 "_normal_pieces" _ d21 _ spPieces := ⟨ok_pieces D21 (fr _ (by decide +kernel)) WH DE, b21, gl _ (by decide +kernel), D21.kp⟩
  have PLC : Kn P w K mg base 1 "_place_of" _ d26 _ spPlace := ⟨ok_place D26 (fr _ (by decide +kernel)), b26, gl _ (by decide +kernel), D26.kp⟩
  have AR : Kn P w K mg base 1 "_pieces_around" _ d25 _ spAround := ⟨ok_around D25, b25, gl _ (by decide +kernel), D25.kp⟩
  have NI := ok_ninit (P := P) (w := w) (mg := mg) (base := base) D9 TWf (fr _ (by decide +kernel)) (fr _ (by decide +kernel)) (fr _ (by decide +kernel)) hN IP NP
  have MN : MkN P w K mg base (gN K) _ d9 := ⟨kN, NI, b9, gl _ (by decide +kernel)⟩
  have GR := ok_result (P := P) (w := w) (mg := mg) (base := base) D16 hN TK PLC
  have GN := ok_at_n (P := P) (w := w) (mg := mg) (base := base) D7 hN oN VA GR b16 mR
  have GX := ok_at_x (P := P) (w := w) (mg := mg) (base := base) D7 hN oN VA GR b16 mR XV
  have GP := ok_npieces (P := P) (w := w) (mg := mg) (base := base) D14 hN (fr _ (by decide +kernel))
  have GC := ok_content (P := P) (w := w) (mg := mg) (base := base) D17 hN
  have GU := ok_usualNo (P := P) (w := w) (mg := mg) (base := base) D19
  have MT : MkT P w K mg base (gT K) _ d18 := ⟨kT, ok_tinit D18 TI5 hT VA GU b19 mU XM, bNone, gl _ (by decide +kernel)⟩
  have EF : EqF P w K mg base (gN K) (gT K) _ d8 := ⟨⟨eqO_ok q1, q2, eqO_ok q3, of_decide_eq_true q4⟩, ok_meq D8 hN oN oT (of_decide_eq_true o1) (fr _ (by decide +kernel)) (gl _ (by decide +kernel)) GC b17 mC, b8⟩
  have RF : ReF P w K mg base (gN K) _ d15 := ⟨eqO_ok q5, q6, ok_nrepr D15 hN (fr _ (by decide +kernel)) hK, b15⟩
  have RW := ok_nreprW (P := P) (w := w) (mg := mg) (base := base) D15 hN (fr _ (by decide +kernel)) hK
  have PR : PrF P w K mg base (gN K) _ _ d6 "kind" (spKind (gN K)) := ⟨prB_ok c.pk, ok_kind D6 oN, b6⟩
  have CS : CMk P w K mg base (gN K) (.type "type") "same" _ _ d10 ["cls"] (spSame (gN K)) := ⟨crB_ok c.cn, cmB_ok c.ms, ok_nsame D10 MN, b10⟩
  have CC : CMk P w K mg base (gN K) (.type "type") "constant_map" _ _ d11 ["cls", "value"] (spConst (gN K)) := ⟨crB_ok c.cn, cmB_ok c.mc, ok_nconst D11 MN NU, b11⟩
  have CU : CMk P w K mg base (gN K) (.type "type") "cut" _ _ d12 ["cls", "first", "last"] (spCut (gN K)) := ⟨crB_ok c.cn, cmB_ok c.mu, ok_ncut D12 MN ST AR, b12⟩
  have CR : CMk P w K mg base (gN K) (.type "type") "reset" _ _ d13 ["cls", "first", "last", "value"] (spReset (gN K)) := ⟨crB_ok c.cn, cmB_ok c.mr, ok_nreset D13 MN ST NU AR, b13⟩
  have PO : Kn P w K mg base 1 "_law_pot" _ d27 _ (spPot K) := ⟨ok_pot D27 TPf, b27, gl _ (by decide +kernel), D27.kp⟩
  have DR : Kn P w K mg base 1 "_law_draw" _ d28 _ spDraw := ⟨ok_draw D28 TPf, b28, gl _ (by decide +kernel), D28.kp⟩
  have PL : Kn P w K mg base 2 "_law_pick" _ d29 _ (spPick K) := ⟨ok_pick D29 TPf DR.f DR.b DR.m DR.k, b29, gl _ (by decide +kernel), D29.kp⟩
  have LM : Kn P w K mg base 3 "_law_limit" _ d30 _ spLimit := ⟨ok_limit D30 DR PL, b30, gl _ (by decide +kernel), D30.kp⟩
  have RO : Kn P w K mg base 4 "_law_rows" _ d31 _ spRows := ⟨ok_rows D31 TSf DR PL LM, b31, gl _ (by decide +kernel), D31.kp⟩
  have WI : Kn P w K mg base 1 "_law_within" _ d32 _ spWithin := ⟨ok_within D32, b32, gl _ (by decide +kernel), D32.kp⟩
  have AT : Kn P w K mg base 2 "_law_at" _ d33 _ spAt := ⟨ok_at D33 WI, b33, gl _ (by decide +kernel), D33.kp⟩
  have PT : Kn P w K mg base 1 "_law_points" _ d34 _ spPoints := ⟨ok_points D34 TSf, b34, gl _ (by decide +kernel), D34.kp⟩
  have PA : Kn P w K mg base 2 "_law_parts" _ d35 _ spParts := ⟨ok_parts D35 WI, b35, gl _ (by decide +kernel), D35.kp⟩
  have MO : Kn P w K mg base 3 "_law_more_rows" _ d36 _ spMore := ⟨ok_more D36 DR PA, b36, gl _ (by decide +kernel), D36.kp⟩
  have SD : Kn P w K mg base 1 "_law_is_stated" _ d37 _ spStated := ⟨ok_stated D37 TIf, b37, gl _ (by decide +kernel), D37.kp⟩
  have AG : KnG P w K mg base 4 "_law_agrees" _ d38 _ (spAgrees (gN K)) := ⟨ok_agrees D38 hN (fr _ (by decide +kernel)) hK GN b7 mA AT, b38, gl _ (by decide +kernel), D38.kp⟩
  have TL : KnG P w K mg base 6 "_law_told_right" _ d39 _ (spTold (gN K)) := ⟨ok_told D39 hN TIf (fr _ (by decide +kernel)) hK PT GP b14 mP SD AT EF RF MN MO, b39, gl _ (by decide +kernel), D39.kp⟩
  have TT : Kn P w K mg base 6 "_law_two_right" _ d40 _ spTwo := ⟨ok_two D40 TIf PT AT EF MN, b40, gl _ (by decide +kernel), D40.kp⟩
  have MA : KnG P w K mg base 7 "_law_made_right" _ d41 _ spMade := ⟨ok_made D41 TSf (gl _ (by decide +kernel)) PL LM PT AG CS CC CU CR, b41, gl _ (by decide +kernel), D41.kp⟩
  have RE : KnG P w K mg base 4 "_law_refused" _ d42 _ (spRefused K (gN K)) := ⟨ok_refused D42 hN (fr _ (by decide +kernel)) hK GX b7 mA XV RW hx RF, b42, gl _ (by decide +kernel), D42.kp⟩
  have RI : KnG P w K mg base 8 "_law_right" _ d43 _ spMade := ⟨ok_right D43 TRf hK hN oN (of_decide_eq_true o4) (of_decide_eq_true o5) o2 o3 DR PL RO PT AG TL TT MA RE EF MN MT PR, b43, gl _ (by decide +kernel), D43.kp⟩
  exact ok_law9 D44 T0f (fr _ (by decide +kernel)) (fr _ (by decide +kernel)) (fr _ (by decide +kernel)) PO RI
end C11
open PySem PySem.W PySem.Calls PyProof.Rows
theorem PySem.Challenge.cw_keptedits_k11_whole_maps_of_numbers_holds : PySem.Challenge.rw_keptedits_k11_whole_maps_of_numbers.Holds := by
  w_on; o_law
  refine HandSHeadRun.head_any (r := OpenLaw.row PySem.Challenge.rw_keptedits_k11_whole_maps_of_numbers) (q := view (OpenLaw.row PySem.Challenge.rw_keptedits_k11_whole_maps_of_numbers).prog [41]) (H := C11.hk) (ob := C11.ob) (M := 9000) (loose := C11.loose) (d := HandSHeadRun.topDef (OpenLaw.row PySem.Challenge.rw_keptedits_k11_whole_maps_of_numbers).prog 41) (kwd := []) C11.ob_eq
    (by kernel_rfl) (fun s => by kernel_rfl) C11.run (by kernel_rfl) (by kernel_rfl) (by kernel_rfl) (by rfl) (by first | assumption | decide +kernel) (by decide +kernel) ⟨rfl, rfl, rfl, rfl, rfl, by decide +kernel⟩ ?hw ?hc
  case hw => w_witness2
  case hc =>
    refine L2.walk_ofG (l := PySem.Challenge.rw_keptedits_k11_whole_maps_of_numbers) (n := 63) (k := 9) (x := "_law_script") (CX := fun _ => L2.CX0) rfl (by decide) (by kernel_rfl) ⟨rfl, by decide, by decide⟩ ?F (fun _ _ _ _ _ z => z)
    intro w mg fa h Y G hmg0
    obtain ⟨K, KX, c⟩ := Y
    have hmg : mg ("law" : PySem.Str) = some (.ref fa) := by
      have e : (HandSHeadRun.topDef (OpenLaw.row PySem.Challenge.rw_keptedits_k11_whole_maps_of_numbers).prog 41).name = ("law" : PySem.Str) := by kernel_rfl
      rw [← e]
      exact hmg0
    obtain ⟨fd, hb, hF⟩ := C11.facts (P := (PySem.Challenge.rw_keptedits_k11_whole_maps_of_numbers).prog) (w := w) KX G hmg c
    exact ⟨K, fd, C11.spLaw K, KX, hb, fun H a ns hl _ hS => ⟨a, ns, rfl, hS, hl, fun _ => rfl⟩, hF⟩

end PXL11
