import PyProof.Rows.All
import Wide.All
import OpenK.AllK
import Wide.FinOn
import KE.KExcInit
import KE.KExcIs
import KE.KIsAll
import HandS.ForMost
import HandS.ForSpec
import HandS.ExcInit
import HandS.ExcValue
import HandS.ExcIs
import HandS.Wide
import HandS.Defaults
import HandS.HeadHook2
import HandS.ExcOwn
import HandS.Words
import HandS.IsInst
import HandS.WordsExc
import HandS.Text
import HandS.Head0
import HandS.Head1
import HandS.Head2
import HandS.HeadEnd
import HandS.HeadHook1
import KE.KStateDown
import HandS.TryMany
import HandS.Ends
import PyProof.ReprRoads
import PyProof.ReprLen
import PyProof.Rows.StrIntSpec
import HandS.Star
import HandS.OwnEq
import HandS.FStr
import HandS.MakeKw
import HandS.Codes
import KE.KOpsOwn
import KE.KCallOwn
import PyProof.FString3
import HandS.ClsMeth
import HandS.DeepEq
import KE.KFmtOwn
import PyProof.FactsAll.object_2
import HandS.EndTab
import HandS.TupMul
import HandS.EndOwn
import KE.KNestM
import HandS.DictEq
import HandS.StrMore
import HandS.RaiseMore
import HandS.Iter
import HandS.Walk
import PyProof.MeetsStr3
import HandS.Strs
import HandS.TupAny
import HandS.TupLe
import HandS.Deep
import PySem.Challenge.RW_leastrooms_k86_plans_written
set_option Elab.async false
set_option linter.all false
set_option maxRecDepth 100000
set_option maxHeartbeats 4000000
/-! own exceptions under ValueError, KeyError, RuntimeError, as values -/
namespace LR
open PySem PySem.W PySem.Calls PyProof.Rows Builtin Builtin.ObjectAttr
/-- a family of own exceptions: the built-in class that makes them, and the end of their mro -/
structure Kd where
  B : String
  nid : String
  iid : String
  bmB : List Value
  tl : List Value
  F : ExcBaseFacts B nid iid bmB
  hB : tl.contains (.type B) = true
  hA : tl.contains (.type "AttributeError") = false
  hN : tl.contains (.type "NameError") = false
  hO : tl.contains (.type "object") = true
  hE : tl.contains (.type "BaseException") = true
  pass : ∀ self, refuseLoop self "__setattr__" tl = pure ()
def tlV : List Value := [.type "ValueError", .type "Exception", .type "BaseException", .type "object"]
def tlK : List Value := [.type "KeyError", .type "LookupError", .type "Exception", .type "BaseException", .type "object"]
def tlR : List Value := [.type "RuntimeError", .type "Exception", .type "BaseException", .type "object"]
def xV : Kd := ⟨_, _, _, _, tlV, F.excBase_ValueError, by decide +kernel, by decide +kernel, by decide +kernel, by decide +kernel, by decide +kernel, fun self => F.store_ValueError.passes self⟩
def xK : Kd := ⟨_, _, _, _, tlK, F.excBase_LookupError, by decide +kernel, by decide +kernel, by decide +kernel, by decide +kernel, by decide +kernel, fun self => by kernel_rfl⟩
def xR : Kd := ⟨_, _, _, _, tlR, F.excBase_RuntimeError, by decide +kernel, by decide +kernel, by decide +kernel, by decide +kernel, by decide +kernel, fun self => F.store_RuntimeError.passes self⟩

section
variable {M : Model} {A : Around} {E : Value → Shared → Prop} {h : Heap} {g : Array GenState} {d : Drawn} {t : Nat} {os : OsState}
variable {nm q : Str} {C N : Addr} {bs bm : List Value} {hdct : Bool} {sn : List Str} {sub : List Value} {ab : Bool} {col : Option Bool} {dd : Option Addr} {k0 k1 k2 k3 k5 : Option Value}
theorem Kd.has (k : Kd) (ht : excTail k.tl bm = true) (X : String) {b : Bool} (e : k.tl.contains (.type X) = b) : (Value.ref C :: bm).contains (.type X) = b := by
  rw [List.contains_cons, excTail_contains X bm ht, e]
  cases b <;> rfl
theorem chk_new (k : Kd) (ht : excTail k.tl bm = true) {rest : List Value} {Q : Unit → Shared → Prop}
    (hC : h.get? C = some (excClassObj nm q C N bs bm hdct sn sub ab col dd k0 k1 k2 k3 k5 k.nid)) (hq : Q () ⟨h, g, d, t, os⟩) :
    wpAny M A (checkBuiltinCall k.nid ⟨.ref C :: rest, []⟩) Q E ⟨h, g, d, t, os⟩ := by
  have c1 : (Value.ref C :: bm).contains (.type k.B) = true := k.has ht _ k.hB
  have nst := k.F.noStar
  simp only [checkBuiltinCall, k.F.newKind, k.F.newSplit, k.F.newRow]
  repeat (first
    | refine wpAny_loadPart_at hC ?_
    | (refine wpAny_isSubtype_exc hC ?_; rw [c1])
    | refine wpAny_staticBase_exc hC ?_
    | refine wpAny_madeBy_exc hC ?_
    | simp only [bne_self_eq_false, Bool.false_eq_true, if_false]
    | wp_step)
  exact hq
end
section
variable {prog : Program} {w : World} {A : Around} {E : Value → Shared → Prop} {R : Result → Shared → Prop} {h : Heap} {g : Array GenState} {d : Drawn} {t : Nat} {os : OsState}
variable {nm q : Str} {C N : Addr} {bs bm : List Value} {hdct : Bool} {sn : List Str} {sub : List Value} {ab : Bool} {col : Option Bool} {dd : Option Addr} {k0 k1 k2 k3 k5 : Option Value}
theorem run_new (k : Kd) (ht : excTail k.tl bm = true) {rest : List Value}
    (hC : h.get? C = some (excClassObj nm q C N bs bm hdct sn sub ab col dd k0 k1 k2 k3 k5 k.nid))
    (hq : R (.ok (.ret (.ref (h.objs.size + 1)))) ⟨(h.push (kdv_tup rest)).push (HandSPX.excO C h.objs.size), g, d, t, os⟩) (hr : rest.length ≤ sizeLine) :
    codeAny (model prog w) A (.builtin k.nid ⟨.ref C :: rest, []⟩) R ⟨h, g, d, t, os⟩ := by
  have en := k.F.ends
  have c1 : (Value.ref C :: bm).contains (.type k.B) = true := k.has ht _ k.hB
  have c2 : (Value.ref C :: bm).contains (.type "AttributeError") = false := k.has ht _ k.hA
  have c3 : (Value.ref C :: bm).contains (.type "NameError") = false := k.has ht _ k.hN
  refine codeAny_builtinAt k.F.entry ?_
  unfold Builtin.«BaseException.__new__»
  refine PySem.wpAt_bind ?_
  show PySem.wpAt _ _ _ (stack >>= _) _ _ _
  refine PySem.wpAt_bind (PySem.wpAt_stack fun p below => PySem.wpAt_of_wpAny ?_)
  wp_walk
  refine PySem.wpAt_of_wpAny ?_
  rw [k.F.owner]
  repeat (first
    | with_reducible refine wpAny_madeHere_exc k.F.canon hC ?_
    | with_reducible refine wpAny_loadPart_at hC ?_
    | (with_reducible refine wpAny_isSubtype_exc hC ?_; first | rw [c1] | rw [c2] | rw [c3])
    | wp_step)
  show R _ _
  rw [Heap.size_push]
  exact hq
theorem run_type (k : Kd) (ht : excTail k.tl bm = true) {rest : List Value} {fI : Addr} {Q : Fin → Shared → Prop}
    (hC : h.get? C = some (excClassObj nm q C N bs bm hdct sn sub ab col dd k0 k1 k2 k3 k5 k.nid))
    (hi : Looks (model prog w) h (typeLookup (.ref C) "__init__") (some (.ref fI))) (hb : ∀ self, Looks (model prog w) h (bindSpecial (.ref fI) self) (.ref fI, [self])) (hr : rest.length ≤ sizeLine)
    (hq : codeAny (model prog w) A (.call (.ref fI) ⟨.ref (h.objs.size + 1) :: rest, []⟩)
      (fun r s' => match r with | .ok (.ret v) => v = .none ∧ Q (.done (.ret (.ref (h.objs.size + 1)))) s' | .ok _ => False | .error e => E e s')
      ⟨(h.push (kdv_tup rest)).push (HandSPX.excO C h.objs.size), g, d, t, os⟩) :
    wpAny (model prog w) A (Builtin.«type.__call__» ⟨.ref C :: rest, []⟩) Q E ⟨h, g, d, t, os⟩ := by
  repeat (first
    | with_reducible refine wpAny_loadPart_at hC ?_
    | with_reducible refine wpAny_madeBy_exc hC ?_
    | wp_step)
  refine codeAny_call_builtin_code (Code.quiet_builtin _ k.F.quiet) (chk_new k ht hC (run_new k ht hC ?_ hr))
  show wpAny _ _ _ _ _ _
  have kp : ∀ b o, h.get? b = some o → ((h.push (kdv_tup rest)).push (HandSPX.excO C h.objs.size)).get? b = some o := fun b o e =>
    Heap.get?_push_of_some _ (Heap.get?_push_of_some _ e)
  have hC1 := kp _ _ hC
  have hnew : ((h.push (kdv_tup rest)).push (HandSPX.excO C h.objs.size)).get? (h.objs.size + 1) = some (HandSPX.excO C h.objs.size) := by heap_get
  have self1 : (Value.ref C :: bm).contains (.ref C) = true := by simp
  have i1 := hi.keeps kp
  have b1 := (hb (.ref (h.objs.size + 1))).keeps kp
  unfold isInstance
  repeat (first
    | with_reducible refine wpAny_loadPart_at hnew ?_
    | (with_reducible refine wpAny_isSubtype_exc hC1 ?_; rw [self1])
    | wp_step)
  show wpAny _ _ (typeLookup (.ref C) _) _ _ _
  refine i1.at (wpAny_holding (wpAny_bind (b1.at ?_)))
  refine wpAny_bind (wpAny_call (codeAny_mono hq fun r s' z => ?_))
  rcases r with e | (v | _ | _ | _) <;> first | exact z | exact z.elim | skip
  obtain ⟨rfl, z⟩ := z
  first
    | exact wpAny_pure (wpAny_pure z)
    | (wp_walk; exact z)
/-- C(rest), C with an own __init__ at fI -/
theorem run_class (k : Kd) (ht : excTail k.tl bm = true) {rest : List Value} {fI : Addr}
    (hC : h.get? C = some (excClassObj nm q C N bs bm hdct sn sub ab col dd k0 k1 k2 k3 k5 k.nid))
    (hi : Looks (model prog w) h (typeLookup (.ref C) "__init__") (some (.ref fI))) (hb : ∀ self, Looks (model prog w) h (bindSpecial (.ref fI) self) (.ref fI, [self])) (hr : rest.length ≤ sizeLine)
    (hq : codeAny (model prog w) (A.under (.builtin "type.__call__" ⟨.ref C :: rest, []⟩)) (.call (.ref fI) ⟨.ref (h.objs.size + 1) :: rest, []⟩) (InitBack (h.objs.size + 1) R)
      ⟨(h.push (kdv_tup rest)).push (HandSPX.excO C h.objs.size), g, d, t, os⟩) :
    codeAny (model prog w) A (.call (.ref C) ⟨rest, []⟩) R ⟨h, g, d, t, os⟩ := by
  have f1 := tc_lookup
  have f2 := tc_bind (.ref C)
  have hTy : (⟨h, g, d, t, os⟩ : Shared).TypeIs (.ref C) "type" := ⟨_, hC, rfl⟩
  refine codeAny_of_tree ?_
  show wpAny _ _ (callAny (.ref C) _) _ _ _
  repeat (any_goals (first
    | assumption
    | with_reducible refine wpAny_loadPart_at hC ?_
    | wp_step))
  refine ⟨rfl, codeAny_call_builtin_at (Code.quiet_builtin _ (by decide +kernel)) entry_typeCall (wpAny_check_type_call_sub hC (run_type k ht hC hi hb hr ?_))⟩
  refine codeAny_mono hq fun r s' z => ?_
  rcases r with e | (v | _ | _ | _) <;> exact z
end
end LR

set_option maxHeartbeats 4000000
namespace LR
open PySem PySem.W PySem.Calls PyProof.Rows Builtin Builtin.ObjectAttr
theorem sfK : StoreFacts "KeyError" tlK "object.__setattr__" "object" :=
  { F.store_object with
    mro := by kernel_rfl
    hasOwner := by decide +kernel
    passes := fun self => xK.pass self
    slot := .of (owner := "object") (n := "__setattr__")
      (by rw [typeLookup_type, builtinLookup_eq_fast]; kernel_rfl)
      (by decide +kernel) (by decide +kernel) (by decide +kernel)
      (by first
          | exact .inl (by decide +kernel)
          | exact .inr (by decide +kernel))
      (by rw [isSubtype_type]; kernel_rfl) }
/-- a store by the object's own rule is known for the family -/
def Kd.SF (k : Kd) : Prop := ∃ B, StoreFacts B k.tl "object.__setattr__" "object"
theorem sV : xV.SF := ⟨_, F.store_ValueError⟩
theorem sK : xK.SF := ⟨_, sfK⟩
theorem sR : xR.SF := ⟨_, F.store_RuntimeError⟩
/-- what the written part says of an exception class at C -/
structure XC (K : Frag) (k : Kd) (C : Addr) : Prop where
  cls : ∃ nm q N bs bm sn sub ab col dd k0 k1 k2 k3 k5, K.lookup C = some (excClassObj nm q C N bs bm true sn sub ab col dd k0 k1 k2 k3 k5 k.nid) ∧ excTail k.tl bm = true
  sa : findIn K (.ref C) "__setattr__" = some (some (.builtin "object.__setattr__"))
  ga : findIn K (.ref C) "__getattribute__" = some (some (.builtin "BaseException.__getattribute__"))
  gg : findIn K (.ref C) "__getattr__" = some none
  cl : findIn K (.ref C) "__class__" = some (some (.builtin "object.__class__"))
  kC : keepIn K (.ref C) = true
section
variable {K : Frag} {k : Kd} {C : Addr}
theorem XC.cd (T : XC K k C) : ∃ cd bm, clsIn K C = some cd ∧ cd.mro = .ref C :: bm ∧ excTail k.tl bm = true ∧ cd.hasDict = true := by
  obtain ⟨nm, q, N, bs, bm, sn, sub, ab, col, dd, k0, k1, k2, k3, k5, hC, hb⟩ := T.cls
  exact ⟨_, bm, by unfold clsIn; rw [hC], rfl, hb, rfl⟩
theorem XC.isC (T : XC K k C) : (clsIn K C).isSome = true := by
  obtain ⟨cd, bm, h, _⟩ := T.cd
  rw [h]; rfl
theorem XC.hd (T : XC K k C) : hasDictIn K C = true := by
  obtain ⟨cd, bm, h, _, _, hd⟩ := T.cd
  unfold hasDictIn; rw [h]; exact hd
theorem XC.over (T : XC K k C) : excOver K C k.tl = true := by
  obtain ⟨cd, bm, h, hm, hb, _⟩ := T.cd
  unfold excOver; rw [h]
  simp [hm, hb]
theorem XC.sub (T : XC K k C) (X : String) (e : k.tl.contains (.type X) = true) : mroIn K C (.type X) = some true := by
  obtain ⟨cd, bm, h, hm, hb, _⟩ := T.cd
  unfold mroIn
  rw [h, Option.bind_some, hm]
  show some ((Value.ref C :: bm).contains (.type X)) = some true
  rw [k.has hb X e]
theorem XC.tyC (T : XC K k C) : typeIn K (.ref C) = some (.type "type") := by
  obtain ⟨nm, q, N, bs, bm, sn, sub, ab, col, dd, k0, k1, k2, k3, k5, hC, hb⟩ := T.cls
  show Option.map (fun x => x.cls) (List.lookup C K) = _
  rw [hC]; rfl
end
theorem noTake {K : Frag} {C : Addr} {f : Str} (h : findIn K (.ref C) f = some none) : takerIn K C f = some none := by
  unfold takerIn; rw [h]; rfl
section
variable {prog : Program} {w : World} {A : Around} {E : Value → Shared → Prop} {R : Result → Shared → Prop} {hp : Heap} {g : Array GenState} {d : Drawn} {t : Nat} {os : OsState}
variable {K : Frag} {k : Kd} {C x : Addr} {name : Str} {tk : Tok} {v : Value} {fv : Array Value}
theorem osa_first (S : k.SF) (T : XC K k C) (X : K.In hp) (hx : hp.get? x = some { cls := .ref C, data := .fields fv }) (hno : findIn K (.ref C) name = some none)
    (hq : ∀ h' tk' dx, (∀ b o, b ≠ x → hp.get? b = some o → h'.get? b = some o) → hp.objs.size ≤ dx → dx ≠ x → h'.get? x = some { cls := .ref C, dict := some dx, data := .fields fv } →
      h'.Ns1 dx (fun y => if y = name then some v else none) → R (.ok (.ret .none)) ⟨h', g, d, tk', os⟩) :
    codeAny (model prog w) A (.call (.builtin "object.__setattr__") ⟨[.ref x, .str name tk, v], []⟩) R ⟨hp, g, d, t, os⟩ := by
  obtain ⟨B, SF⟩ := S
  obtain ⟨cd, bm, hcd, hm, hb, hh⟩ := T.cd
  have I : InstAt hp x { cls := .ref C, data := .fields fv } C none := ⟨hx, rfl, rfl, trivial⟩
  have nx : x ≠ hp.objs.size := Nat.ne_of_lt (Heap.lt_size hx)
  have hcls : Looks (model prog w) hp (classData C) cd := looks_clsIn X hcd
  refine osa_openX (s := ⟨hp, g, d, t, os⟩) (r := none) SF X I T.over (noTake hno) fun b => ?_
  obtain ⟨nm, bs, mro, ns, qn, hd, sn, sb, ab, col, del⟩ := cd
  dsimp only at hh
  subst hh
  dsimp only
  unfold storeInOwnDict ownDictForStores
  repeat (first
    | with_reducible refine HandSPX.store_in_new ?_ ?_
    | with_reducible refine wpAny_loadPart_at hx ?_
    | with_reducible refine hcls.at ?_
    | wp_step)
  · exact ⟨_, #[], _, (Heap.get?_update_ne _ _ _ _ nx.symm).trans (Heap.get?_push_at rfl rfl), rfl, fun e he => absurd he (by simp), fun _ => rfl⟩
  · intro h' tk' hn' hs
    have hx1 : (hp.push { cls := .type "dict", data := .dict #[] }).get? x = some { cls := .ref C, data := .fields fv } := Heap.get?_push_of_some _ hx
    refine hq h' tk' hp.objs.size (fun b o ne ho => ?_) (Nat.le_refl _) nx.symm ?_ hn'
    · have z1 := Heap.get?_push_of_some { cls := .type "dict", data := .dict #[] } ho
      have z2 := hs.2 b (Nat.ne_of_lt (Heap.lt_size ho))
      exact z2.trans ((Heap.get?_update_ne _ _ _ _ ne).trans z1)
    · exact (hs.2 x nx).trans (Heap.get?_update_self _ hx1 rfl)
theorem osa_later {dx : Addr} {m0 : Str → Option Value} {nl : List Str} (S : k.SF) (T : XC K k C) (X : K.In hp) (hx : hp.get? x = some { cls := .ref C, dict := some dx, data := .fields fv })
    (hns : hp.Ns1 dx m0) (hw : Within m0 nl) (hz : nl.length ≤ 1000) (hno : findIn K (.ref C) name = some none)
    (hq : ∀ h' tk', (∀ b o, b ≠ dx → hp.get? b = some o → h'.get? b = some o) → h'.Ns1 dx (fun y => if y = name then some v else m0 y) → R (.ok (.ret .none)) ⟨h', g, d, tk', os⟩) :
    codeAny (model prog w) A (.call (.builtin "object.__setattr__") ⟨[.ref x, .str name tk, v], []⟩) R ⟨hp, g, d, t, os⟩ := by
  obtain ⟨B, SF⟩ := S
  obtain ⟨cd, bm, hcd, hm, hb, hh⟩ := T.cd
  obtain ⟨oD, _, _, hoD, _, _⟩ := hns.count hw
  have I : InstAt hp x { cls := .ref C, dict := some dx, data := .fields fv } C (some oD) := ⟨hx, rfl, rfl, hoD⟩
  have hcls : Looks (model prog w) hp (classData C) cd := looks_clsIn X hcd
  refine osa_openX (s := ⟨hp, g, d, t, os⟩) (r := none) SF X I T.over (noTake hno) fun b => ?_
  obtain ⟨nm, bs, mro, ns, qn, hd, sn, sb, ab, col, del⟩ := cd
  dsimp only at hh
  subst hh
  dsimp only
  unfold storeInOwnDict ownDictForStores
  repeat (first
    | with_reducible refine OEX.store_in_old hns hw hz ?_
    | with_reducible refine wpAny_loadPart_at hx ?_
    | with_reducible refine hcls.at ?_
    | wp_step)
  intro h' tk' hn' hs
  exact hq h' tk' (fun b o ne ho => (hs.2 b ne).trans ho) hn'
end
end LR

set_option maxHeartbeats 4000000
namespace L2.Lr
open PySem PySem.Spec PyProof.Rows LR
/-- at a: an exception of the class at C, its dict (none as yet | at d) -/
abbrev xo (a C : Addr) (d : Option Addr) : HO := exo a C d
theorem xo_at {P : Program} {w : World} {H : Hp} {h : Heap} {a C : Addr} {d : Option Addr} (hok : HOk P w H h) (e : H a = some (xo a C d)) : ∃ t1 : Addr, h.get? a = some ({ cls := .ref C, dict := d, data := .fields #[.ref t1, .none, .none, .none, .bool false, .none] } : Obj) := exo_at hok e
theorem xo_ok {P : Program} {w : World} {H : Hp} {h : Heap} {a C t1 : Addr} {d : Option Addr} (e : h.get? a = some ({ cls := .ref C, dict := d, data := .fields #[.ref t1, .none, .none, .none, .bool false, .none] } : Obj)) : ObjOk P w H h a (xo a C d) := exo_ok e
theorem xo_ne {a C : Addr} {d : Option Addr} {o : HO} (n : ∀ φ, HO.ext φ ≠ o) : xo a C d ≠ o := n _
section
variable {X : Cx} {pins : List (Addr × Obj)} {σ : St} {H : Hp} {s : Shared} {a C dx : Addr} {f : Str} {y : V} {u : Value} {fs : List (Str × V)} {Q : Unit → Shared → Prop} {E : Value → Shared → Prop} {A : Around} {k : Kd}
/-- self.f = y, the first field -/
theorem st_first (S : k.SF) (T : XC X.K k C) (I : Inv X pins σ H s) (e : H a = some (xo a C none)) (hno : PySem.W.findIn X.K (.ref C) f = some none) (ry : RelV y u)
    (go : ∀ dx s', H dx = none → dx ≠ a → Inv X pins σ (upd (upd H dx (exd dx [(f, y)])) a (xo a C (some dx))) s' → Q () s') : wpAny (model X.prog X.w) A (setAttr (.ref a) f u) Q E s := by
  obtain ⟨fv, ho⟩ := xo_at I.hok e
  obtain ⟨hp, g, d, t, os⟩ := s
  refine PySem.W.set_plain I.kIn (ox := { cls := .ref C, dict := none, data := .fields #[.ref fv, .none, .none, .none, .bool false, .none] }) (od := none) ⟨ho, rfl, rfl, trivial⟩ T.sa (osa_first S T I.kIn ho hno fun h' tk' dx kk dn dne hx hn => ?_)
  have fresh : H dx = none := I.hok.fresh dn
  have old : ∀ {b : Addr} {o : Obj}, hp.get? b = some o → b ≠ dx := fun {b o} q => Nat.ne_of_lt (Nat.lt_of_lt_of_le (Heap.lt_size q) dn)
  have off : ∀ {b : Addr}, H b = none → b ≠ a := fun {b} n z => by
    rw [z, e] at n
    cases n
  have own : ∀ {b c : Addr}, H b = some (.own c) → b ≠ a := fun {b c} q => at_ne e q (xo_ne fun _ z => by cases z)
  have tup : ∀ {b : Addr} {xs : List V}, H b = some (.tup xs) → b ≠ a := fun {b xs} q => at_ne e q (xo_ne fun _ z => by cases z)
  have frz : ∀ {b : Addr} {o : Obj} {v : HO}, H b = some (.frz o v) → b ≠ a := fun {b o v} q => at_ne e q (xo_ne fun _ z => by cases z)
  have tbl : ∀ {b : Addr} {ps : Array Value}, H b = some (.tbl ps) → b ≠ a := fun {b ps} q => at_ne e q (xo_ne fun _ z => by cases z)
  have U : Un X.fs [] H (upd (upd H dx (exd dx [(f, y)])) a (xo a C (some dx))) hp h' :=
    ⟨fun b o q n _ _ => kk b o (off n) q, fun b o q n _ _ => ⟨o.slots, kk b o (off n) q⟩,
     fun b o q n _ => (upd_ne (off n)).trans ((upd_ne (old q)).trans n),
     fun b o q _ => (Classical.em (b = a)).elim (fun hb => hb.symm ▸ (⟨_, hx⟩ : ∃ o', h'.get? a = some o')) fun hb => ⟨o, kk b o hb q⟩,
     fun b xs q => (upd_ne (tup q)).trans ((upd_ne (ne_of_none q fresh)).trans q),
     fun b o v q => (upd_ne (frz q)).trans ((upd_ne (ne_of_none q fresh)).trans q),
     fun b ps q => ⟨#[], by rw [upd_ne (tbl q), upd_ne (ne_of_none q fresh), q]; simp⟩⟩
  refine go dx _ fresh dne (I.un (t' := tk') U fun b o q => ?_)
  by_cases hb : b = a
  · subst hb
    cases upd_same.symm.trans q
    exact xo_ok hx
  · rw [upd_ne hb] at q
    by_cases hd : b = dx
    · subst hd
      cases upd_same.symm.trans q
      exact exd_ok hn (relO_put (fs := []) ry fun g => True.intro)
    · rw [upd_ne hd] at q
      refine (I.hok b o q).stay (fun c v hc z => kk c v ?_ z) (fun c hc => (upd_ne (own hc)).trans ((upd_ne (ne_of_none hc fresh)).trans hc)) fun c xs hc => (upd_ne (tup hc)).trans ((upd_ne (ne_of_none hc fresh)).trans hc)
      rcases hc with hc | hc
      · rw [hc]; exact hb
      · exact own hc
/-- self.f = y, a later field -/
theorem st_later (S : k.SF) (T : XC X.K k C) (I : Inv X pins σ H s) (e : H a = some (xo a C (some dx))) (ed : H dx = some (exd dx fs)) (hl : fs.length ≤ 900) (hno : PySem.W.findIn X.K (.ref C) f = some none) (ry : RelV y u)
    (go : ∀ s', Inv X pins σ (upd H dx (exd dx ((f, y) :: fs))) s' → Q () s') : wpAny (model X.prog X.w) A (setAttr (.ref a) f u) Q E s := by
  obtain ⟨fv, ho⟩ := xo_at I.hok e
  obtain ⟨mA, hns, rel⟩ := exd_at I.hok ed
  have hw := within_of rel
  obtain ⟨hp, g, d, t, os⟩ := s
  obtain ⟨oD, _, _, hoD, _, _⟩ := hns.count hw
  refine PySem.W.set_plain I.kIn (ox := { cls := .ref C, dict := some dx, data := .fields #[.ref fv, .none, .none, .none, .bool false, .none] }) (od := some oD) ⟨ho, rfl, rfl, hoD⟩ T.sa (osa_later S T I.kIn ho hns hw (by rw [List.length_map]; omega) hno fun h' tk' kk hn => ?_)
  have there : ∃ o, h'.get? dx = some o := by
    obtain ⟨o, _, _, e', _⟩ := hn
    exact ⟨o, e'⟩
  exact go _ (I.write (t' := tk') (x := dx) (e := dx) (o := exd dx ((f, y) :: fs)) (by rw [ed]; exact True.intro) (.inl rfl) kk there (exd_ok hn (relO_put ry rel)))
end
/-! ### readings -/
/-- self.f = e -/
def tStX (K : PySem.W.Frag) (f : Str) (to te : TE) : TS := fun D σ H => te σ H fun y H1 => to σ H1 fun x H2 => ∃ (a C : Addr) (k : Kd), x = .ref a ∧ k.SF ∧ XC K k C ∧ PySem.W.findIn K (.ref C) f = some none ∧
  ((H2 a = some (xo a C none) ∧ ∀ dx, H2 dx = none → dx ≠ a → D.nx σ (upd (upd H2 dx (exd dx [(f, y)])) a (xo a C (some dx)))) ∨
    ∃ (dx : Addr) (fs : List (Str × V)), H2 a = some (xo a C (some dx)) ∧ H2 dx = some (exd dx fs) ∧ fs.length ≤ 900 ∧ D.nx σ (upd H2 dx (exd dx ((f, y) :: fs))))
/-- C(e, ..), C's __init__ keeping sp: the new exception as a value -/
def tMkX (C : Addr) (sp : Sp) (dvs : List V) (ta : TA) : TE := fun σ H Q => ta σ H fun vs H1 => vs.length ≤ 1000 ∧ ∀ a, H1 a = none → sp (.ref a :: (vs ++ dvs)) (upd H1 a (xo a C none)) (fun v H2 => v = .non ∧ Q (.ref a) H2) (fun _ _ _ => False)
/-- e.n of such an exception -/
def tAtX (K : PySem.W.Frag) (n : Str) (te : TE) : TE := fun σ H Q => te σ H fun x H1 => ∃ (a C dx : Addr) (fs : List (Str × V)) (v : V) (k : Kd), x = .ref a ∧ H1 a = some (xo a C (some dx)) ∧ H1 dx = some (exd dx fs) ∧ XC K k C ∧
  PySem.W.findIn K (.ref C) n = some none ∧ fs.lookup n = some v ∧ Q v H1
/-- isinstance(e, c) -/
def rIsX (K : PySem.W.Frag) : List V → Hp → VK → Prop := fun xs H Q => ∃ (a C : Addr) (d : Option Addr) (k : Kd) (c : V) (cv : Value) (b : Bool), xs = [.ref a, c] ∧ (∀ u, RelV c u → u = cv) ∧ H a = some (xo a C d) ∧
  (∀ dx, d = some dx → ∃ o, H dx = some o) ∧ XC K k C ∧ PySem.W.kitOne K (.ref C) cv = some b ∧ Q (.bl b) H
theorem oc_get {K : PySem.W.Frag} : PySem.W.specialIn K (.builtin "object.__class__") "__get__" = some (some (.builtin "getset_descriptor.__get__")) := by kernel_rfl
theorem oc_take {K : PySem.W.Frag} : PySem.W.takesIn K (.builtin "object.__class__") = some true := by kernel_rfl
section
variable {X : Cx} {o e : Expr} {es : List Expr} {to te : TE} {ta : TA} {f : Str} {p p' p1 p2 pos : Pos}
theorem inst_of {pins : List (Addr × Obj)} {σ : St} {H : Hp} {s : Shared} {a C : Addr} {d : Option Addr} (I : Inv X pins σ H s) (e : H a = some (xo a C d)) (hd : ∀ dx, d = some dx → ∃ o, H dx = some o) :
    ∃ (ox : Obj) (od : Option Obj), PySem.W.InstAt s.heap a ox C od ∧ ∀ dx, d = some dx → ∃ q, od = some q ∧ s.heap.get? dx = some q := by
  obtain ⟨fv, ho⟩ := xo_at I.hok e
  cases d with
  | none => exact ⟨_, none, ⟨ho, rfl, rfl, trivial⟩, fun dx z => by cases z⟩
  | some dx =>
    obtain ⟨q, hq⟩ := hd dx rfl
    obtain ⟨ob, hb⟩ : ∃ ob, s.heap.get? dx = some ob := by
      have z := (I.hok dx q hq).lt
      cases r : s.heap.get? dx with
      | some ob => exact ⟨ob, rfl⟩
      | none => exact absurd r (by
          have zz := I.hok dx q hq
          cases q with
          | lst xs => obtain ⟨_, _, _, _, e1⟩ := zz; rw [e1]; simp
          | tup xs => obtain ⟨_, _, _, o1, e1, _⟩ := zz; rw [e1]; simp
          | dK kvs => obtain ⟨_, _, _, _, o1, _, _, e1, _⟩ := zz; rw [e1]; simp
          | dT kvs => obtain ⟨_, _, _, _, o1, _, _, e1, _⟩ := zz; rw [e1]; simp
          | set S n => obtain ⟨o1, _, _, _, e1, _⟩ := zz; rw [e1]; simp
          | ins C1 d1 f1 => obtain ⟨_, _, _, e1, _⟩ := zz; rw [e1]; simp
          | own y => obtain ⟨_, e1⟩ := zz; rw [e1]; simp
          | xd fs => obtain ⟨_, ⟨_, _, _, e1, _⟩, _⟩ := zz; rw [e1]; simp
          | rng lo hi => obtain ⟨_, _, _, e1⟩ := zz; rw [e1]; simp
          | frz ob u => obtain ⟨e1, _⟩ := zz; rw [e1]; simp
          | tbl ps => have e1 : s.heap.get? dx = some _ := zz; rw [e1]; simp
          | met f1 y => have e1 : s.heap.get? dx = some _ := zz; rw [e1]; simp
          | ext φ => obtain ⟨_, ⟨_, e1⟩, _⟩ := zz; rw [e1]; simp)
    exact ⟨_, some ob, ⟨ho, rfl, rfl, hb⟩, fun dy z => by cases z; exact ⟨ob, rfl, hb⟩⟩
theorem ps_stX (ho : PE X o to) (he : PE X e te) (hs : swapsWith e (some (.Attribute o f p')) pos.line X.env = pure false := by rfl) : PS X (.Assign [.Attribute o f p'] e pos) (tStX X.K f to te) := by
  refine ⟨fun pins s σ H D I hh => plainObj_wpAny_Assign_Attribute (thn (he.run pins s σ H _ I hh) fun v s1 ⟨y, H1, I1, r1, q1⟩ => thn (ho.run pins s1 σ H1 _ I1 q1) fun u s2 ⟨x, H2, I2, r2, q⟩ => ?_) hs⟩
  obtain ⟨a, C, k, rfl, S, T, hno, q⟩ := q
  cases (show u = Value.ref a from r2)
  rcases q with ⟨ea, q⟩ | ⟨dx, fs, ea, ed, hl, q⟩
  · exact st_first S T I2 ea hno r1 fun dx s' n ne J => ⟨σ, _, J, q dx n ne⟩
  · exact st_later S T I2 ea ed hl hno r1 fun s' J => ⟨σ, _, J, q⟩
theorem pe_mkX {CX : CXT} {x : Str} {C fI : Addr} {j : Nat} {fd : FuncData} {ps : List Str} {sp : Sp} {ds : List Value} {dvs : List V} {k : Kd} (T : XC X.K k C) (iC : PySem.W.findIn X.K (.ref C) "__init__" = some (some (.ref fI))) (tI : PySem.W.typeIn X.K (.ref fI) = some (.type "function"))
    (F1 : FnOk X.prog X.w X.K X.mg X.base CX j fI fd ps sp) (hr : Room (j + 1) X.A) (hb : Binds X.K fd ps ds) (hd : Vals dvs ds) (hx : Passes CX X (fun _ _ _ => False)) (hg : Gl X x) (hm : X.mg x = some (.ref C)) (ha : PA X (e :: es) ta)
    (hdb : (x == ("__debug__" : Str)) = false := by decide) (he : starEach (e :: es) X.env = (false, eval e X.env) :: starEach es X.env := by rfl) (hpl : (backTo pos (starEach es X.env)).any (·.1) = false := by rfl) :
    PE X (.Call (.Name x p) (e :: es) [] pos) (tMkX C sp dvs ta) := by
  refine ⟨fun pins s σ H Q I hh => ?_⟩
  obtain ⟨nm, q, N, bs, bm, sn, sub, ab, col, dd, k0, k1, k2, k3, k5, hC, hbm⟩ := T.cls
  refine wpAny_Call_Name_kw (ld_glob I hg hm ?_ hdb)
  refine PySem.W.callWith_K (h₀ := X.base) I.ok.mod.kin T.kC (thn (ha.run pos pins s σ H _ I hh) fun us s1 ⟨vs, H1, I1, r1, hz, q1⟩ => ⟨I1.kIn, ?_⟩) he hpl
  show wpAny _ _ (call (.ref C) us) _ _ _
  obtain ⟨hp, g, dr, tk, os⟩ := s1
  obtain ⟨na, ena⟩ : ∃ na, na = hp.objs.size + 1 := ⟨_, rfl⟩
  have hsz : hp.objs.size ≤ na := by omega
  have hn : H1 na = none := I1.hok.fresh hsz
  have hq := q1 na hn
  obtain ⟨G, eG⟩ : ∃ G, G = (hp.push (PySem.W.kdv_tup us)).push (PySem.HandSPX.excO C hp.objs.size) := ⟨_, rfl⟩
  have kk : ∀ b o, hp.get? b = some o → G.get? b = some o := fun b o e1 => by rw [eG]; exact Heap.get?_push_of_some _ (Heap.get?_push_of_some _ e1)
  have there : G.get? na = some (PySem.HandSPX.excO C hp.objs.size) := by rw [eG, ena]; heap_get
  have I2 : Inv X pins σ (upd H1 na (xo na C none)) ⟨G, g, dr, tk, os⟩ := I1.laid (t' := tk) (a := na) (o := xo na C none) (h' := G) kk hsz (xo_ok there)
  have r2 : Vals (V.ref na :: (vs ++ dvs)) (Value.ref na :: (us ++ ds)) := .cons rfl (r1.append hd)
  have hl : (Value.ref na :: us ++ ds).length = ps.length := by
    have e1 := r2.length
    rw [F1.len _ _ _ _ hq] at e1
    exact e1.symm
  have hus : us.length ≤ sizeLine := by
    rw [← Paired.length r1, sizeLine_eq]
    omega
  refine wpAny_call (run_class k hbm (I1.kIn _ _ hC) (PySem.W.looks_findIn I1.kIn iC) (fun self => PySem.W.bind_fn I1.kIn self tI) hus ?_)
  rw [← eG, ← ena]
  refine codeAny_mono (F1.run _ X.stack _ _ ⟨Value.ref na :: us, []⟩ (Value.ref na :: (us ++ ds)) _ _ (fun _ _ _ => False) (hr.make C us []) (I2.env0.make C us []) (hb _ (Value.ref na :: us) I2.kIn hl) r2 hq) fun r s' hq' => ?_
  cases r with
  | error er => exact hx pins σ _ _ er s' I2 hq'
  | ok fl =>
    cases fl with
    | ret u =>
      obtain ⟨v, H2, os2, bare2, un2, hok2, rv, ev, q2⟩ := hq'
      subst ev
      exact ⟨rv, .ref na, H2, I2.call' (ch := []) os2 un2 hok2 bare2 fun b z => absurd z (by simp), rfl, q2⟩
    | next => exact False.elim hq'
    | brk => exact False.elim hq'
    | cont => exact False.elim hq'
theorem pe_atX {n : Str} (he : PE X e te) (hb : attributeBase e n X.env (eval e X.env) = eval e X.env := by rfl) : PE X (.Attribute e n pos) (tAtX X.K n te) := by
  refine ⟨fun pins s σ H Q I hh => attr_of hb (thn (he.run pins s σ H _ I hh) fun u s1 ⟨x, H1, I1, rx, q⟩ => ?_)⟩
  obtain ⟨a, C, dx, fs, v, k, rfl, ea, ed, T, hno, l, q⟩ := q
  cases (show u = Value.ref a from rx)
  obtain ⟨ox, od, J, hd⟩ := inst_of I1 ea fun d z => by cases z; exact ⟨_, ed⟩
  obtain ⟨ob, eo, ho⟩ := hd dx rfl
  obtain ⟨mA, hns, hr⟩ := exd_at I1.hok ed
  obtain ⟨o2, ho2, hl⟩ := lookIn_ns hns
  cases ho.symm.trans ho2
  subst eo
  obtain ⟨z, hz, rz⟩ := RelO.some_of (v := v) (o := mA n) (by rw [← l]; exact hr n)
  exact HandSPX.exc_get I1.kIn J T.ga T.gg (T.sub "BaseException" k.hE) (PySem.W.findObj_own T.hd hno rfl (by rw [hl, hz])) (handed_of rz) ⟨v, H1, I1.tok _, rz, q⟩
theorem call_isX : CallR X (.builtin "isinstance") (rIsX X.K) := by
  intro pins s σ H xs us Q I r q
  obtain ⟨a, C, d, k, c, cv, b, rfl, hcv, ea, hd, T, e, q⟩ := q
  cases r with
  | cons rx rr =>
    cases rr with
    | cons rt rr =>
      cases rr
      cases rx
      cases hcv _ rt
      obtain ⟨ox, od, J, _⟩ := inst_of I ea hd
      exact PySem.W.kia_one (PySem.W.kitx_exc T.isC T.ga T.gg (T.sub "BaseException" k.hE) T.cl oc_get oc_take (T.sub "object" k.hO)) I.kIn J e (fun z => nomatch z) fun tk => ⟨.bl b, H, I.kept (t' := tk) fun _ _ z => z, rfl, q⟩
end
end L2.Lr

set_option maxHeartbeats 4000000
namespace L2.Lr
open PySem PySem.Spec PyProof.Rows LR
/-! ### facts of a class, reckoned -/
def clB (K : PySem.W.Frag) (k : Kd) (C : Addr) : Bool := match K.lookup C with
  | some ⟨.type "type", _, .cls cd, sl⟩ => (match cd.mro, sl.toList with
    | .ref C' :: bm, [_, _, _, _, some (.builtin n), _] => C' == C && n == k.nid && !cd.hasDel && cd.hasDict && PySem.W.excTail k.tl bm
    | _, _ => false)
  | _ => false
theorem clB_ok {K : PySem.W.Frag} {k : Kd} {C : Addr} (q : clB K k C = true) : ∃ nm qn N bs bm sn sub ab col dd k0 k1 k2 k3 k5, K.lookup C = some (excClassObj nm qn C N bs bm true sn sub ab col dd k0 k1 k2 k3 k5 k.nid) ∧ PySem.W.excTail k.tl bm = true := by
  unfold clB at q
  split at q
  · rename_i dd cd sl ho
    split at q
    · rename_i C' bm k0 k1 k2 k3 n k5 hm hs
      simp only [Bool.and_eq_true, beq_iff_eq, Bool.not_eq_true'] at q
      obtain ⟨⟨⟨⟨rfl, rfl⟩, hdel⟩, hdict⟩, ht⟩ := q
      obtain ⟨nm, bs, mro, ns, qn, hd, sn, sub, ab, col, del⟩ := cd
      dsimp only at hm hdel hdict
      subst hm hdel hdict
      have es : sl = #[k0, k1, k2, k3, some (.builtin k.nid), k5] := by
        rw [← hs]
      subst es
      exact ⟨nm, qn, ns, bs, bm, sn, sub, ab, col, dd, k0, k1, k2, k3, k5, ho, ht⟩
    · cases q
  · cases q
def xcB (K : PySem.W.Frag) (k : Kd) (C : Addr) : Bool := clB K k C && (He.eqO (PySem.W.findIn K (.ref C) "__setattr__") (some (some (.builtin "object.__setattr__"))) && (He.eqO (PySem.W.findIn K (.ref C) "__getattribute__") (some (some (.builtin "BaseException.__getattribute__"))) &&
  (He.eqO (PySem.W.findIn K (.ref C) "__getattr__") (some none) && (He.eqO (PySem.W.findIn K (.ref C) "__class__") (some (some (.builtin "object.__class__"))) && PySem.W.keepIn K (.ref C)))))
theorem xcB_ok {K : PySem.W.Frag} {k : Kd} {C : Addr} (q : xcB K k C = true) : XC K k C := by
  obtain ⟨q1, q⟩ := He.ba q
  obtain ⟨q2, q⟩ := He.ba q
  obtain ⟨q3, q⟩ := He.ba q
  obtain ⟨q4, q⟩ := He.ba q
  obtain ⟨q5, q6⟩ := He.ba q
  exact ⟨clB_ok q1, He.eqO_ok q2, He.eqO_ok q3, He.eqO_ok q4, He.eqO_ok q5, q6⟩
/-! ### exceptions as the heap holds them -/
/-- at a: an exception of the class at C with these fields (none: no dict) -/
def ExF (H : Hp) (a C : Addr) : Option (List (Str × V)) → Prop
  | some fs => ∃ d, H a = some (xo a C (some d)) ∧ H d = some (exd d fs)
  | none => H a = some (xo a C none)
theorem ExF.same {H H' : Hp} {a C : Addr} {o : Option (List (Str × V))} (e : ExF H a C o) (s : Same H H') : ExF H' a C o := by
  cases o with
  | none => exact s _ _ e
  | some fs =>
    obtain ⟨d, e1, e2⟩ := e
    exact ⟨d, s _ _ e1, s _ _ e2⟩
theorem ExF.obj {H : Hp} {a C : Addr} {o : Option (List (Str × V))} (e : ExF H a C o) : ∃ d, H a = some (xo a C d) ∧ ∀ dx, d = some dx → ∃ u, H dx = some u := by
  cases o with
  | none => exact ⟨none, e, fun dx z => by cases z⟩
  | some fs =>
    obtain ⟨d, e1, e2⟩ := e
    exact ⟨some d, e1, fun dx z => by cases z; exact ⟨_, e2⟩⟩
theorem same_upd {H : Hp} {p : Addr} {o : HO} (n : H p = none) : Same H (upd H p o) := fun b u e => (upd_ne (ne_of_none e n)).trans e
theorem pe_weak {X : Cx} {e : Expr} {t t' : TE} (h : PE X e t) (i : ∀ σ H Q, t' σ H Q → t σ H Q) : PE X e t' := ⟨fun pins s σ H Q I q => h.run pins s σ H Q I (i σ H Q q)⟩
theorem pt_weak {X : Cx} {e : Expr} {t t' : TT} (h : PT X e t) (i : ∀ σ H Q, t' σ H Q → t σ H Q) : PT X e t' := ⟨fun pins s σ H Q I q => h.run pins s σ H Q I (i σ H Q q)⟩
theorem pa_weak {X : Cx} {es : List Expr} {t t' : TA} (h : PA X es t) (i : ∀ σ H Q, t' σ H Q → t σ H Q) : PA X es t' := ⟨fun p pins s σ H Q I q => h.run p pins s σ H Q I (i σ H Q q)⟩
/-- C(y): the new exception keeps y -/
def tNew (C : Addr) (te : TE) : TE := fun σ H Q => te σ H fun y H1 => ∀ a H', Same H1 H' → H1 a = none → ExF H' a C (some [("value", y)]) → Q (.ref a) H'
/-- C(z, y): .. keeps both -/
def tNew2 (C : Addr) (tz ty : TE) : TE := fun σ H Q => tz σ H fun z H1 => ty σ H1 fun y H2 => ∀ a H', Same H2 H' → H2 a = none → ExF H' a C (some [("value", y), ("word", z)]) → Q (.ref a) H'
/-- C() -/
def tNew0 (C : Addr) : TE := fun σ H Q => ∀ a, H a = none → Q (.ref a) (upd H a (xo a C none))
/-- isinstance(e, c): b -/
def tIsX (K : PySem.W.Frag) (te : TE) (cv : Value) : TE := fun σ H Q => te σ H fun x H1 => ∃ (a C : Addr) (o : Option (List (Str × V))) (k : Kd) (b : Bool), x = .ref a ∧ ExF H1 a C o ∧ XC K k C ∧ PySem.W.kitOne K (.ref C) cv = some b ∧ Q (.bl b) H1
/-- e.n -/
def tGetX (K : PySem.W.Frag) (n : Str) (te : TE) : TE := fun σ H Q => te σ H fun x H1 => ∃ (a C : Addr) (fs : List (Str × V)) (v : V) (k : Kd), x = .ref a ∧ ExF H1 a C (some fs) ∧ XC K k C ∧ PySem.W.findIn K (.ref C) n = some none ∧ fs.lookup n = some v ∧ Q v H1
/-! ### the promises of the __init__s -/
def spIni (K : PySem.W.Frag) : Sp := fun vs H Q _ => ∃ (a C : Addr) (k : Kd) (y : V), vs = [.ref a, y] ∧ k.SF ∧ XC K k C ∧ PySem.W.findIn K (.ref C) "value" = some none ∧ H a = some (xo a C none) ∧
  ∀ H' d, H d = none → d ≠ a → (∀ b o, H b = some o → b ≠ a → H' b = some o) → H' a = some (xo a C (some d)) → H' d = some (exd d [("value", y)]) → Q .non H'
def spIni2 (K : PySem.W.Frag) : Sp := fun vs H Q _ => ∃ (a C : Addr) (k : Kd) (z y : V), vs = [.ref a, z, y] ∧ k.SF ∧ XC K k C ∧ PySem.W.findIn K (.ref C) "value" = some none ∧ PySem.W.findIn K (.ref C) "word" = some none ∧ H a = some (xo a C none) ∧
  ∀ H' d, H d = none → d ≠ a → (∀ b o, H b = some o → b ≠ a → H' b = some o) → H' a = some (xo a C (some d)) → H' d = some (exd d [("value", y), ("word", z)]) → Q .non H'
/-- a reading with a wish that may be stronger -/
def tUp (te : TE) : TE := fun σ H Q => ∃ Q' : VK, te σ H Q' ∧ ∀ v H', Q' v H' → Q v H'
theorem pe_up {X : Cx} {e : Expr} {te : TE} (h : PE X e te) : PE X e (tUp te) := ⟨fun pins s σ H Q I ⟨Q', q, i⟩ => thn (h.run pins s σ H Q' I q) fun u s1 ⟨v, H1, I1, r, q1⟩ => ⟨v, H1, I1, r, i v H1 q1⟩⟩
section
variable {X : Cx} {e e2 : Expr} {es : List Expr} {te t2 : TE} {ta : TA} {p p' p1 p2 pos : Pos}
theorem pe_new {x : Str} {C fI : Addr} {j : Nat} {fd : FuncData} {k : Kd} (S : k.SF) (T : XC X.K k C) (nv : PySem.W.findIn X.K (.ref C) "value" = some none) (iC : PySem.W.findIn X.K (.ref C) "__init__" = some (some (.ref fI))) (tI : PySem.W.typeIn X.K (.ref fI) = some (.type "function"))
    (F1 : FnOk X.prog X.w X.K X.mg X.base CX0 j fI fd ["self", "value"] (spIni X.K)) (hr : Room (j + 1) X.A) (hb : Binds X.K fd ["self", "value"] []) (hm : X.mg x = some (.ref C)) (ha : PE X e te) (hg : Gl X x := by rfl)
    (hdb : (x == ("__debug__" : Str)) = false := by decide) (he : starEach (e :: []) X.env = (false, eval e X.env) :: starEach [] X.env := by rfl) (hpl : (backTo pos (starEach [] X.env)).any (·.1) = false := by rfl) :
    PE X (.Call (.Name x p) [e] [] pos) (tNew C te) := by
  refine pe_weak (pe_mkX (e := e) (es := []) (dvs := []) T iC tI F1 hr hb .nil pass0 hg hm (pa_cons (pe_up ha) pa_nil he) hdb he hpl) fun σ H Q q => ?_
  refine ⟨_, q, fun y H1 q1 => ⟨by show 1 ≤ 1000; decide, fun a hn => ⟨a, C, k, y, rfl, S, T, nv, upd_same, fun H2 d hd ne keep e1 e2 => ⟨rfl, q1 a H2 (fun b o z => ?_) hn ⟨d, e1, e2⟩⟩⟩⟩⟩
  have ne : b ≠ a := ne_of_none z hn
  exact keep b o ((upd_ne ne).trans z) ne
theorem pe_new2 {x : Str} {C fI : Addr} {j : Nat} {fd : FuncData} {k : Kd} (S : k.SF) (T : XC X.K k C) (nv : PySem.W.findIn X.K (.ref C) "value" = some none) (nw : PySem.W.findIn X.K (.ref C) "word" = some none) (iC : PySem.W.findIn X.K (.ref C) "__init__" = some (some (.ref fI))) (tI : PySem.W.typeIn X.K (.ref fI) = some (.type "function"))
    (F1 : FnOk X.prog X.w X.K X.mg X.base CX0 j fI fd ["self", "word", "value"] (spIni2 X.K)) (hr : Room (j + 1) X.A) (hb : Binds X.K fd ["self", "word", "value"] []) (hm : X.mg x = some (.ref C)) (ha : PE X e te) (ha2 : PE X e2 t2) (hg : Gl X x := by rfl)
    (hdb : (x == ("__debug__" : Str)) = false := by decide) (he : starEach (e :: [e2]) X.env = (false, eval e X.env) :: starEach [e2] X.env := by rfl) (he2 : starEach (e2 :: []) X.env = (false, eval e2 X.env) :: starEach [] X.env := by rfl) (hpl : (backTo pos (starEach [e2] X.env)).any (·.1) = false := by rfl) :
    PE X (.Call (.Name x p) [e, e2] [] pos) (tNew2 C te t2) := by
  refine pe_weak (pe_mkX (e := e) (es := [e2]) (dvs := []) T iC tI F1 hr hb .nil pass0 hg hm (pa_cons (pe_up ha) (pa_cons (pe_up ha2) pa_nil he2) he) hdb he hpl) fun σ H Q q => ?_
  refine ⟨_, q, fun z H1 q1 => ⟨_, q1, fun y H2 q2 => ⟨by show 2 ≤ 1000; decide, fun a hn => ⟨a, C, k, z, y, rfl, S, T, nv, nw, upd_same, fun H3 d hd ne keep e1 e2 => ⟨rfl, q2 a H3 (fun b o zz => ?_) hn ⟨d, e1, e2⟩⟩⟩⟩⟩⟩
  have ne : b ≠ a := ne_of_none zz hn
  exact keep b o ((upd_ne ne).trans zz) ne
theorem pe_new0 {x : Str} {C : Addr} {bmB : List Value} {B newId initId : String} (F : ExcBaseFacts B newId initId bmB) (q : PySem.W.excIn X.K C bmB newId = true) (kC : PySem.W.keepIn X.K (.ref C) = true) (hm : X.mg x = some (.ref C)) (hg : Gl X x := by rfl) (hdb : (x == ("__debug__" : Str)) = false := by decide) :
    PE X (.Call (.Name x p) [] [] pos) (tNew0 C) := by
  refine ⟨fun pins s σ H Q I h => ?_⟩
  refine wpAny_Call_Name_kw (ld_glob I hg hm (PySem.W.callWith_K0 I.kIn kC ?_) hdb)
  obtain ⟨bm, N, nm, qn, bs, hdct, sn, sub, ab, col, dd, k0, k1, k2, k3, k5, mN, hC, hN, hni, T⟩ := exc_obj I.kIn q
  refine wpAny_call_exc_subT F T hC hN hni (fun h' a hm' => ?_) (Nat.zero_le _)
  have hn : H a = none := I.hok.gone hm'.new
  obtain ⟨t, ht, _, _⟩ := hm'.there
  exact ⟨.ref a, _, I.laidN hm'.keeps hm'.new hn (xo_ok ht), rfl, h a hn⟩
theorem pe_isX {c : V} {cv : Value} (pe2 : PE X e2 (tC c)) (hv : ∀ u, RelV c u → u = cv) (hm : X.mg "isinstance" = none) (ha : PE X e te) (hg : Gl X "isinstance" := by rfl)
    (he : starEach (e :: [e2]) X.env = (false, eval e X.env) :: starEach [e2] X.env := by rfl) (he2 : starEach (e2 :: []) X.env = (false, eval e2 X.env) :: starEach [] X.env := by rfl) (hpl : (backTo pos (starEach [e2] X.env)).any (·.1) = false := by rfl) :
    PE X (.Call (.Name "isinstance" p) [e, e2] [] pos) (tIsX X.K te cv) := by
  refine pe_weak (pe_callB (e := e) (es := [e2]) call_isX hg hm boot_isinstance (pa_cons (pe_up ha) (pa_cons pe2 pa_nil he2) he) (by decide) (by decide) he hpl) fun σ H Q q => ?_
  refine ⟨_, q, fun x H1 q1 => ?_⟩
  obtain ⟨a, C, o, k, b, rfl, ex, T, e, q⟩ := q1
  obtain ⟨d, e1, e2⟩ := ex.obj
  exact ⟨a, C, d, k, c, cv, b, rfl, hv, e1, e2, T, e, q⟩
theorem pe_getX {n : Str} (he : PE X e te) (hb : attributeBase e n X.env (eval e X.env) = eval e X.env := by rfl) : PE X (.Attribute e n pos) (tGetX X.K n te) := by
  refine pe_weak (pe_atX (pe_up he) hb) fun σ H Q q => ⟨_, q, fun x H1 q1 => ?_⟩
  obtain ⟨a, C, fs, v, k, rfl, ⟨d, e1, e2⟩, T, hno, l, q⟩ := q1
  exact ⟨a, C, d, fs, v, k, rfl, e1, e2, T, hno, l, q⟩
end
end L2.Lr

set_option maxHeartbeats 4000000
namespace L2.Lr
open PySem PySem.Spec PyProof.Rows LR
/-! own exceptions raised and caught -/
theorem pmk_weak {X : Cx} {e : Expr} {t t' : St → Hp → XK → Prop} (h : PMk X e t) (i : ∀ σ H Q, t' σ H Q → t σ H Q) : PMk X e t' := fun pins s σ H Q I q => h pins s σ H Q I (i σ H Q q)
/-- raise C(y): d holds the fields -/
def tNewR (C : Addr) (te : TE) : St → Hp → XK → Prop := fun σ H Q => te σ H fun y H1 => ∀ d H', Same H1 H' → H1 d = none → H' d = some (.xd [("value", y)]) → Q (.ref C) (some d) H'
def tNewR2 (C : Addr) (tz ty : TE) : St → Hp → XK → Prop := fun σ H Q => tz σ H fun z H1 => ty σ H1 fun y H2 => ∀ d H', Same H2 H' → H2 d = none → H' d = some (.xd [("value", y), ("word", z)]) → Q (.ref C) (some d) H'
def tNewR0 (C : Addr) : St → Hp → XK → Prop := fun _ H Q => Q (.ref C) none H
section
variable {X : Cx} {e e2 : Expr} {es : List Expr} {te t2 : TE} {ta : TA} {p p' p1 p2 pos : Pos}
theorem xc_raises {k : Kd} {C : Addr} (T : XC X.K k C) : Raises X (.ref C) := raises_own (T.sub "BaseException" k.hE) T.tyC
theorem pmk_x {CX : CXT} {x : Str} {C fI : Addr} {j : Nat} {fd : FuncData} {ps : List Str} {sp : Sp} {ds : List Value} {dvs : List V} {k : Kd} (T : XC X.K k C) (iC : PySem.W.findIn X.K (.ref C) "__init__" = some (some (.ref fI))) (tI : PySem.W.typeIn X.K (.ref fI) = some (.type "function"))
    (F1 : FnOk X.prog X.w X.K X.mg X.base CX j fI fd ps sp) (hr : Room (j + 1) X.A) (hb : Binds X.K fd ps ds) (hd : Vals dvs ds) (hx : Passes CX X (fun _ _ _ => False)) (hg : Gl X x) (hm : X.mg x = some (.ref C)) (ha : PA X (e :: es) ta)
    (hdb : (x == ("__debug__" : Str)) = false := by decide) (he : starEach (e :: es) X.env = (false, eval e X.env) :: starEach es X.env := by rfl) (hpl : (backTo pos (starEach es X.env)).any (·.1) = false := by rfl) :
    PMk X (.Call (.Name x p) (e :: es) [] pos) (tMkO C sp dvs ta) := by
  intro pins s σ H Q I hh
  obtain ⟨nm, q, N, bs, bm, sn, sub, ab, col, dd, k0, k1, k2, k3, k5, hC, hbm⟩ := T.cls
  refine wpAny_Call_Name_kw (ld_glob I hg hm ?_ hdb)
  refine PySem.W.callWith_K (h₀ := X.base) I.ok.mod.kin T.kC (thn (ha.run pos pins s σ H _ I hh) fun us s1 ⟨vs, H1, I1, r1, hz, q1⟩ => ⟨I1.kIn, ?_⟩) he hpl
  show wpAny _ _ (call (.ref C) us) _ _ _
  obtain ⟨hp, g, dr, tk, os⟩ := s1
  obtain ⟨na, ena⟩ : ∃ na, na = hp.objs.size + 1 := ⟨_, rfl⟩
  have hsz : hp.objs.size ≤ na := by omega
  have hn : H1 na = none := I1.hok.fresh hsz
  have hq := q1 na hn
  obtain ⟨G, eG⟩ : ∃ G, G = (hp.push (PySem.W.kdv_tup us)).push (PySem.HandSPX.excO C hp.objs.size) := ⟨_, rfl⟩
  have kk : ∀ b o, hp.get? b = some o → G.get? b = some o := fun b o e1 => by rw [eG]; exact Heap.get?_push_of_some _ (Heap.get?_push_of_some _ e1)
  have there : G.get? na = some (PySem.HandSPX.excO C hp.objs.size) := by rw [eG, ena]; heap_get
  have I2 : Inv X pins σ (upd H1 na (xo na C none)) ⟨G, g, dr, tk, os⟩ := I1.laid (t' := tk) (a := na) (o := xo na C none) (h' := G) kk hsz (xo_ok there)
  have r2 : Vals (V.ref na :: (vs ++ dvs)) (Value.ref na :: (us ++ ds)) := .cons rfl (r1.append hd)
  have hl : (Value.ref na :: us ++ ds).length = ps.length := by
    have e1 := r2.length
    rw [F1.len _ _ _ _ hq] at e1
    exact e1.symm
  have hus : us.length ≤ sizeLine := by
    rw [← Paired.length r1, sizeLine_eq]
    omega
  refine wpAny_call (run_class k hbm (I1.kIn _ _ hC) (PySem.W.looks_findIn I1.kIn iC) (fun self => PySem.W.bind_fn I1.kIn self tI) hus ?_)
  rw [← eG, ← ena]
  refine codeAny_mono (F1.run _ X.stack _ _ ⟨Value.ref na :: us, []⟩ (Value.ref na :: (us ++ ds)) _ _ (fun _ _ _ => False) (hr.make C us []) (I2.env0.make C us []) (hb _ (Value.ref na :: us) I2.kIn hl) r2 hq) fun r s' hq' => ?_
  cases r with
  | error er => exact hx pins σ _ _ er s' I2 hq'
  | ok fl =>
    cases fl with
    | ret u =>
      obtain ⟨v, H2, os2, bare2, un2, hok2, rv, ev, d, fs, ea, ed, hd1, q2⟩ := hq'
      subst ev
      obtain ⟨h2, g2, d2, t2, os'⟩ := s'
      exact ⟨rv, mk_end (xc_raises T) I1 hsz kk un2 hok2 os2 bare2 ea ed hd1 q2⟩
    | next => exact False.elim hq'
    | brk => exact False.elim hq'
    | cont => exact False.elim hq'
theorem pmk_new {x : Str} {C fI : Addr} {j : Nat} {fd : FuncData} {k : Kd} (S : k.SF) (T : XC X.K k C) (nv : PySem.W.findIn X.K (.ref C) "value" = some none) (iC : PySem.W.findIn X.K (.ref C) "__init__" = some (some (.ref fI))) (tI : PySem.W.typeIn X.K (.ref fI) = some (.type "function"))
    (F1 : FnOk X.prog X.w X.K X.mg X.base CX0 j fI fd ["self", "value"] (spIni X.K)) (hr : Room (j + 1) X.A) (hb : Binds X.K fd ["self", "value"] []) (hm : X.mg x = some (.ref C)) (ha : PE X e te) (hg : Gl X x := by rfl)
    (hdb : (x == ("__debug__" : Str)) = false := by decide) (he : starEach (e :: []) X.env = (false, eval e X.env) :: starEach [] X.env := by rfl) (hpl : (backTo pos (starEach [] X.env)).any (·.1) = false := by rfl) :
    PMk X (.Call (.Name x p) [e] [] pos) (tNewR C te) := by
  refine pmk_weak (pmk_x (e := e) (es := []) (dvs := []) T iC tI F1 hr hb .nil pass0 hg hm (pa_cons (pe_up ha) pa_nil he) hdb he hpl) fun σ H Q q => ?_
  refine ⟨_, q, fun y H1 q1 => ⟨by show 1 ≤ 1000; decide, fun a hn => ⟨a, C, k, y, rfl, S, T, nv, upd_same, fun H2 d hd ne keep e1 e2 => ⟨rfl, d, _, e1, e2, ?_, ?_⟩⟩⟩⟩
  · exact (upd_ne ne).symm.trans hd
  · refine q1 d _ (fun b o z => ?_) ((upd_ne ne).symm.trans hd) upd_same
    have nb : b ≠ a := ne_of_none z hn
    have nd : b ≠ d := ne_of_none z ((upd_ne ne).symm.trans hd)
    exact (upd_ne nd).trans ((del_ne nb).trans (keep b o ((upd_ne nb).trans z) nb))
theorem pmk_new2 {x : Str} {C fI : Addr} {j : Nat} {fd : FuncData} {k : Kd} (S : k.SF) (T : XC X.K k C) (nv : PySem.W.findIn X.K (.ref C) "value" = some none) (nw : PySem.W.findIn X.K (.ref C) "word" = some none) (iC : PySem.W.findIn X.K (.ref C) "__init__" = some (some (.ref fI))) (tI : PySem.W.typeIn X.K (.ref fI) = some (.type "function"))
    (F1 : FnOk X.prog X.w X.K X.mg X.base CX0 j fI fd ["self", "word", "value"] (spIni2 X.K)) (hr : Room (j + 1) X.A) (hb : Binds X.K fd ["self", "word", "value"] []) (hm : X.mg x = some (.ref C)) (ha : PE X e te) (ha2 : PE X e2 t2) (hg : Gl X x := by rfl)
    (hdb : (x == ("__debug__" : Str)) = false := by decide) (he : starEach (e :: [e2]) X.env = (false, eval e X.env) :: starEach [e2] X.env := by rfl) (he2 : starEach (e2 :: []) X.env = (false, eval e2 X.env) :: starEach [] X.env := by rfl) (hpl : (backTo pos (starEach [e2] X.env)).any (·.1) = false := by rfl) :
    PMk X (.Call (.Name x p) [e, e2] [] pos) (tNewR2 C te t2) := by
  refine pmk_weak (pmk_x (e := e) (es := [e2]) (dvs := []) T iC tI F1 hr hb .nil pass0 hg hm (pa_cons (pe_up ha) (pa_cons (pe_up ha2) pa_nil he2) he) hdb he hpl) fun σ H Q q => ?_
  refine ⟨_, q, fun z H1 q1 => ⟨_, q1, fun y H2 q2 => ⟨by show 2 ≤ 1000; decide, fun a hn => ⟨a, C, k, z, y, rfl, S, T, nv, nw, upd_same, fun H3 d hd ne keep e1 e2 => ⟨rfl, d, _, e1, e2, ?_, ?_⟩⟩⟩⟩⟩
  · exact (upd_ne ne).symm.trans hd
  · refine q2 d _ (fun b o z => ?_) ((upd_ne ne).symm.trans hd) upd_same
    have nb : b ≠ a := ne_of_none z hn
    have nd : b ≠ d := ne_of_none z ((upd_ne ne).symm.trans hd)
    exact (upd_ne nd).trans ((del_ne nb).trans (keep b o ((upd_ne nb).trans z) nb))
theorem pmk_new0 {x : Str} {C : Addr} {bmB : List Value} {B newId initId : String} {k : Kd} (T : XC X.K k C) (F : ExcBaseFacts B newId initId bmB) (q : PySem.W.excIn X.K C bmB newId = true) (kC : PySem.W.keepIn X.K (.ref C) = true) (hm : X.mg x = some (.ref C)) (hg : Gl X x := by rfl) (hdb : (x == ("__debug__" : Str)) = false := by decide) :
    PMk X (.Call (.Name x p) [] [] pos) (tNewR0 C) := by
  intro pins s σ H Q I h
  refine wpAny_Call_Name_kw (ld_glob I hg hm (PySem.W.callWith_K0 I.kIn kC ?_) hdb)
  obtain ⟨bm, N, nm, qn, bs, hdct, sn, sub, ab, col, dd, k0, k1, k2, k3, k5, mN, hC, hN, hni, T'⟩ := exc_obj I.kIn q
  refine wpAny_call_exc_subT F T' hC hN hni (fun h' a hm' => ?_) (Nat.zero_le _)
  exact mk_of I hm' (xc_raises T) h (I.hok.gone hm'.new)
end
/-! ### in an except suite -/
theorem obj_of {P : Program} {w : World} {H : Hp} {h : Heap} {dx : Addr} {q : HO} (hok : HOk P w H h) (e : H dx = some q) : ∃ ob, h.get? dx = some ob := by
  have z := hok dx q e
  cases q with
  | lst xs => obtain ⟨_, _, _, _, e1⟩ := z; exact ⟨_, e1⟩
  | tup xs => obtain ⟨_, _, _, o1, e1, _⟩ := z; exact ⟨_, e1⟩
  | dK kvs => obtain ⟨_, _, _, _, o1, _, _, e1, _⟩ := z; exact ⟨_, e1⟩
  | dT kvs => obtain ⟨_, _, _, _, o1, _, _, e1, _⟩ := z; exact ⟨_, e1⟩
  | set S n => obtain ⟨o1, _, _, _, e1, _⟩ := z; exact ⟨_, e1⟩
  | ins C1 d1 f1 => obtain ⟨_, _, _, e1, _⟩ := z; exact ⟨_, e1⟩
  | own y => obtain ⟨_, e1⟩ := z; exact ⟨_, e1⟩
  | xd fs => obtain ⟨_, ⟨_, _, _, e1, _⟩, _⟩ := z; exact ⟨_, e1⟩
  | rng lo hi => obtain ⟨_, _, _, e1⟩ := z; exact ⟨_, e1⟩
  | frz ob u => obtain ⟨e1, _⟩ := z; exact ⟨_, e1⟩
  | tbl ps => have e1 : h.get? dx = some _ := z; exact ⟨_, e1⟩
  | met f1 y => have e1 : h.get? dx = some _ := z; exact ⟨_, e1⟩
  | ext φ => obtain ⟨_, ⟨_, e1⟩, _⟩ := z; exact ⟨_, e1⟩
/-- e.n, e the caught exception at a -/
def tXv (K : PySem.W.Frag) (a : Addr) (cls : Value) (d : Option Addr) (n : Str) (te : TE) : TE := fun σ H Q => te σ H fun x H1 => x = .ref a ∧ ∃ (C dx : Addr) (fs : List (Str × V)) (v : V) (k : Kd), cls = .ref C ∧ d = some dx ∧ XC K k C ∧
  PySem.W.findIn K (.ref C) n = some none ∧ H1 dx = some (.xd fs) ∧ fs.lookup n = some v ∧ Q v H1
/-- isinstance(e, c) -/
def rIsS (K : PySem.W.Frag) (a : Addr) (cls : Value) (d : Option Addr) : List V → Hp → VK → Prop := fun xs H Q => ∃ (C : Addr) (k : Kd) (c : V) (cv : Value) (b : Bool), xs = [.ref a, c] ∧ cls = .ref C ∧ (∀ u, RelV c u → u = cv) ∧
  (∀ dx, d = some dx → ∃ o, H dx = some o) ∧ XC K k C ∧ PySem.W.kitOne K (.ref C) cv = some b ∧ Q (.bl b) H
def tIsS (K : PySem.W.Frag) (a : Addr) (cls : Value) (d : Option Addr) (te : TE) (cv : Value) : TE := fun σ H Q => te σ H fun x H1 => x = .ref a ∧ ∃ (C : Addr) (k : Kd) (b : Bool), cls = .ref C ∧ (∀ dx, d = some dx → ∃ o, H1 dx = some o) ∧ XC K k C ∧ PySem.W.kitOne K (.ref C) cv = some b ∧ Q (.bl b) H1
section
variable {X : Cx} {a : Addr} {oe : Obj} {cls : Value} {d : Option Addr} {pn : List (Addr × Obj)} {e e2 : Expr} {te : TE} {p pos : Pos}
theorem inst_at {C : Addr} {pins : List (Addr × Obj)} {σ : St} {H : Hp} {s : Shared} (I : Inv (X.suite a ((a, oe) :: pn)) pins σ H s) (hz : Zc cls d oe) (hf : ∃ vs, oe.data = .fields vs) (ec : cls = .ref C) (hd : ∀ dx, d = some dx → ∃ o, H dx = some o) :
    ∃ od : Option Obj, PySem.W.InstAt s.heap a oe C od ∧ ∀ dx, d = some dx → ∃ q, od = some q ∧ s.heap.get? dx = some q := by
  obtain ⟨ha, _⟩ := I.pin (a, oe) (List.mem_append_left _ List.mem_cons_self)
  obtain ⟨vs, hv⟩ := hf
  obtain ⟨z1, z2⟩ := hz
  have nc : PySem.W.notCls oe := by unfold PySem.W.notCls; rw [hv] <;> rfl
  cases d with
  | none => exact ⟨none, ⟨ha, z1.trans ec, nc, by rw [z2]; trivial⟩, fun dx z => by cases z⟩
  | some dx =>
    obtain ⟨q, hq⟩ := hd dx rfl
    obtain ⟨ob, hb⟩ := obj_of I.hok hq
    exact ⟨some ob, ⟨ha, z1.trans ec, nc, by rw [z2]; exact hb⟩, fun dy z => by cases z; exact ⟨ob, rfl, hb⟩⟩
theorem pe_xv {n : Str} (hz : Zc cls d oe) (hf : ∃ vs, oe.data = .fields vs) (he : PE (X.suite a ((a, oe) :: pn)) e te) (hb : attributeBase e n X.env (eval e X.env) = eval e X.env := by rfl) :
    PE (X.suite a ((a, oe) :: pn)) (.Attribute e n pos) (tXv X.K a cls d n te) := by
  refine ⟨fun pins s σ H Q I hh => attr_of hb (thn (he.run pins s σ H _ I hh) fun u s1 ⟨x, H1, I1, rx, q⟩ => ?_)⟩
  obtain ⟨rfl, C, dx, fs, v, k, ec, ed, T, hno, hx, l, q⟩ := q
  cases (show u = Value.ref a from rx)
  obtain ⟨od, J, hd⟩ := inst_at I1 hz hf ec fun dy z => by rw [ed] at z; cases z; exact ⟨_, hx⟩
  obtain ⟨ob, eo, ho⟩ := hd dx ed
  have hx2 : ObjOk X.prog X.w H1 s1.heap dx (.xd fs) := I1.hok dx _ hx
  obtain ⟨mA, hns, hr⟩ := hx2
  obtain ⟨o2, ho2, hl⟩ := lookIn_ns hns
  cases ho.symm.trans ho2
  subst eo
  obtain ⟨z, hz', rz⟩ := RelO.some_of (v := v) (o := mA n) (by rw [← l]; exact hr n)
  exact HandSPX.exc_get I1.kIn J T.ga T.gg (T.sub "BaseException" k.hE) (PySem.W.findObj_own T.hd hno rfl (by rw [hl, hz'])) (handed_of rz) ⟨v, H1, I1.tok _, rz, q⟩
theorem call_isS (hz : Zc cls d oe) (hf : ∃ vs, oe.data = .fields vs) : CallR (X.suite a ((a, oe) :: pn)) (.builtin "isinstance") (rIsS X.K a cls d) := by
  intro pins s σ H xs us Q I r q
  obtain ⟨C, k, c, cv, b, rfl, ec, hcv, hd, T, e, q⟩ := q
  cases r with
  | cons rx rr =>
    cases rr with
    | cons rt rr =>
      cases rr
      cases rx
      cases hcv _ rt
      obtain ⟨od, J, _⟩ := inst_at I hz hf ec hd
      exact PySem.W.kia_one (PySem.W.kitx_exc T.isC T.ga T.gg (T.sub "BaseException" k.hE) T.cl oc_get oc_take (T.sub "object" k.hO)) I.kIn J e (fun z => nomatch z) fun tk => ⟨.bl b, H, I.kept (t' := tk) fun _ _ z => z, rfl, q⟩
theorem pe_isS {c : V} {cv : Value} (hz : Zc cls d oe) (hf : ∃ vs, oe.data = .fields vs) (pe2 : PE (X.suite a ((a, oe) :: pn)) e2 (tC c)) (hv : ∀ u, RelV c u → u = cv) (hm : X.mg "isinstance" = none) (ha : PE (X.suite a ((a, oe) :: pn)) e te) (hg : Gl X "isinstance" := by rfl)
    (he : starEach (e :: [e2]) X.env = (false, eval e X.env) :: starEach [e2] X.env := by rfl) (he2 : starEach (e2 :: []) X.env = (false, eval e2 X.env) :: starEach [] X.env := by rfl) (hpl : (backTo pos (starEach [e2] X.env)).any (·.1) = false := by rfl) :
    PE (X.suite a ((a, oe) :: pn)) (.Call (.Name "isinstance" p) [e, e2] [] pos) (tIsS X.K a cls d te cv) := by
  refine pe_weak (pe_callB (e := e) (es := [e2]) (call_isS hz hf) hg hm boot_isinstance (pa_cons (pe_up ha) (pa_cons pe2 pa_nil he2) he) (by decide) (by decide) he hpl) fun σ H Q q => ?_
  refine ⟨_, q, fun x H1 q1 => ?_⟩
  obtain ⟨rfl, C, k, b, ec, hd, T, e, q⟩ := q1
  exact ⟨C, k, c, cv, b, rfl, ec, hv, hd, T, e, q⟩
end
end L2.Lr

set_option maxHeartbeats 4000000
namespace L2.Lr
open PySem PySem.Spec PyProof.Rows LR
/-! words for any law -/
/-- a loop whose body's ends are a letter -/
theorem for_rangeD {lo : Int} {n : Nat} {g : TG} {tb : TS} {D : Ends} {σ : St} {H : Hp} (Pv : Nat → St → Hp → Prop) (h0 : Pv 0 σ H)
    (hs : ∀ (D' : Ends) (i : Nat) (σ : St) (H : Hp), D'.rt = D.rt → (∀ σ H, Pv (i + 1) σ H → D'.nx σ H) → (∀ σ H, Pv (i + 1) σ H → D'.ct σ H) → (∀ σ H, D.nx σ H → D'.bk σ H) → i < n → Pv i σ H → g (.int (lo + i)) σ H fun σ2 H2 => tb D' σ2 H2) (hd : ∀ σ H, Pv n σ H → D.nx σ H) :
    ∃ W : Nat → Nat → St → Hp → Prop, (∃ m, W 0 m σ H) ∧ ∀ i m σ H, W i m σ H →
      ((Itr lo n).stop i H ∧ D.nx σ H) ∨ ((Itr lo n).go i H ∧ ∃ N : St → Hp → Prop, (∀ σ' H', N σ' H' → ∃ m', m' < m ∧ W (i + 1) m' σ' H') ∧ ∀ x H', (Itr lo n).yld i H x H' → g x σ H' fun σ2 H2 => tb { D with nx := N, ct := N, bk := D.nx } σ2 H2) :=
  for_range Pv h0 (fun i σ H hi hp => hs { D with nx := Pv (i + 1), ct := Pv (i + 1), bk := D.nx } i σ H rfl (fun _ _ h => h) (fun _ _ h => h) (fun _ _ h => h) hi hp) hd
theorem for_listD {K : PySem.W.Frag} {a : Addr} {xs : List V} {g : TG} {tb : TS} {D : Ends} {σ : St} {H : Hp} (Pv : Nat → St → Hp → Prop) (h0 : Pv 0 σ H) (hl : ∀ i σ H, i ≤ xs.length → Pv i σ H → SqL K H a xs)
    (hs : ∀ (D' : Ends) (i : Nat) (x : V) (σ : St) (H : Hp), D'.rt = D.rt → (∀ σ H, Pv (i + 1) σ H → D'.nx σ H) → (∀ σ H, Pv (i + 1) σ H → D'.ct σ H) → (∀ σ H, D.nx σ H → D'.bk σ H) → xs[i]? = some x → Pv i σ H → g x σ H fun σ2 H2 => tb D' σ2 H2) (hd : ∀ σ H, Pv xs.length σ H → D.nx σ H) :
    ∃ W : Nat → Nat → St → Hp → Prop, (∃ m, W 0 m σ H) ∧ ∀ i m σ H, W i m σ H →
      ((Itl K a).stop i H ∧ D.nx σ H) ∨ ((Itl K a).go i H ∧ ∃ N : St → Hp → Prop, (∀ σ' H', N σ' H' → ∃ m', m' < m ∧ W (i + 1) m' σ' H') ∧ ∀ x H', (Itl K a).yld i H x H' → g x σ H' fun σ2 H2 => tb { D with nx := N, ct := N, bk := D.nx } σ2 H2) :=
  for_list Pv h0 hl (fun i x σ H hi hp => hs { D with nx := Pv (i + 1), ct := Pv (i + 1), bk := D.nx } i x σ H rfl (fun _ _ h => h) (fun _ _ h => h) (fun _ _ h => h) hi hp) hd
theorem for_tupD {K : PySem.W.Frag} {a : Addr} {xs : List V} {g : TG} {tb : TS} {D : Ends} {σ : St} {H : Hp} (Pv : Nat → St → Hp → Prop) (h0 : Pv 0 σ H) (hl : ∀ i σ H, i ≤ xs.length → Pv i σ H → SqT K H a xs)
    (hs : ∀ (D' : Ends) (i : Nat) (x : V) (σ : St) (H : Hp), D'.rt = D.rt → (∀ σ H, Pv (i + 1) σ H → D'.nx σ H) → (∀ σ H, Pv (i + 1) σ H → D'.ct σ H) → (∀ σ H, D.nx σ H → D'.bk σ H) → xs[i]? = some x → Pv i σ H → g x σ H fun σ2 H2 => tb D' σ2 H2) (hd : ∀ σ H, Pv xs.length σ H → D.nx σ H) :
    ∃ W : Nat → Nat → St → Hp → Prop, (∃ m, W 0 m σ H) ∧ ∀ i m σ H, W i m σ H →
      ((Itt K a).stop i H ∧ D.nx σ H) ∨ ((Itt K a).go i H ∧ ∃ N : St → Hp → Prop, (∀ σ' H', N σ' H' → ∃ m', m' < m ∧ W (i + 1) m' σ' H') ∧ ∀ x H', (Itt K a).yld i H x H' → g x σ H' fun σ2 H2 => tb { D with nx := N, ct := N, bk := D.nx } σ2 H2) :=
  for_tup Pv h0 hl (fun i x σ H hi hp => hs { D with nx := Pv (i + 1), ct := Pv (i + 1), bk := D.nx } i x σ H rfl (fun _ _ h => h) (fun _ _ h => h) (fun _ _ h => h) hi hp) hd
theorem ite_dec {p : Prop} [Decidable p] {A B : Prop} (h1 : p → A) (h2 : ¬ p → B) : if decide p = true then A else B := by
  by_cases h : p
  · rw [if_pos (decide_eq_true h)]
    exact h1 h
  · rw [if_neg (by rw [decide_eq_false h]; exact Bool.false_ne_true)]
    exact h2 h
theorem go_next {D : Ends} {σ : St} {H : Hp} (h : D.nx σ H) : tNext D σ H := h
theorem go_seq {t u : TS} {D : Ends} {σ : St} {H : Hp} (h : t { D with nx := u D } σ H) : tSeq t u D σ H := h
theorem go_asg {te : TE} {g : TG} {D : Ends} {σ : St} {H : Hp} (h : te σ H fun x H1 => g x σ H1 D.nx) : tAsg te g D σ H := h
theorem eqv_ne {d e : PyData} {A B : Prop} (h : PyData.eqv d e = true) (b : B) : if (!PyData.eqv d e) = true then A else B := by
  rw [h]
  exact iteF b
theorem all_range {n : Nat} {p : Nat → Bool} (h : (List.range n).all p = true) (i : Nat) (hi : i < n) : p i = true := List.all_eq_true.mp h i (List.mem_range.mpr hi)
/-! ### a Hook with a check of one's own -/
def obsEG (n : Nat) (chk : PySem.W.Frag → Bool) (fa : List He.Fa) (fn : List He.DefD) (g : Addr → Option Obj) : Bool × He.AlD := (fun K => (chk K, He.obsD fa fn K)) (He.frG g (He.asD g n))
def hookE (n : Nat) (chk : PySem.W.Frag → Bool) (fa : List He.Fa) (fn : List He.DefD) : PySem.W.Hook where
  α := Bool × He.AlD
  obs := fun s => obsEG n chk fa fn s.heap.get?
  val := fun _ => (true, He.valD fn)
  says := fun _ h => ∃ K : PySem.W.Frag, K.In h ∧ chk K = true ∧ He.SaysD fa fn K
  of := fun _ _ e => ⟨_, He.frG_in, congrArg (fun z : Bool × He.AlD => z.1) e, congrArg (fun z : Bool × He.AlD => z.2) e⟩
  keeps := fun _ _ _ ⟨K, hK, c⟩ k => ⟨K, PySem.W.Frag.In.keeps hK k, c⟩
theorem obsEG_eq {n : Nat} {chk : PySem.W.Frag → Bool} {fa : List He.Fa} {fn : List He.DefD} {g : Addr → Option Obj} {s : Shared} (h : ∀ a, g a = s.heap.get? a) : obsEG n chk fa fn g = (hookE n chk fa fn).obs s := by
  have e : g = s.heap.get? := funext h
  rw [e]
  rfl
/-! ### int(x) -/
def tInt (te : TE) : TE := fun σ H Q => te σ H fun x H1 => ∃ i, x = .int i ∧ Q (.int i) H1
def tIntB (te : TE) : TE := fun σ H Q => te σ H fun x H1 => ∃ k, x = .bl k ∧ Q (.int (if k then 1 else 0)) H1
section
variable {X : Cx} {e : Expr} {te : TE} {p pos : Pos}
theorem pe_toI (hm : X.mg "int" = none) (ha : PE X e te) (hg : Gl X "int" := by rfl) (he : starEach (e :: []) X.env = (false, eval e X.env) :: starEach [] X.env := by rfl) (hpl : (backTo pos (starEach [] X.env)).any (·.1) = false := by rfl) : PE X (.Call (.Name "int" p) [e] [] pos) (tInt te) :=
  pe_weak (pe_callTy (e := e) (es := []) call_int1 hg hm (by decide +kernel) (pa_cons (pe_up ha) pa_nil he) (by decide) (by decide) he hpl) fun σ H Q q => ⟨_, q, fun x H1 ⟨i, ex, q1⟩ => .inl ⟨i, by rw [ex], q1⟩⟩
theorem pe_toIB (hm : X.mg "int" = none) (ha : PE X e te) (hg : Gl X "int" := by rfl) (he : starEach (e :: []) X.env = (false, eval e X.env) :: starEach [] X.env := by rfl) (hpl : (backTo pos (starEach [] X.env)).any (·.1) = false := by rfl) : PE X (.Call (.Name "int" p) [e] [] pos) (tIntB te) :=
  pe_weak (pe_callTy (e := e) (es := []) call_int1 hg hm (by decide +kernel) (pa_cons (pe_up ha) pa_nil he) (by decide) (by decide) he hpl) fun σ H Q q => ⟨_, q, fun x H1 ⟨i, ex, q1⟩ => .inr ⟨i, by rw [ex], q1⟩⟩
end
/-! ### data -/
def tyN : PyData → String
  | .none => "NoneType"
  | .bool _ => "bool"
  | .int _ => "int"
  | .str _ => "str"
  | .list _ => "list"
  | .tuple _ => "tuple"
  | .dict _ => "dict"
theorem tyD {K : PySem.W.Frag} {H : Hp} {x : V} {d : PyData} (h : Dp K H x d) : TyX K H x (.type (tyN d)) := by
  cases h with
  | non => exact .base .non
  | bl b => exact .base (.bl b)
  | int i => exact .base (.int i)
  | str s => exact .base (.str s)
  | lst h _ =>
    rcases h with (h | ⟨o, h⟩) | ⟨o, its, n, h, c, _⟩
    · exact .base (.lst h)
    · exact .base (.frz h)
    · exact .kList h c
  | tup h _ =>
    rcases h with (h | ⟨o, h⟩) | ⟨o, its, n, h, c, _⟩
    · exact .base (.tup h)
    · exact .fTuple h
    · exact .kTuple h c
theorem seqT {K : PySem.W.Frag} {H H' : Hp} {a : Addr} {xs : List V} (s : Same H H') (h : SqT K H a xs) : SqT K H' a xs := by
  rcases h with (h | ⟨o, h⟩) | h
  · exact .inl (.inl (s _ _ h))
  · exact .inl (.inr ⟨o, s _ _ h⟩)
  · exact .inr h
mutual
theorem Dp.same {K : PySem.W.Frag} {H H' : Hp} (s : Same H H') : ∀ {v : V} {d : PyData}, Dp K H v d → Dp K H' v d
  | _, _, .non => .non
  | _, _, .bl b => .bl b
  | _, _, .int i => .int i
  | _, _, .str x => .str x
  | _, _, .lst h a => .lst (s.seq h) (DpAll.same s a)
  | _, _, .tup h a => .tup (seqT s h) (DpAll.same s a)
theorem DpAll.same {K : PySem.W.Frag} {H H' : Hp} (s : Same H H') : ∀ {vs : List V} {ds : List PyData}, DpAll K H vs ds → DpAll K H' vs ds
  | _, _, .nil => .nil
  | _, _, .cons h a => .cons (Dp.same s h) (DpAll.same s a)
end
/-- isinstance(x, t) of data -/
def tIsD (K : PySem.W.Frag) (t : String) (te : TE) : TE := fun σ H Q => te σ H fun x H1 => ∃ d b, Dp K H1 x d ∧ kitB (tyN d) t = some b ∧ Q (.bl b) H1
theorem pe_isD {X : Cx} {e e2 : Expr} {te : TE} {p pos : Pos} {t : String} (hm : X.mg "isinstance" = none) (ha : PE X e te) (pe2 : PE X e2 (tC (.ty t))) (hg : Gl X "isinstance" := by rfl)
    (he : starEach (e :: [e2]) X.env = (false, eval e X.env) :: starEach [e2] X.env := by rfl) (he2 : starEach (e2 :: []) X.env = (false, eval e2 X.env) :: starEach [] X.env := by rfl) (hpl : (backTo pos (starEach [e2] X.env)).any (·.1) = false := by rfl) :
    PE X (.Call (.Name "isinstance" p) [e, e2] [] pos) (tIsD X.K t te) :=
  pe_weak (pe_callB (e := e) (es := [e2]) call_isi hg hm boot_isinstance (pa_cons (pe_up ha) (pa_cons pe2 pa_nil he2) he) (by decide) (by decide) he hpl) fun σ H Q q => ⟨_, q, fun x H1 ⟨d, b, hd, hk, q1⟩ => ⟨x, .ty t, .type (tyN d), .type t, b, rfl, .ty t, tyD hd, kit_ty hk, q1⟩⟩
/-! ### displays of constants -/
/-- the value is this data -/
def tDat (K : PySem.W.Frag) (d : PyData) : TE := fun _ H Q => ∀ v H', Same H H' → Dp K H' v d → Q v H'
def tDats (K : PySem.W.Frag) (ds : List PyData) : TA := fun _ H Q => ∀ vs H', Same H H' → DpAll K H' vs ds → Q vs H'
/-- a new list of this data -/
def tDatL (K : PySem.W.Frag) (ds : List PyData) : TE := fun _ H Q => ∀ p vs H', Same H H' → H' p = some (.lst vs) → DpAll K H' vs ds → Q (.ref p) H'
theorem DpAll.length {K : PySem.W.Frag} {H : Hp} : ∀ {vs : List V} {ds : List PyData}, DpAll K H vs ds → vs.length = ds.length
  | _, _, .nil => rfl
  | _, _, .cons _ a => by simp [DpAll.length a]
theorem DpAll.append {K : PySem.W.Frag} {H : Hp} : ∀ {vs us : List V} {ds es : List PyData}, DpAll K H vs ds → DpAll K H us es → DpAll K H (vs ++ us) (ds ++ es)
  | _, _, _, _, .nil, b => b
  | _, _, _, _, .cons h a, b => .cons h (DpAll.append a b)
theorem DpAll.at {K : PySem.W.Frag} {H : Hp} : ∀ {vs : List V} {ds : List PyData} {i : Nat} {v : V}, DpAll K H vs ds → vs[i]? = some v → ∃ d, ds[i]? = some d ∧ Dp K H v d
  | _, _, _, _, .nil, e => by simp at e
  | _, _, 0, _, .cons h a, e => by simp at e; subst e; exact ⟨_, rfl, h⟩
  | _ :: vs, _ :: ds, i + 1, v, .cons h a, e => DpAll.at (vs := vs) (ds := ds) (i := i) a (by simpa using e)
section
variable {X : Cx} {e : Expr} {es : List Expr} {d : PyData} {ds : List PyData} {p pos : Pos}
theorem pd_int {i : Int} {k} : PE X (.Constant (.int i) k p) (tDat X.K (.int i)) := pe_weak pe_int fun σ H Q q => q _ _ (Same.refl H) (.int i)
theorem pd_str {x : Str} {k} : PE X (.Constant (.str x) k p) (tDat X.K (.str x)) := pe_weak pe_str fun σ H Q q => q _ _ (Same.refl H) (.str x)
theorem pd_bl {b : Bool} {k} : PE X (.Constant (.bool b) k p) (tDat X.K (.bool b)) := pe_weak pe_bl fun σ H Q q => q _ _ (Same.refl H) (.bl b)
theorem pd_non {k} : PE X (.Constant .none k p) (tDat X.K .none) := pe_weak pe_non fun σ H Q q => q _ _ (Same.refl H) .non
theorem pd_neg {i : Int} {k} : PE X (.UnaryOp .USub (.Constant (.int i) k p) pos) (tDat X.K (.int (-i))) := pe_weak (pe_un un_neg pe_int) fun σ H Q q => ⟨i, rfl, q _ _ (Same.refl H) (.int (-i))⟩
theorem pd_nil : PA X [] (tDats X.K []) := pa_weak pa_nil fun σ H Q q => q [] H (Same.refl H) .nil
theorem pd_cons (h1 : PE X e (tDat X.K d)) (h2 : PA X es (tDats X.K ds)) (hs : starEach (e :: es) X.env = (false, eval e X.env) :: starEach es X.env := by rfl) : PA X (e :: es) (tDats X.K (d :: ds)) :=
  pa_weak (pa_cons h1 h2 hs) fun σ H Q q v H1 s1 h1 vs H2 s2 h2 => q (v :: vs) H2 (s1.trans s2) (.cons (Dp.same s2 h1) h2)
theorem pd_tup {x1} (h : PA X es (tDats X.K ds)) (hz : ds.length ≤ sizeLine := by show _ ≤ _; decide) : PE X (.Tuple es x1 pos) (tDat X.K (.tuple ds)) :=
  pe_weak (pe_tup h) fun σ H Q q vs H1 s1 h1 => ⟨by rw [DpAll.length h1]; exact hz, fun p np => q _ _ (s1.trans (same_upd np)) (.tup (SqT.of upd_same) (DpAll.same (same_upd np) h1))⟩
theorem pd_lst {x1} (h : PA X es (tDats X.K ds)) (hz : ds.length ≤ sizeLine := by show _ ≤ _; decide) : PE X (.List es x1) (tDat X.K (.list ds)) :=
  pe_weak (pe_lst h) fun σ H Q q vs H1 s1 h1 => ⟨by rw [DpAll.length h1]; exact hz, fun p np => q _ _ (s1.trans (same_upd np)) (.lst (SqL.of upd_same) (DpAll.same (same_upd np) h1))⟩
theorem pd_lstL {x1} (h : PA X es (tDats X.K ds)) (hz : ds.length ≤ sizeLine := by show _ ≤ _; decide) : PE X (.List es x1) (tDatL X.K ds) :=
  pe_weak (pe_lst h) fun σ H Q q vs H1 s1 h1 => ⟨by rw [DpAll.length h1]; exact hz, fun p np => q p vs _ (s1.trans (same_upd np)) upd_same (DpAll.same (same_upd np) h1)⟩
end
/-! ### displays of pairs of names -/
/-- tuples of the values of two slots each -/
def tPairs (l : List (Nat × Nat)) : TA := fun σ H Q => ∃ f : Nat → V, (∀ q, q ∈ l → σ[q.1]? = some (some (f q.1)) ∧ σ[q.2]? = some (some (f q.2))) ∧
  ∀ (as : List Addr) (H' : Hp), Same H H' → as.length = l.length → (∀ (n : Nat) (a : Addr) (q : Nat × Nat), as[n]? = some a → l[n]? = some q → H' a = some (.tup [f q.1, f q.2])) → Q (as.map V.ref) H'
section
variable {X : Cx} {e1 e2 : Expr} {es : List Expr} {i j : Nat} {l : List (Nat × Nat)} {p pos : Pos}
theorem pa_pair0 : PA X [] (tPairs []) := pa_weak pa_nil fun σ H Q ⟨f, _, q⟩ => q [] H (Same.refl H) rfl fun n a r e => by simp at e
theorem pa_pair {x1} (h1 : PE X e1 (tVar i)) (h2 : PE X e2 (tVar j)) (h : PA X es (tPairs l)) (he : starEach (e1 :: [e2]) X.env = (false, eval e1 X.env) :: starEach [e2] X.env := by rfl) (he2 : starEach (e2 :: []) X.env = (false, eval e2 X.env) :: starEach [] X.env := by rfl)
    (hs : starEach (.Tuple [e1, e2] x1 pos :: es) X.env = (false, eval (.Tuple [e1, e2] x1 pos) X.env) :: starEach es X.env := by rfl) : PA X (.Tuple [e1, e2] x1 pos :: es) (tPairs ((i, j) :: l)) :=
  pa_weak (pa_cons (pe_tup (pa_cons h1 (pa_cons h2 pa_nil he2) he)) h hs) fun σ H Q ⟨f, hf, q⟩ => by
    obtain ⟨f1, f2⟩ := hf (i, j) (List.mem_cons_self ..)
    refine ⟨_, f1, _, f2, by show 2 ≤ sizeLine; decide, fun a na => ⟨f, fun q m => hf q (List.mem_cons_of_mem _ m), fun as H2 s2 hl ha => q (a :: as) H2 ((same_upd na).trans s2) (by simp [hl]) fun n b r e1 e2 => ?_⟩⟩
    cases n with
    | zero =>
      simp at e1 e2
      subst e1 e2
      exact s2 _ _ upd_same
    | succ n => exact ha n b r (by simpa using e1) (by simpa using e2)
end
end L2.Lr

set_option maxHeartbeats 4000000
namespace L2.Lr
open PySem PySem.Spec PyProof.Rows LR
/-! several except clauses, each with a name or none -/
/-- a caught exception: I is the state around it -/
structure Got (X : Cx) (pins : List (Addr × Obj)) (σ : St) (H : Hp) (B : Heap) (sI : Shared) (a : Addr) (cls : Value) (d : Option Addr) (s : Shared) : Prop where
  I : Inv X pins σ H sI
  nb : ∀ b o, sI.heap.get? b = some o → b ∉ frs X.stack → B.get? b = some o
  up : sI.heap.UpToSlots s.heap
  fl : HandSPX.FlyingZ B (X.env :: X.outer) a (Zc cls d) s.heap
  os : s.os = sI.os
  ag : AllBare s.gens
  na : H a = none
section
variable {X : Cx} {pins : List (Addr × Obj)} {σ : St} {H : Hp} {B : Heap} {sI s : Shared} {a : Addr} {cls : Value} {d : Option Addr}
theorem Got.at_ (G : Got X pins σ H B sI a cls d s) {h' : Heap} (fl : HandSPX.FlyingZ B (X.env :: X.outer) a (Zc cls d) h') (up : s.heap.UpToSlots h') : Got X pins σ H B sI a cls d { s with heap := h' } :=
  ⟨G.I, G.nb, G.up.trans up, fl, G.os, G.ag, G.na⟩
/-- the state within a suite -/
theorem Got.suite (G : Got X pins σ H B sI a cls d s) (hf : X.env.frame = some X.env.locals) : ∃ oe vs, s.heap.get? a = some oe ∧ Zc cls d oe ∧ oe.data = .fields vs ∧ Inv (X.suite a ((a, oe) :: (X.pn ++ pins))) [] σ H s := by
  obtain ⟨oe, vs, e1, e2, e3⟩ := G.fl.there
  have off : a ∉ frs (X.env :: X.outer) := fun m => by
    obtain ⟨_, o', e', n⟩ := G.fl.2.2.1.mem m
    cases e1.symm.trans e'
    exact n _ e3
  have J : Inv X pins σ H s := G.I.landed G.nb G.fl.1 G.up G.os G.ag
  refine ⟨oe, vs, e1, e2, e3, J.suite e1 e3 G.na (fun z => off ?_) fun m => off ?_⟩
  · exact List.mem_filterMap.mpr ⟨X.env, List.mem_cons_self, by rw [hf, z]⟩
  · obtain ⟨e, he, q⟩ := List.mem_filterMap.mp m
    exact List.mem_filterMap.mpr ⟨e, List.mem_cons_of_mem _ he, q⟩
end
/-- the ends of a suite whose name, at slot i, goes behind it -/
def offD (i : Nat) (D : Ends) : Ends := { nx := fun σ H => D.nx (σ.set i none) H, rt := D.rt, bk := fun σ H => D.bk (σ.set i none) H, ct := fun σ H => D.ct (σ.set i none) H }
abbrev Cl : Type := Value × Option Nat × (Addr → Value → Option Addr → TS)
/-- what the clauses wish of an exception of the body -/
def wCl (K : PySem.W.Frag) (Wout : WX) (D : Ends) : List Cl → WX
  | [] => Wout
  | (c, none, ts) :: r => fun cls d σ H => ∃ b, PySem.W.exmOne K cls c = some b ∧ (b = true → ∀ a, H a = none → ts a cls d D σ H) ∧ (b = false → wCl K Wout D r cls d σ H)
  | (c, some i, ts) :: r => fun cls d σ H => ∃ b, PySem.W.exmOne K cls c = some b ∧ (b = true → ∀ a, H a = none → ts a cls d (offD i D) (σ.set i (some (.ref a))) H) ∧ (b = false → wCl K Wout D r cls d σ H)
inductive ClOk (X : Cx) : List ExceptHandler → List Cl → Prop
  | nil : ClOk X [] []
  | plain {x : Str} {c : Value} {ts : Addr → Value → Option Addr → TS} {b₀ : Stmt} {su : List Stmt} {np pos' : Pos} {hds : List ExceptHandler} {l : List Cl} (hc : Names X x c)
      (hsu : ∀ (a : Addr) (oe : Obj) (cls : Value) (d : Option Addr) (pn : List (Addr × Obj)), Zc cls d oe → (∃ vs, oe.data = .fields vs) → PSs (X.suite a ((a, oe) :: pn)) (b₀ :: su) (ts a cls d)) (r : ClOk X hds l) :
      ClOk X (.ExceptHandler (some (.Name x np)) none (b₀ :: su) pos' :: hds) ((c, none, ts) :: l)
  | named {x n : Str} {i : Nat} {c : Value} {ts : Addr → Value → Option Addr → TS} {b₀ : Stmt} {su : List Stmt} {np pos' : Pos} {hds : List ExceptHandler} {l : List Cl} (hi : X.N[i]? = some n) (hl : X.env.kindOf n = some .local) (hc : Names X x c)
      (hsu : ∀ (a : Addr) (oe : Obj) (cls : Value) (d : Option Addr) (pn : List (Addr × Obj)), Zc cls d oe → (∃ vs, oe.data = .fields vs) → PSs (X.suite a ((a, oe) :: pn)) (b₀ :: su) (ts a cls d)) (r : ClOk X hds l) :
      ClOk X (.ExceptHandler (some (.Name x np)) (some n) (b₀ :: su) pos' :: hds) ((c, some i, ts) :: l)
section
variable {X : Cx} {pins : List (Addr × Obj)} {σ : St} {H : Hp} {B : Heap} {sI s : Shared} {a : Addr} {cls : Value} {d : Option Addr} {D : Ends} {Wout : WX}
theorem Got.out (G : Got X pins σ H B sI a cls d s) (hs : X.stack = X.env :: X.outer) (hf : X.env.frame = some X.env.locals) (tk : Takes X Wout) (w : Wout cls d σ H) :
    wpAny (model X.prog X.w) X.A (handleBy (.ref a) X.env []) (SP X pins D) X.xe s := by
  refine wpAny_handleBy_nil ?_
  obtain ⟨_, _, _, oe, vs, T, oT, ts', e1, _, e2, e3, _⟩ := id G.fl
  unfold PySem.passOn
  refine wpAny_bind (wpAny_field e1 e2 e3 ?_)
  rw [if_neg (show ¬ ((Value.ref T == Value.none) = true) by simp)]
  have last : wpAny (model X.prog X.w) X.A (setFlight (.ref a) X.env.frame) (fun _ s4 => wpAny (model X.prog X.w) X.A (throw (.ref a) : Sem Flow) (SP X pins D) X.xe s4) X.xe s := by
    rw [hf]
    refine HandSPX.setFlight_upZ G.fl fun h4 held up4 => wpAny_throw (tk _ _ ⟨a, B, sI, pins, σ, H, cls, d, rfl, G.I, G.nb, G.up.trans up4, .inr (.inr ?_), G.na, G.os, G.ag, w⟩)
    rw [hs]
    exact held
  first
    | exact wpAny_bind (wpAny_pure (wpAny_bind last))
    | exact wpAny_bind last
/-- the clauses, at a caught exception -/
theorem clauses (hs : X.stack = X.env :: X.outer) (hf : X.env.frame = some X.env.locals) (hN : X.N.Nodup) (tk : Takes X Wout) (ok : X.Ok) {hds : List ExceptHandler} {l : List Cl} (hk : ClOk X hds l) :
    ∀ {s : Shared}, Got X pins σ H B sI a cls d s → wCl X.K Wout D l cls d σ H → wpAny (model X.prog X.w) X.A (handleBy (.ref a) X.env hds) (SP X pins D) X.xe s := by
  -- the test of one clause
  have test : ∀ {x : Str} {c : Value} {np : Pos} {b : Bool} {s : Shared} {Q : Bool → Shared → Prop} {E1 E2 : Value → Shared → Prop}, Names X x c → PySem.W.exmOne X.K cls c = some b → Got X pins σ H B sI a cls d s → Q b s →
      wpAny (model X.prog X.w) (X.A.mark (some (.ref a))) (eval (.Name x np) X.env) (fun c s1 => wpAny (model X.prog X.w) (X.A.mark (some (.ref a))) (excMatches (.ref a) c) Q E1 s1) E2 s := by
    intro x c np b s Q E1 E2 hc hb G q
    obtain ⟨oe, vs, e1, e2, e3, S⟩ := G.suite hf
    have LT : PySem.W.Looks (model X.prog X.w) s.heap (typeOf (.ref a)) cls := fun A Q E s1 k q => wpAny_typeOf_ref (k _ _ e1) (by rw [e2.1]; exact q)
    have LM := PySem.W.exm_one (M := model X.prog X.w) S.kIn LT hb
    obtain ⟨hg, hdb, hm | ⟨hm, hv, hn⟩⟩ := hc
    · exact ld_glob (X := X.suite a ((a, oe) :: (X.pn ++ pins))) S hg hm (LM.here q) hdb
    · exact ld_blt (X := X.suite a ((a, oe) :: (X.pn ++ pins))) S hg hm hv (LM.here q) hn hdb
  induction hk with
  | nil => exact fun G w => G.out hs hf tk w
  | @plain x c ts b₀ su np pos' hds2 l2 hc hsu r ih =>
    intro s G w
    obtain ⟨b, hb, yes, no⟩ := w
    refine wpAny_handleBy_cons (codeAny_handlers_test (test hc hb G ?_)) (by intro q; cases q)
    cases b with
    | false => exact ih G (no rfl)
    | true =>
      refine codeAny_handlers_suite (HandSPX.lands_againZ G.fl fun h4 fl4 up4 => ?_)
      obtain ⟨oe, vs, e1, e2, e3, S⟩ := (G.at_ fl4 up4).suite hf
      refine wpAny_mono ((hsu a oe cls d (X.pn ++ pins) e2 ⟨_, e3⟩).run [] _ σ H _ S (yes rfl a G.na)) (fun f s6 q => ?_) (fun _ _ z => False.elim z)
      match f, q with
      | .next, ⟨σ6, H6, S6, q6⟩ => exact ⟨_, _, S6.unsuite ok, q6⟩
      | .brk, ⟨σ6, H6, S6, q6⟩ => exact ⟨_, _, S6.unsuite ok, q6⟩
      | .cont, ⟨σ6, H6, S6, q6⟩ => exact ⟨_, _, S6.unsuite ok, q6⟩
      | .ret u, ⟨v6, σ6, H6, S6, r6, q6⟩ => exact ⟨_, _, _, S6.unsuite ok, r6, q6⟩
  | @named x n i c ts b₀ su np pos' hds2 l2 hi hl hc hsu r ih =>
    intro s G w
    obtain ⟨b, hb, yes, no⟩ := w
    refine wpAny_handleBy_cons (codeAny_handlers_test (test hc hb G ?_)) (by intro q; cases q)
    cases b with
    | false => exact ih G (no rfl)
    | true =>
      refine codeAny_handlers_suite_as (HandSPX.lands_againZ G.fl fun h4 fl4 up4 => ?_)
      obtain ⟨oe, vs, e1, e2, e3, S⟩ := (G.at_ fl4 up4).suite hf
      refine store_ok (X := X.suite a ((a, oe) :: (X.pn ++ pins))) (v := .ref a) S hN hi (.inl hl) rfl (fun s5 S5 => ?_) (.inr hl)
      refine wpAny_mono ((hsu a oe cls d (X.pn ++ pins) e2 ⟨_, e3⟩).run [] s5 _ H _ S5 (yes rfl a G.na)) (fun f s6 q => ?_) (fun _ _ z => False.elim z)
      match f, q with
      | .next, ⟨σ6, H6, S6, q6⟩ => exact gone_ok (S6.unsuite ok) hN hi hl fun s7 J7 => ⟨_, _, J7, q6⟩
      | .brk, ⟨σ6, H6, S6, q6⟩ => exact gone_ok (S6.unsuite ok) hN hi hl fun s7 J7 => ⟨_, _, J7, q6⟩
      | .cont, ⟨σ6, H6, S6, q6⟩ => exact gone_ok (S6.unsuite ok) hN hi hl fun s7 J7 => ⟨_, _, J7, q6⟩
      | .ret u, ⟨v6, σ6, H6, S6, r6, q6⟩ => exact gone_ok (S6.unsuite ok) hN hi hl fun s7 J7 => ⟨_, _, _, J7, r6, q6⟩
/-- try: body / except x as n: .. / except y as m: .. -/
theorem ps_try_cl {body : List Stmt} {h₀ : ExceptHandler} {hds : List ExceptHandler} {l : List Cl} {pos : Pos} {tb : WX → TS} (hs : X.stack = X.env :: X.outer) (hf : X.env.frame = some X.env.locals) (hN : X.N.Nodup) (tk : Takes X Wout)
    (hb : ∀ (W : WX) (pn : List (Addr × Obj)) (xe : Value → Shared → Prop), Takes (X.tr pn xe) W → PassesOwn (model X.prog X.w) X.A X.env xe → PSs (X.tr pn xe) body (tb W))
    (hk : ClOk X (h₀ :: hds) l) : PS X (.Try body (h₀ :: hds) [] [] pos) (fun D σ H => tb (wCl X.K Wout D l) D σ H) := by
  refine ⟨fun pins s σ H D I h => wpAny_Try_except ?_⟩
  have ok := I.ok
  have fr : X.A.frames = some (X.env :: X.outer) := ok.frames.trans (congrArg some hs)
  refine wpAny_mono ((hb (wCl X.K Wout D l) (X.pn ++ pins) (fun e s₁ => wpAny (model X.prog X.w) X.A (noteFrame e X.env) (fun _ s₂ => wpAny (model X.prog X.w) X.A (setFlight e none) (fun _ s₃ =>
    wpAny (model X.prog X.w) X.A (handleBy e X.env (h₀ :: hds)) (SP X pins D) X.xe s₃) X.xe s₂) X.xe s₁) (fun u s' x => ?_) PassesOwn.looking).run [] s σ H D (I.toTry _) h) (fun f s1 q => ?_) (fun e s1 he => he)
  · obtain ⟨a, B, sI, pins', σ', H', cls, d, rfl, J', nb, up, sky, na, os, ag, w⟩ := x
    have sky' : Sky B (X.env :: X.outer) a (Zc cls d) X.env.locals s'.heap := hs ▸ sky
    show wpAny (model X.prog X.w) X.A (noteFrame (.ref a) X.env) _ _ _
    exact Sky.land Zc.steady fr hf sky' fun h3 fl3 up3 => clauses hs hf hN tk ok hk ⟨J'.ofTry ok, nb, up.trans up3, fl3, os, ag, na⟩ w
  · match f, q with
    | .next, ⟨σ', H', J', q⟩ => exact wpAny_execs_nil ⟨σ', H', J'.ofTry ok, q⟩
    | .brk, ⟨σ', H', J', q⟩ => exact ⟨σ', H', J'.ofTry ok, q⟩
    | .cont, ⟨σ', H', J', q⟩ => exact ⟨σ', H', J'.ofTry ok, q⟩
    | .ret u, ⟨v, σ', H', J', r, q⟩ => exact ⟨v, σ', H', J'.ofTry ok, r, q⟩
end
end L2.Lr

set_option maxHeartbeats 4000000
namespace L2.Lr
open PySem PySem.Spec PyProof.Rows LR
/-! defs that stand where no repr is under way -/
/-- nothing is being written -/
def Quiet (A : Around) : Prop := A.guards = some []
theorem Quiet.deeper {A : Around} (q : Quiet A) (env : Env) : Quiet (A.deeper env) := q
/-- a promise of a def, kept where nothing is being written -/
structure FnQ (P : Program) (w : World) (K : PySem.W.Frag) (mg : Str → Option Value) (base : Heap) (CX : CXT) (k : Nat) (f : Addr) (fd : FuncData) (ps : List Str) (sp : Sp) : Prop where
  len : ∀ vs H Q E, sp vs H Q E → vs.length = ps.length
  run : ∀ (A : Around) (outer : List Env) (s : Shared) (H : Hp) (args : Args) (us : List Value) (vs : List V) (Q : VK) (E : XK), Quiet A → Room k A → Env0 P w K mg base A outer s H → BindsTo s fd args (ps.zip us) → Vals vs us → sp vs H Q E →
    codeAny (model P w) A (.call (.ref f) args) (CR CX outer P w H s Q E) s
section
variable {P : Program} {w : World} {K : PySem.W.Frag} {mg : Str → Option Value} {base : Heap} {CX : CXT} {k : Nat} {f : Addr} {fd : FuncData} {ps : List Str} {sp : Sp}
theorem FnQ.all (F : FnOk P w K mg base CX k f fd ps sp) : FnQ P w K mg base CX k f fd ps sp := ⟨F.len, fun A outer s H args us vs Q E _ => F.run A outer s H args us vs Q E⟩
theorem FnQ.of {x qual : Str} {pa : Arguments} {body : List Stmt} {scope : Scope} {N : List Str} (F : FunD K x qual pa body scope [] [] f fd) (S : FnScope N ps scope) (len : ∀ vs H Q E, sp vs H Q E → vs.length = ps.length)
    (go : ∀ (cdv : Value) (A : Around) (outer : List Env) (s : Shared) (H : Hp) (vs : List V) (Q : VK) (E : XK), Quiet A → Room k (A.deeper (envOfC qual scope s.heap.objs.size f cdv)) → sp vs H Q E →
      ∃ t, PSs (cxOf CX P w K mg base N qual scope f cdv A outer s H E) body t ∧ t { nx := fun _ H' => Q .non H', rt := Q } (start N vs) H) : FnQ P w K mg base CX (k + 1) f fd ps sp := by
  obtain ⟨oc, od, dV, kV, doc, pm, an, cdv, ct, osl, rfl, lk, rec, _, _⟩ := F.ex
  refine ⟨len, fun A outer s H args us vs Q E qA room env bind rel hsp => ?_⟩
  have KX : K.In s.heap := env.mod.kin.keeps fun b o e => (env.bs b o e).1
  have NL : s.heap.NoLimit := env.mod.nolimit.keeps fun b o e => (env.bs b o e).1
  have slots : ∀ y ∈ ps.zip us, scope.names.lookup y.1 = some .local ∨ (scope.names.lookup y.1 = some .cell ∧ ((cellsFrom (s.heap.objs.size + 1) scope.names []).lookup y.1).isSome = true) := by
    rintro ⟨n, v⟩ hy
    exact (S.par n (List.of_mem_zip hy).1).imp id fun q => ⟨q, PySem.W.cellsFrom_some _ _ _ (.inl q)⟩
  refine codeAny_call_function room.depth (KX _ _ lk) rfl S.co S.gen rfl (PySem.W.codeRec_of KX rec) (bind _ _ _ _ (wpAny_newFunctionEnv_cells S.kind slots fun env' he s1 x => ?_))
  subst he
  refine ⟨NL.keeps x.toInCall.keep, codeAny_func ?_⟩
  obtain ⟨t, ht, q⟩ := go cdv A outer s H vs Q E qA (room.deeper _) hsp
  have I : Inv (cxOf CX P w K mg base N qual scope f cdv A outer s H E) [] (start N vs) H s1 := inv_start S room.hd env (len _ _ _ _ hsp) rel x
  refine wpAny_mono (ht.run [] s1 _ H _ I q) (fun fl s' z => ?_) fun _ _ z => z
  match fl, z with
  | .ret u, ⟨v, _, H', J, r, z⟩ => exact ⟨v, H', J.os, J.bare, J.base, J.hok, r, z⟩
  | .next, ⟨_, H', J, z⟩ => exact ⟨.non, H', J.os, J.bare, J.base, J.hok, rfl, z⟩
  | .brk, ⟨_, _, _, z⟩ => exact z.elim
  | .cont, ⟨_, _, _, z⟩ => exact z.elim
end
section
variable {X : Cx} {CX : CXT} {k : Nat} {f : Addr} {fd : FuncData} {ps : List Str} {sp : Sp} {ds : List Value} {dvs : List V} {E : St → XK} {x : Str} {p pos : Pos} {e : Expr} {es : List Expr} {t : TA}
/-- x(e, ..) -/
theorem pe_callQ (F : FnQ X.prog X.w X.K X.mg X.base CX k f fd ps sp) (qA : Quiet X.A) (hr : Room k X.A) (hg : Gl X x) (hm : X.mg x = some (.ref f)) (hk : PySem.W.keepIn X.K (.ref f) = true) (hb : Binds X.K fd ps ds) (hd : Vals dvs ds) (hx : ∀ σ, PassesAt CX X σ (E σ))
    (ha : PA X (e :: es) t) (hdb : (x == ("__debug__" : Str)) = false := by decide) (he : starEach (e :: es) X.env = (false, eval e X.env) :: starEach es X.env := by rfl) (hpl : (backTo pos (starEach es X.env)).any (·.1) = false := by rfl) :
    PE X (.Call (.Name x p) (e :: es) [] pos) (fun σ H Q => t σ H fun vs H1 => sp (vs ++ dvs) H1 Q (E σ)) := by
  refine ⟨fun pins s σ H Q I h => wpAny_Call_Name_kw (ld_glob I hg hm (PySem.W.callWith_K (h₀ := X.base) I.ok.mod.kin hk (thn (ha.run pos pins s σ H _ I h) fun us s1 ⟨vs, H1, I1, r, q⟩ => ⟨I1.kIn, wpAny_call ?_⟩) he hpl) hdb)⟩
  have r2 : Vals (vs ++ dvs) (us ++ ds) := r.append hd
  have n : (us ++ ds).length = ps.length := r2.length.symm.trans (F.len _ _ _ _ q)
  refine codeAny_mono (F.run X.A X.stack s1 H1 ⟨us, []⟩ (us ++ ds) _ Q (E σ) qA hr I1.env0 (hb s1 us I1.kIn n) r2 q) fun r s' z => ?_
  match r, z with
  | .error e, z => exact hx σ pins H1 s1 e s' I1 z
  | .ok (.ret u), z => exact I1.after z
  | .ok .next, z => exact z.elim
  | .ok .brk, z => exact z.elim
  | .ok .cont, z => exact z.elim
end
/-! ### the law's call -/
theorem script_env {P : Program} {w : World} {K : PySem.W.Frag} {mg mb : Str → Option Value} {a : Addr} {s₁ : Shared} {vs : List Value} {ns : List Int}
    (KX : K.In s₁.heap) (hns : s₁.heap.Ns mainGlobals mg) (hb : s₁.heap.Ns builtinsNs mb) (hbb : ∀ x : Str, x ≠ "__name__" → mb x = bootBuiltins x) (hlim : s₁.heap.NoLimit) (hg : s₁.gens = #[])
    (ha : s₁.heap.get? a = some { cls := .type "list", data := .seq vs.toArray }) (hi : IntsAre vs ns) (hl : ns.length ≤ sizeLine) :
    ∃ (H : Hp) (base : Heap), K.In base ∧ base.Ns mainGlobals mg ∧ SqL K H a (ns.map V.int) ∧ Env0 P w K mg base callerA [] s₁ H ∧ ∀ H' h', Un (frs []) [] H H' s₁.heap h' → HOk P w H' h' → OldK s₁.heap h' := by
  have rv := vals_ints hi
  obtain ⟨lo, elo⟩ : ∃ lo : Obj, lo = { cls := .type "list", data := .seq vs.toArray } := ⟨_, rfl⟩
  rw [← elo] at ha
  obtain ⟨H, only, there⟩ : ∃ H : Hp, (∀ b u, H b = some u → b = a ∧ u = .frz lo (.lst (ns.map V.int)) ∧ K.lookup a = none) ∧ (K.lookup a = none → H a = some (.frz lo (.lst (ns.map V.int)))) := by
    cases hk : K.lookup a with
    | none =>
      refine ⟨fun b => if b = a then some (.frz lo (.lst (ns.map V.int))) else none, fun b u z => ?_, fun _ => if_pos rfl⟩
      by_cases h : b = a
      · exact ⟨h, (Option.some.inj ((if_pos h).symm.trans z)).symm, rfl⟩
      · cases (if_neg h).symm.trans z
    | some o => exact ⟨fun _ => none, fun b u z => (by cases z), fun z => (by cases z)⟩
  have off : ∀ {b : Addr} {o : Obj}, s₁.heap.get? b = some o → o.data ≠ lo.data → H b = none := fun {b o} e n => by
    cases q : H b with
    | none => rfl
    | some u =>
      obtain ⟨rfl, _, _⟩ := only _ _ q
      cases ha.symm.trans e
      exact absurd rfl n
  have kb : K.In (hidT s₁.heap H) := fun b o e => hidT_get (KX b o e) (by
    cases q : H b with
    | none => rfl
    | some u =>
      obtain ⟨rfl, _, n⟩ := only _ _ q
      cases n.symm.trans e)
  have nk : ∀ {b : Addr} {m : Str → Option Value}, s₁.heap.Ns b m → (hidT s₁.heap H).Ns b m := fun ⟨o, es, ep, e, dd, r⟩ => ⟨o, es, ep, hidT_get e (off e (by rw [dd, elo]; intro z; cases z)), dd, r⟩
  have hok : HOk P w H s₁.heap := fun b u q => by
    obtain ⟨rfl, rfl, _⟩ := only _ _ q
    exact ⟨ha, by rw [List.length_map]; exact hl, vs, _, rv, by rw [ha, elo]⟩
  refine ⟨H, hidT s₁.heap H, kb, nk hns, ?_, ⟨rfl, ⟨kb, nk hns, ⟨mb, nk hb, hbb⟩, let ⟨mc, h1, h2⟩ := hlim; ⟨mc, nk h1, h2⟩⟩, fun b o e => of_hidT e, Nat.le_of_eq (hidT_size _ _), trivial, fun b z => (nomatch z), hok, .of_eq hg⟩, fun H' h' un ok' => OldK.of_keep fun b o e => ?_⟩
  · cases hk : K.lookup a with
    | none => exact .inl (.inr ⟨lo, there hk⟩)
    | some o =>
      cases ha.symm.trans (KX a o hk)
      exact .inr ⟨lo, vs.toArray, _, hk, by rw [elo], by rw [elo], by rw [elo], by rw [List.size_toArray, hi.length]; exact hl, by simpa using rv⟩
  · cases q : H b with
    | none => exact un.keep b o e q (fun z => nomatch z) (fun z => nomatch z)
    | some u =>
      obtain ⟨rfl, rfl, _⟩ := only _ _ q
      cases ha.symm.trans e
      exact (ok' b _ (un.frzs b _ _ q)).1
/-- the end of a law whose def is kept where nothing is being written -/
theorem walk_ofQ {l : PySem.W.OpenLaw} {n k : Nat} {q : Program} {loose : List Str} {XP : (Str → Option Value) → Heap → Prop} {YP : World → Heap → Prop} {d : DefRec} {CX : CXT} {x : Str} (hn : l.most = some n) (hz : n ≤ sizeLine) (hdf : d.params.defaults = []) (hr : Room k callerA)
    (F : ∀ (w : World) (mg : Str → Option Value) (fa : Addr) (h : Heap), YP w h → h.Ns mainGlobals mg → mg d.name = some (.ref fa) → ∃ (K : PySem.W.Frag) (fd : FuncData) (sp : Sp), K.In h ∧ (∀ (s : Shared) (u : Value), BindsTo s fd ⟨[u], []⟩ [(x, u)]) ∧
      (∀ (H : Hp) (a : Addr) (ns : List Int), ns.length ≤ n → SqL K H a (ns.map V.int) → sp [.ref a] H (fun v _ => v = .bl true) fun _ _ _ => False) ∧ ∀ base : Heap, K.In base → base.Ns mainGlobals mg → FnQ l.prog w K mg base CX k fa fd [x] sp)
    (hC : ∀ (H : Hp) (s : Shared) (e : Value) (s' : Shared), CX [] H s (fun _ _ _ => False) e s' → False) : PySem.W.WalkO q loose XP YP l.row.toRowW d [] (fun f vs => PySem.call f vs) := by
  refine Att.attach_call hn hdf fun w s₀ s₁ mg mb fa o pm cd doc a vs ns G Y ho hd hcd hmg hobj hi hlen hg => ?_
  obtain ⟨K, fd, sp, KX, hb, hsp, hF⟩ := F w mg fa _ Y G.T.g hmg
  obtain ⟨H, base, kb, nb, hS, env, post⟩ := script_env (P := l.prog) (w := w) KX G.T.g G.T.b G.T.builtins G.T.nolimit hg hobj hi (Nat.le_trans hlen hz)
  refine codeAny_mono ((hF base kb nb).run callerA [] s₁ H ⟨[.ref a], []⟩ [.ref a] [.ref a] _ _ rfl hr env (hb s₁ (.ref a)) (.cons rfl .nil) (hsp H a ns hlen hS)) fun r s' z => ?_
  match r, z with
  | .error e, z => exact (hC H s₁ e s' z).elim
  | .ok .next, z => exact z.elim
  | .ok .brk, z => exact z.elim
  | .ok .cont, z => exact z.elim
  | .ok (.ret u), ⟨v, H', os, bare, un, ok', r', q⟩ =>
    cases (show v = .bl true from q)
    cases (show u = Value.bool true from r')
    exact ⟨rfl, post H' _ un ok', os, bare⟩
/-! ### repr of data -/
mutual
theorem noDict {K : PySem.W.Frag} {H : Hp} : ∀ {v : V} {d : PyData}, Dp K H v d → d.hasDict = false
  | _, _, .non => by simp only [PyData.hasDict]
  | _, _, .bl b => by simp only [PyData.hasDict]
  | _, _, .int i => by simp only [PyData.hasDict]
  | _, _, .str x => by simp only [PyData.hasDict]
  | _, _, .lst h a => by simp only [PyData.hasDict]; exact noDictAll a
  | _, _, .tup h a => by simp only [PyData.hasDict]; exact noDictAll a
theorem noDictAll {K : PySem.W.Frag} {H : Hp} : ∀ {vs : List V} {ds : List PyData}, DpAll K H vs ds → PyData.hasDictAll ds = false
  | _, _, .nil => by simp only [PyData.hasDictAll]
  | _, _, .cons h a => by simp only [PyData.hasDictAll, noDict h, noDictAll a, Bool.or_self]
end
/-- repr(x), x data -/
def rRepr (K : PySem.W.Frag) : List V → Hp → VK → Prop := fun xs H Q => ∃ x d, xs = [x] ∧ Dp K H x d ∧ d.showable = true ∧ d.shown.length ≤ sizeLine ∧ d.depth ≤ 60 ∧ Q (.str d.shown) H
theorem call_repr {X : Cx} (qA : Quiet X.A) (hu : X.A.units + 64 < cLine) : CallR X (.builtin "repr") (rRepr X.K) := by
  intro pins s σ H xs us Q I r h
  obtain ⟨x, d, rfl, hd, sh, sz, dp, q⟩ := h
  obtain ⟨u, rfl, rx⟩ := vals1 r
  obtain ⟨as, rd⟩ := Dp.reads I d x u hd rx
  have big : ∀ a, u = .ref a → wpAny (model X.prog X.w) X.A (call (.builtin "repr") [u]) (EP X pins σ Q) X.xe s := fun a e => by
    subst e
    exact repr_of_reads' rd sh (fun z => by rw [noDict hd] at z; cases z) qA (by omega) (fun _ _ e => e) (fun h' u tk k => ⟨.str d.shown, H, I.kept (t' := tk) k, ⟨_, rfl⟩, q⟩) sz
  cases hd with
  | non =>
    cases rx
    simp only [PyData.shown] at q
    exact PySem.P.repr_of_none ⟨.str _, H, I.tok _, ⟨_, rfl⟩, q⟩
  | bl b =>
    cases rx
    simp only [PyData.shown] at q
    exact PySem.P.repr_of_bool ⟨.str _, H, I.tok _, ⟨_, rfl⟩, q⟩
  | int i =>
    obtain ⟨t, rfl⟩ := rx
    simp only [PyData.showable] at sh
    simp only [PyData.shown] at q
    exact PySem.P.repr_of_int (by simpa using sh) ⟨.str _, H, I.tok _, ⟨_, rfl⟩, q⟩
  | str x =>
    obtain ⟨t, rfl⟩ := rx
    simp only [PyData.shown] at q sz
    exact PySem.P.repr_of_str ⟨.str _, H, I.tok _, ⟨_, rfl⟩, q⟩ sz
  | lst h a => exact big _ rx
  | tup h a => exact big _ rx
end L2.Lr

set_option maxHeartbeats 1000000
/-! data of a size: what repr, == and the copies ask of it -/
namespace L2.Lr
open PySem PySem.Spec PyProof.Rows LR
def fine (d : PyData) : Bool := d.canLay0 && (d.leavesShort 40 && d.showable)
def fineAll (ds : List PyData) : Bool := PyData.canLayAll0 ds && (PyData.leavesShortAll 40 ds && PyData.showableAll ds)
theorem fine_tup (ds : List PyData) : fine (.tuple ds) = fineAll ds := by simp only [fine, fineAll, PyData.canLay0, PyData.leavesShort, PyData.showable]
theorem fine_lst (ds : List PyData) : fine (.list ds) = fineAll ds := by simp only [fine, fineAll, PyData.canLay0, PyData.leavesShort, PyData.showable]
theorem fineAll_cons (d : PyData) (ds : List PyData) : fineAll (d :: ds) = (fine d && fineAll ds) := by
  simp only [fine, fineAll, PyData.canLayAll0, PyData.leavesShortAll, PyData.showableAll]
  ac_rfl
theorem fineAll_nil : fineAll [] = true := rfl
theorem fineAll_append : ∀ (a b : List PyData), fineAll (a ++ b) = (fineAll a && fineAll b)
  | [], b => by rw [List.nil_append, fineAll_nil, Bool.true_and]
  | d :: a, b => by rw [List.cons_append, fineAll_cons, fineAll_cons, fineAll_append a b, Bool.and_assoc]
theorem weightAll_append : ∀ (a b : List PyData), PyData.weightAll (a ++ b) = PyData.weightAll a + PyData.weightAll b
  | [], b => by simp [PyData.weightAll]
  | d :: a, b => by
    have := weightAll_append a b
    simp only [List.cons_append, PyData.weightAll]
    omega
theorem depthAll_append : ∀ (a b : List PyData), PyData.depthAll (a ++ b) = max (PyData.depthAll a) (PyData.depthAll b)
  | [], b => by simp [PyData.depthAll]
  | d :: a, b => by
    have := depthAll_append a b
    simp only [List.cons_append, PyData.depthAll]
    omega
theorem length_le_weight : ∀ ds : List PyData, ds.length ≤ PyData.weightAll ds
  | [] => Nat.zero_le _
  | d :: ds => by
    have := length_le_weight ds
    simp only [List.length_cons, PyData.weightAll]
    omega
structure Nice (W D : Nat) (d : PyData) : Prop where
  f : fine d = true
  w : d.weight ≤ W
  dp : d.depth ≤ D
structure NiceAll (W D : Nat) (ds : List PyData) : Prop where
  f : fineAll ds = true
  w : PyData.weightAll ds ≤ W
  dp : PyData.depthAll ds ≤ D
theorem Nice.mono {W W' D D' : Nat} {d : PyData} (h : Nice W D d) (hw : W ≤ W') (hd : D ≤ D') : Nice W' D' d := ⟨h.f, Nat.le_trans h.w hw, Nat.le_trans h.dp hd⟩
theorem NiceAll.mono {W W' D D' : Nat} {ds : List PyData} (h : NiceAll W D ds) (hw : W ≤ W') (hd : D ≤ D') : NiceAll W' D' ds := ⟨h.f, Nat.le_trans h.w hw, Nat.le_trans h.dp hd⟩
theorem NiceAll.tup {W D : Nat} {ds : List PyData} (h : NiceAll W D ds) : Nice W (D + 1) (.tuple ds) := ⟨(fine_tup ds).trans h.f, by simpa only [PyData.weight] using h.w, by simp only [PyData.depth]; have := h.dp; omega⟩
theorem NiceAll.lst {W D : Nat} {ds : List PyData} (h : NiceAll W D ds) : Nice W (D + 1) (.list ds) := ⟨(fine_lst ds).trans h.f, by simpa only [PyData.weight] using h.w, by simp only [PyData.depth]; have := h.dp; omega⟩
theorem Nice.untup {W D : Nat} {ds : List PyData} (h : Nice W (D + 1) (.tuple ds)) : NiceAll W D ds := ⟨(fine_tup ds).symm.trans h.f, by simpa only [PyData.weight] using h.w, by have := h.dp; simp only [PyData.depth] at this; omega⟩
theorem Nice.unlst {W D : Nat} {ds : List PyData} (h : Nice W (D + 1) (.list ds)) : NiceAll W D ds := ⟨(fine_lst ds).symm.trans h.f, by simpa only [PyData.weight] using h.w, by have := h.dp; simp only [PyData.depth] at this; omega⟩
theorem NiceAll.nil (W D : Nat) : NiceAll W D [] := ⟨rfl, Nat.zero_le _, Nat.zero_le _⟩
theorem NiceAll.cons {W1 W2 D : Nat} {d : PyData} {ds : List PyData} (h : Nice W1 D d) (g : NiceAll W2 D ds) : NiceAll (W1 + 1 + W2) D (d :: ds) := by
  refine ⟨by rw [fineAll_cons, h.f, g.f]; rfl, ?_, ?_⟩
  · have := h.w; have := g.w; simp only [PyData.weightAll]; omega
  · have := h.dp; have := g.dp; simp only [PyData.depthAll]; omega
theorem NiceAll.append {W1 W2 D : Nat} {a b : List PyData} (h : NiceAll W1 D a) (g : NiceAll W2 D b) : NiceAll (W1 + W2) D (a ++ b) := by
  refine ⟨by rw [fineAll_append, h.f, g.f]; rfl, ?_, ?_⟩
  · have := h.w; have := g.w; rw [weightAll_append]; omega
  · have := h.dp; have := g.dp; rw [depthAll_append]; omega
theorem NiceAll.head {W D : Nat} {d : PyData} {ds : List PyData} (h : NiceAll W D (d :: ds)) : Nice W D d ∧ NiceAll W D ds ∧ d.weight + 1 + PyData.weightAll ds ≤ W := by
  obtain ⟨hf, hw, hd⟩ := h
  rw [fineAll_cons] at hf
  obtain ⟨f1, f2⟩ := Bool.and_eq_true_iff.mp hf
  simp only [PyData.weightAll] at hw
  simp only [PyData.depthAll] at hd
  exact ⟨⟨f1, by omega, by omega⟩, ⟨f2, by omega, by omega⟩, hw⟩
theorem NiceAll.at {W D : Nat} : ∀ {ds : List PyData} {i : Nat} {d : PyData}, NiceAll W D ds → ds[i]? = some d → Nice W D d
  | [], _, _, _, e => by simp at e
  | d :: ds, 0, _, h, e => by simp at e; subst e; exact h.head.1
  | d :: ds, i + 1, _, h, e => NiceAll.at (i := i) h.head.2.1 (by simpa using e)
theorem NiceAll.mem {W D : Nat} {ds : List PyData} {d : PyData} (h : NiceAll W D ds) (m : d ∈ ds) : Nice W D d := by
  obtain ⟨i, e⟩ := List.mem_iff_getElem?.mp m
  exact h.at e
theorem NiceAll.split {W D : Nat} {a b : List PyData} (h : NiceAll W D (a ++ b)) : NiceAll (PyData.weightAll a) D a ∧ NiceAll (PyData.weightAll b) D b ∧ PyData.weightAll a + PyData.weightAll b ≤ W := by
  obtain ⟨hf, hw, hd⟩ := h
  rw [fineAll_append] at hf
  rw [weightAll_append] at hw
  rw [depthAll_append] at hd
  obtain ⟨f1, f2⟩ := Bool.and_eq_true_iff.mp hf
  exact ⟨⟨f1, Nat.le_refl _, by omega⟩, ⟨f2, Nat.le_refl _, by omega⟩, hw⟩
theorem NiceAll.take {W D : Nat} {ds : List PyData} (n : Nat) (h : NiceAll W D ds) : NiceAll W D (ds.take n) := by
  rw [← List.take_append_drop n ds] at h
  obtain ⟨h1, _, h3⟩ := h.split
  exact h1.mono (by omega) (Nat.le_refl _)
theorem NiceAll.drop {W D : Nat} {ds : List PyData} (n : Nat) (h : NiceAll W D ds) : NiceAll W D (ds.drop n) := by
  rw [← List.take_append_drop n ds] at h
  obtain ⟨_, h2, h3⟩ := h.split
  exact h2.mono (by omega) (Nat.le_refl _)
theorem Nice.shaped {W D : Nat} {d : PyData} (h : Nice W D d) (hD : D ≤ 64) : SeqAt.shaped d = true := by
  obtain ⟨f1, _⟩ := Bool.and_eq_true_iff.mp h.f
  refine Bool.and_eq_true_iff.mpr ⟨f1, decide_eq_true ?_⟩
  have := h.dp
  omega
/-- what repr asks -/
theorem Nice.shown {W D : Nat} {d : PyData} (h : Nice W D d) (hW : W ≤ 390000) : d.showable = true ∧ d.shown.length ≤ sizeLine := by
  obtain ⟨_, f2⟩ := Bool.and_eq_true_iff.mp h.f
  obtain ⟨f2, f3⟩ := Bool.and_eq_true_iff.mp f2
  refine ⟨f3, ?_⟩
  have z := PyData.shown_le 40 (by decide) d f2
  have := h.w
  rw [sizeLine_eq]
  omega
theorem nice_int {i : Int} (h : i.natAbs < 10 ^ 31) : Nice 104 0 (.int i) := by
  have hb : i.natAbs < 2 ^ 103 := Nat.lt_trans h (by decide)
  have hl : i.natAbs.log2 < 103 := PySem.Flt.log2_lt_of (by decide) hb
  refine ⟨?_, ?_, by simp [PyData.depth]⟩
  · have e := int_text_length_le10 (k := 31) (by decide) h
    have e1 : PyData.leavesShort 40 (.int i) = true := by
      simp only [PyData.leavesShort]
      refine decide_eq_true ?_
      show (Str.ofString (toString i)).length ≤ 40
      rw [PySem.ofString_length]
      omega
    have e2 : PyData.showable (.int i) = true := by
      simp only [PyData.showable]
      exact decide_eq_true (by omega)
    show ((PyData.int i).canLay0 && ((PyData.int i).leavesShort 40 && (PyData.int i).showable)) = true
    rw [e1, e2]
    simp [PyData.canLay0]
  · simp only [PyData.weight]
    split <;> omega
/-! ### no lists -/
mutual
def noL : PyData → Bool
  | .tuple ds => noLAll ds
  | .list _ => false
  | .none => true
  | .bool _ => true
  | .int _ => true
  | .str _ => true
  | .dict _ => true
def noLAll : List PyData → Bool
  | [] => true
  | d :: ds => noL d && noLAll ds
end
/-- all but lists stays -/
def Kt (H H' : Hp) : Prop := ∀ b o, H b = some o → (∀ xs, o ≠ .lst xs) → H' b = some o
theorem Kt.seqT {K : PySem.W.Frag} {H H' : Hp} {a : Addr} {xs : List V} (s : Kt H H') (h : SqT K H a xs) : SqT K H' a xs := by
  rcases h with (h | ⟨o, h⟩) | h
  · exact .inl (.inl (s _ _ h fun _ z => by cases z))
  · exact .inl (.inr ⟨o, s _ _ h fun _ z => by cases z⟩)
  · exact .inr h
mutual
theorem Dp.kt {K : PySem.W.Frag} {H H' : Hp} (s : Kt H H') : ∀ {v : V} {d : PyData}, Dp K H v d → noL d = true → Dp K H' v d
  | _, _, .non, _ => .non
  | _, _, .bl b, _ => .bl b
  | _, _, .int i, _ => .int i
  | _, _, .str x, _ => .str x
  | _, _, .lst h a, n => by simp [noL] at n
  | _, _, .tup h a, n => .tup (s.seqT h) (DpAll.kt s a (by simpa only [noL] using n))
theorem DpAll.kt {K : PySem.W.Frag} {H H' : Hp} (s : Kt H H') : ∀ {vs : List V} {ds : List PyData}, DpAll K H vs ds → noLAll ds = true → DpAll K H' vs ds
  | _, _, .nil, _ => .nil
  | _, _, .cons h a, n => by
    simp only [noLAll] at n
    obtain ⟨n1, n2⟩ := Bool.and_eq_true_iff.mp n
    exact .cons (Dp.kt s h n1) (DpAll.kt s a n2)
end
theorem noLAll_append : ∀ (a b : List PyData), noLAll (a ++ b) = (noLAll a && noLAll b)
  | [], b => by simp [noLAll]
  | d :: a, b => by
    simp only [List.cons_append, noLAll, noLAll_append a b, Bool.and_assoc]
theorem Same.kt {H H' : Hp} (s : Same H H') : Kt H H' := fun b o e _ => s b o e
theorem Kt.trans {H H1 H2 : Hp} (a : Kt H H1) (b : Kt H1 H2) : Kt H H2 := fun c o h n => b c o (a c o h n) n
theorem Kt.upd {H : Hp} {D : Addr} {xs : List V} {o : HO} (h : H D = some (.lst xs)) : Kt H (upd H D o) := fun b u e n => (upd_ne fun z => by rw [z, h] at e; exact n _ (Option.some.inj e).symm).trans e
end L2.Lr

set_option maxHeartbeats 1000000
/-! data of a size: what repr, == and the copies ask of it -/
namespace L2.Lr
open PySem PySem.Spec PyProof.Rows LR
def fine2 (d : PyData) : Bool := d.canLay0 && (d.leavesShort 210 && d.showable)
def fineAll2 (ds : List PyData) : Bool := PyData.canLayAll0 ds && (PyData.leavesShortAll 210 ds && PyData.showableAll ds)
theorem fine2_tup (ds : List PyData) : fine2 (.tuple ds) = fineAll2 ds := by simp only [fine2, fineAll2, PyData.canLay0, PyData.leavesShort, PyData.showable]
theorem fine2_lst (ds : List PyData) : fine2 (.list ds) = fineAll2 ds := by simp only [fine2, fineAll2, PyData.canLay0, PyData.leavesShort, PyData.showable]
theorem fineAll2_cons (d : PyData) (ds : List PyData) : fineAll2 (d :: ds) = (fine2 d && fineAll2 ds) := by
  simp only [fine2, fineAll2, PyData.canLayAll0, PyData.leavesShortAll, PyData.showableAll]
  ac_rfl
theorem fineAll2_nil : fineAll2 [] = true := rfl
theorem fineAll2_append : ∀ (a b : List PyData), fineAll2 (a ++ b) = (fineAll2 a && fineAll2 b)
  | [], b => by rw [List.nil_append, fineAll2_nil, Bool.true_and]
  | d :: a, b => by rw [List.cons_append, fineAll2_cons, fineAll2_cons, fineAll2_append a b, Bool.and_assoc]
structure Nice2 (W D : Nat) (d : PyData) : Prop where
  f : fine2 d = true
  w : d.weight ≤ W
  dp : d.depth ≤ D
structure NiceAll2 (W D : Nat) (ds : List PyData) : Prop where
  f : fineAll2 ds = true
  w : PyData.weightAll ds ≤ W
  dp : PyData.depthAll ds ≤ D
theorem Nice2.mono {W W' D D' : Nat} {d : PyData} (h : Nice2 W D d) (hw : W ≤ W') (hd : D ≤ D') : Nice2 W' D' d := ⟨h.f, Nat.le_trans h.w hw, Nat.le_trans h.dp hd⟩
theorem NiceAll2.mono {W W' D D' : Nat} {ds : List PyData} (h : NiceAll2 W D ds) (hw : W ≤ W') (hd : D ≤ D') : NiceAll2 W' D' ds := ⟨h.f, Nat.le_trans h.w hw, Nat.le_trans h.dp hd⟩
theorem NiceAll2.tup {W D : Nat} {ds : List PyData} (h : NiceAll2 W D ds) : Nice2 W (D + 1) (.tuple ds) := ⟨(fine2_tup ds).trans h.f, by simpa only [PyData.weight] using h.w, by simp only [PyData.depth]; have := h.dp; omega⟩
theorem NiceAll2.lst {W D : Nat} {ds : List PyData} (h : NiceAll2 W D ds) : Nice2 W (D + 1) (.list ds) := ⟨(fine2_lst ds).trans h.f, by simpa only [PyData.weight] using h.w, by simp only [PyData.depth]; have := h.dp; omega⟩
theorem Nice2.untup {W D : Nat} {ds : List PyData} (h : Nice2 W (D + 1) (.tuple ds)) : NiceAll2 W D ds := ⟨(fine2_tup ds).symm.trans h.f, by simpa only [PyData.weight] using h.w, by have := h.dp; simp only [PyData.depth] at this; omega⟩
theorem Nice2.unlst {W D : Nat} {ds : List PyData} (h : Nice2 W (D + 1) (.list ds)) : NiceAll2 W D ds := ⟨(fine2_lst ds).symm.trans h.f, by simpa only [PyData.weight] using h.w, by have := h.dp; simp only [PyData.depth] at this; omega⟩
theorem NiceAll2.nil (W D : Nat) : NiceAll2 W D [] := ⟨rfl, Nat.zero_le _, Nat.zero_le _⟩
theorem NiceAll2.cons {W1 W2 D : Nat} {d : PyData} {ds : List PyData} (h : Nice2 W1 D d) (g : NiceAll2 W2 D ds) : NiceAll2 (W1 + 1 + W2) D (d :: ds) := by
  refine ⟨by rw [fineAll2_cons, h.f, g.f]; rfl, ?_, ?_⟩
  · have := h.w; have := g.w; simp only [PyData.weightAll]; omega
  · have := h.dp; have := g.dp; simp only [PyData.depthAll]; omega
theorem NiceAll2.append {W1 W2 D : Nat} {a b : List PyData} (h : NiceAll2 W1 D a) (g : NiceAll2 W2 D b) : NiceAll2 (W1 + W2) D (a ++ b) := by
  refine ⟨by rw [fineAll2_append, h.f, g.f]; rfl, ?_, ?_⟩
  · have := h.w; have := g.w; rw [weightAll_append]; omega
  · have := h.dp; have := g.dp; rw [depthAll_append]; omega
theorem NiceAll2.head {W D : Nat} {d : PyData} {ds : List PyData} (h : NiceAll2 W D (d :: ds)) : Nice2 W D d ∧ NiceAll2 W D ds ∧ d.weight + 1 + PyData.weightAll ds ≤ W := by
  obtain ⟨hf, hw, hd⟩ := h
  rw [fineAll2_cons] at hf
  obtain ⟨f1, f2⟩ := Bool.and_eq_true_iff.mp hf
  simp only [PyData.weightAll] at hw
  simp only [PyData.depthAll] at hd
  exact ⟨⟨f1, by omega, by omega⟩, ⟨f2, by omega, by omega⟩, hw⟩
theorem NiceAll2.at {W D : Nat} : ∀ {ds : List PyData} {i : Nat} {d : PyData}, NiceAll2 W D ds → ds[i]? = some d → Nice2 W D d
  | [], _, _, _, e => by simp at e
  | d :: ds, 0, _, h, e => by simp at e; subst e; exact h.head.1
  | d :: ds, i + 1, _, h, e => NiceAll2.at (i := i) h.head.2.1 (by simpa using e)
theorem NiceAll2.mem {W D : Nat} {ds : List PyData} {d : PyData} (h : NiceAll2 W D ds) (m : d ∈ ds) : Nice2 W D d := by
  obtain ⟨i, e⟩ := List.mem_iff_getElem?.mp m
  exact h.at e
theorem NiceAll2.split {W D : Nat} {a b : List PyData} (h : NiceAll2 W D (a ++ b)) : NiceAll2 (PyData.weightAll a) D a ∧ NiceAll2 (PyData.weightAll b) D b ∧ PyData.weightAll a + PyData.weightAll b ≤ W := by
  obtain ⟨hf, hw, hd⟩ := h
  rw [fineAll2_append] at hf
  rw [weightAll_append] at hw
  rw [depthAll_append] at hd
  obtain ⟨f1, f2⟩ := Bool.and_eq_true_iff.mp hf
  exact ⟨⟨f1, Nat.le_refl _, by omega⟩, ⟨f2, Nat.le_refl _, by omega⟩, hw⟩
theorem NiceAll2.take {W D : Nat} {ds : List PyData} (n : Nat) (h : NiceAll2 W D ds) : NiceAll2 W D (ds.take n) := by
  rw [← List.take_append_drop n ds] at h
  obtain ⟨h1, _, h3⟩ := h.split
  exact h1.mono (by omega) (Nat.le_refl _)
theorem NiceAll2.drop {W D : Nat} {ds : List PyData} (n : Nat) (h : NiceAll2 W D ds) : NiceAll2 W D (ds.drop n) := by
  rw [← List.take_append_drop n ds] at h
  obtain ⟨_, h2, h3⟩ := h.split
  exact h2.mono (by omega) (Nat.le_refl _)
theorem Nice2.shaped {W D : Nat} {d : PyData} (h : Nice2 W D d) (hD : D ≤ 64) : SeqAt.shaped d = true := by
  obtain ⟨f1, _⟩ := Bool.and_eq_true_iff.mp h.f
  refine Bool.and_eq_true_iff.mpr ⟨f1, decide_eq_true ?_⟩
  have := h.dp
  omega
/-- what repr asks -/
theorem Nice2.shown {W D : Nat} {d : PyData} (h : Nice2 W D d) (hW : W ≤ 70000) : d.showable = true ∧ d.shown.length ≤ sizeLine := by
  obtain ⟨_, f2⟩ := Bool.and_eq_true_iff.mp h.f
  obtain ⟨f2, f3⟩ := Bool.and_eq_true_iff.mp f2
  refine ⟨f3, ?_⟩
  have z := PyData.shown_le 210 (by decide) d f2
  have := h.w
  rw [sizeLine_eq]
  omega
theorem nice_int2 {i : Int} (h : i.natAbs < 10 ^ 31) : Nice2 104 0 (.int i) := by
  have hb : i.natAbs < 2 ^ 103 := Nat.lt_trans h (by decide)
  have hl : i.natAbs.log2 < 103 := PySem.Flt.log2_lt_of (by decide) hb
  refine ⟨?_, ?_, by simp [PyData.depth]⟩
  · have e := int_text_length_le10 (k := 31) (by decide) h
    have e1 : PyData.leavesShort 210 (.int i) = true := by
      simp only [PyData.leavesShort]
      refine decide_eq_true ?_
      show (Str.ofString (toString i)).length ≤ 210
      rw [PySem.ofString_length]
      omega
    have e2 : PyData.showable (.int i) = true := by
      simp only [PyData.showable]
      exact decide_eq_true (by omega)
    show ((PyData.int i).canLay0 && ((PyData.int i).leavesShort 210 && (PyData.int i).showable)) = true
    rw [e1, e2]
    simp [PyData.canLay0]
  · simp only [PyData.weight]
    split <;> omega
end L2.Lr


set_option maxHeartbeats 4000000
namespace L2.Tx
open PySem PySem.Spec PyProof.Rows NumText L2 TL
/-! ### ints as texts, with their sign -/
def intT (a : Int) : Str := Str.ofString (toString a)
def sgnL (a : Int) : List Nat := if a < 0 then 45 :: numL a.natAbs else numL a.natAbs
def plusL (a : Int) : List Nat := (if a < 0 then 45 else 43) :: numL a.natAbs
def plusT (a : Int) : Str := ⟨(plusL a).toArray⟩
theorem tl_inj {x y : Str} (h : tl x = tl y) : x = y := by
  cases x; cases y
  congr 1
  exact Array.toList_inj.mp h
theorem tl_int (a : Int) : tl (intT a) = sgnL a := by
  unfold intT sgnL
  cases a with
  | ofNat n =>
    rw [if_neg (by show ¬ ((n : Int) < 0); omega)]
    exact tl_num n
  | negSucc n =>
    rw [if_pos (Int.negSucc_lt_zero n)]
    rw [tl_ofString]
    show ("-" ++ toString (n + 1)).toList.map Char.toNat = 45 :: numL (n + 1)
    rw [String.toList_append, List.map_append]
    have e : (toString (n + 1)).toList.map Char.toNat = numL (n + 1) := by
      have z := tl_num (n + 1)
      rw [tl_ofString] at z
      exact z
    rw [e]
    rfl
theorem tl_plus (a : Int) : tl (plusT a) = plusL a := tl_mk _
theorem plus_pos {a : Int} (h : 0 < a) : plusT a = Str.ofString "+" ++ intT a := by
  apply tl_inj
  rw [tl_plus, tl_append, tl_int]
  unfold plusL sgnL
  rw [if_neg (by omega), if_neg (by omega)]
  rfl
theorem plus_neg {a : Int} (h : a < 0) : plusT a = intT a := by
  apply tl_inj
  rw [tl_plus, tl_int]
  unfold plusL sgnL
  rw [if_pos h, if_pos h]
theorem numL_sz {a : Int} (h : a.natAbs < 10 ^ 400) : (numL a.natAbs).length ≤ 400 := numL_len (by decide) h
/-- no m in a number -/
theorem sgn_free {a : Int} {s : Nat} (h : 57 < s) : s ∉ sgnL a := by
  unfold sgnL
  split
  · intro z
    rcases List.mem_cons.mp z with z | z
    · omega
    · exact numL_free (.inr h) z
  · exact numL_free (.inr h)
theorem intText_plus {x : Str} {cs : List Nat} (hx : x.cps.toList = 43 :: cs) (h : AllDigits cs) (h1 : cs ≠ []) (h2 : x.length ≤ 4300) : intText? x = some ((digitsVal cs : Nat) : Int) := by
  have hl : x.cps.toList.length = x.length := Array.length_toList
  rw [hx, List.length_cons] at hl
  have hs : ∀ c ∈ x.cps.toList, 33 ≤ c ∧ c < 128 := by
    rw [hx]
    intro c hc
    rcases List.mem_cons.mp hc with e | hc
    · omega
    · have := h c hc
      omega
  have e1 : numTextOf x = x.cps.toList := by
    refine if_pos ?_
    rw [← Array.all_toList, List.all_eq_true]
    exact fun c hc => decide_eq_true (hs c hc).2
  have e2 : numSeenOf x = x.cps.toList := by
    show (numTextOf x).takeWhile _ = _
    rw [e1]
    exact takeWhile_all fun c hc => bne_iff_ne.mpr (by have := hs c hc; omega)
  have es : sign ((43 :: cs).dropWhile blank) = (false, cs) := by
    rw [dropWhile_of (by decide)]
    rfl
  have ec : core (43 :: cs) = cs := by
    unfold core
    rw [es]
    show (cs.reverse.dropWhile blank).reverse = cs
    rw [dropWhile_digits h.reverse, List.reverse_reverse]
  unfold intText?
  rw [e1, e2, hx]
  refine (if_pos (beq_self_eq_true _)).trans ?_
  rw [ec, es, digits_of h h1]
  have hsz := push_size cs #[]
  have hv := push_foldl cs #[]
  show (if _ ≤ 4300 then some (worth false _) else none) = _
  rw [if_pos (by rw [hsz, Array.size_empty]; omega)]
  unfold worth digitsVal
  rw [hv]
  rfl
theorem natAbs_cast (a : Int) : ((a.natAbs : Nat) : Int) = if a < 0 then -a else a := by split <;> omega
/-- int(text) of what was written -/
theorem int_back {a : Int} (h : a.natAbs < 10 ^ 400) : intText? (intT a) = some a := by
  have hs := numL_sz h
  have hl : tl (intT a) = sgnL a := tl_int a
  have len : (intT a).length ≤ 4300 := by
    rw [len_tl, hl]
    unfold sgnL
    split
    · rw [List.length_cons]; omega
    · omega
  unfold sgnL at hl
  by_cases hn : a < 0
  · rw [if_pos hn] at hl
    have z := intText_neg (x := intT a) hl (numL_digits _) (numL_ne _) len
    rw [numL_val, natAbs_cast, if_pos hn] at z
    rw [z]
    congr 1
    omega
  · rw [if_neg hn] at hl
    have hl' : (intT a).cps.toList = numL a.natAbs := hl
    have z := intText_digits (x := intT a) (by rw [hl']; exact numL_digits _) (by rw [hl']; exact numL_ne _) len
    rw [hl', numL_val, natAbs_cast, if_neg hn] at z
    exact z
theorem plus_back {a : Int} (h : a.natAbs < 10 ^ 400) : intText? (plusT a) = some a := by
  by_cases hn : a < 0
  · rw [plus_neg hn]
    exact int_back h
  · have hs := numL_sz h
    have hl : (plusT a).cps.toList = 43 :: numL a.natAbs := by
      have z := tl_plus a
      unfold plusL at z
      rw [if_neg hn] at z
      exact z
    have z := intText_plus hl (numL_digits _) (numL_ne _) (by
      have e : (plusT a).length = (tl (plusT a)).length := len_tl _
      rw [e, show tl (plusT a) = 43 :: numL a.natAbs from hl, List.length_cons]
      omega)
    rw [numL_val, natAbs_cast, if_neg hn] at z
    exact z
/-! ### a line as text -/
def mT : Str := Str.ofString "m"
def headT (e : Int) : Str := if e = 1 then mT else if e = -1 then Str.ofString "-m" else intT e ++ mT
def tailT (z : Int) : Str := if z = 0 then Str.empty else plusT z
def lineT (z e : Int) : Str := if e = 0 then intT z else headT e ++ tailT z
/-- what stands ahead of the m -/
def preT (e : Int) : Str := if e = 1 then Str.empty else if e = -1 then Str.ofString "-" else intT e
theorem tl_m : tl mT = [109] := rfl
theorem head_pre (e : Int) : headT e = preT e ++ mT := by
  unfold headT preT
  split
  · exact tl_inj (by rw [tl_append]; rfl)
  · split
    · exact tl_inj (by rw [tl_append]; rfl)
    · rfl
theorem pre_free (e : Int) : 109 ∉ tl (preT e) := by
  unfold preT
  split
  · intro z; cases z
  · split
    · decide
    · rw [tl_int]; exact sgn_free (by decide)
theorem line_part {z e : Int} (h : e ≠ 0) : Txt.partition (lineT z e) mT = (preT e, mT, tailT z) := by
  unfold lineT
  rw [if_neg h, head_pre]
  exact partition_app (y := mT) (s := 109) (S := []) tl_m (pre_free e)
theorem int_ne (a : Int) : tl (intT a) ≠ [] := by
  rw [tl_int]
  unfold sgnL
  split
  · exact fun z => by cases z
  · exact numL_ne _
theorem empty_iff {x : Str} : x = Str.ofString "" ↔ tl x = [] := ⟨fun h => by rw [h]; rfl, fun h => tl_inj (by rw [h]; rfl)⟩
theorem pre_empty (e : Int) : preT e = Str.ofString "" ↔ e = 1 := by
  rw [empty_iff]
  unfold preT
  by_cases h1 : e = 1
  · rw [if_pos h1]; exact ⟨fun _ => h1, fun _ => rfl⟩
  · rw [if_neg h1]
    refine ⟨fun z => ?_, fun z => absurd z h1⟩
    by_cases h2 : e = -1
    · rw [if_pos h2] at z; cases z
    · rw [if_neg h2] at z; exact absurd z (int_ne e)
theorem sgn_minus {e : Int} (h : tl (intT e) = [45]) : False := by
  rw [tl_int] at h
  unfold sgnL at h
  split at h
  · have := List.cons.inj h
    exact numL_ne _ this.2
  · have d := numL_digits e.natAbs 45 (by rw [h]; exact List.mem_cons_self)
    omega
theorem pre_minus (e : Int) : preT e = Str.ofString "-" ↔ e = -1 := by
  unfold preT
  by_cases h1 : e = 1
  · rw [if_pos h1]
    exact ⟨fun z => absurd (congrArg tl z) (by intro q; cases q), fun z => by omega⟩
  · rw [if_neg h1]
    by_cases h2 : e = -1
    · rw [if_pos h2]; exact ⟨fun _ => h2, fun _ => rfl⟩
    · rw [if_neg h2]
      exact ⟨fun z => (sgn_minus (congrArg tl z)).elim, fun z => absurd z h2⟩
theorem tail_empty (z : Int) : tailT z = Str.ofString "" ↔ z = 0 := by
  rw [empty_iff]
  unfold tailT
  by_cases h1 : z = 0
  · rw [if_pos h1]; exact ⟨fun _ => h1, fun _ => rfl⟩
  · rw [if_neg h1, tl_plus]
    exact ⟨fun q => (by unfold plusL at q; cases q), fun q => absurd q h1⟩
/-- one text, one line -/
theorem line_inj {z e z' e' : Int} (hz : z.natAbs < 10 ^ 400) (he : e.natAbs < 10 ^ 400) (hz' : z'.natAbs < 10 ^ 400) (he' : e'.natAbs < 10 ^ 400) (h : lineT z e = lineT z' e') : z = z' ∧ e = e' := by
  have free : ∀ a : Int, Txt.partition (intT a) mT = (intT a, Str.empty, Str.empty) := fun a => partition_none (y := mT) (s := 109) (S := []) tl_m (by rw [tl_int]; exact sgn_free (by decide))
  have mne : mT ≠ Str.empty := fun q => by cases congrArg tl q
  by_cases h0 : e = 0
  · by_cases h1 : e' = 0
    · unfold lineT at h
      rw [if_pos h0, if_pos h1] at h
      have b := int_back hz
      rw [h, int_back hz'] at b
      exact ⟨(Option.some.inj b).symm, by omega⟩
    · have p := line_part (z := z') h1
      rw [← h] at p
      unfold lineT at p
      rw [if_pos h0, free] at p
      exact absurd (congrArg (fun q : Str × Str × Str => q.2.1) p).symm mne
  · by_cases h1 : e' = 0
    · have p := line_part (z := z) h0
      rw [h] at p
      unfold lineT at p
      rw [if_pos h1, free] at p
      exact absurd (congrArg (fun q : Str × Str × Str => q.2.1) p).symm mne
    · have p := line_part (z := z) h0
      rw [h, line_part h1] at p
      have q1 : preT e' = preT e := congrArg (fun q : Str × Str × Str => q.1) p
      have q3 : tailT z' = tailT z := congrArg (fun q : Str × Str × Str => q.2.2) p
      refine ⟨?_, ?_⟩
      · by_cases z0 : z = 0
        · have := (tail_empty z).mpr z0
          rw [← q3] at this
          rw [(tail_empty z').mp this, z0]
        · have z1 : z' ≠ 0 := fun q => z0 ((tail_empty z).mp (q3 ▸ (tail_empty z').mpr q))
          unfold tailT at q3
          rw [if_neg z0, if_neg z1] at q3
          have b := plus_back hz
          rw [← q3, plus_back hz'] at b
          exact (Option.some.inj b).symm
      · by_cases e1 : e = 1
        · have := (pre_empty e).mpr e1
          rw [← q1] at this
          rw [(pre_empty e').mp this, e1]
        · by_cases e2 : e = -1
          · have := (pre_minus e).mpr e2
            rw [← q1] at this
            rw [(pre_minus e').mp this, e2]
          · have f1 : e' ≠ 1 := fun q => e1 ((pre_empty e).mp (q1 ▸ (pre_empty e').mpr q))
            have f2 : e' ≠ -1 := fun q => e2 ((pre_minus e).mp (q1 ▸ (pre_minus e').mpr q))
            unfold preT at q1
            rw [if_neg e1, if_neg e2, if_neg f1, if_neg f2] at q1
            have b := int_back he
            rw [← q1, int_back he'] at b
            exact (Option.some.inj b).symm
end L2.Tx

set_option maxHeartbeats 1000000
/-! texts of counts (n, 3n-2, 7), and the texts of numbers written without a needless nought -/
namespace L2.Tx
open PySem PySem.Spec PyProof.Rows NumText L2 TL
def dig (c : Nat) : Bool := decide (48 ≤ c) && decide (c ≤ 57)
theorem dig_all {cs : List Nat} : cs.all dig = true ↔ AllDigits cs := by
  rw [List.all_eq_true]
  constructor
  · intro h c hc
    obtain ⟨h1, h2⟩ := Bool.and_eq_true_iff.mp (h c hc)
    exact ⟨of_decide_eq_true h1, of_decide_eq_true h2⟩
  · intro h c hc
    exact Bool.and_eq_true_iff.mpr ⟨decide_eq_true (h c hc).1, decide_eq_true (h c hc).2⟩
/-- figures without a needless nought ahead, up to 10 ** 30 -/
def numOk (cs : List Nat) : Bool := (!cs.isEmpty && (decide (cs.length ≤ 31) && cs.all dig)) && ((decide (cs = [48]) || decide (cs.head? ≠ some 48)) && decide (digitsVal cs ≤ 10 ^ 30))
theorem char_dig {c : Nat} (h1 : 48 ≤ c) (h2 : c ≤ 57) : (Char.ofNat c).toNat = c := by
  have h : c = 48 ∨ c = 49 ∨ c = 50 ∨ c = 51 ∨ c = 52 ∨ c = 53 ∨ c = 54 ∨ c = 55 ∨ c = 56 ∨ c = 57 := by omega
  rcases h with rfl | rfl | rfl | rfl | rfl | rfl | rfl | rfl | rfl | rfl <;> rfl
theorem canon {cs : List Nat} (h : AllDigits cs) (hne : cs ≠ []) (hz : cs = [48] ∨ cs.head? ≠ some 48) : numL (digitsVal cs) = cs := by
  cases cs with
  | nil => exact absurd rfl hne
  | cons c r =>
    have hc := h c List.mem_cons_self
    have z := toDigits_digitsVal r.length (c :: r) rfl h (by
      rcases hz with hz | hz
      · injection hz with _ h2
        exact .inl (by rw [h2]; rfl)
      · exact .inr ⟨c, r, rfl, by
          have : c ≠ 48 := fun e => hz (by rw [e]; rfl)
          omega⟩)
    unfold numL
    rw [z, List.map_map]
    have e : ∀ l : List Nat, AllDigits l → l.map (Char.toNat ∘ Char.ofNat) = l := by
      intro l
      induction l with
      | nil => intro _; rfl
      | cons d l ih =>
        intro hl
        rw [List.map_cons, ih fun x hx => hl x (List.mem_cons_of_mem _ hx)]
        have hd := hl d List.mem_cons_self
        show (Char.ofNat d).toNat :: l = d :: l
        rw [char_dig hd.1 hd.2]
    exact e _ h
theorem numOk_iff {cs : List Nat} : numOk cs = true ↔ ∃ n : Nat, n ≤ 10 ^ 30 ∧ cs = numL n := by
  constructor
  · intro h
    obtain ⟨h1, h2⟩ := Bool.and_eq_true_iff.mp h
    obtain ⟨h3, h4⟩ := Bool.and_eq_true_iff.mp h1
    obtain ⟨_, h5⟩ := Bool.and_eq_true_iff.mp h4
    obtain ⟨h6, h7⟩ := Bool.and_eq_true_iff.mp h2
    have hne : cs ≠ [] := fun z => by rw [z] at h3; cases h3
    have hz : cs = [48] ∨ cs.head? ≠ some 48 := (Bool.or_eq_true_iff.mp h6).imp of_decide_eq_true of_decide_eq_true
    exact ⟨digitsVal cs, of_decide_eq_true h7, (canon (dig_all.mp h5) hne hz).symm⟩
  · rintro ⟨n, hn, rfl⟩
    have hl : (numL n).length ≤ 31 := numL_len (by decide) (Nat.lt_of_le_of_lt hn (by decide))
    have head : ∀ n : Nat, 0 < n → ∃ c r, numL n = c :: r ∧ 49 ≤ c := by
      intro n
      induction n using Nat.strongRecOn with
      | _ n ih =>
        intro h0
        by_cases h : n < 10
        · exact ⟨48 + n, [], numL_lt h, by omega⟩
        · obtain ⟨c, r, e, hc⟩ := ih (n / 10) (by omega) (by omega)
          exact ⟨c, r ++ [48 + n % 10], by rw [numL_step (by omega), e]; rfl, hc⟩
    refine Bool.and_eq_true_iff.mpr ⟨Bool.and_eq_true_iff.mpr ⟨?_, Bool.and_eq_true_iff.mpr ⟨decide_eq_true hl, dig_all.mpr (numL_digits n)⟩⟩, Bool.and_eq_true_iff.mpr ⟨?_, decide_eq_true (by rw [numL_val]; exact hn)⟩⟩
    · cases h : numL n with
      | nil => exact absurd h (numL_ne n)
      | cons c r => rfl
    · by_cases h0 : n = 0
      · subst h0
        exact Bool.or_eq_true_iff.mpr (.inl (decide_eq_true (numL_lt (by decide))))
      · obtain ⟨c, r, e, hc⟩ := head n (by omega)
        refine Bool.or_eq_true_iff.mpr (.inr (decide_eq_true fun z => ?_))
        rw [e] at z
        injection z with z
        omega
/-! ### counts -/
def nT : Str := Str.ofString "n"
theorem tl_n : tl nT = [110] := rfl
def preC (a : Int) : Str := if a = 1 then Str.empty else intT a
def cntT (a b : Int) : Str := if a = 0 then intT b else preC a ++ nT ++ tailT b
def validC (a b : Int) : Bool := (decide (0 ≤ a) && decide (a ≤ 9)) && ((decide (-(10 ^ 30) ≤ b) && decide (b ≤ 10 ^ 30)) && (decide (a > 0) || decide (b ≥ 0)))
def IsCnt (t : Str) (a b : Int) : Prop := validC a b = true ∧ cntT a b = t
theorem preC_free (a : Int) : 110 ∉ tl (preC a) := by
  unfold preC
  split
  · intro z; cases z
  · rw [tl_int]; exact sgn_free (by decide)
theorem cnt_part {a b : Int} (h : a ≠ 0) : Txt.partition (cntT a b) nT = (preC a, nT, tailT b) := by
  unfold cntT
  rw [if_neg h]
  exact partition_app (y := nT) (s := 110) (S := []) tl_n (preC_free a)
theorem int_part (b : Int) : Txt.partition (intT b) nT = (intT b, Str.empty, Str.empty) := partition_none (y := nT) (s := 110) (S := []) tl_n (by rw [tl_int]; exact sgn_free (by decide))
theorem part_cases (t : Str) : (110 ∉ tl t ∧ Txt.partition t nT = (t, Str.empty, Str.empty)) ∨ ∃ A S : Str, 110 ∉ tl A ∧ t = A ++ nT ++ S ∧ Txt.partition t nT = (A, nT, S) := by
  by_cases h : 110 ∈ tl t
  · obtain ⟨as, bs, e, hn⟩ := List.eq_append_cons_of_mem h
    have ha : tl (⟨as.toArray⟩ : Str) = as := tl_mk _
    have hb : tl (⟨bs.toArray⟩ : Str) = bs := tl_mk _
    have et : t = (⟨as.toArray⟩ : Str) ++ nT ++ (⟨bs.toArray⟩ : Str) := by
      apply tl_inj
      rw [tl_append, tl_append, ha, hb, tl_n, e, List.append_assoc]
      rfl
    refine .inr ⟨⟨as.toArray⟩, ⟨bs.toArray⟩, by rw [ha]; exact hn, et, ?_⟩
    rw [et]
    exact partition_app (y := nT) (s := 110) (S := []) tl_n (by rw [ha]; exact hn)
  · exact .inl ⟨h, partition_none (y := nT) (s := 110) (S := []) tl_n h⟩
theorem nT_ne : nT ≠ Str.empty := fun q => by cases congrArg tl q
theorem tl_empty {x : Str} : x = Str.empty ↔ tl x = [] := ⟨fun h => by rw [h]; rfl, fun h => tl_inj (by rw [h]; rfl)⟩
/-- what stands ahead of the n -/
def headV (A : List Nat) : Option Int := if A = [] then some 1 else if numOk A = true ∧ 2 ≤ digitsVal A ∧ digitsVal A ≤ 9 then some (digitsVal A : Nat) else none
/-- what stands behind it -/
def tailV : List Nat → Option Int
  | [] => some 0
  | c :: cs => if (c = 43 ∨ c = 45) ∧ numOk cs = true ∧ digitsVal cs ≠ 0 then some (if c = 43 then ((digitsVal cs : Nat) : Int) else -((digitsVal cs : Nat) : Int)) else none
theorem headV_iff {A : Str} {a : Int} : headV (tl A) = some a ↔ (1 ≤ a ∧ a ≤ 9) ∧ preC a = A := by
  unfold headV
  by_cases h : tl A = []
  · rw [if_pos h]
    have eA := tl_empty.mpr h
    constructor
    · intro e
      cases e
      exact ⟨by omega, by unfold preC; rw [if_pos rfl, eA]⟩
    · rintro ⟨⟨h1, h2⟩, e⟩
      by_cases ha : a = 1
      · rw [ha]
      · unfold preC at e
        rw [if_neg ha, eA] at e
        exact absurd (tl_empty.mp e) (int_ne a)
  · rw [if_neg h]
    constructor
    · intro e
      split at e
      · rename_i hh
        obtain ⟨h1, h2, h3⟩ := hh
        cases e
        obtain ⟨n, hn, en⟩ := numOk_iff.mp h1
        rw [en, numL_val] at h2 h3 ⊢
        refine ⟨by omega, ?_⟩
        unfold preC
        rw [if_neg (by omega)]
        apply tl_inj
        rw [tl_int, en]
        unfold sgnL
        rw [if_neg (by omega), Int.natAbs_natCast]
      · cases e
    · rintro ⟨⟨h1, h2⟩, e⟩
      have ha : a ≠ 1 := fun z => h (by rw [← e, z]; rfl)
      have et : tl A = numL a.natAbs := by
        rw [← e]
        unfold preC
        rw [if_neg ha, tl_int]
        unfold sgnL
        rw [if_neg (by omega)]
      rw [et, numL_val, if_pos ⟨numOk_iff.mpr ⟨a.natAbs, by omega, rfl⟩, by omega, by omega⟩]
      congr 1
      omega
theorem tailV_iff {S : Str} {b : Int} : tailV (tl S) = some b ↔ (-(10 ^ 30) ≤ b ∧ b ≤ 10 ^ 30) ∧ tailT b = S := by
  have e30 : (10 : Int) ^ 30 = ((10 ^ 30 : Nat) : Int) := by decide +kernel
  cases hS : tl S with
  | nil =>
    have eS := tl_empty.mpr hS
    constructor
    · intro e
      cases e
      exact ⟨by decide, by unfold tailT; rw [if_pos rfl, eS]⟩
    · rintro ⟨_, e⟩
      by_cases hb : b = 0
      · rw [hb]; rfl
      · unfold tailT at e
        rw [if_neg hb, eS] at e
        have z := tl_empty.mp e
        rw [tl_plus] at z
        unfold plusL at z
        cases z
  | cons c cs =>
    constructor
    · intro e
      have e2 : (if (c = 43 ∨ c = 45) ∧ numOk cs = true ∧ digitsVal cs ≠ 0 then some (if c = 43 then ((digitsVal cs : Nat) : Int) else -((digitsVal cs : Nat) : Int)) else none) = some b := e
      split at e2
      · rename_i hh
        obtain ⟨h1, h2, h3⟩ := hh
        obtain ⟨n, hn, en⟩ := numOk_iff.mp h2
        rw [en, numL_val] at h3 e2
        have hnI : ((n : Nat) : Int) ≤ 10 ^ 30 := by rw [e30]; omega
        rcases h1 with rfl | rfl
        · rw [if_pos rfl] at e2
          cases e2
          refine ⟨by omega, ?_⟩
          unfold tailT
          rw [if_neg (by omega)]
          apply tl_inj
          rw [tl_plus, hS, en]
          unfold plusL
          rw [if_neg (by omega), Int.natAbs_natCast]
        · rw [if_neg (by decide)] at e2
          cases e2
          refine ⟨by omega, ?_⟩
          unfold tailT
          rw [if_neg (by omega)]
          apply tl_inj
          rw [tl_plus, hS, en]
          unfold plusL
          rw [if_pos (by omega), Int.natAbs_neg, Int.natAbs_natCast]
      · cases e2
    · rintro ⟨⟨h1, h2⟩, e⟩
      have hb : b ≠ 0 := fun z => by
        rw [z] at e
        rw [← e] at hS
        cases hS
      have et : c :: cs = plusL b := by
        rw [← hS, ← e]
        unfold tailT
        rw [if_neg hb, tl_plus]
      unfold plusL at et
      injection et with e1 e2
      show (if (c = 43 ∨ c = 45) ∧ numOk cs = true ∧ digitsVal cs ≠ 0 then some (if c = 43 then ((digitsVal cs : Nat) : Int) else -((digitsVal cs : Nat) : Int)) else none) = some b
      have hk : numOk cs = true := numOk_iff.mpr ⟨b.natAbs, by rw [e30] at h1 h2; omega, e2⟩
      have hv : digitsVal cs = b.natAbs := by rw [e2, numL_val]
      rw [hv]
      by_cases hn : b < 0
      · rw [if_pos hn] at e1
        rw [if_pos ⟨.inr e1, hk, by omega⟩, if_neg (by omega)]
        congr 1
        omega
      · rw [if_neg hn] at e1
        rw [if_pos ⟨.inl e1, hk, by omega⟩, if_pos e1]
        congr 1
        omega
/-- what a text tells -/
def cntV (t : Str) : Option (Int × Int) :=
  if (Txt.partition t nT).2.1 = Str.empty then (if numOk (tl t) = true then some (0, ((digitsVal (tl t) : Nat) : Int)) else none)
  else match headV (tl (Txt.partition t nT).1), tailV (tl (Txt.partition t nT).2.2) with
    | some a, some b => some (a, b)
    | _, _ => none
theorem valid_iff {a b : Int} : validC a b = true ↔ (0 ≤ a ∧ a ≤ 9) ∧ (-(10 ^ 30) ≤ b ∧ b ≤ 10 ^ 30) ∧ (a > 0 ∨ b ≥ 0) := by
  unfold validC
  simp only [Bool.and_eq_true, Bool.or_eq_true, decide_eq_true_eq]
theorem cntV_iff {t : Str} {a b : Int} : cntV t = some (a, b) ↔ IsCnt t a b := by
  have e30 : (10 : Int) ^ 30 = ((10 ^ 30 : Nat) : Int) := by decide +kernel
  unfold cntV IsCnt
  rw [valid_iff]
  rcases part_cases t with ⟨hn, hp⟩ | ⟨A, S, hA, et, hp⟩
  · rw [hp]
    dsimp only
    rw [if_pos rfl]
    constructor
    · intro e
      split at e
      · rename_i h
        cases e
        obtain ⟨n, hn', en⟩ := numOk_iff.mp h
        have hnI : ((n : Nat) : Int) ≤ 10 ^ 30 := by rw [e30]; omega
        rw [en, numL_val]
        refine ⟨⟨by omega, by omega, .inr (by omega)⟩, ?_⟩
        unfold cntT
        rw [if_pos rfl]
        apply tl_inj
        rw [tl_int, en]
        unfold sgnL
        rw [if_neg (by omega), Int.natAbs_natCast]
      · cases e
    · rintro ⟨⟨h1, h2, h3⟩, e⟩
      have ha : a = 0 := by
        by_cases z : a = 0
        · exact z
        · exfalso
          unfold cntT at e
          rw [if_neg z] at e
          apply hn
          rw [← e, tl_append, tl_append, tl_n]
          exact List.mem_append_left _ (List.mem_append_right _ List.mem_cons_self)
      subst ha
      have hb : 0 ≤ b := by omega
      unfold cntT at e
      rw [if_pos rfl] at e
      have el : tl t = numL b.natAbs := by
        rw [← e, tl_int]
        unfold sgnL
        rw [if_neg (by omega)]
      rw [el, numL_val, if_pos (numOk_iff.mpr ⟨b.natAbs, by rw [e30] at h2; omega, rfl⟩)]
      congr 2
      omega
  · rw [hp]
    dsimp only
    rw [if_neg nT_ne]
    constructor
    · intro e
      cases hh : headV (tl A) with
      | none => rw [hh] at e; cases e
      | some a' =>
        cases ht : tailV (tl S) with
        | none => rw [hh, ht] at e; cases e
        | some b' =>
          rw [hh, ht] at e
          cases e
          obtain ⟨h1, h2⟩ := headV_iff.mp hh
          obtain ⟨h3, h4⟩ := tailV_iff.mp ht
          refine ⟨⟨by omega, h3, .inl (by omega)⟩, ?_⟩
          unfold cntT
          rw [if_neg (by omega), h2, h4, et]
    · rintro ⟨⟨h1, h2, h3⟩, e⟩
      have ha : a ≠ 0 := fun z => by
        subst z
        unfold cntT at e
        rw [if_pos rfl] at e
        have p := int_part b
        rw [e, hp] at p
        exact nT_ne (congrArg (fun q : Str × Str × Str => q.2.1) p)
      have p := cnt_part (a := a) (b := b) ha
      rw [e, hp] at p
      have q1 : A = preC a := congrArg (fun q : Str × Str × Str => q.1) p
      have q3 : S = tailT b := congrArg (fun q : Str × Str × Str => q.2.2) p
      rw [headV_iff.mpr ⟨by omega, q1.symm⟩, tailV_iff.mpr ⟨h2, q3.symm⟩]
theorem cnt_len {t : Str} {a b : Int} (h : IsCnt t a b) : t.length ≤ 34 := by
  have e30 : (10 : Int) ^ 30 = ((10 ^ 30 : Nat) : Int) := by decide +kernel
  obtain ⟨hv, e⟩ := h
  obtain ⟨h1, h2, h3⟩ := valid_iff.mp hv
  have hb : (numL b.natAbs).length ≤ 31 := numL_len (by decide) (Nat.lt_of_le_of_lt (show b.natAbs ≤ 10 ^ 30 by rw [e30] at h2; omega) (by decide))
  rw [← e, len_tl]
  unfold cntT
  split
  · rw [tl_int]
    unfold sgnL
    split
    · omega
    · omega
  · rw [tl_append, tl_append, tl_n, List.length_append, List.length_append]
    have l1 : (tl (preC a)).length ≤ 1 := by
      unfold preC
      split
      · exact Nat.zero_le _
      · rw [tl_int]
        unfold sgnL
        rw [if_neg (by omega), numL_lt (by omega)]
        exact Nat.le_refl _
    have l3 : (tl (tailT b)).length ≤ 32 := by
      unfold tailT
      split
      · exact Nat.zero_le _
      · rw [tl_plus]
        unfold plusL
        rw [List.length_cons]
        omega
    simp only [List.length_cons, List.length_nil]
    omega
end L2.Tx

set_option maxHeartbeats 1000000
/-! pieces of texts and of lists; texts of low signs -/
namespace L2.Tx
open PySem PySem.Spec PyProof.Rows NumText L2 TL
theorem len_app (x y : Str) : (x ++ y).length = x.length + y.length := by
  rw [len_tl, len_tl, len_tl, tl_append, List.length_append]
theorem empty_app (x : Str) : Str.empty ++ x = x := tl_inj (by rw [tl_append]; rfl)
theorem app_empty (x : Str) : x ++ Str.empty = x := tl_inj (by rw [tl_append]; exact List.append_nil _)
theorem app_assoc (x y z : Str) : x ++ y ++ z = x ++ (y ++ z) := tl_inj (by rw [tl_append, tl_append, tl_append, tl_append, List.append_assoc])
theorem tl_cut (t : Str) (lo hi : Option Int) : tl (cutS t lo hi) = ((tl t).drop (HT.sIx t.length 0 lo)).take (HT.sIx t.length t.length hi - HT.sIx t.length 0 lo) := rfl
theorem tl_from (t : Str) (k : Nat) : tl (cutS t (some (k : Int)) none) = (tl t).drop k := by
  rw [tl_cut, HT.sIx_nat, HT.sIx_none, len_tl]
  by_cases h : k ≤ (tl t).length
  · rw [Nat.min_eq_left h, List.take_of_length_le (by rw [List.length_drop]; omega)]
  · rw [Nat.min_eq_right (by omega), List.drop_of_length_le (l := tl t) (Nat.le_refl _), List.drop_of_length_le (l := tl t) (i := k) (by omega)]
    simp
theorem tl_to (t : Str) (k : Nat) : tl (cutS t none (some (k : Int))) = (tl t).take k := by
  rw [tl_cut, HT.sIx_nat, HT.sIx_none, len_tl, List.drop_zero, Nat.sub_zero]
  by_cases h : k ≤ (tl t).length
  · rw [Nat.min_eq_left h]
  · rw [Nat.min_eq_right (by omega), List.take_length, List.take_of_length_le (by omega)]
theorem cut_le (t : Str) (lo hi : Option Int) : (cutS t lo hi).length ≤ t.length := cutS_length t lo hi
/-- signs below 256 -/
def Low (t : Str) : Prop := ∀ c ∈ tl t, c < 256
theorem Low.app {x y : Str} (h : Low x) (g : Low y) : Low (x ++ y) := fun c hc => by
  rw [tl_append] at hc
  exact (List.mem_append.mp hc).elim (h c) (g c)
theorem Low.cut {t : Str} (h : Low t) (lo hi : Option Int) : Low (cutS t lo hi) := fun c hc => h c (List.mem_of_mem_drop (List.mem_of_mem_take (by rw [tl_cut] at hc; exact hc)))
theorem low_num (n : Nat) : ∀ c ∈ numL n, c < 256 := fun c hc => by
  have := numL_digits n c hc
  omega
theorem low_int (a : Int) : Low (intT a) := fun c hc => by
  rw [tl_int] at hc
  unfold sgnL at hc
  split at hc
  · rcases List.mem_cons.mp hc with rfl | hc
    · decide
    · exact low_num _ c hc
  · exact low_num _ c hc
theorem low_plus (a : Int) : Low (plusT a) := fun c hc => by
  rw [tl_plus] at hc
  unfold plusL at hc
  rcases List.mem_cons.mp hc with rfl | hc
  · split <;> decide
  · exact low_num _ c hc
theorem low_empty : Low Str.empty := fun c hc => by cases hc
theorem low_of {t : Str} (h : (tl t).all (fun c => decide (c < 256)) = true) : Low t := fun c hc => of_decide_eq_true (List.all_eq_true.mp h c hc)
theorem Low.small {t : Str} (h : Low t) : ∀ c ∈ t.cps.toList, c < 1114112 := fun c hc => Nat.lt_trans (h c hc) (by decide)
end L2.Tx

set_option maxHeartbeats 400000
/-! what an own class says of +, -, *, ==, str(o), o(m); f'{x:+}' -/
namespace L2.Lr
open PySem PySem.Spec PyProof.Rows LR StX
section
variable {X : Cx} {CX : CXT} {k n : Nat} {f C : Addr} {fd : FuncData} {ps : List Str} {sp : Sp} {E : XK}
/-- a def that the machine calls, some levels deeper -/
theorem run_at {A : Around} {pins : List (Addr × Obj)} {σ : St} {H : Hp} {s : Shared} {Q : VK} {us : List Value} {vs : List V} (sb : Sub X k A) (F : FnOk X.prog X.w X.K X.mg X.base CX k f fd ps sp) (hb : Binds X.K fd ps []) (hx : Passes CX X E)
    (I : Inv X pins σ H s) (r : Vals vs us) (h : sp vs H Q E) : wpAny (model X.prog X.w) A (call (.ref f) us) (EP X pins σ Q) X.xe s := by
  have e := I.env0
  have e0 : Env0 X.prog X.w X.K X.mg X.base A X.stack s H := ⟨sb.fr.trans e.frames, e.mod, e.bs, e.bsz, e.funs, e.frf, e.hok, e.bare⟩
  have hl : us.length = ps.length := r.length.symm.trans (F.len _ _ _ _ h)
  refine wpAny_call (codeAny_mono (F.run A X.stack s H ⟨us, []⟩ us vs Q E sb.room e0 (by simpa using hb s us I.kIn (by simpa using hl)) r h) fun r s' hq => ?_)
  match r, hq with
  | .error e, hq => exact hx pins σ H s e s' I hq
  | .ok (.ret u), hq => exact I.after hq
  | .ok .next, hq => exact hq.elim
  | .ok .brk, hq => exact hq.elim
  | .ok .cont, hq => exact hq.elim
/-- what a class's own def of this name must have -/
structure Dun (K : PySem.W.Frag) (C f : Addr) (m : Str) : Prop where
  at_ : PySem.W.findIn K (.ref C) m = some (some (.ref f))
  fn : PySem.W.isFn K (.ref f) = true
/-- str(o) by the own __str__ -/
def rStrO (C : Addr) (sp : Sp) (E : XK) : List V → Hp → VK → Prop := fun xs H Q => ∃ a dx fs, xs = [.ref a] ∧ H a = some (.ins C dx fs) ∧ sp [.ref a] H (fun v H' => ∃ y, v = .str y ∧ Q (.str y) H') E
theorem call_strO (d : Dun X.K C f "__str__") (F : FnOk X.prog X.w X.K X.mg X.base CX k f fd ps sp) (hr : Room (k + 2) X.A) (hb : Binds X.K fd ps []) (hx : Passes CX X E) : CallR X (.type "str") (rStrO C sp E) := by
  intro pins s σ H xs us Q I r h
  obtain ⟨a, dx, fs, rfl, ha, h⟩ := h
  obtain ⟨u, rfl, ru⟩ := vals1 r
  cases ru
  obtain ⟨ox, od, J, _⟩ := insC_at I (.inr ⟨dx, fs, ha⟩)
  refine PySem.W.kso_call hr.in1.in1.units0 I.kIn J d.at_ d.fn (wpAny_mono (run_at (A := X.A.in1.in1) ⟨hr.in1.in1, rfl⟩ F hb hx I (vs := [.ref a]) (us := [.ref a]) (.cons rfl .nil) h) (fun v s' z => ?_) fun _ _ z => z)
  obtain ⟨x, H', I', rv, y, rfl, q⟩ := z
  obtain ⟨t, rfl⟩ := rv
  exact ⟨.str y, H', I', ⟨t, rfl⟩, q⟩
/-- .. for an operator -/
structure OwnOp (K : PySem.W.Frag) (C f : Addr) (op : Operator) : Prop where
  at_ : PySem.W.findIn K (.ref C) (PySem.dunder op.info.2) = some (some (.ref f))
  fn : PySem.W.isFn K (.ref f) = true
  first : PySem.W.selfFirst K C = true
  rc : PySem.W.findIn K (.ref C) (dunderR op.info.2) = some none
  t1 : (PySem.W.findIn K (.type "int") (PySem.dunder op.info.2)).isSome = true
  t2 : (PySem.W.findIn K (.type "int") (dunderR op.info.2)).isSome = true
  sub : PySem.W.subIn K (.type "int") (.ref C) = some false
def ownB (K : PySem.W.Frag) (C f : Addr) (op : Operator) : Bool := He.eqO (PySem.W.findIn K (.ref C) (PySem.dunder op.info.2)) (some (some (.ref f))) && (PySem.W.isFn K (.ref f) && (PySem.W.selfFirst K C && (He.eqO (PySem.W.findIn K (.ref C) (dunderR op.info.2)) (some none) &&
  ((PySem.W.findIn K (.type "int") (PySem.dunder op.info.2)).isSome && ((PySem.W.findIn K (.type "int") (dunderR op.info.2)).isSome && decide (PySem.W.subIn K (.type "int") (.ref C) = some false))))))
theorem ownB_ok {K : PySem.W.Frag} {op : Operator} (q : ownB K C f op = true) : OwnOp K C f op := by
  obtain ⟨q1, q⟩ := He.ba q
  obtain ⟨q2, q⟩ := He.ba q
  obtain ⟨q3, q⟩ := He.ba q
  obtain ⟨q4, q⟩ := He.ba q
  obtain ⟨q5, q⟩ := He.ba q
  obtain ⟨q6, q7⟩ := He.ba q
  exact ⟨He.eqO_ok q1, q2, q3, He.eqO_ok q4, q5, q6, of_decide_eq_true q7⟩
def dunB (K : PySem.W.Frag) (C f : Addr) (m : Str) : Bool := He.eqO (PySem.W.findIn K (.ref C) m) (some (some (.ref f))) && PySem.W.isFn K (.ref f)
theorem dunB_ok {K : PySem.W.Frag} {m : Str} (q : dunB K C f m = true) : Dun K C f m := by
  obtain ⟨q1, q2⟩ := He.ba q
  exact ⟨He.eqO_ok q1, q2⟩
/-- a op b, by the left one's own def -/
def rOwn (C : Addr) (sp : Sp) (E : XK) : R2 := fun x y H Q => ∃ a dx fs, x = .ref a ∧ H a = some (.ins C dx fs) ∧ ((∃ i, y = .int i) ∨ ∃ b dy gs, y = .ref b ∧ H b = some (.ins C dy gs)) ∧ sp [.ref a, y] H Q E
theorem cmp_back {pins : List (Addr × Obj)} {σ : St} {Q : VK} {v : Value} {s' : Shared} (z : EP X pins σ Q v s') : PySem.W.CmpBack (EP X pins σ Q) v s' := by
  have nz : v ≠ .notImplemented := by
    rintro rfl
    obtain ⟨x, H', I', rv, q⟩ := z
    cases x <;> first
      | (obtain ⟨t, e⟩ := rv; cases e)
      | cases rv
  cases v <;> first
    | exact absurd rfl nz
    | exact z
theorem op_own {op : Operator} (o : OwnOp X.K C f op) (F : FnOk X.prog X.w X.K X.mg X.base CX k f fd ps sp) (hr : Room k X.A) (hb : Binds X.K fd ps []) (hx : Passes CX X E) : OpR X (binaryOp op) (rOwn C sp E) := by
  intro pins s σ H x y v u Q I rx ry h
  obtain ⟨a, dx, fs, rfl, ha, hy, h⟩ := h
  cases rx
  obtain ⟨ox, od, J, _⟩ := insC_at I (.inr ⟨dx, fs, ha⟩)
  obtain ⟨m, hF⟩ := I.fr
  have run := wpAny_mono (run_at (A := X.A) ⟨hr, rfl⟩ F hb hx I (vs := [.ref a, y]) (us := [.ref a, u]) (.cons rfl (.cons ry .nil)) h) (fun v s' z => cmp_back z) fun _ _ z => z
  rcases hy with ⟨i, rfl⟩ | ⟨b, dy, gs, rfl, hb'⟩
  · obtain ⟨t, rfl⟩ := ry
    obtain ⟨fo, e1⟩ := Option.isSome_iff_exists.mp o.t1
    obtain ⟨ro, e2⟩ := Option.isSome_iff_exists.mp o.t2
    exact PySem.W.ksp_binT hF I.ok.mod.kin J rfl o.first o.at_ o.fn o.rc (.inl rfl) e1 e2 o.sub run
  · cases ry
    obtain ⟨oy, od', J', _⟩ := insC_at I (.inr ⟨dy, gs, hb'⟩)
    exact PySem.W.binop_K hF I.ok.mod.kin J J'.type o.first o.at_ o.fn run
/-- a == b, by the left one's own __eq__ -/
theorem op_eqO (d : Dun X.K C f "__eq__") (F : FnOk X.prog X.w X.K X.mg X.base CX k f fd ps sp) (hr : Room k X.A) (hb : Binds X.K fd ps []) (hx : Passes CX X E) :
    OpR X (compareOp .Eq) (fun x y H Q => ∃ a dx fs b dy gs, x = .ref a ∧ H a = some (.ins C dx fs) ∧ y = .ref b ∧ H b = some (.ins C dy gs) ∧ sp [.ref a, .ref b] H Q E) := by
  intro pins s σ H x y v u Q I rx ry h
  obtain ⟨a, dx, fs, b, dy, gs, rfl, ha, rfl, hb', h⟩ := h
  cases rx
  cases ry
  obtain ⟨ox, od, J, _⟩ := insC_at I (.inr ⟨dx, fs, ha⟩)
  obtain ⟨oy, od', J', _⟩ := insC_at I (.inr ⟨dy, gs, hb'⟩)
  obtain ⟨m, hF⟩ := I.fr
  show wpAny (model X.prog X.w) X.A (richCompare .Eq _ _) _ X.xe s
  refine PySem.W.cmp_K (op := .Eq) (tb := .ref C) hr.units0 hF I.ok.mod.kin J J'.type (by simp [PySem.W.notFirst]) d.at_ d.fn ?_
  exact wpAny_mono (run_at (A := X.A) ⟨hr, rfl⟩ F hb hx I (vs := [.ref a, .ref b]) (us := [.ref a, .ref b]) (.cons rfl (.cons rfl .nil)) h) (fun v s' z => cmp_back z) fun _ _ z => z
end
/-- C(k = v, ..): keywords alone -/
theorem pe_makeK {X : Cx} {CX : CXT} {k : Nat} {f C : Addr} {fd : FuncData} {ps ks : List Str} {sp : Sp} {E : XK} {x : Str} {p pos : Pos} {kws : List Keyword} {tk : TA} {g : List Value → List Value → List Value} {gV : List V → List V → List V}
    (M : Mk X.K C f) (F : FnOk X.prog X.w X.K X.mg X.base CX k f fd ps sp) (hr : Room (k + 1) X.A) (hg : Gl X x) (hm : X.mg x = some (.ref C)) (hb : KBn X.K fd ps 1 ks g gV) (hx : Passes CX X E) (hkw : PK X kws tk)
    (hall : (backToKw pos (keywordEach kws X.env)).all (·.1.isSome) = true := by rfl) (hks : (backToKw pos (keywordEach kws X.env)).filterMap (·.1) = ks := by rfl) (hdb : (x == ("__debug__" : Str)) = false := by decide)
    (hpl : ((backTo pos (starEach [] X.env)).any (·.1) || (backToKw pos (keywordEach kws X.env)).any (·.1.isNone)) = false := by rfl) : PE X (.Call (.Name x p) [] kws pos) (tMakeN C 0 ks.length sp gV E tNil tk) := by
  refine ⟨fun pins s σ H Q I h => ?_⟩
  refine wpAny_Call_Name_kw (ld_glob I hg hm ?_ hdb)
  refine PySem.W.callWith_KW0 (h₀ := X.base) I.ok.mod.kin M.kp hall (thn (hkw.run pos pins s σ H _ I h) fun ws s2 ⟨zs, H2, I2, rz, l1, l2, q2⟩ => ⟨I2.kIn, ?_⟩) hpl
  rw [hks]
  exact run_makeN (us := []) (vs := []) M F hr hb hx I2 .nil rz l1 l2 q2
/-! ### f'{x:+}' of an int -/
theorem plus_field (a : Int) : intField' { fill := 32, align := 62, sign := some 43 } (decide (a < 0)) [] ((Nat.toDigits 10 a.natAbs).map fun c => (if (100 : Nat) == 88 then c.toUpper else c).toNat) [] 3 = Tx.plusT a := by
  have en : ((Nat.toDigits 10 a.natAbs).map fun c => (if (100 : Nat) == 88 then c.toUpper else c).toNat) = TL.numL a.natAbs := rfl
  rw [en]
  have ne := TL.numL_ne a.natAbs
  have e1 : (TL.numL a.natAbs).isEmpty = false := by
    cases h : TL.numL a.natAbs with
    | nil => exact absurd h ne
    | cons c r => rfl
  have pad : (-1 - 1 - ((TL.numL a.natAbs).length : Int)).toNat = 0 := by omega
  unfold intField' Tx.plusT Tx.plusL
  cases hd : decide (a < 0) with
  | true =>
    rw [if_pos (of_decide_eq_true hd)]
    simp [e1]
  | false =>
    rw [if_neg (of_decide_eq_false hd)]
    simp [e1]
open Builtin Builtin.Str Builtin.Int Builtin.Float in
theorem gives_plus (a : Int) (t u : Tok) (hd : a.natAbs.log2 < 1920) : Gives (Builtin.«int.__format__» ⟨[.int a t, .str (Str.ofString "+") u], []⟩) (.str (Tx.plusT a)) := by
  intro prog w A R s hq
  obtain ⟨f, hp, ff⟩ : ∃ f, parseFormatSpec (Str.ofString "+").cps.toList "int" 62 = .ok f ∧ f = { fill := 32, align := 62, sign := some 43 } := ⟨_, rfl, rfl⟩
  unfold Builtin.«int.__format__»
  simp only [selfAndOne, noKeywords, Int.intOfSelf, asInt?, asStr?, List.isEmpty_nil, if_true, pure_bind, bind_pure, bind_assoc, Bool.false_eq_true, if_false,
    show ((Str.ofString "+").length == 0) = false from rfl, show (Value.str (Str.ofString "+") u == Value.none) = false from rfl,
    show (((Str.ofString "+").cps.toList.drop 1).any (· ≥ 128) || ((Str.ofString "+").cps.getD 0 0 ≥ 128 && !([60, 62, 61, 94] : List Nat).contains ((Str.ofString "+").cps.getD 1 0))) = false from rfl]
  refine wpAny_bind (wpAny_typeNameOf (T := "str") (typeIs_str _ _ _) (by decide) fun _ => ?_)
  refine wpAny_bind (wpAny_typeNameOfCut_int ?_)
  have hty : f.type.getD (if (Str.ofString "+").cps.back? == some 0 then 0 else 100) = 100 := by subst ff; rfl
  simp only [hp, hty]
  rw [if_pos (by decide)]
  have hpr : f.precision = none := by subst ff; rfl
  have hz : f.noNeg0 = false := by subst ff; rfl
  have hw : ¬ (f.width.getD 0 > 100000) := by subst ff; decide
  show wpAny _ _ (if _ then _ else _) _ _ _
  rw [if_neg (by simp [hpr])]
  show wpAny _ _ (if _ then _ else _) _ _ _
  rw [if_neg (by simp [hz])]
  show wpAny _ _ (if _ then _ else _) _ _ _
  rw [if_neg (by decide)]
  show wpAny _ _ (do let r ← Builtin.overDigitLimit? a; _) _ _ _
  rw [PySem.overDigitLimit_small hd]
  show wpAny _ _ (if _ then _ else _) _ _ _
  rw [if_neg (by simpa using hw)]
  subst ff
  have key : ∀ Y : Str, Y = Tx.plusT a → wpAny (model prog w) A.in1 (retStr Y) (fun fin s' => match fin with
      | .done f => R (.ok f) s'
      | .again c' => c'.quiet = true ∧ codeAny (model prog w) A c' R s') (fun e s' => R (.error e) s') s := by
    intro Y e
    subst e
    unfold retStr
    refine wpAny_bind (wpAny_mkStr (wpAny_pure ?_) ?_)
    · exact hq.2
    · exact hq.1
  refine key _ (Eq.trans ?_ (plus_field a))
  simp only [Bool.false_eq_true, if_false, show ((10 : Nat) == 10) = true by decide, if_true]
  rfl
/-- {x:+} of an int -/
def tFmtP (te : TE) : TE := fun σ H Q => te σ H fun x H1 => ∃ i : Int, x = .int i ∧ i.natAbs.log2 < 1920 ∧ (Tx.plusT i).length ≤ sizeLine ∧ Q (.str (Tx.plusT i)) H1
theorem pe_fmtP {X : Cx} {e : Expr} {te : TE} {pos p1 p2 : Pos} {k} (he : PE X e te) : PE X (.FormattedValue e (-1) (some (.JoinedStr [.Constant (.str "+") k p1] p2)) pos) (tFmtP te) := by
  refine ⟨fun pins s σ H Q I h => ?_⟩
  refine wpAny_FormattedValue_spec (thn (he.run pins s σ H _ I h) fun v s1 hv => ?_)
  obtain ⟨x, H1, I1, r1, i, rfl, hd, hz, q⟩ := hv
  obtain ⟨t, rfl⟩ := r1
  have js : PE X (.JoinedStr [.Constant (.str "+") k p1] p2) (tC (.str "+")) := pe_joined1 pe_str
  refine thn (js.run pins s1 σ H1 (fun v H2 => v = .str "+" ∧ Q (.str (Tx.plusT i)) H2) I1 ⟨rfl, q⟩) fun r s2 hr => ?_
  obtain ⟨y, H2, I2, r2, ey, q2⟩ := hr
  subst ey
  obtain ⟨t2, rfl⟩ := r2
  refine ⟨_, t2, rfl, ?_⟩
  exact wpAny_formatField_spec (T := "int") (idf := "int.__format__") (B := Builtin.«int.__format__») (by decide) (fun s' => typeIs_int s' i t) PyProof.Rows.slot_int_format PyProof.Rows.entry_int_format (fun a b => PyProof.Rows.args_int_format a b) (fun u => gives_plus i t u hd)
    ⟨.str (Tx.plusT i), H2, I2.tok _, ⟨_, rfl⟩, q2⟩ (by decide) hz
end L2.Lr

set_option maxHeartbeats 400000
/-! the same where something may be raised: C(..), a op b, o(..), C.f(..); a != b, a == b of unlike kinds -/
namespace L2.Lr
open PySem PySem.Spec PyProof.Rows LR StX
section
variable {X : Cx} {CX : CXT} {k n : Nat} {f C : Addr} {fd : FuncData} {ps : List Str} {sp : Sp}
theorem run_atS {A : Around} {pins : List (Addr × Obj)} {σ : St} {H : Hp} {s : Shared} {Q : VK} {E : XK} {us : List Value} {vs : List V} (sb : Sub X k A) (F : FnOk X.prog X.w X.K X.mg X.base CX k f fd ps sp) (hb : Binds X.K fd ps []) (hx : PassesAt CX X σ E)
    (I : Inv X pins σ H s) (r : Vals vs us) (h : sp vs H Q E) : wpAny (model X.prog X.w) A (call (.ref f) us) (EP X pins σ Q) X.xe s := by
  have e := I.env0
  have e0 : Env0 X.prog X.w X.K X.mg X.base A X.stack s H := ⟨sb.fr.trans e.frames, e.mod, e.bs, e.bsz, e.funs, e.frf, e.hok, e.bare⟩
  have hl : us.length = ps.length := r.length.symm.trans (F.len _ _ _ _ h)
  refine wpAny_call (codeAny_mono (F.run A X.stack s H ⟨us, []⟩ us vs Q E sb.room e0 (by simpa using hb s us I.kIn (by simpa using hl)) r h) fun r s' hq => ?_)
  match r, hq with
  | .error e, hq => exact hx pins H s e s' I hq
  | .ok (.ret u), hq => exact I.after hq
  | .ok .next, hq => exact hq.elim
  | .ok .brk, hq => exact hq.elim
  | .ok .cont, hq => exact hq.elim
/-- C(..) in a try -/
def tMakeS (C : Addr) (sp : Sp) (E : St → XK) (t : TA) : TE := fun σ H Q => t σ H fun vs H1 => ∀ x dx, H1 x = none → H1 dx = none → dx ≠ x → sp (.ref x :: vs) (upd (upd H1 dx (.own x)) x (.ins C dx [])) (fun v H2 => v = .non ∧ Q (.ref x) H2) (E σ)
theorem pe_makeS {E : St → XK} {x : Str} {p pos : Pos} {e : Expr} {es : List Expr} {t : TA} (M : Mk X.K C f) (F : FnOk X.prog X.w X.K X.mg X.base CX k f fd ps sp) (hr : Room (k + 1) X.A) (hg : Gl X x) (hm : X.mg x = some (.ref C)) (hb : Binds X.K fd ps []) (hx : ∀ σ, PassesAt CX X σ (E σ)) (ha : PA X (e :: es) t)
    (hdb : (x == ("__debug__" : Str)) = false := by decide) (he : starEach (e :: es) X.env = (false, eval e X.env) :: starEach es X.env := by rfl) (hpl : (backTo pos (starEach es X.env)).any (·.1) = false := by rfl) :
    PE X (.Call (.Name x p) (e :: es) [] pos) (tMakeS C sp E t) := by
  refine ⟨fun pins s0 σ H Q I0 h => wpAny_Call_Name_kw (ld_glob I0 hg hm (PySem.W.callWith_K (h₀ := X.base) I0.ok.mod.kin M.kp (thn (ha.run pos pins s0 σ H _ I0 h) fun us s ⟨vs, H1, I, r, q⟩ => ⟨I.kIn, ?_⟩) he hpl) hdb)⟩
  have hq := q (s.heap.objs.size + 1) s.heap.objs.size (I.hok.fresh (Nat.le_succ _)) (I.hok.fresh (Nat.le_refl _)) (Nat.ne_of_lt (Nat.lt_succ_self _))
  have I2 := Inv.made (C := C) I
  have r2 : Vals (V.ref (s.heap.objs.size + 1) :: vs) (Value.ref (s.heap.objs.size + 1) :: us) := .cons rfl r
  have hl : (Value.ref (s.heap.objs.size + 1) :: us).length = ps.length := r2.length.symm.trans (F.len _ _ _ _ hq)
  have bb : ∀ s2 : Shared, X.K.In s2.heap → BindsTo s2 fd ⟨Value.ref (s.heap.objs.size + 1) :: us, []⟩ (ps.zip (Value.ref (s.heap.objs.size + 1) :: us)) := fun s2 h2 => by simpa using hb s2 (Value.ref (s.heap.objs.size + 1) :: us) h2 (by simpa using hl)
  refine wpAny_call (make_map (f := f) I.kIn M.makes M.init (beq_iff_eq.mp M.fn) (codeAny_mono (F.run _ X.stack _ _ ⟨Value.ref (s.heap.objs.size + 1) :: us, []⟩ _ _ _ (E σ) (hr.make C us []) (I2.env0.make C us []) (bb _ I2.kIn) r2 hq) fun z s' hz => ?_))
  match z, hz with
  | .error e, hz => exact hx σ pins _ _ e s' I2 hz
  | .ok (.ret u), hz =>
    obtain ⟨v, H', I3, rv, ev, q3⟩ := I2.after hz
    subst ev
    exact ⟨rv, ⟨.ref (s.heap.objs.size + 1), H', I3, rfl, q3⟩⟩
  | .ok .next, hz => exact hz.elim
  | .ok .brk, hz => exact hz.elim
  | .ok .cont, hz => exact hz.elim
/-! ### operators -/
/-- a two-place operation at these slots -/
def OpA (X : Cx) (σ : St) (g : Value → Value → Sem Value) (r : R2) : Prop := ∀ (pins : List (Addr × Obj)) (s : Shared) (H : Hp) (x y : V) (v u : Value) (Q : VK), Inv X pins σ H s → RelV x v → RelV y u → r x y H Q → wpAny (model X.prog X.w) X.A (g v u) (EP X pins σ Q) X.xe s
def tOpA (r : St → R2) (ta tb : TE) : TE := fun σ H Q => ta σ H fun x H1 => tb σ H1 fun y H2 => r σ x y H2 Q
theorem pe_opA {a b : Expr} {ta tb : TE} {pos : Pos} {op : Operator} {r : St → R2} (ho : ∀ σ, OpA X σ (binaryOp op) (r σ)) (ha : PE X a ta) (hb : PE X b tb) : PE X (.BinOp a op b pos) (tOpA r ta tb) :=
  ⟨fun pins s σ H Q I h => wpAny_BinOp (binT ha hb (R := fun x y H2 => r σ x y H2 Q) I h fun v u s2 x y H2 I2 rx ry q => ho σ pins s2 H2 x y v u Q I2 rx ry q)⟩
/-- the kind of a value that is no own instance -/
inductive KindV (K : PySem.W.Frag) (H : Hp) : V → String → Prop where
  | non : KindV K H .non "NoneType"
  | bl (b : Bool) : KindV K H (.bl b) "bool"
  | int (i : Int) : KindV K H (.int i) "int"
  | str (x : Str) : KindV K H (.str x) "str"
  | lst {a : Addr} {xs : List V} (h : SqL K H a xs) : KindV K H (.ref a) "list"
  | tup {a : Addr} {xs : List V} (h : SqT K H a xs) : KindV K H (.ref a) "tuple"
theorem looks_ref {M : Model} {h : Heap} {a : Addr} {o : Obj} (e : h.get? a = some o) : PySem.W.Looks M h (typeOf (.ref a)) o.cls := fun A Q E s kp q => wpAny_typeOf_ref (kp _ _ e) q
theorem kind_looks {pins : List (Addr × Obj)} {σ : St} {H : Hp} {s : Shared} {x : V} {u : Value} {t : String} (I : Inv X pins σ H s) (h : KindV X.K H x t) (r : RelV x u) {M : Model} : PySem.W.Looks M s.heap (typeOf u) (.type t) := by
  cases h with
  | non => cases r; exact PySem.W.Looks.of_pure rfl
  | bl b => cases r; exact PySem.W.Looks.of_pure rfl
  | int i => obtain ⟨k, rfl⟩ := r; exact PySem.W.Looks.of_pure rfl
  | str i => obtain ⟨k, rfl⟩ := r; exact PySem.W.Looks.of_pure rfl
  | lst h =>
    cases r
    obtain ⟨its, rv, hl, _⟩ := I.list h
    obtain ⟨o, n, e, c, _⟩ := hl
    have z := looks_ref (M := M) e
    rw [c] at z
    exact z
  | tup h =>
    cases r
    obtain ⟨its, rv, hl, _⟩ := I.tuple h
    obtain ⟨o, e, c, _⟩ := hl
    have z := looks_ref (M := M) e
    rw [c] at z
    exact z
/-- the names of the kinds -/
def kinds : List String := ["NoneType", "bool", "int", "str", "list", "tuple"]
theorem KindV.mem {K : PySem.W.Frag} {H : Hp} {x : V} {t : String} (h : KindV K H x t) : t ∈ kinds := by
  cases h <;> decide
/-- what a class's own def for an operator must have, beside all kinds -/
structure OwnOps (K : PySem.W.Frag) (C f : Addr) (op : Operator) : Prop where
  at_ : PySem.W.findIn K (.ref C) (PySem.dunder op.info.2) = some (some (.ref f))
  fn : PySem.W.isFn K (.ref f) = true
  first : PySem.W.selfFirst K C = true
  rc : PySem.W.findIn K (.ref C) (dunderR op.info.2) = some none
  ks : ∀ t ∈ kinds, (PySem.W.findIn K (.type t) (PySem.dunder op.info.2)).isSome = true ∧ (PySem.W.findIn K (.type t) (dunderR op.info.2)).isSome = true ∧ PySem.W.subIn K (.type t) (.ref C) = some false
def kindB (K : PySem.W.Frag) (C : Addr) (op : Operator) (t : String) : Bool := (PySem.W.findIn K (.type t) (PySem.dunder op.info.2)).isSome && ((PySem.W.findIn K (.type t) (dunderR op.info.2)).isSome && decide (PySem.W.subIn K (.type t) (.ref C) = some false))
def ownsB (K : PySem.W.Frag) (C f : Addr) (op : Operator) : Bool := He.eqO (PySem.W.findIn K (.ref C) (PySem.dunder op.info.2)) (some (some (.ref f))) && (PySem.W.isFn K (.ref f) && (PySem.W.selfFirst K C && (He.eqO (PySem.W.findIn K (.ref C) (dunderR op.info.2)) (some none) && kinds.all (kindB K C op))))
theorem ownsB_ok {K : PySem.W.Frag} {op : Operator} (q : ownsB K C f op = true) : OwnOps K C f op := by
  obtain ⟨q1, q⟩ := He.ba q
  obtain ⟨q2, q⟩ := He.ba q
  obtain ⟨q3, q⟩ := He.ba q
  obtain ⟨q4, q5⟩ := He.ba q
  refine ⟨He.eqO_ok q1, q2, q3, He.eqO_ok q4, fun t ht => ?_⟩
  obtain ⟨a1, a⟩ := He.ba (List.all_eq_true.mp q5 t ht)
  obtain ⟨a2, a3⟩ := He.ba a
  exact ⟨a1, a2, of_decide_eq_true a3⟩
open PySem.W in
/-- a op b where b is of a built-in kind, told by a look -/
theorem bin_kind {prog : Program} {w : World} {A : Around} {W : Value → Shared → Prop} {s : Shared} {K : Frag} {x : Addr} {h₀ : Heap} {L : Addr} {m : Str → Option Value} {ox : Obj} {od : Option Obj} {op : Operator} {b : Value} {t : String} {Q : Value → Shared → Prop}
    (F : Fr h₀ L s.heap m) (X0 : K.In h₀) (I : InstAt s.heap x ox C od) (hb : Looks (model prog w) s.heap (typeOf b) (.type t)) (o : OwnOps K C f op) (ht : t ∈ kinds)
    (h : wpAny (model prog w) A (call (.ref f) [.ref x, b]) (PySem.W.CmpBack Q) W s) : wpAny (model prog w) A (binaryOp op (.ref x) b) Q W s := by
  have X := X0.keeps F.keep
  obtain ⟨cd, rest, hcd, hm⟩ := ksp_first o.first
  obtain ⟨k1, k2, k3⟩ := o.ks t ht
  obtain ⟨fo, h1⟩ := Option.isSome_iff_exists.mp k1
  obtain ⟨ro, h2⟩ := Option.isSome_iff_exists.mp k2
  have hs := o.at_
  have hr := o.rc
  rcases hi : op.info with ⟨sym, nm⟩
  rw [hi] at hs hr h1 h2
  dsimp only at hs hr h1 h2
  have one := ksp_try X I hs o.fn h
  obtain ⟨hh, g, d, tt, os⟩ := s
  have l1 : Looks (model prog w) hh (typeOf (.ref x)) (.ref C) := I.type
  have l2 : Looks (model prog w) hh (typeOf b) (.type t) := hb
  have l3 : Looks (model prog w) hh (fillsNumberSlot (.ref C) nm) true := fills_K X hcd hm hs
  have l4 : Looks (model prog w) hh (fillsNumberSlot (.type t) nm) ((fo.isSome && !isSeqSlot fo) || (ro.isSome && !isSeqSlot ro)) := ksp_fillsT X h1 h2
  have l5 : Looks (model prog w) hh (isSubtype (.type t) (.ref C)) false := looks_subIn X k3
  have l6 : Looks (model prog w) hh (numberSlotInPython (.ref C) nm) true := ksp_inPy X hs hr (.inl rfl)
  have l7 : Looks (model prog w) hh (numberSlotInPython (.type t) nm) false := Looks.of_pure rfl
  have l8 : Looks (model prog w) hh (typeLookup (.type t) (dunderR nm)) ro := looks_findIn X h2
  generalize ((fo.isSome && !isSeqSlot fo) || (ro.isSome && !isSeqSlot ro)) = right at l4
  have ne : (Value.ref C == Value.type t) = false := Bool.eq_false_iff.mpr fun q => by cases beq_iff_eq.mp q
  simp only [binaryOp, hi]
  refine wpAny_holding (wpAny_bind ?_)
  unfold binaryOp1
  refine wpAny_bind (l1.at (wpAny_bind (l2.at (wpAny_bind (l3.at ?_)))))
  simp only [ne, Bool.false_eq_true, if_false]
  cases right <;>
  · ksp_lk
    refine wpAny_mono one (fun r s' z => ?_) fun _ _ z => z
    obtain ⟨v, rfl, q⟩ := z
    ksp_lk
    exact q
/-- a op b, by the left one's own def, in a try -/
theorem op_ownA {op : Operator} {E : St → XK} (o : OwnOps X.K C f op) (F : FnOk X.prog X.w X.K X.mg X.base CX k f fd ps sp) (hr : Room k X.A) (hb : Binds X.K fd ps []) (hx : ∀ σ, PassesAt CX X σ (E σ)) (σ : St) :
    OpA X σ (binaryOp op) (fun x y H Q => ∃ a dx fs, x = .ref a ∧ H a = some (.ins C dx fs) ∧ ((∃ t, KindV X.K H y t) ∨ ∃ b dy gs, y = .ref b ∧ H b = some (.ins C dy gs)) ∧ sp [.ref a, y] H Q (E σ)) := by
  intro pins s H x y v u Q I rx ry h
  obtain ⟨a, dx, fs, rfl, ha, hy, h⟩ := h
  cases rx
  obtain ⟨ox, od, J, _⟩ := insC_at I (.inr ⟨dx, fs, ha⟩)
  obtain ⟨m, hF⟩ := I.fr
  have run := wpAny_mono (run_atS (A := X.A) ⟨hr, rfl⟩ F hb (hx σ) I (vs := [.ref a, y]) (us := [.ref a, u]) (.cons rfl (.cons ry .nil)) h) (fun v s' z => cmp_back z) fun _ _ z => z
  rcases hy with ⟨t, hk⟩ | ⟨b, dy, gs, rfl, hb'⟩
  · exact bin_kind hF I.ok.mod.kin J (kind_looks I hk ry) o hk.mem run
  · cases ry
    obtain ⟨oy, od', J', _⟩ := insC_at I (.inr ⟨dy, gs, hb'⟩)
    exact PySem.W.binop_K hF I.ok.mod.kin J J'.type o.first o.at_ o.fn run
/-- o(..) in a try -/
def tCallOS (X : Cx) (C : Addr) (sp : Sp) (E : St → XK) (tf : TE) (t : TA) : TE := fun σ H Q => tf σ H fun y H1 => ∃ a, y = V.ref a ∧ t σ H1 fun vs H2 => InsC X H2 a C ∧ sp (V.ref a :: vs) H2 Q (E σ)
theorem pe_callOS {E : St → XK} {fe e : Expr} {es : List Expr} {tf : TE} {t : TA} {pos : Pos} (hf : PE X fe tf) (c : CallO X.K C f) (F : FnOk X.prog X.w X.K X.mg X.base CX k f fd ps sp) (hr : Room k X.A) (hb : Binds X.K fd ps []) (hx : ∀ σ, PassesAt CX X σ (E σ)) (ha : PA X (e :: es) t)
    (ht : eval (.Call fe (e :: es) [] pos) X.env = (do callWith pos (← eval fe X.env) [] (backTo pos (starEach (e :: es) X.env)) (backToKw pos (keywordEach [] X.env))) := by rfl)
    (he : starEach (e :: es) X.env = (false, eval e X.env) :: starEach es X.env := by rfl) (hpl : (backTo pos (starEach es X.env)).any (·.1) = false := by rfl) : PE X (.Call fe (e :: es) [] pos) (tCallOS X C sp E tf t) := by
  refine ⟨fun pins s σ H Q I h => Call_ (thn (hf.run pins s σ H _ I h) fun u s1 ⟨y, H1, I1, ry, a, ey, q⟩ => ?_) ht⟩
  subst ey
  cases ry
  refine callO_with (thn (ha.run pos pins s1 σ H1 _ I1 q) fun us s2 ⟨vs, H2, I2, r, hi, q2⟩ => ?_) he hpl
  obtain ⟨ox, od, J, hd⟩ := insC_at I2 hi
  refine ⟨⟨_, _, _, J, hd⟩, ?_⟩
  have r2 : Vals (V.ref a :: vs) (Value.ref a :: us) := .cons rfl r
  have hl : (Value.ref a :: us).length = ps.length := r2.length.symm.trans (F.len _ _ _ _ q2)
  have bb : BindsTo s2 fd ⟨Value.ref a :: us, []⟩ (ps.zip (Value.ref a :: us)) := by simpa using hb s2 (Value.ref a :: us) I2.kIn (by simpa using hl)
  refine wpAny_call (PySem.W.kco_code I2.kIn J hd c.at_ c.fn c.fi (codeAny_mono (F.run X.A X.stack s2 H2 ⟨Value.ref a :: us, []⟩ _ _ Q (E σ) hr I2.env0 bb r2 q2) fun z s' hz => ?_))
  match z, hz with
  | .error e, hz => exact hx σ pins _ _ e s' I2 hz
  | .ok (.ret u), hz => exact I2.after hz
  | .ok .next, hz => exact hz.elim
  | .ok .brk, hz => exact hz.elim
  | .ok .cont, hz => exact hz.elim
/-- what a static method must have: its record at p, its def at g -/
structure Stat (K : PySem.W.Frag) (C p g : Addr) (m : Str) : Prop where
  rd : PySem.W.readsIn K C (.type "type") = true
  ga : PySem.W.specialIn K (.ref C) "__getattribute__" = some (some (.builtin "type.__getattribute__"))
  at_ : PySem.W.findCls K (.ref C) (.type "type") m = some (.get (.builtin "staticmethod.__get__") (.ref p) .none (.ref C))
  rc : ∃ rest, PySem.W.recIn K p "staticmethod" = some (.ref g :: rest)
  kp : PySem.W.keepIn K (.ref g) = true
/-- C.m(..), m a static method, in a try -/
theorem pe_statS {E : St → XK} {x m : Str} {p0 pos apos : Pos} {pr : Addr} {e : Expr} {es : List Expr} {t : TA} {pl : Sem Bool} (c : Stat X.K C pr f m) (F : FnOk X.prog X.w X.K X.mg X.base CX k f fd ps sp) (hr : Room k X.A) (hg : Gl X x) (hm : X.mg x = some (.ref C)) (hb : Binds X.K fd ps []) (hx : ∀ σ, PassesAt CX X σ (E σ))
    (ha : PA X (e :: es) t) (hdb : (x == ("__debug__" : Str)) = false := by decide) (hst : starEach (e :: es) X.env = (false, eval e X.env) :: starEach es X.env := by rfl) (hpl : (backTo pos (starEach es X.env)).any (·.1) = false := by rfl)
    (ht : eval (.Call (.Attribute (.Name x p0) m apos) (e :: es) [] pos) X.env = (do
      let ov ← eval (.Name x p0) X.env
      standAt apos.atName
      let (f, first) ← holding [ov] (getMethod ov m pl)
      callWith pos f first (backTo pos (starEach (e :: es) X.env)) (backToKw pos (keywordEach [] X.env))) := by rfl) :
    PE X (.Call (.Attribute (.Name x p0) m apos) (e :: es) [] pos) (tCallS sp E t) := by
  have hn : PE X (.Name x p0) (tC (.ref C)) := pe_glob hg hm rfl hdb
  refine ⟨fun pins s σ H Q I h => PySem.W.methodCall_KW (pl := pl) (thn (hn.run pins s σ H (fun v H1 => v = .ref C ∧ t σ H1 fun vs H2 => sp vs H2 Q (E σ)) I ⟨rfl, h⟩) fun u s1 ⟨v, H1, I1, rv, ev, q⟩ => ?_) ht⟩
  subst ev
  cases rv
  obtain ⟨rest, rc⟩ := c.rc
  refine PySem.W.method_cls I1.kIn c.ga (PySem.W.cls_bind I1.kIn c.rd c.at_ (wpAny_call (PySem.W.sm_get (s := { s1 with toks := s1.toks + 1 }) I1.kIn rc (PySem.W.handed_on rfl ?_))))
  have I2 := I1.tok (s1.toks + 1)
  refine PySem.W.callWith_K (first := []) (h₀ := X.base) I2.ok.mod.kin c.kp (thn (ha.run pos pins _ σ H1 _ I2 q) fun us s2 ⟨vs, H2, I3, r, q2⟩ => ⟨I3.kIn, ?_⟩) hst hpl
  exact run_atS (A := X.A) ⟨hr, rfl⟩ F hb (hx σ) I3 r q2
/-- a == b, b of a built-in kind: the left one's own __eq__ -/
theorem op_eqK {E : XK} (d : Dun X.K C f "__eq__") (F : FnOk X.prog X.w X.K X.mg X.base CX k f fd ps sp) (hr : Room k X.A) (hb : Binds X.K fd ps []) (hx : Passes CX X E) :
    OpR X (compareOp .Eq) (fun x y H Q => ∃ a dx fs t, x = .ref a ∧ H a = some (.ins C dx fs) ∧ KindV X.K H y t ∧ PySem.W.subIn X.K (.type t) (.ref C) = some false ∧ sp [.ref a, y] H Q E) := by
  intro pins s σ H x y v u Q I rx ry h
  obtain ⟨a, dx, fs, t, rfl, ha, hk, hs, h⟩ := h
  cases rx
  obtain ⟨ox, od, J, _⟩ := insC_at I (.inr ⟨dx, fs, ha⟩)
  obtain ⟨m, hF⟩ := I.fr
  show wpAny (model X.prog X.w) X.A (richCompare .Eq _ _) _ X.xe s
  refine PySem.W.cmp_K (op := .Eq) (tb := .type t) hr.units0 hF I.ok.mod.kin J (kind_looks I hk ry) (by simp [PySem.W.notFirst, hs]) d.at_ d.fn ?_
  exact wpAny_mono (run_at (A := X.A) ⟨hr, rfl⟩ F hb hx I (vs := [.ref a, y]) (us := [.ref a, u]) (.cons rfl (.cons ry .nil)) h) (fun v s' z => cmp_back z) fun _ _ z => z
end
open PySem.W Builtin in
theorem bound_bi {M : Model} {A : Around} {W : Value → Shared → Prop} {s : Shared} {K : Frag} {x C : Addr} {ox : Obj} {od : Option Obj} {name : Str} {id : String} {args : List Value} {Q : Option Value → Shared → Prop} (X : K.In s.heap) (I : InstAt s.heap x ox C od) (hs : findIn K (.ref C) name = some (some (.builtin id)))
    (hb : ∀ self, bindSpecial (.builtin id) self = pure (.builtin id, [self])) (h : wpAny M A (call (.builtin id) (.ref x :: args)) (fun v => Q (some v)) W s) : wpAny M A (callSpecialIfBound? (.ref x) name args) Q W s := by
  simp only [callSpecialIfBound?, bindSpecialIfBound?]
  refine wpAny_holding (wpAny_bind (wpAny_bind (wpAny_bind (I.type.here ((looks_findIn X hs).here ?_)))))
  refine wpAny_bind (wpAny_askSetting (wpAny_ite ?_))
  have fin : wpAny M A (call (.builtin id) ([.ref x] ++ args) >>= fun v => pure (some v)) Q W s := wpAny_bind (wpAny_mono h (fun v s' z => wpAny_pure z) fun _ _ z => z)
  split
  · exact wpAny_bind ((Looks.of_pure (hb _)).here (wpAny_pure (by exact fin)))
  · exact wpAny_tryCatch (wpAny_bind ((Looks.of_pure (hb _)).here (wpAny_pure (by exact fin))))
open PySem.W Builtin in
/-- a != b by the own __eq__ -/
theorem ne_own {prog : Program} {w : World} {A : Around} {W : Value → Shared → Prop} {s : Shared} {K : Frag} {x y C f : Addr} {h₀ : Heap} {L : Addr} {m : Str → Option Value} {ox oy : Obj} {od od' : Option Obj} {Q : Value → Shared → Prop} (hu : A.units < cLine) (hu1 : A.in1.units < cLine)
    (F : Fr h₀ L s.heap m) (X0 : K.In h₀) (I : InstAt s.heap x ox C od) (J : InstAt s.heap y oy C od') (hn : findIn K (.ref C) "__ne__" = some (some (.builtin "object.__ne__"))) (hm : mroIn K C (.type "object") = some true) (hs : findIn K (.ref C) "__eq__" = some (some (.ref f))) (hf : isFn K (.ref f) = true)
    (h : wpAny (model prog w) A.in1 (call (.ref f) [.ref x, .ref y]) (fun v s' => ∃ b, v = .bool b ∧ Q (.bool (!b)) s') W s) : wpAny (model prog w) A (richCompare .NotEq (.ref x) (.ref y)) Q W s := by
  have X := X0.keeps F.keep
  have inner : wpAny (model prog w) A (call (.builtin "object.__ne__") [.ref x, .ref y]) (fun v s' => ∃ b, v = .bool b ∧ Q (.bool b) s') W s := by
    refine wpAny_call (codeAny_call_builtin PySem.F.slot_object_ne.plain PySem.F.entry_object_ne (check_slot (i := "object.__ne__") (owner := "object") (n := "__ne__") (by decide +kernel) (by decide +kernel) (I.type.andThen (looks_mroIn X hm)) (PySem.F.args_object_ne_2 _ _) ?_))
    unfold Builtin.«object.__ne__»
    refine wpAny_bind (m := slotArgs "__ne__" 1 _) (wpAny_pure ?_)
    refine wpAny_bind (m := cRoomFor _ _) (wpAny_cRoomFor hu1 ?_)
    refine wpAny_bind (m := callSpecialIfBound? (.ref x) (Str.ofString "__eq__") _) (ifBound_K X I hs hf (wpAny_mono h (fun v s' z => ?_) fun _ _ z => z))
    obtain ⟨b, rfl, q⟩ := z
    refine wpAny_bind (m := truthy (.bool b)) (wpAny_truthy_bool ?_)
    exact wpAny_pure ⟨!b, rfl, q⟩
  have one : wpAny (model prog w) A (tryCompare (.ref x) (cmpInfo .NotEq).2.1 (.ref y)) (fun r s' => ∃ v, r = some v ∧ Q v s') W s := by
    unfold tryCompare
    refine wpAny_bind (bound_bi X I hn PySem.F.slot_object_ne.bind (wpAny_mono inner (fun v s' z => ?_) fun _ _ z => z))
    obtain ⟨b, rfl, q⟩ := z
    exact wpAny_pure ⟨_, rfl, q⟩
  unfold richCompare
  simp only [oneThing_ref]
  refine wpAny_holding (wpAny_bind (wpAny_cRoomFor hu ?_))
  refine wpAny_bind (I.type.here (wpAny_bind (J.type.here ?_)))
  split
  · rename_i q
    simp at q
  · refine wpAny_bind (wpAny_pure ?_)
    simp only [Bool.false_eq_true, if_false]
    refine wpAny_bind (wpAny_mono one (fun r s' z => ?_) fun _ _ z => z)
    obtain ⟨v, rfl, q⟩ := z
    exact wpAny_pure q
section
variable {X : Cx} {CX : CXT} {k n : Nat} {f C : Addr} {fd : FuncData} {ps : List Str} {sp : Sp}
/-- a != b of two of the class -/
theorem op_neO {E : XK} (d : Dun X.K C f "__eq__") (hn : PySem.W.findIn X.K (.ref C) "__ne__" = some (some (.builtin "object.__ne__"))) (hm : PySem.W.mroIn X.K C (.type "object") = some true) (F : FnOk X.prog X.w X.K X.mg X.base CX k f fd ps sp) (hr : Room (k + 1) X.A) (hb : Binds X.K fd ps []) (hx : Passes CX X E) :
    OpR X (compareOp .NotEq) (fun x y H Q => ∃ a dx fs b dy gs, x = .ref a ∧ H a = some (.ins C dx fs) ∧ y = .ref b ∧ H b = some (.ins C dy gs) ∧ sp [.ref a, .ref b] H (fun v H' => ∃ b, v = .bl b ∧ Q (.bl (!b)) H') E) := by
  intro pins s σ H x y v u Q I rx ry h
  obtain ⟨a, dx, fs, b, dy, gs, rfl, ha, rfl, hb', h⟩ := h
  cases rx
  cases ry
  obtain ⟨ox, od, J, _⟩ := insC_at I (.inr ⟨dx, fs, ha⟩)
  obtain ⟨oy, od', J', _⟩ := insC_at I (.inr ⟨dy, gs, hb'⟩)
  obtain ⟨m, hF⟩ := I.fr
  show wpAny (model X.prog X.w) X.A (richCompare .NotEq _ _) _ X.xe s
  refine ne_own hr.units0 hr.in1.units0 hF I.ok.mod.kin J J' hn hm d.at_ d.fn ?_
  refine wpAny_mono (run_at (A := X.A.in1) ⟨hr.in1, rfl⟩ F hb hx I (vs := [.ref a, .ref b]) (us := [.ref a, .ref b]) (.cons rfl (.cons rfl .nil)) h) (fun v s' z => ?_) fun _ _ z => z
  obtain ⟨x, H', I', rv, c, rfl, q⟩ := z
  cases rv
  exact ⟨c, rfl, .bl (!c), H', I', rfl, q⟩
/-- a != b, two lists of the very same things -/
theorem op_neS (hu : X.A.units + 64 < cLine) : OpR X (compareOp .NotEq) (fun x y H Q => ∃ a b xs, x = .ref a ∧ y = .ref b ∧ SqL X.K H a xs ∧ SqL X.K H b xs ∧ (∀ v ∈ xs, flatB v = true ∨ ∃ r, v = .ref r) ∧ Q (.bl false) H) := by
  intro pins s σ H x y v u Q I rx ry h
  obtain ⟨a, b, xs, rfl, rfl, ha, hb, hi, q⟩ := h
  cases rx
  cases ry
  obtain ⟨us, r1, p1, _⟩ := I.list ha
  obtain ⟨ws, r2, p2, _⟩ := I.list hb
  have hsz : us.toArray.size = ws.toArray.size := by rw [List.size_toArray, List.size_toArray, ← r1.length, ← r2.length]
  have he : ∀ j (h1 : j < us.toArray.size) (h2 : j < ws.toArray.size), SeqAt.EqAt X.A.in1 s us.toArray[j] ws.toArray[j] true := by
    intro j h1 h2
    have l1 : j < us.length := by simpa using h1
    have l2 : j < ws.length := by simpa using h2
    have hj : j < xs.length := by rw [r1.length]; exact l1
    obtain ⟨u1, e1, q1⟩ := r1.get (List.getElem?_eq_getElem hj)
    obtain ⟨u2, e2, q2⟩ := r2.get (List.getElem?_eq_getElem hj)
    have z1 : us.toArray[j] = u1 := by
      have := List.getElem?_eq_getElem l1
      rw [e1] at this
      simpa using (Option.some.inj this).symm
    have z2 : ws.toArray[j] = u2 := by
      have := List.getElem?_eq_getElem l2
      rw [e2] at this
      simpa using (Option.some.inj this).symm
    rw [z1, z2]
    rcases hi xs[j] (List.getElem_mem hj) with f | ⟨r, er⟩
    · exact eqAt_same q1 q2 f
    · rw [er] at q1 q2
      cases q1
      cases q2
      exact SeqAt.EqAt.same _
  have z := SeqAt.RcNeAt.lists (e := fun _ => true) p1.isList p2.isList hsz (show X.A.units < cLine by omega) he X.prog X.w X.xe (EP X pins σ Q)
  refine z ?_
  rw [show (List.range us.toArray.size).all (fun _ => true) = true from List.all_eq_true.mpr fun _ _ => rfl]
  exact ⟨.bl false, H, I, rfl, q⟩
/-- isinstance(x, C): an instance, or data -/
theorem call_isCD (c : C8.InsC X.K C) : CallR X (.builtin "isinstance") (fun xs H Q => ∃ x, xs = [x, .ref C] ∧ ((∃ d, Dp X.K H x d ∧ PySem.W.kitOne X.K (.type (tyN d)) (.ref C) = some false ∧ Q (.bl false) H) ∨ ∃ a dx fs, x = .ref a ∧ H a = some (.ins C dx fs) ∧ Q (.bl true) H)) := by
  intro pins s σ H xs us Q I r h
  obtain ⟨x, rfl, h⟩ := h
  rcases h with ⟨d, hd, hk, q⟩ | ⟨a, dx, fs, rfl, ha, q⟩
  · exact call_isi pins s σ H _ _ Q I r ⟨x, .ref C, .type (tyN d), .ref C, false, rfl, .own C, tyD hd, hk, q⟩
  · exact C8.call_isC c pins s σ H _ _ Q I r ⟨a, dx, fs, rfl, ha, q⟩
/-- isinstance(x, t), t built-in: data, or an instance of C -/
theorem call_isDT {t : String} (c : C8.InsC X.K C) (kf : PySem.W.kitOne X.K (.ref C) (.type t) = some false) : CallR X (.builtin "isinstance") (fun xs H Q => ∃ x, xs = [x, .ty t] ∧ ((∃ d b, Dp X.K H x d ∧ kitB (tyN d) t = some b ∧ Q (.bl b) H) ∨ ∃ a dx fs, x = .ref a ∧ H a = some (.ins C dx fs) ∧ Q (.bl false) H)) := by
  intro pins s σ H xs us Q I r h
  obtain ⟨x, rfl, h⟩ := h
  rcases h with ⟨d, b, hd, hk, q⟩ | ⟨a, dx, fs, rfl, ha, q⟩
  · exact call_isi pins s σ H _ _ Q I r ⟨x, .ty t, .type (tyN d), .type t, b, rfl, .ty t, tyD hd, kit_ty hk, q⟩
  · obtain ⟨u, w', rfl, ru, rw'⟩ := vals2 r
    cases rw'
    exact isinst_ok I ru (TyOf.ins ha c.cl c.ha c.hn c.htk c.hm) kf fun tk => ⟨.bl false, H, I.tok _, rfl, q⟩
end
end L2.Lr

set_option maxHeartbeats 400000
/-! f'{o}', o an own instance with its own __str__ -/
namespace L2.Lr
open PySem PySem.Spec PyProof.Rows LR StX
section
variable {X : Cx} {CX : CXT} {k n : Nat} {f C : Addr} {fd : FuncData} {ps : List Str} {sp : Sp} {E : XK}
/-- what f'{o}' asks of its class -/
structure FmtO (K : PySem.W.Frag) (C : Addr) : Prop where
  fm : PySem.W.findIn K (.ref C) "__format__" = some (some (.builtin "object.__format__"))
  mo : PySem.W.mroIn K C (.type "object") = some true
def fmtB (K : PySem.W.Frag) (C : Addr) : Bool := decide (PySem.W.findIn K (.ref C) "__format__" = some (some (.builtin "object.__format__"))) && decide (PySem.W.mroIn K C (.type "object") = some true)
theorem fmtB_ok {K : PySem.W.Frag} {C : Addr} (q : fmtB K C = true) : FmtO K C := by
  obtain ⟨a, b⟩ := He.ba q
  exact ⟨of_decide_eq_true a, of_decide_eq_true b⟩
def tFmtO (C : Addr) (sp : Sp) (E : XK) (te : TE) : TE := fun σ H Q => te σ H fun x H1 => ∃ a dx fs, x = .ref a ∧ H1 a = some (.ins C dx fs) ∧ sp [.ref a] H1 (fun v H2 => ∃ y, v = .str y ∧ Q (.str y) H2) E
theorem pe_fmtO {e : Expr} {te : TE} {pos : Pos} (d : Dun X.K C f "__str__") (m : FmtO X.K C) (F : FnOk X.prog X.w X.K X.mg X.base CX k f fd ps sp) (hr : Room (k + 1) X.A) (hb : Binds X.K fd ps []) (hx : Passes CX X E) (he : PE X e te) :
    PE X (.FormattedValue e (-1) none pos) (tFmtO C sp E te) := by
  refine ⟨fun pins s σ H Q I h => ?_⟩
  refine wpAny_FormattedValue_plain (thn (he.run pins s σ H _ I h) fun v s1 hv => ?_)
  obtain ⟨x, H1, I1, r1, a, dx, fs, rfl, ha, q⟩ := hv
  cases r1
  obtain ⟨ox, od, J, _⟩ := insC_at I1 (.inr ⟨dx, fs, ha⟩)
  have I2 : Inv X pins σ H1 { s1 with toks := s1.toks + 1 } := I1.tok _
  refine PySem.W.kfo_fieldS hr.in1.units0 I1.kIn J m.fm m.mo d.at_ d.fn (wpAny_mono (run_at (A := X.A.in1) ⟨hr.in1, rfl⟩ F hb hx I2 (vs := [.ref a]) (us := [.ref a]) (.cons rfl .nil) q) (fun v s' z => ?_) fun _ _ z => z)
  obtain ⟨x, H', I', rv, y, rfl, q⟩ := z
  obtain ⟨t, rfl⟩ := rv
  exact ⟨.str y, H', I', ⟨t, rfl⟩, q⟩
end
end L2.Lr

set_option maxHeartbeats 1000000
/-! the end of a law with lambdas, where nothing is being written -/
namespace L2.Lr
open PySem PySem.Spec PyProof.Rows LR LamX
/-- the state in which the law is called: the script, and the tables of its code objects, empty -/
theorem script_envT {P : Program} {w : World} {K : PySem.W.Frag} {mg mb : Str → Option Value} {a : Addr} {s₁ : Shared} {vs : List Value} {ns : List Int} {cs : List (Addr × Addr)}
    (KX : K.In s₁.heap) (hns : s₁.heap.Ns mainGlobals mg) (hb : s₁.heap.Ns builtinsNs mb) (hbb : ∀ x : Str, x ≠ "__name__" → mb x = bootBuiltins x) (hlim : s₁.heap.NoLimit) (hg : s₁.gens = #[])
    (hT : ∀ p ∈ cs, s₁.heap.get? p.2 = some { cls := .none, data := .fields #[] }) (nT : ∀ p ∈ cs, K.lookup p.2 = none) (C : ∀ p ∈ cs, PySem.W.CodeHd s₁.heap p.1 p.2)
    (hbm : ∃ (bm : Addr) (ob : Obj), mg "__builtins__" = some (.ref bm) ∧ bm ≠ builtinsNs ∧ s₁.heap.get? bm = some ob ∧ ob.cls = .type "module" ∧ ob.dict = some builtinsNs ∧ ob.data = .plain)
    (ha : s₁.heap.get? a = some { cls := .type "list", data := .seq vs.toArray }) (hi : IntsAre vs ns) (hl : ns.length ≤ sizeLine) :
    ∃ (H : Hp) (base : Heap), K.In base ∧ base.Ns mainGlobals mg ∧ (∀ p ∈ cs, TabB base mg p.1 p.2) ∧ (∀ p ∈ cs, H p.2 = some (.tbl #[])) ∧ SqL K H a (ns.map V.int) ∧ Env0 P w K mg base callerA [] s₁ H ∧ ∀ H' h', Un (frs []) [] H H' s₁.heap h' → HOk P w H' h' → OldK s₁.heap h' := by
  have rv := vals_ints hi
  obtain ⟨lo, elo⟩ : ∃ lo : Obj, lo = { cls := .type "list", data := .seq vs.toArray } := ⟨_, rfl⟩
  obtain ⟨Ts, eTs⟩ : ∃ Ts : List Addr, Ts = cs.map (·.2) := ⟨_, rfl⟩
  have tab : ∀ b ∈ Ts, ∃ p ∈ cs, p.2 = b := fun b hb => by
    rw [eTs] at hb
    exact List.mem_map.mp hb
  have inT : ∀ p ∈ cs, p.2 ∈ Ts := fun p hp => by rw [eTs]; exact List.mem_map.mpr ⟨p, hp, rfl⟩
  have at_ : ∀ b ∈ Ts, s₁.heap.get? b = some { cls := .none, data := .fields #[] } := fun b hb => by
    obtain ⟨p, hp, e⟩ := tab b hb
    rw [← e]
    exact hT p hp
  rw [← elo] at ha
  have aT : a ∉ Ts := fun z => by
    have e := ha.symm.trans (at_ a z)
    rw [elo] at e
    have e2 := congrArg Obj.data (Option.some.inj e)
    cases e2
  obtain ⟨H, only, there, tbls⟩ : ∃ H : Hp, (∀ b u, H b = some u → (b ∈ Ts ∧ u = .tbl #[]) ∨ (b = a ∧ u = .frz lo (.lst (ns.map V.int)) ∧ K.lookup a = none)) ∧ (K.lookup a = none → H a = some (.frz lo (.lst (ns.map V.int)))) ∧ (∀ b ∈ Ts, H b = some (.tbl #[])) := by
    cases hk : K.lookup a with
    | none =>
      refine ⟨fun b => if b ∈ Ts then some (.tbl #[]) else if b = a then some (.frz lo (.lst (ns.map V.int))) else none, fun b u z => ?_, fun _ => (if_neg aT).trans (if_pos rfl), fun b hb => if_pos hb⟩
      by_cases h : b ∈ Ts
      · exact .inl ⟨h, (Option.some.inj ((if_pos h).symm.trans z)).symm⟩
      · have z2 := (if_neg h).symm.trans z
        by_cases h2 : b = a
        · exact .inr ⟨h2, (Option.some.inj ((if_pos h2).symm.trans z2)).symm, rfl⟩
        · cases (if_neg h2).symm.trans z2
    | some o =>
      refine ⟨fun b => if b ∈ Ts then some (.tbl #[]) else none, fun b u z => ?_, fun z => (by cases z), fun b hb => if_pos hb⟩
      by_cases h : b ∈ Ts
      · exact .inl ⟨h, (Option.some.inj ((if_pos h).symm.trans z)).symm⟩
      · cases (if_neg h).symm.trans z
  have off : ∀ {b : Addr} {o : Obj}, s₁.heap.get? b = some o → o.data ≠ lo.data → o.data ≠ .fields #[] → H b = none := fun {b o} e n1 n2 => by
    cases q : H b with
    | none => rfl
    | some u =>
      rcases only _ _ q with ⟨h, _⟩ | ⟨rfl, _⟩
      · cases (at_ b h).symm.trans e
        exact absurd rfl n2
      · cases ha.symm.trans e
        exact absurd rfl n1
  have kb : K.In (hidT s₁.heap H) := fun b o e => hidT_get (KX b o e) (by
    cases q : H b with
    | none => rfl
    | some u =>
      rcases only _ _ q with ⟨h, _⟩ | ⟨rfl, _, n⟩
      · obtain ⟨p, hp, ep⟩ := tab b h
        rw [← ep, nT p hp] at e
        cases e
      · cases n.symm.trans e)
  have dict_ne : ∀ {o : Obj} {es : Array DictEntry} {ep : Nat}, o.data = .dict es ep → o.data ≠ lo.data ∧ o.data ≠ .fields #[] := fun {o es ep} d => ⟨(by rw [d, elo]; intro z; cases z), (by rw [d]; intro z; cases z)⟩
  have nk : ∀ {b : Addr} {m : Str → Option Value}, s₁.heap.Ns b m → (hidT s₁.heap H).Ns b m := fun ⟨o, es, ep, e, dd, r⟩ => ⟨o, es, ep, hidT_get e (off e (dict_ne dd).1 (dict_ne dd).2), dd, r⟩
  have hok : HOk P w H s₁.heap := fun b u q => by
    rcases only _ _ q with ⟨h, rfl⟩ | ⟨rfl, rfl, _⟩
    · exact at_ b h
    · exact ⟨ha, by rw [List.length_map]; exact hl, vs, _, rv, by rw [ha, elo]⟩
  have TB : ∀ p ∈ cs, TabB (hidT s₁.heap H) mg p.1 p.2 := fun p hp => by
    refine ⟨?_, ?_, fun z => ?_⟩
    · obtain ⟨o, us, file, tf, flags, tg, inF, text, tt, e1, r1, r2, r3, r⟩ := C p hp
      refine ⟨o, us, file, tf, flags, tg, inF, text, tt, hidT_get e1 (off e1 (by rw [r2, elo]; intro z; cases z) ?_), r1, r2, r3, r⟩
      rw [r2]
      intro z
      cases z
      simp at r3
    · obtain ⟨bm, ob, b1, b2, b3, b4, b5, b6⟩ := hbm
      refine ⟨bm, ob, b1, b2, fun z => ?_, fun z => ?_, hidT_get b3 (off b3 (by rw [b6, elo]; intro z; cases z) (by rw [b6]; intro z; cases z)), b4, b5, b6⟩
      · obtain ⟨o, es, ep, e, dd, _⟩ := hns
        rw [z] at b3
        cases b3.symm.trans e
        cases b6.symm.trans dd
      · rw [z] at b3
        cases b3.symm.trans (hT p hp)
        cases b6
    · obtain ⟨o, es, ep, e, dd, _⟩ := hns
      rw [z] at e
      cases (hT p hp).symm.trans e
      cases dd
  refine ⟨H, hidT s₁.heap H, kb, nk hns, TB, fun p hp => tbls _ (inT p hp), ?_, ⟨rfl, ⟨kb, nk hns, ⟨mb, nk hb, hbb⟩, let ⟨mc, h1, h2⟩ := hlim; ⟨mc, nk h1, h2⟩⟩, fun b o e => of_hidT e, Nat.le_of_eq (hidT_size _ _), trivial, fun b z => (nomatch z), hok, .of_eq hg⟩, fun H' h' un ok' => ?_⟩
  · cases hk : K.lookup a with
    | none => exact .inl (.inr ⟨lo, there hk⟩)
    | some o =>
      cases ha.symm.trans (KX a o hk)
      exact .inr ⟨lo, vs.toArray, _, hk, by rw [elo], by rw [elo], by rw [elo], by rw [List.size_toArray, hi.length]; exact hl, by simpa using rv⟩
  · have keep : ∀ b o, b ∉ Ts → s₁.heap.get? b = some o → h'.get? b = some o := fun b o nb e => by
      cases q : H b with
      | none => exact un.keep b o e q (fun z => nomatch z) (fun z => nomatch z)
      | some u =>
        rcases only _ _ q with ⟨h, _⟩ | ⟨rfl, rfl, _⟩
        · exact absurd h nb
        · cases ha.symm.trans e
          exact (ok' b _ (un.frzs b _ _ q)).1
    have grown : ∀ b ∈ Ts, ∃ more : Array Value, h'.get? b = some { cls := .none, data := .fields more } := fun b hb => by
      obtain ⟨more, z⟩ := un.tbls b #[] (tbls b hb)
      exact ⟨_, ok' b _ z⟩
    refine ⟨fun b o e => ?_, fun b o e => ?_⟩
    · by_cases hb : b ∈ Ts
      · obtain ⟨p, hp, ep⟩ := tab b hb
        obtain ⟨more, hm⟩ := grown b hb
        cases (at_ b hb).symm.trans e
        subst ep
        exact .inr (.inl ⟨((C p hp).tab (hT p hp)).isCodeTable, rfl, #[], more, rfl, by rw [Array.empty_append]; exact hm⟩)
      · exact .inl (keep b o hb e)
    · by_cases hb : b ∈ Ts
      · obtain ⟨more, hm⟩ := grown b hb
        exact ⟨_, hm⟩
      · exact ⟨o, keep b o hb e⟩
/-- the end: a law with lambdas whose def is kept where nothing is being written -/
theorem walk_ofQT {l : PySem.W.OpenLaw} {n k : Nat} {q : Program} {loose : List Str} {XP : (Str → Option Value) → Heap → Prop} {YP : World → Heap → Prop} {d : DefRec} {CX : CXT} {x : Str} (hn : l.most = some n) (hz : n ≤ sizeLine) (hdf : d.params.defaults = []) (hr : Room k callerA)
    (F : ∀ (w : World) (mg : Str → Option Value) (fa : Addr) (h : Heap), YP w h → h.Ns mainGlobals mg → mg d.name = some (.ref fa) → ∃ (K : PySem.W.Frag) (fd : FuncData) (cs : List (Addr × Addr)) (sp : Sp), K.In h ∧ (∀ p ∈ cs, h.get? p.2 = some { cls := .none, data := .fields #[] }) ∧ (∀ p ∈ cs, K.lookup p.2 = none) ∧ (∀ p ∈ cs, PySem.W.CodeHd h p.1 p.2) ∧
      (∀ (s : Shared) (u : Value), BindsTo s fd ⟨[u], []⟩ [(x, u)]) ∧ (∀ (H : Hp) (a : Addr) (ns : List Int), ns.length ≤ n → (∀ p ∈ cs, H p.2 = some (.tbl #[])) → SqL K H a (ns.map V.int) → sp [.ref a] H (fun v _ => v = .bl true) fun _ _ _ => False) ∧
      ∀ base : Heap, K.In base → base.Ns mainGlobals mg → (∀ p ∈ cs, TabB base mg p.1 p.2) → FnQ l.prog w K mg base CX k fa fd [x] sp)
    (hC : ∀ (H : Hp) (s : Shared) (e : Value) (s' : Shared), CX [] H s (fun _ _ _ => False) e s' → False) : PySem.W.WalkO q loose XP YP l.row.toRowW d [] (fun f vs => PySem.call f vs) := by
  refine Att.attach_callB hn hdf fun w s₀ s₁ mg mb fa o pm cd doc a vs ns G Y ho hd hcd hmg hobj hi hlen hbits hg => ?_
  obtain ⟨K, fd, cs, sp, KX, hT, nT, C, hb, hsp, hF⟩ := F w mg fa _ Y G.T.g hmg
  obtain ⟨H, base, kb, nb, TB, tb, hS, env, post⟩ := script_envT (P := l.prog) (w := w) KX G.T.g G.T.b G.T.builtins G.T.nolimit hg hT nT C G.T.bmain hobj hi (Nat.le_trans hlen hz)
  refine codeAny_mono ((hF base kb nb TB).run callerA [] s₁ H ⟨[.ref a], []⟩ [.ref a] [.ref a] _ _ rfl hr env (hb s₁ (.ref a)) (.cons rfl .nil) (hsp H a ns hlen tb hS)) fun r s' z => ?_
  match r, z with
  | .error e, z => exact (hC H s₁ e s' z).elim
  | .ok .next, z => exact z.elim
  | .ok .brk, z => exact z.elim
  | .ok .cont, z => exact z.elim
  | .ok (.ret u), ⟨v, H', os, bare, un, ok', r', q⟩ =>
    cases (show v = .bl true from q)
    cases (show u = Value.bool true from r')
    exact ⟨rfl, post H' _ un ok', os, bare⟩
end L2.Lr

set_option maxHeartbeats 1000000
/-! data and an empty dict, displays of them, what is asked of data: words for any law -/
namespace L2.Lr
open PySem PySem.Spec PyProof.Rows LR StX
theorem pe_gI {X : Cx} {x : Str} {i : Int} {t : Tok} {p : Pos} (hm : X.mg x = some (.int i t)) (hg : Gl X x := by rfl) (hd : (x == ("__debug__" : Str)) = false := by decide) : PE X (.Name x p) (tC (.int i)) := pe_glob hg hm (show RelV (.int i) (.int i t) from ⟨t, rfl⟩) hd
theorem pe_gS {X : Cx} {x : Str} {i : Str} {t : Tok} {p : Pos} (hm : X.mg x = some (.str i t)) (hg : Gl X x := by rfl) (hd : (x == ("__debug__" : Str)) = false := by decide) : PE X (.Name x p) (tC (.str i)) := pe_glob hg hm (show RelV (.str i) (.str i t) from ⟨t, rfl⟩) hd
theorem pe_never {X : Cx} {e : Expr} : PE X e (fun _ _ _ => False) := ⟨fun _ _ _ _ _ _ h => h.elim⟩
theorem bbI : bootBuiltins "int" = some (.type "int") := by decide +kernel
theorem bbB : bootBuiltins "bool" = some (.type "bool") := by decide +kernel
theorem bbT : bootBuiltins "tuple" = some (.type "tuple") := by decide +kernel
theorem bbS : bootBuiltins "str" = some (.type "str") := by decide +kernel
theorem bbL : bootBuiltins "list" = some (.type "list") := by decide +kernel
theorem bbV : bootBuiltins "ValueError" = some (.type "ValueError") := by decide +kernel
theorem passQ {X : Cx} {σ : St} {E : XK} : PassesAt CX0 X σ E := fun _ _ _ _ _ _ h => h.elim
theorem dec_vint {i j : Int} : decide (V.int i = V.int j) = decide (i = j) := by
  by_cases h : i = j
  · rw [decide_eq_true h, decide_eq_true (by rw [h])]
  · rw [decide_eq_false h, decide_eq_false fun z => h (V.int.inj z)]
theorem dec_vs (a b : Str) : decide (V.str a = V.str b) = decide (a = b) := by
  by_cases h : a = b
  · rw [decide_eq_true h, h, decide_eq_true rfl]
  · rw [decide_eq_false h, decide_eq_false fun q => h (V.str.inj q)]
theorem len_if {m : Nat} {n : Int} {A B : Prop} (h1 : (m : Int) = n → A) (h2 : (m : Int) ≠ n → B) : if decide (V.int (m : Int) = V.int n) = true then A else B :=
  ite_dec (fun h => h1 (V.int.inj h)) fun h => h2 fun z => h (by rw [z])
theorem len_ne {m : Nat} {n : Int} {A B : Prop} (h1 : (m : Int) ≠ n → A) (h2 : (m : Int) = n → B) : if (!decide (V.int (m : Int) = V.int n)) = true then A else B := by
  by_cases h : (m : Int) = n
  · rw [decide_eq_true (by rw [h])]
    exact iteF (h2 h)
  · rw [decide_eq_false fun z => h (V.int.inj z)]
    exact iteT (h1 h)
theorem int_if {m n : Int} {A B : Prop} (h1 : m = n → A) (h2 : m ≠ n → B) : if decide (V.int m = V.int n) = true then A else B :=
  ite_dec (fun h => h1 (V.int.inj h)) fun h => h2 fun z => h (by rw [z])
theorem int_ne {m n : Int} {A B : Prop} (h1 : m ≠ n → A) (h2 : m = n → B) : if (!decide (V.int m = V.int n)) = true then A else B := by
  by_cases h : m = n
  · rw [decide_eq_true (by rw [h])]
    exact iteF (h2 h)
  · rw [decide_eq_false fun z => h (V.int.inj z)]
    exact iteT (h1 h)
theorem str_if {x y : Str} {A B : Prop} (h1 : x = y → A) (h2 : x ≠ y → B) : if decide (V.str x = V.str y) = true then A else B := by
  rw [dec_vs]
  exact ite_dec h1 h2
theorem str_ne {x y : Str} {A B : Prop} (h1 : x ≠ y → A) (h2 : x = y → B) : if (!decide (V.str x = V.str y)) = true then A else B := by
  rw [dec_vs]
  by_cases h : x = y
  · rw [decide_eq_true h]
    exact iteF (h2 h)
  · rw [decide_eq_false h]
    exact iteT (h1 h)
theorem at0 {v : V} {vs : List V} : atI (v :: vs) 0 = some v := atI_nat (j := 0) rfl
theorem at1 {v u : V} {vs : List V} : atI (v :: u :: vs) 1 = some u := atI_nat (j := 1) rfl
theorem at2 {v u y : V} {vs : List V} : atI (v :: u :: y :: vs) 2 = some y := atI_nat (j := 2) rfl
section
variable {K : PySem.W.Frag}
theorem strD {H : Hp} {x : V} {w : Str} (h : Dp K H x (.str w)) : x = .str w := by cases h; rfl
theorem intDv {H : Hp} {x : V} {i : Int} (h : Dp K H x (.int i)) : x = .int i := by cases h; rfl
theorem nonDv {H : Hp} {x : V} (h : Dp K H x .none) : x = .non := by cases h; rfl
theorem tup2D {H : Hp} {x : V} {d e : PyData} (h : Dp K H x (.tuple [d, e])) : ∃ t v u, x = .ref t ∧ SqT K H t [v, u] ∧ Dp K H v d ∧ Dp K H u e := by
  cases h with
  | tup hS ha =>
    cases ha with
    | cons h1 h2 =>
      cases h2 with
      | cons h3 h4 =>
        cases h4
        exact ⟨_, _, _, rfl, hS, h1, h3⟩
theorem lstD {H : Hp} {x : V} {ds : List PyData} (h : Dp K H x (.list ds)) : ∃ a xs, x = .ref a ∧ SqL K H a xs ∧ DpAll K H xs ds := by
  cases h with
  | lst hS ha => exact ⟨_, _, rfl, hS, ha⟩
theorem tupDv {H : Hp} {x : V} {ds : List PyData} (h : Dp K H x (.tuple ds)) : ∃ a xs, x = .ref a ∧ SqT K H a xs ∧ DpAll K H xs ds := by
  cases h with
  | tup hS ha => exact ⟨_, _, rfl, hS, ha⟩
theorem tupD {H : Hp} {x : V} {d : PyData} {ds : List PyData} (h : Dp K H x (.tuple (d :: ds))) : ∃ t v vs, x = .ref t ∧ SqT K H t (v :: vs) ∧ Dp K H v d ∧ DpAll K H vs ds := by
  cases h with
  | tup hS ha =>
    cases ha with
    | cons h1 h2 => exact ⟨_, _, _, rfl, hS, h1, h2⟩
end
/-! ### what is asked of data -/
def isI : PyData → Bool
  | .int _ => true
  | _ => false
def betw (lo hi : Int) : PyData → Bool
  | .int i => decide (lo ≤ i) && decide (i ≤ hi)
  | _ => false
def countD : PyData → Bool
  | .tuple [.int a, .int b] => (decide (0 ≤ a) && decide (a ≤ 9)) && ((decide (-(10 ^ 30) ≤ b) && decide (b ≤ 10 ^ 30)) && (decide (a > 0) || decide (b ≥ 0)))
  | _ => false
theorem betw_int {lo hi : Int} {d : PyData} (h : betw lo hi d = true) : ∃ i, d = .int i ∧ lo ≤ i ∧ i ≤ hi := by
  cases d with
  | int i =>
    obtain ⟨h1, h2⟩ := Bool.and_eq_true_iff.mp (show (decide (lo ≤ i) && decide (i ≤ hi)) = true from h)
    exact ⟨i, rfl, of_decide_eq_true h1, of_decide_eq_true h2⟩
  | _ => cases h
theorem countD_two {d e : PyData} : countD (.tuple [d, e]) = (betw 0 9 d && (betw (-(10 ^ 30)) (10 ^ 30) e && (match d, e with | .int a, .int b => decide (a > 0) || decide (b ≥ 0) | _, _ => false))) := by
  cases d <;> cases e <;> first | rfl | (simp [countD, betw])
theorem countD_ints {d : PyData} (h : countD d = true) : ∃ a b, d = .tuple [.int a, .int b] := by
  unfold countD at h
  split at h
  · exact ⟨_, _, rfl⟩
  · cases h
/-- C(z) is what is raised -/
def Bad (C : Addr) (z : V) (H : Hp) (E : XK) : Prop := ∀ (d : Addr) (H' : Hp), Same H H' → H' d = some (.xd [("value", z)]) → E (.ref C) (some d) H'
theorem Bad.same {C : Addr} {z : V} {H H1 : Hp} {E : XK} (b : Bad C z H E) (s : Same H H1) : Bad C z H1 E := fun d H' s' h => b d H' (s.trans s') h
/-! ### data, or an empty dict -/
def DpE (K : PySem.W.Frag) (H : Hp) (x : V) (d : PyData) : Prop := Dp K H x d ∨ (d = .dict [] ∧ ∃ a, x = .ref a ∧ H a = some (.dK []))
theorem DpE.same {K : PySem.W.Frag} {H H' : Hp} {x : V} {d : PyData} (h : DpE K H x d) (s : Same H H') : DpE K H' x d := by
  rcases h with h | ⟨e, a, ex, h⟩
  · exact .inl (Dp.same s h)
  · exact .inr ⟨e, a, ex, s _ _ h⟩
theorem tyE {K : PySem.W.Frag} {H : Hp} {x : V} {d : PyData} (h : DpE K H x d) : TyX K H x (.type (tyN d)) := by
  rcases h with h | ⟨rfl, a, rfl, h⟩
  · exact tyD h
  · exact .base (.dK h)
def rReprE (K : PySem.W.Frag) : List V → Hp → VK → Prop := fun xs H Q => ∃ x d, xs = [x] ∧ DpE K H x d ∧ (Dp K H x d → d.showable = true ∧ d.shown.length ≤ sizeLine ∧ d.depth ≤ 60) ∧ Q (.str d.shown) H
theorem call_reprE {X : Cx} (K : PySem.W.Frag) (hK : X.K = K) (qA : Quiet X.A) (hu : X.A.units + 64 < cLine) : CallR X (.builtin "repr") (rReprE K) := by
  subst hK
  intro pins s σ H xs us Q I r h
  obtain ⟨x, d, rfl, hd, hs, q⟩ := h
  rcases hd with hd | ⟨rfl, a, rfl, ha⟩
  · obtain ⟨h1, h2, h3⟩ := hs hd
    exact call_repr qA hu pins s σ H _ _ Q I r ⟨x, d, rfl, hd, h1, h2, h3, q⟩
  · obtain ⟨u, rfl, ru⟩ := vals1 r
    cases ru
    obtain ⟨_, hne, vs, kv, o, es, ep, ho, hx, hdt, _, hes, _⟩ := I.hok a _ ha
    have hv : vs = [] := by
      cases kv
      rfl
    subst hv
    have he : es.toList = [] := by
      cases hl : es.toList with
      | nil => rfl
      | cons e r => rw [hl] at hes; cases hes
    have rd : Reads s.heap (.ref a) (.dict []) (a :: [] ++ []) := Reads.dict ho hx.1 hdt (by rw [he]; exact .nil) (by rw [he]; exact .nil)
    refine repr_of_reads' rd rfl (fun _ m => ?_) qA (by show X.A.units + (1 + 1) < cLine; omega) (fun _ _ e => e) (fun h' u tk k => ⟨.str (PyData.dict []).shown, H, I.kept (t' := tk) k, ⟨_, rfl⟩, q⟩) (by decide +kernel)
    simp at m
    rw [← m] at hne
    simp at hne
/-! ### isinstance(x, (list, tuple)) -/
def seqD : PyData → Bool
  | .list _ => true
  | .tuple _ => true
  | _ => false
theorem any_f {K : PySem.W.Frag} {n : String} (h1 : kitB n "list" = some false) (h2 : kitB n "tuple" = some false) : PySem.W.kitAny K (.type n) [.type "list", .type "tuple"] = some false :=
  kitAny_cons (kit_ty h1) (fun _ => kitAny_cons (kit_ty h2) (fun _ => rfl) fun z => nomatch z) fun z => nomatch z
theorem seq_any {K : PySem.W.Frag} (d : PyData) : PySem.W.kitAny K (.type (tyN d)) [.type "list", .type "tuple"] = some (seqD d) := by
  cases d with
  | none => exact any_f (n := "NoneType") (by decide +kernel) (by decide +kernel)
  | bool _ => exact any_f (n := "bool") (by decide +kernel) (by decide +kernel)
  | int _ => exact any_f (n := "int") (by decide +kernel) (by decide +kernel)
  | str _ => exact any_f (n := "str") (by decide +kernel) (by decide +kernel)
  | dict _ => exact any_f (n := "dict") (by decide +kernel) (by decide +kernel)
  | list _ => exact kitAny_cons (kit_ty (by decide +kernel : kitB "list" "list" = some true)) (fun z => nomatch z) fun _ => rfl
  | tuple _ => exact kitAny_cons (kit_ty (by decide +kernel : kitB "tuple" "list" = some false)) (fun _ => kitAny_cons (kit_ty (by decide +kernel : kitB "tuple" "tuple" = some true)) (fun z => nomatch z) fun _ => rfl) fun z => nomatch z
def tIsE (K : PySem.W.Frag) (t : String) (te : TE) : TE := fun σ H Q => te σ H fun x H1 => ∃ d b, DpE K H1 x d ∧ kitB (tyN d) t = some b ∧ Q (.bl b) H1
theorem pe_isE {X : Cx} {e e2 : Expr} {te : TE} {p pos : Pos} {t : String} (hm : X.mg "isinstance" = none) (ha : PE X e te) (pe2 : PE X e2 (tC (.ty t))) (hg : Gl X "isinstance" := by rfl)
    (he : starEach (e :: [e2]) X.env = (false, eval e X.env) :: starEach [e2] X.env := by rfl) (he2 : starEach (e2 :: []) X.env = (false, eval e2 X.env) :: starEach [] X.env := by rfl) (hpl : (backTo pos (starEach [e2] X.env)).any (·.1) = false := by rfl) :
    PE X (.Call (.Name "isinstance" p) [e, e2] [] pos) (tIsE X.K t te) :=
  pe_weak (pe_callB (e := e) (es := [e2]) call_isi hg hm boot_isinstance (pa_cons (pe_up ha) (pa_cons pe2 pa_nil he2) he) (by decide) (by decide) he hpl) fun σ H Q q => ⟨_, q, fun x H1 ⟨d, b, hd, hk, q1⟩ => ⟨x, .ty t, .type (tyN d), .type t, b, rfl, .ty t, tyE hd, kit_ty hk, q1⟩⟩
theorem pe_isDK {X : Cx} {e e2 : Expr} {te : TE} {p pos : Pos} {t : String} (K : PySem.W.Frag) (hK : X.K = K) (hm : X.mg "isinstance" = none) (ha : PE X e te) (pe2 : PE X e2 (tC (.ty t))) (hg : Gl X "isinstance" := by rfl)
    (he : starEach (e :: [e2]) X.env = (false, eval e X.env) :: starEach [e2] X.env := by rfl) (he2 : starEach (e2 :: []) X.env = (false, eval e2 X.env) :: starEach [] X.env := by rfl) (hpl : (backTo pos (starEach [e2] X.env)).any (·.1) = false := by rfl) :
    PE X (.Call (.Name "isinstance" p) [e, e2] [] pos) (tIsD K t te) := by
  subst hK
  exact pe_isD hm ha pe2 hg he he2 hpl
def NiceE (d : PyData) : Prop := d = .dict [] ∨ Nice 390000 60 d
def niceB (d : PyData) : Bool := match d with
  | .dict [] => true
  | d => fine d && (decide (d.weight ≤ 390000) && decide (d.depth ≤ 60))
theorem niceB_ok {d : PyData} (h : niceB d = true) : NiceE d := by
  unfold niceB at h
  split at h
  · exact .inl rfl
  · obtain ⟨h1, h⟩ := Bool.and_eq_true_iff.mp h
    obtain ⟨h2, h3⟩ := Bool.and_eq_true_iff.mp h
    exact .inr ⟨h1, of_decide_eq_true h2, of_decide_eq_true h3⟩
theorem shown_ok {K : PySem.W.Frag} {H : Hp} {x : V} {d : PyData} (hn : NiceE d) (h : Dp K H x d) : d.showable = true ∧ d.shown.length ≤ sizeLine ∧ d.depth ≤ 60 := by
  rcases hn with rfl | hn
  · cases h
  · obtain ⟨h1, h2⟩ := hn.shown (Nat.le_refl _)
    exact ⟨h1, h2, hn.dp⟩
theorem nice_str {W : Nat} {x : Str} (h : ∀ c ∈ x.cps.toList, c < 1114112) (hl : x.length ≤ W) : Nice W 0 (.str x) := by
  refine ⟨?_, by simp only [PyData.weight]; exact hl, by simp [PyData.depth]⟩
  have e1 : PyData.canLay0 (.str x) = true := by
    simp only [PyData.canLay0]
    unfold PyData.strOk
    rw [← Array.all_toList, List.all_eq_true]
    intro c hc
    simpa using h c hc
  have e2 : PyData.leavesShort 40 (.str x) = true := by
    simp only [PyData.leavesShort, List.all_eq_true, decide_eq_true_eq]
    intro c hc
    have := h c hc
    omega
  have e3 : PyData.showable (.str x) = true := by simp [PyData.showable]
  show (PyData.canLay0 (.str x) && (PyData.leavesShort 40 (.str x) && PyData.showable (.str x))) = true
  rw [e1, e2, e3]
  rfl
/-- a == b, two lists of the very same things -/
theorem op_eqS {X : Cx} (hu : X.A.units + 64 < cLine) : OpR X (compareOp .Eq) (fun x y H Q => ∃ a b xs, x = .ref a ∧ y = .ref b ∧ SqL X.K H a xs ∧ SqL X.K H b xs ∧ (∀ v ∈ xs, flatB v = true ∨ ∃ r, v = .ref r) ∧ Q (.bl true) H) := by
  intro pins s σ H x y v u Q I rx ry h
  obtain ⟨a, b, xs, rfl, rfl, ha, hb, hi, q⟩ := h
  cases rx
  cases ry
  obtain ⟨us, r1, p1, _⟩ := I.list ha
  obtain ⟨ws, r2, p2, _⟩ := I.list hb
  have hsz : us.toArray.size = ws.toArray.size := by rw [List.size_toArray, List.size_toArray, ← r1.length, ← r2.length]
  have he : ∀ j (h1 : j < us.toArray.size) (h2 : j < ws.toArray.size), SeqAt.EqAt X.A.in1 s us.toArray[j] ws.toArray[j] true := by
    intro j h1 h2
    have l1 : j < us.length := by simpa using h1
    have l2 : j < ws.length := by simpa using h2
    have hj : j < xs.length := by rw [r1.length]; exact l1
    obtain ⟨u1, e1, q1⟩ := r1.get (List.getElem?_eq_getElem hj)
    obtain ⟨u2, e2, q2⟩ := r2.get (List.getElem?_eq_getElem hj)
    have z1 : us.toArray[j] = u1 := by
      have := List.getElem?_eq_getElem l1
      rw [e1] at this
      simpa using (Option.some.inj this).symm
    have z2 : ws.toArray[j] = u2 := by
      have := List.getElem?_eq_getElem l2
      rw [e2] at this
      simpa using (Option.some.inj this).symm
    rw [z1, z2]
    rcases hi xs[j] (List.getElem_mem hj) with f | ⟨r, er⟩
    · exact eqAt_same q1 q2 f
    · rw [er] at q1 q2
      cases q1
      cases q2
      exact SeqAt.EqAt.same _
  have z := SeqAt.RcAt.lists (e := fun _ => true) p1.isList p2.isList hsz (show X.A.units < cLine by omega) he X.prog X.w X.xe (EP X pins σ Q)
  refine z ?_
  rw [show (List.range us.toArray.size).all (fun _ => true) = true from List.all_eq_true.mpr fun _ _ => rfl]
  exact ⟨.bl true, H, I, rfl, q⟩
/-! ### displays with an empty dict among them -/
inductive EAll (K : PySem.W.Frag) (H : Hp) : List V → List PyData → Prop where
  | nil : EAll K H [] []
  | cons {v : V} {vs : List V} {d : PyData} {ds : List PyData} : DpE K H v d → EAll K H vs ds → EAll K H (v :: vs) (d :: ds)
theorem EAll.same {K : PySem.W.Frag} {H H' : Hp} (s : Same H H') : ∀ {vs : List V} {ds : List PyData}, EAll K H vs ds → EAll K H' vs ds
  | _, _, .nil => .nil
  | _, _, .cons h a => .cons (h.same s) (EAll.same s a)
theorem EAll.length {K : PySem.W.Frag} {H : Hp} : ∀ {vs : List V} {ds : List PyData}, EAll K H vs ds → vs.length = ds.length
  | _, _, .nil => rfl
  | _, _, .cons _ a => by simp [EAll.length a]
theorem EAll.append {K : PySem.W.Frag} {H : Hp} : ∀ {vs us : List V} {ds es : List PyData}, EAll K H vs ds → EAll K H us es → EAll K H (vs ++ us) (ds ++ es)
  | _, _, _, _, .nil, b => b
  | _, _, _, _, .cons h a, b => .cons h (EAll.append a b)
theorem EAll.at {K : PySem.W.Frag} {H : Hp} : ∀ {vs : List V} {ds : List PyData} {i : Nat} {v : V}, EAll K H vs ds → vs[i]? = some v → ∃ d, ds[i]? = some d ∧ DpE K H v d
  | _, _, _, _, .nil, e => by simp at e
  | _, _, 0, _, .cons h a, e => by simp at e; subst e; exact ⟨_, rfl, h⟩
  | _ :: vs, _ :: ds, i + 1, v, .cons h a, e => EAll.at (vs := vs) (ds := ds) (i := i) a (by simpa using e)
def tE (K : PySem.W.Frag) (d : PyData) : TE := fun _ H Q => ∀ v H', Same H H' → DpE K H' v d → Q v H'
def tEs (K : PySem.W.Frag) (ds : List PyData) : TA := fun _ H Q => ∀ vs H', Same H H' → EAll K H' vs ds → Q vs H'
def tEL (K : PySem.W.Frag) (ds : List PyData) : TE := fun _ H Q => ∀ p vs H', Same H H' → H' p = some (.lst vs) → EAll K H' vs ds → Q (.ref p) H'
theorem DpAll.rep {K : PySem.W.Frag} {H : Hp} {xs : List V} {ds : List PyData} (h : DpAll K H xs ds) : ∀ n : Nat, DpAll K H (List.replicate n xs).flatten (List.replicate n ds).flatten
  | 0 => .nil
  | n + 1 => by
    rw [List.replicate_succ, List.replicate_succ, List.flatten_cons, List.flatten_cons]
    exact DpAll.append h (DpAll.rep h n)
section
variable {X : Cx} {e : Expr} {es : List Expr} {d : PyData} {ds : List PyData} {p pos : Pos}
theorem pe_ofD (h : PE X e (tDat X.K d)) : PE X e (tE X.K d) := pe_weak h fun σ H Q q v H' s hd => q v H' s (.inl hd)
theorem pe_emptyD : PE X (.Dict [] [] pos) (tE X.K (.dict [])) := pe_weak pe_dnewK fun σ H Q q p np => q _ _ (same_upd np) (.inr ⟨rfl, p, rfl, upd_same⟩)
theorem pE_nil : PA X [] (tEs X.K []) := pa_weak pa_nil fun σ H Q q => q [] H (Same.refl H) .nil
theorem pE_cons (h1 : PE X e (tE X.K d)) (h2 : PA X es (tEs X.K ds)) (hs : starEach (e :: es) X.env = (false, eval e X.env) :: starEach es X.env := by rfl) : PA X (e :: es) (tEs X.K (d :: ds)) :=
  pa_weak (pa_cons h1 h2 hs) fun σ H Q q v H1 s1 h1 vs H2 s2 h2 => q (v :: vs) H2 (s1.trans s2) (.cons (h1.same s2) h2)
theorem pE_lst {x1} (h : PA X es (tEs X.K ds)) (hz : ds.length ≤ sizeLine := by show _ ≤ _; decide) : PE X (.List es x1) (tEL X.K ds) :=
  pe_weak (pe_lst h) fun σ H Q q vs H1 s1 h1 => ⟨by rw [EAll.length h1]; exact hz, fun p np => q p vs _ (s1.trans (same_upd np)) upd_same (h1.same (same_upd np))⟩
theorem pd_rep {n : Int} {k} (h : PE X e (tDat X.K (.tuple ds))) (hd : ds ≠ []) (h2 : 2 ≤ n) (h3 : n ≤ 1000) (hl : ds.length ≤ 1000) : PE X (.BinOp e .Mult (.Constant (.int n) k p) pos) (tDat X.K (.tuple (List.replicate n.toNat ds).flatten)) :=
  pe_weak (pe_op op_repT h pe_int) fun σ H Q q v H1 s1 hv => by
    cases hv with
    | @tup a xs _ hS ha =>
      have hlx := DpAll.length ha
      exact ⟨a, n, xs, rfl, rfl, hS, fun z => hd (by rw [z] at hlx; exact List.length_eq_zero_iff.mp hlx.symm), h2, h3, by rw [hlx]; exact hl, fun t nt => q _ _ (s1.trans (same_upd nt)) (.tup (SqT.of upd_same) (DpAll.same (same_upd nt) (DpAll.rep ha _)))⟩
end
def tTupOf (K : PySem.W.Frag) (te : TE) : TE := fun σ H Q => te σ H fun x H1 => ∃ d ds, Dp K H1 x d ∧ (d = .tuple ds ∨ d = .list ds) ∧ ∀ y H2, Same H1 H2 → Dp K H2 y (.tuple ds) → Q y H2
theorem pe_tupOf {X : Cx} {e : Expr} {te : TE} {p pos : Pos} (hm : X.mg "tuple" = none) (ha : PE X e te) (hg : Gl X "tuple" := by rfl) (he : starEach (e :: []) X.env = (false, eval e X.env) :: starEach [] X.env := by rfl) (hpl : (backTo pos (starEach [] X.env)).any (·.1) = false := by rfl) : PE X (.Call (.Name "tuple" p) [e] [] pos) (tTupOf X.K te) :=
  pe_weak (pe_callTy (e := e) (es := []) call_tuple_of hg hm bbT (pa_cons (pe_up ha) pa_nil he) (by decide) (by decide) he hpl) fun σ H Q q => ⟨_, q, fun x H1 ⟨d, ds, hx, hd, q1⟩ => by
    rcases hd with rfl | rfl
    · cases hx with
      | @tup a xs _ hS ha => exact ⟨a, xs, rfl, .inr ⟨hS, q1 _ _ (Same.refl _) (.tup hS ha)⟩⟩
    · cases hx with
      | @lst a xs _ hS ha => exact ⟨a, xs, rfl, .inl ⟨hS, fun l nl => q1 _ _ (same_upd nl) (.tup (SqT.of upd_same) (DpAll.same (same_upd nl) ha))⟩⟩⟩
theorem lc_strG {x : Str} {g : TG} {tt : TT} {te : TE} {vs : List Nat} {σ : St} {H1 : Hp} {D : Addr} {Qd : Hp → Prop} (Pv : Nat → Hp → Prop) (h0 : Pv 0 (upd H1 D (.lst [])))
    (hs : ∀ i c H, x.cps[i]? = some c → Pv i H → g (.str ⟨#[c]⟩) (wipe σ vs) H fun σ2 H2 => wipe σ2 vs = wipe σ vs ∧ tt σ2 H2 fun b H3 =>
      if b = true then te σ2 H3 fun y H4 => ∃ acc, H4 D = some (.lst acc) ∧ acc.length < sizeLine ∧ Pv (i + 1) (upd H4 D (.lst (acc ++ [y]))) else Pv (i + 1) H3) (hd : ∀ H, Pv x.cps.size H → Qd H) :
    ∃ W : Nat → Nat → Hp → Prop, (∃ m, W 0 m (upd H1 D (.lst []))) ∧ ∀ i m H, W i m H →
      ((Its x).stop i H ∧ Qd H) ∨ ((Its x).go i H ∧ ∃ Nx : Hp → Prop, (∀ H', Nx H' → ∃ m', m' < m ∧ W (i + 1) m' H') ∧ ∀ y H', (Its x).yld i H y H' → g y (wipe σ vs) H' fun σ2 H2 => wipe σ2 vs = wipe σ vs ∧ tt σ2 H2 fun b H3 =>
        if b = true then te σ2 H3 fun z H4 => ∃ acc, H4 D = some (.lst acc) ∧ acc.length < sizeLine ∧ Nx (upd H4 D (.lst (acc ++ [z]))) else Nx H3) := by
  refine ⟨fun i m H => m + i = x.cps.size ∧ Pv i H, ⟨x.cps.size, rfl, h0⟩, fun i m H ⟨e, p⟩ => ?_⟩
  by_cases hlt : i < x.cps.size
  · refine .inr ⟨hlt, Pv (i + 1), fun H' p' => ⟨m - 1, by omega, by omega, p'⟩, fun y H' ⟨eH, c, hc, ey⟩ => ?_⟩
    subst eH ey
    exact hs i c _ hc p
  · have ei : i = x.cps.size := by omega
    subst ei
    exact .inl ⟨Nat.le_refl _, hd H p⟩

end L2.Lr

set_option maxHeartbeats 1000000
/-! a law whose def makes lambdas: its code's table by the head, what stays when a lambda is made -/
namespace L2.Lr
open PySem PySem.Spec PyProof.Rows LR LamX
theorem FnQ.ofC {P : Program} {w : World} {K : PySem.W.Frag} {mg : Str → Option Value} {base : Heap} {CX : CXT} {k : Nat} {f : Addr} {sp : Sp} {x qual : Str} {pa : Arguments} {body : List Stmt} {scope : Scope} {N ps : List Str} {dV kV doc pm cdv ct oc : Value} {an od : Option Addr} {osl : Array (Option Value)}
    (lk : K.lookup f = some ⟨oc, od, .func (PySem.W.fnOf x qual pa body scope dV kV doc pm an cdv ct), osl⟩) (rec : PySem.W.codeIn K cdv qual = true) (S : FnScope N ps scope) (len : ∀ vs H Q E, sp vs H Q E → vs.length = ps.length)
    (go : ∀ (A : Around) (outer : List Env) (s : Shared) (H : Hp) (vs : List V) (Q : VK) (E : XK), Quiet A → Room k (A.deeper (envOfC qual scope s.heap.objs.size f cdv)) → sp vs H Q E →
      ∃ t, PSs (cxOf CX P w K mg base N qual scope f cdv A outer s H E) body t ∧ t { nx := fun _ H' => Q .non H', rt := Q } (start N vs) H) : FnQ P w K mg base CX (k + 1) f (PySem.W.fnOf x qual pa body scope dV kV doc pm an cdv ct) ps sp := by
  refine ⟨len, fun A outer s H args us vs Q E qA room env bind rel hsp => ?_⟩
  have KX : K.In s.heap := env.mod.kin.keeps fun b o e => (env.bs b o e).1
  have NL : s.heap.NoLimit := env.mod.nolimit.keeps fun b o e => (env.bs b o e).1
  have slots : ∀ y ∈ ps.zip us, scope.names.lookup y.1 = some .local ∨ (scope.names.lookup y.1 = some .cell ∧ ((cellsFrom (s.heap.objs.size + 1) scope.names []).lookup y.1).isSome = true) := by
    rintro ⟨n, v⟩ hy
    exact (S.par n (List.of_mem_zip hy).1).imp id fun q => ⟨q, PySem.W.cellsFrom_some _ _ _ (.inl q)⟩
  refine codeAny_call_function room.depth (KX _ _ lk) rfl S.co S.gen rfl (PySem.W.codeRec_of KX rec) (bind _ _ _ _ (wpAny_newFunctionEnv_cells S.kind slots fun env' he s1 x => ?_))
  subst he
  refine ⟨NL.keeps x.toInCall.keep, codeAny_func ?_⟩
  obtain ⟨t, ht, q⟩ := go A outer s H vs Q E qA (room.deeper _) hsp
  have I : Inv (cxOf CX P w K mg base N qual scope f cdv A outer s H E) [] (start N vs) H s1 := inv_start S room.hd env (len _ _ _ _ hsp) rel x
  refine wpAny_mono (ht.run [] s1 _ H _ I q) (fun fl s' z => ?_) fun _ _ z => z
  match fl, z with
  | .ret u, ⟨v, _, H', J, r, z⟩ => exact ⟨v, H', J.os, J.bare, J.base, J.hok, r, z⟩
  | .next, ⟨_, H', J, z⟩ => exact ⟨.non, H', J.os, J.bare, J.base, J.hok, rfl, z⟩
  | .brk, ⟨_, _, _, z⟩ => exact z.elim
  | .cont, ⟨_, _, _, z⟩ => exact z.elim
/-! ### the code object of a def, and its table -/
def cOf (K : PySem.W.Frag) (fa : Addr) : Addr := match K.lookup fa with
  | some ⟨_, _, .func fd, _⟩ => (match fd.code with
    | .ref c => c
    | _ => 0)
  | _ => 0
def pOf (K : PySem.W.Frag) (fa : Addr) : Addr := match K.lookup (cOf K fa) with
  | some ⟨_, _, .fields vs, _⟩ => (match (vs[11]? : Option Value) with
    | some (.ref P) => P
    | _ => 0)
  | _ => 0
def isRefB : Value → Bool
  | .ref _ => true
  | _ => false
def cdB (K : PySem.W.Frag) (fa : Addr) : Bool := match K.lookup fa with
  | some ⟨_, _, .func fd, _⟩ => isRefB fd.code
  | _ => false
def tabB (K : PySem.W.Frag) (fa : Addr) : Bool := cdB K fa && ((K.lookup (pOf K fa)).isNone && PySem.W.codeHdIn K (cOf K fa) (pOf K fa))
theorem tabB_ok {K : PySem.W.Frag} {fa : Addr} {oc : Value} {od : Option Addr} {fd : FuncData} {osl : Array (Option Value)} (q : tabB K fa = true) (lk : K.lookup fa = some ⟨oc, od, .func fd, osl⟩) :
    fd.code = .ref (cOf K fa) ∧ K.lookup (pOf K fa) = none ∧ PySem.W.codeHdIn K (cOf K fa) (pOf K fa) = true ∧ ∃ e dd vs sl, K.lookup (cOf K fa) = some ⟨e, dd, .fields vs, sl⟩ ∧ vs[11]? = some (.ref (pOf K fa)) := by
  obtain ⟨q1, q⟩ := He.ba q
  obtain ⟨q2, q3⟩ := He.ba q
  have hc : fd.code = .ref (cOf K fa) := by
    unfold cdB at q1
    unfold cOf
    rw [lk] at q1 ⊢
    dsimp only at q1 ⊢
    cases h : fd.code with
    | ref c => rfl
    | _ => rw [h] at q1; cases q1
  refine ⟨hc, Option.isNone_iff_eq_none.mp q2, q3, ?_⟩
  have q4 := q3
  unfold PySem.W.codeHdIn at q4
  split at q4
  · rename_i dd vs sl hk
    refine ⟨_, _, vs, _, hk, ?_⟩
    simp only [Bool.and_eq_true] at q4
    obtain ⟨⟨⟨⟨⟨e1, _⟩, _⟩, _⟩, _⟩, _⟩ := q4
    split at e1
    · rename_i P' h11
      rw [h11, beq_iff_eq.mp e1]
    · cases e1
  · cases q4
/-- the end: a law whose own def makes lambdas -/
theorem walk_ofQO {l : PySem.W.OpenLaw} {n k : Nat} {q : Program} {loose : List Str} {XP : (Str → Option Value) → Heap → Prop} {YP : World → Heap → Prop} {d : DefRec} {CX : CXT} {x : Str} (hn : l.most = some n) (hz : n ≤ sizeLine) (hdf : d.params.defaults = []) (hr : Room k callerA)
    (hrec : ((recsOf q).any fun e => e.name == d.name) = true)
    (F : ∀ (w : World) (mg : Str → Option Value) (fa : Addr) (h : Heap), YP w h → h.Ns mainGlobals mg → mg d.name = some (.ref fa) → ∃ (K : PySem.W.Frag) (fd : FuncData) (oc : Value) (od : Option Addr) (osl : Array (Option Value)) (sp : Sp), K.In h ∧ K.lookup fa = some ⟨oc, od, .func fd, osl⟩ ∧ tabB K fa = true ∧
      (∀ (s : Shared) (u : Value), BindsTo s fd ⟨[u], []⟩ [(x, u)]) ∧ (∀ (H : Hp) (a : Addr) (ns : List Int), ns.length ≤ n → H (pOf K fa) = some (.tbl #[]) → SqL K H a (ns.map V.int) → sp [.ref a] H (fun v _ => v = .bl true) fun _ _ _ => False) ∧
      ∀ base : Heap, K.In base → base.Ns mainGlobals mg → TabB base mg (cOf K fa) (pOf K fa) → FnQ l.prog w K mg base CX k fa fd [x] sp)
    (hC : ∀ (H : Hp) (s : Shared) (e : Value) (s' : Shared), CX [] H s (fun _ _ _ => False) e s' → False) : PySem.W.WalkO q loose XP YP l.row.toRowW d [] (fun f vs => PySem.call f vs) := by
  refine Att.attach_callB hn hdf fun w s₀ s₁ mg mb fa o pm cd doc a vs ns G Y ho hd hcd hmg hobj hi hlen hbits hg => ?_
  obtain ⟨K, fd, oc, od, osl, sp, KX, lk, tb, hb, hsp, hF⟩ := F w mg fa _ Y G.T.g hmg
  obtain ⟨hc, nP, hd3, e, dd, vs3, sl, k4, k5⟩ := tabB_ok tb lk
  have hT : s₁.heap.get? (pOf K fa) = some { cls := .none, data := .fields #[] } := by
    obtain ⟨dL, hm, hn1⟩ := List.any_eq_true.mp hrec
    have hn2 : dL.name = d.name := beq_iff_eq.mp hn1
    obtain ⟨a', o', fd', c', P', h1, h2, h3, h4, h5, h6⟩ := G.T.tab dL hm
    rw [hn2, hmg] at h1
    cases h1
    have g1 := KX _ _ lk
    rw [g1] at h2
    cases h2
    cases h3
    rw [hc] at h4
    cases h4
    obtain ⟨⟨oc2, vc, e1, _, e3, e4⟩, hP⟩ := h6
    have g2 := KX _ _ k4
    rw [g2] at e1
    cases e1
    cases e3
    rw [k5] at e4
    cases e4
    exact hP
  obtain ⟨H, base, kb, nb, TB, tbl, hS, env, post⟩ := script_envT (P := l.prog) (w := w) (cs := [(cOf K fa, pOf K fa)]) KX G.T.g G.T.b G.T.builtins G.T.nolimit hg
    (fun p hp => by rw [List.mem_singleton.mp hp]; exact hT) (fun p hp => by rw [List.mem_singleton.mp hp]; exact nP) (fun p hp => by rw [List.mem_singleton.mp hp]; exact PySem.W.codeHd_of_K KX hd3) G.T.bmain hobj hi (Nat.le_trans hlen hz)
  refine codeAny_mono ((hF base kb nb (TB _ (List.mem_singleton.mpr rfl))).run callerA [] s₁ H ⟨[.ref a], []⟩ [.ref a] [.ref a] _ _ rfl hr env (hb s₁ (.ref a)) (.cons rfl .nil) (hsp H a ns hlen (tbl _ (List.mem_singleton.mpr rfl)) hS)) fun r s' z => ?_
  match r, z with
  | .error e, z => exact (hC H s₁ e s' z).elim
  | .ok .next, z => exact z.elim
  | .ok .brk, z => exact z.elim
  | .ok .cont, z => exact z.elim
  | .ok (.ret u), ⟨v, H', os, bare, un, ok', r', q⟩ =>
    cases (show v = .bl true from q)
    cases (show u = Value.bool true from r')
    exact ⟨rfl, post H' _ un ok', os, bare⟩
/-! ### a Hook whose part holds no empty tables -/
def noTab (g : Addr → Option Obj) (a : Addr) : Bool := match g a with
  | some ⟨.none, _, .fields vs, _⟩ => !vs.isEmpty
  | _ => true
def obsT (n : Nat) (chk : PySem.W.Frag → Bool) (fa : List He.Fa) (fn : List He.DefD) (g : Addr → Option Obj) : Bool × He.AlD := (fun K => (chk K, He.obsD fa fn K)) (He.frG g ((He.asD g n).filter (noTab g)))
def hookT (n : Nat) (chk : PySem.W.Frag → Bool) (fa : List He.Fa) (fn : List He.DefD) : PySem.W.Hook where
  α := Bool × He.AlD
  obs := fun s => obsT n chk fa fn s.heap.get?
  val := fun _ => (true, He.valD fn)
  says := fun _ h => ∃ K : PySem.W.Frag, K.In h ∧ chk K = true ∧ He.SaysD fa fn K
  of := fun _ _ e => ⟨_, He.frG_in, congrArg (fun z : Bool × He.AlD => z.1) e, congrArg (fun z : Bool × He.AlD => z.2) e⟩
  keeps := fun _ _ _ ⟨K, hK, c⟩ k => ⟨K, PySem.W.Frag.In.keeps hK k, c⟩
theorem obsT_eq {n : Nat} {chk : PySem.W.Frag → Bool} {fa : List He.Fa} {fn : List He.DefD} {g : Addr → Option Obj} {s : Shared} (h : ∀ a, g a = s.heap.get? a) : obsT n chk fa fn g = (hookT n chk fa fn).obs s := by
  have e : g = s.heap.get? := funext h
  rw [e]
  rfl
/-! ### what stays when a lambda is made -/
theorem ExtN.seqL {K : PySem.W.Frag} {H H' : Hp} {a : Addr} {xs : List V} (s : ExtN H H') (h : SqL K H a xs) : SqL K H' a xs := by
  rcases h with (h | ⟨o, h⟩) | h
  · exact .inl (.inl (s _ _ h fun _ z => by cases z))
  · exact .inl (.inr ⟨o, s _ _ h fun _ z => by cases z⟩)
  · exact .inr h
theorem ExtN.seqT {K : PySem.W.Frag} {H H' : Hp} {a : Addr} {xs : List V} (s : ExtN H H') (h : SqT K H a xs) : SqT K H' a xs := by
  rcases h with (h | ⟨o, h⟩) | h
  · exact .inl (.inl (s _ _ h fun _ z => by cases z))
  · exact .inl (.inr ⟨o, s _ _ h fun _ z => by cases z⟩)
  · exact .inr h
mutual
theorem Dp.ext {K : PySem.W.Frag} {H H' : Hp} (s : ExtN H H') : ∀ {v : V} {d : PyData}, Dp K H v d → Dp K H' v d
  | _, _, .non => .non
  | _, _, .bl b => .bl b
  | _, _, .int i => .int i
  | _, _, .str x => .str x
  | _, _, .lst h a => .lst (ExtN.seqL s h) (DpAll.ext s a)
  | _, _, .tup h a => .tup (ExtN.seqT s h) (DpAll.ext s a)
theorem DpAll.ext {K : PySem.W.Frag} {H H' : Hp} (s : ExtN H H') : ∀ {vs : List V} {ds : List PyData}, DpAll K H vs ds → DpAll K H' vs ds
  | _, _, .nil => .nil
  | _, _, .cons h a => .cons (Dp.ext s h) (DpAll.ext s a)
end
theorem DpE.ext {K : PySem.W.Frag} {H H' : Hp} {x : V} {d : PyData} (h : DpE K H x d) (s : ExtN H H') : DpE K H' x d := by
  rcases h with h | ⟨e, a, ex, h⟩
  · exact .inl (Dp.ext s h)
  · exact .inr ⟨e, a, ex, s _ _ h fun _ z => by cases z⟩
theorem EAll.ext {K : PySem.W.Frag} {H H' : Hp} (s : ExtN H H') : ∀ {vs : List V} {ds : List PyData}, EAll K H vs ds → EAll K H' vs ds
  | _, _, .nil => .nil
  | _, _, .cons h a => .cons (h.ext s) (EAll.ext s a)
theorem Same.ext {H H' : Hp} (s : Same H H') : ExtN H H' := fun b o e _ => s b o e
theorem Tabs.same {T : List (Addr × Str)} {H H' : Hp} (t : Tabs T H) (s : Same H H') : Tabs T H' := t.ext s
/-- two rules for one operator -/
theorem op_two {X : Cx} {f : Value → Value → Sem Value} {r1 r2 : R2} (h1 : OpR X f r1) (h2 : OpR X f r2) : OpR X f (fun x y H Q => r1 x y H Q ∨ r2 x y H Q) := by
  intro pins s σ H x y v u Q I rx ry h
  rcases h with h | h
  · exact h1 pins s σ H x y v u Q I rx ry h
  · exact h2 pins s σ H x y v u Q I rx ry h
end L2.Lr

set_option maxHeartbeats 1000000
namespace L2.Lr
open PySem PySem.Spec PyProof.Rows NumText LR L2.Tx TL
/-! ### {} == {}, the same one -/
theorem op_eqE0 {X : Cx} (hu : X.A.units < cLine) : OpR X (compareOp .Eq) (fun x y H Q => ∃ a, x = .ref a ∧ y = .ref a ∧ H a = some (.dK []) ∧ Q (.bl true) H) := by
  intro pins s σ H x y v u Q I rx ry h
  obtain ⟨a, rfl, rfl, ha, q⟩ := h
  cases rx
  cases ry
  obtain ⟨_, hne, vs, kv, o, es, ep, ho, hx, hdt, hk, hes, hn⟩ := I.hok a _ ha
  have hv : vs = [] := by
    cases kv
    rfl
  subst hv
  have D : Heap.DictOf (mixKind X.prog X.w) s.heap a [] := ⟨o, es, ep, ho, hx, hdt, hk, hes, hn⟩
  refine PySem.W.rcP_dicts (r := true) hne hne D D hu (fun _ => .nil) X.xe (EP X pins σ Q) ?_
  exact ⟨.bl true, H, I, rfl, q⟩
/-! ### s.rpartition(sep) -/
def rpart (x y : Str) : Str × Str × Str := match Builtin.Str.lastOccurrence x y 0 x.length with
  | some i => (Builtin.Str.strSub x 0 i, y, Builtin.Str.strSub x (i + y.length) x.length)
  | none => (Str.empty, Str.empty, x)
theorem mt_rpartition {X : Cx} : MtR X "str.rpartition" (fun x xs H Q => ∃ a b, x = .str a ∧ xs = [.str b] ∧ (b.length == 0) = false ∧ a.length ≤ sizeLine ∧ ∀ p, H p = none → Q (.ref p) (upd H p (.tup [.str (rpart a b).1, .str (rpart a b).2.1, .str (rpart a b).2.2]))) := by
  intro pins s σ H x xs v us Q I hx hxs h
  obtain ⟨a, b, rfl, rfl, hb, hl, q⟩ := h
  obtain ⟨t, rfl⟩ := hx
  obtain ⟨u, rfl, ru⟩ := vals1 hxs
  obtain ⟨u', rfl⟩ := ru
  refine call_meets F.slot_str_rpartition (typeIs_str _ _ _) F.entry_str_rpartition (F.args_str_rpartition_2 _ _) (meets_str_rpartition a b t u' hb hl) ?_
  unfold rpart at q
  cases e : Builtin.Str.lastOccurrence a b 0 a.length with
  | none =>
    rw [e] at q
    exact laid_parts I q
  | some i =>
    rw [e] at q
    exact laid_parts I q
theorem rpart_app {y A B : Str} {c : Nat} (hy : tl y = [c]) (h : c ∉ tl B) : rpart (A ++ y ++ B) y = (A, y, B) := by
  have hne : tl y ≠ [] := by rw [hy]; exact List.cons_ne_nil _ _
  have hx : tl (A ++ y ++ B) = tl A ++ (c :: tl B) := by rw [tl_append, tl_append, hy, List.append_assoc]; rfl
  have hit : StrLaws.At (A ++ y ++ B) y (A ++ y ++ B).length (tl A).length := by
    rw [at_iff hne, hy, hx, List.drop_left]
    exact pre_self [c] (tl B)
  have miss : ∀ k, (tl A).length < k → ¬ StrLaws.At (A ++ y ++ B) y (A ++ y ++ B).length k := fun k hk => by
    rw [at_iff hne, hy, hx]
    obtain ⟨j, rfl⟩ : ∃ j, k = (tl A).length + (j + 1) := ⟨k - (tl A).length - 1, by omega⟩
    rw [← List.drop_drop, List.drop_left, List.drop_succ_cons]
    cases e : List.drop j (tl B) with
    | nil => rw [pre_nil (List.cons_ne_nil _ _)]; decide
    | cons d r =>
      have hd : d ∈ tl B := List.mem_of_mem_drop (by rw [e]; exact List.mem_cons_self ..)
      rw [pre_of_head [] r (show d ≠ c from fun z => h (z ▸ hd))]
      decide
  have hl : y.length = 1 := by rw [len_tl, hy]; rfl
  unfold rpart
  rcases StrLaws.last_spec (A ++ y ++ B) y with ⟨_, no⟩ | ⟨i, e, ha, no⟩
  · exact absurd hit (no _)
  · rw [e]
    have hi : i = (tl A).length := by
      rcases Nat.lt_trichotomy i (tl A).length with z | z | z
      · exact absurd hit (no _ z)
      · exact z
      · exact absurd ha (miss _ z)
    subst hi
    refine Prod.ext ?_ (Prod.ext rfl ?_)
    · refine tl_inj ?_
      show tl (Builtin.Str.strSub (A ++ y ++ B) 0 (tl A).length) = tl A
      rw [tl_strSub, hx, List.drop_zero, Nat.sub_zero, List.take_left]
    · refine tl_inj ?_
      show tl (Builtin.Str.strSub (A ++ y ++ B) ((tl A).length + y.length) (A ++ y ++ B).length) = tl B
      rw [tl_strSub_end, hx, hl, ← List.drop_drop, List.drop_left]
      rfl
theorem rpart_none {y B : Str} {c : Nat} (hy : tl y = [c]) (h : c ∉ tl B) : rpart B y = (Str.empty, Str.empty, B) := by
  have hne : tl y ≠ [] := by rw [hy]; exact List.cons_ne_nil _ _
  have miss : ∀ k, ¬ StrLaws.At B y B.length k := fun k => by
    rw [at_iff hne, hy]
    cases e : List.drop k (tl B) with
    | nil => rw [pre_nil (List.cons_ne_nil _ _)]; decide
    | cons d r =>
      have hd : d ∈ tl B := List.mem_of_mem_drop (by rw [e]; exact List.mem_cons_self ..)
      rw [pre_of_head [] r (show d ≠ c from fun z => h (z ▸ hd))]
      decide
  unfold rpart
  rcases StrLaws.last_spec B y with ⟨e, _⟩ | ⟨i, _, ha, _⟩
  · rw [e]
  · exact absurd ha (miss _)
theorem tl_strSub_le (x : Str) (i j : Nat) : (Builtin.Str.strSub x i j).length ≤ x.length := by
  rw [len_tl, tl_strSub, len_tl x, List.length_take, List.length_drop]
  omega
theorem rpart_len (x y : Str) : (rpart x y).1.length ≤ x.length ∧ (rpart x y).2.2.length ≤ x.length := by
  unfold rpart
  split
  · exact ⟨tl_strSub_le _ _ _, tl_strSub_le _ _ _⟩
  · exact ⟨Nat.zero_le _, Nat.le_refl _⟩
/-! ### a comprehension that writes ys, item by item, at a new place D -/
def MapI (H : Hp) (D : Addr) (ys : List V) (i : Nat) (H' : Hp) : Prop := Same H H' ∧ H' D = some (.lst (ys.take i))
theorem MapI.zero {H : Hp} {D : Addr} {ys : List V} (hD : H D = none) : MapI H D ys 0 (upd H D (.lst [])) := ⟨same_upd hD, by rw [List.take_zero]; exact upd_same⟩
theorem MapI.step {H H2 H5 : Hp} {D : Addr} {ys : List V} {i : Nat} {y : V} (hD : H D = none) (p : MapI H D ys i H2) (hy : ys[i]? = some y) (hl : ys.length ≤ 1000000) (s : Same H2 H5) :
    ∃ acc, H5 D = some (.lst acc) ∧ acc.length < sizeLine ∧ MapI H D ys (i + 1) (upd H5 D (.lst (acc ++ [y]))) := by
  obtain ⟨s2, hD2⟩ := p
  refine ⟨_, s _ _ hD2, ?_, fun b o e => ?_, ?_⟩
  · have h2 : (List.take i ys).length ≤ ys.length := by rw [List.length_take]; omega
    rw [sizeLine_eq]
    omega
  · have nb : b ≠ D := by
      intro z
      rw [z, hD] at e
      cases e
    exact (upd_ne nb).trans (s _ _ (s2 _ _ e))
  · rw [upd_same, List.take_add_one, hy]
    rfl
theorem MapI.all {H H' : Hp} {D : Addr} {ys : List V} {n : Nat} (p : MapI H D ys n H') (h : ys.length ≤ n) : Same H H' ∧ H' D = some (.lst ys) := ⟨p.1, by rw [p.2, List.take_of_length_le h]⟩
theorem DpAll.len {K : PySem.W.Frag} {H : Hp} {vs : List V} {ds : List PyData} (h : DpAll K H vs ds) : vs.length = ds.length := DpAll.length h
theorem inV_str {ws : List Str} {t : Str} : inV (.str t) (ws.map V.str) = ws.any fun y => decide (y = t) := by
  unfold inV
  rw [List.any_map]
  rfl
theorem flat_strs (ws : List Str) : (ws.map V.str).all flatV = true := List.all_eq_true.mpr fun x h => by
  obtain ⟨y, _, rfl⟩ := List.mem_map.mp h
  rfl
/-- a loop over any walked thing, its body's ends a letter -/
theorem for_itD {J : It} {n : Nat} {G : Hp → Prop} {Y : Nat → Hp → V → Hp → Prop} (w : Walk J n G Y) {g : TG} {tb : TS} {D : Ends} {σ : St} {H : Hp} (Pv : Nat → St → Hp → Prop) (h0 : Pv 0 σ H) (hG : ∀ i σ H, i ≤ n → Pv i σ H → G H)
    (hs : ∀ (D' : Ends) (i : Nat) (x : V) (σ : St) (H H' : Hp), D'.rt = D.rt → (∀ σ H, Pv (i + 1) σ H → D'.nx σ H) → (∀ σ H, Pv (i + 1) σ H → D'.ct σ H) → (∀ σ H, D.nx σ H → D'.bk σ H) → i < n → Pv i σ H → Y i H x H' → g x σ H' fun σ2 H2 => tb D' σ2 H2) (hd : ∀ σ H, Pv n σ H → D.nx σ H) :
    ∃ W : Nat → Nat → St → Hp → Prop, (∃ m, W 0 m σ H) ∧ ∀ i m σ H, W i m σ H →
      (J.stop i H ∧ D.nx σ H) ∨ (J.go i H ∧ ∃ N : St → Hp → Prop, (∀ σ' H', N σ' H' → ∃ m', m' < m ∧ W (i + 1) m' σ' H') ∧ ∀ x H', J.yld i H x H' → g x σ H' fun σ2 H2 => tb { D with nx := N, ct := N, bk := D.nx } σ2 H2) :=
  for_it w Pv h0 hG (fun i x σ H H' hi hp hy => hs { D with nx := Pv (i + 1), ct := Pv (i + 1), bk := D.nx } i x σ H H' rfl (fun _ _ h => h) (fun _ _ h => h) (fun _ _ h => h) hi hp hy) hd
end L2.Lr

set_option maxHeartbeats 1000000
/-! texts: str(x) of a text or an int, split, join, x == x -/
namespace L2.Lr
open PySem PySem.Spec PyProof.Rows NumText LR L2.Tx TL SkE
def strOf : PyData → Str
  | .str t => t
  | .int i => intT i
  | _ => Str.empty
theorem str_or {K : PySem.W.Frag} {H : Hp} {v : V} {d : PyData} {Q : VK} (h : Dp K H v d) (hd : (∃ c, d = .str c) ∨ ∃ i : Int, d = .int i ∧ i.natAbs.log2 < 1920) (q : Q (.str (strOf d)) H) :
    (∃ a, [v] = [.str a] ∧ Q (.str a) H) ∨ (∃ i : Int, [v] = [.int i] ∧ i.natAbs.log2 < 1920 ∧ Q (.str (toString i)) H) := by
  rcases hd with ⟨c, rfl⟩ | ⟨i, rfl, hi⟩
  · cases strD h
    exact .inl ⟨c, rfl, q⟩
  · cases intDv h
    exact .inr ⟨i, rfl, hi, q⟩
def rStrD (K : PySem.W.Frag) : List V → Hp → VK → Prop := fun xs H Q => ∃ x d, xs = [x] ∧ Dp K H x d ∧ ((∃ c, d = .str c) ∨ ∃ i : Int, d = .int i ∧ i.natAbs.log2 < 1920) ∧ Q (.str (strOf d)) H
theorem call_strD {X : Cx} (K : PySem.W.Frag) (hK : X.K = K) : CallR X (.type "str") (rStrD K) := by
  intro pins s σ H xs us Q I r h
  obtain ⟨x, d, rfl, hd, hc, q⟩ := h
  exact CallR.or call_str_str call_str_int pins s σ H _ us Q I r (str_or hd hc q)
theorem sum_le {m : Nat} : ∀ {l : List Nat}, (∀ x ∈ l, x ≤ m) → l.sum ≤ l.length * m
  | [], _ => Nat.zero_le _
  | x :: l, h => by
    have h1 := h x (List.mem_cons_self ..)
    have h2 := sum_le (l := l) fun y hy => h y (List.mem_cons_of_mem _ hy)
    rw [List.sum_cons, List.length_cons, Nat.add_mul]
    omega
theorem spl_parts {S : List Nat} : ∀ (l : List Nat) (k : Nat) (acc : List Nat), (∀ p ∈ spl S k acc l, p.length ≤ acc.length + l.length) ∧ (spl S k acc l).length ≤ l.length + 1
  | [], k, acc => by
    rw [spl_nil]
    refine ⟨fun p hp => ?_, Nat.le_refl _⟩
    rw [List.mem_singleton.mp hp]
    exact Nat.le_refl _
  | c :: r, k + 1, acc => by
    have e : spl S (k + 1) acc (c :: r) = spl S k acc r := by rw [spl_pass S (k + 1), List.drop_succ_cons, ← spl_pass S k]
    rw [e]
    obtain ⟨h1, h2⟩ := spl_parts (S := S) r k acc
    exact ⟨fun p hp => Nat.le_trans (h1 p hp) (by rw [List.length_cons]; omega), by rw [List.length_cons]; omega⟩
  | c :: r, 0, acc => by
    cases hp : pre S (c :: r) with
    | true =>
      rw [spl_hit hp]
      obtain ⟨h1, h2⟩ := spl_parts (S := S) r (S.length - 1) []
      refine ⟨fun p hp => ?_, by rw [List.length_cons, List.length_cons]; omega⟩
      cases hp with
      | head => omega
      | tail _ h =>
        have := h1 p h
        rw [List.length_nil] at this
        rw [List.length_cons]
        omega
    | false =>
      rw [spl_miss hp]
      obtain ⟨h1, h2⟩ := spl_parts (S := S) r 0 (acc ++ [c])
      refine ⟨fun p hp => ?_, by rw [List.length_cons]; omega⟩
      have := h1 p hp
      rw [List.length_append] at this
      rw [List.length_cons]
      simp only [List.length_cons, List.length_nil] at this
      omega
theorem split_parts {x y : Str} {s : Nat} {S : List Nat} (hy : tl y = s :: S) (hk : (y.cps.all fun x => decide (x < 256)) = true) : (∀ p ∈ PySem.Txt.split x y, p.length ≤ x.length) ∧ (PySem.Txt.split x y).length ≤ x.length + 1 := by
  have e := split_spl x y (by rw [hy]; exact List.cons_ne_nil _ _) (kind_ok hk)
  obtain ⟨h1, h2⟩ := spl_parts (S := tl y) (tl x) 0 []
  rw [← e] at h1 h2
  refine ⟨fun p hp => ?_, ?_⟩
  · have := h1 (tl p) (List.mem_map_of_mem hp)
    rw [List.length_nil, Nat.zero_add] at this
    rw [len_tl, len_tl x]
    exact this
  · rw [List.length_map] at h2
    rw [len_tl x]
    exact h2
theorem cut_last {xs : List V} : cutV xs none (some (-1)) = xs.dropLast := by
  show List.take ((-1 + (xs.length : Int)).toNat - 0) (List.drop 0 xs) = _
  rw [List.drop_zero, List.dropLast_eq_take, show (-1 + (xs.length : Int)).toNat - 0 = xs.length - 1 by omega]
theorem split_ne {x y : Str} (h : tl y ≠ []) (hk : (y.cps.all fun x => decide (x < 256)) = true) : PySem.Txt.split x y ≠ [] := by
  intro z
  have e := split_spl x y h (kind_ok hk)
  rw [z] at e
  have : ∀ (l : List Nat) (k : Nat) (acc : List Nat), spl (tl y) k acc l ≠ [] := by
    intro l
    induction l with
    | nil =>
      intro k acc
      rw [spl_nil]
      exact List.cons_ne_nil _ _
    | cons c r ih =>
      intro k acc
      cases k with
      | succ k =>
        rw [spl_pass (tl y) (k + 1), List.drop_succ_cons, ← spl_pass (tl y) k]
        exact ih k acc
      | zero =>
        cases hp : pre (tl y) (c :: r) with
        | true => rw [spl_hit hp]; exact List.cons_ne_nil _ _
        | false => rw [spl_miss hp]; exact ih 0 _
  exact this _ _ _ e.symm
theorem pd_ofI {X : Cx} {e : Expr} {te : TE} {i : Int} (h : PE X e te) (f : ∀ σ H (Q : VK), Q (.int i) H → te σ H Q) : PE X e (tDat X.K (.int i)) := pe_weak h fun σ H Q q => f σ H Q (q _ _ (Same.refl H) (.int i))
def rSelf (K : PySem.W.Frag) : R2 := fun x y H Q => x = y ∧ ∃ d, DpE K H x d ∧ (Dp K H x d → SeqAt.shaped d = true) ∧ Q (.bl true) H
theorem op_eqSelf {X : Cx} (K : PySem.W.Frag) (hK : X.K = K) (hu : X.A.units + 64 < cLine) : OpR X (compareOp .Eq) (rSelf K) := by
  subst hK
  intro pins s σ H x y v u Q I rx ry h
  obtain ⟨rfl, d, hd, hs, q⟩ := h
  rcases hd with hd | ⟨rfl, a, rfl, ha⟩
  · have sh := hs hd
    refine op_eqD hu pins s σ H x x v u Q I rx ry ⟨d, d, hd, hd, sh, sh, ?_⟩
    rw [SeqAt.eqv_refl _ (SeqAt.canLay_of_shaped sh)]
    exact q
  · exact op_eqE0 (Nat.lt_of_le_of_lt (Nat.le_add_right _ 64) hu) pins s σ H _ _ v u Q I rx ry ⟨a, rfl, rfl, ha, q⟩
theorem joinL_mem {S : List Nat} {c : Nat} : ∀ {ps : List (List Nat)}, c ∈ joinL S ps → c ∈ S ∨ ∃ p ∈ ps, c ∈ p
  | [], h => by cases h
  | [p], h => .inr ⟨p, List.mem_cons_self .., h⟩
  | p :: q :: r, h => by
    have h : c ∈ p ++ (S ++ joinL S (q :: r)) := h
    rw [List.mem_append, List.mem_append] at h
    rcases h with h | h | h
    · exact .inr ⟨p, List.mem_cons_self .., h⟩
    · exact .inl h
    · rcases joinL_mem h with h | ⟨x, hx, h⟩
      · exact .inl h
      · exact .inr ⟨x, List.mem_cons_of_mem _ hx, h⟩
theorem joinL_len {S : List Nat} {m : Nat} : ∀ {ps : List (List Nat)}, (∀ p ∈ ps, p.length ≤ m) → (joinL S ps).length ≤ ps.length * (m + S.length)
  | [], _ => Nat.zero_le _
  | [p], h => by
    have := h p (List.mem_cons_self ..)
    show p.length ≤ 1 * (m + S.length)
    omega
  | p :: q :: r, h => by
    have h1 := h p (List.mem_cons_self ..)
    have h2 := joinL_len (S := S) (m := m) (ps := q :: r) fun x hx => h x (List.mem_cons_of_mem _ hx)
    show (p ++ (S ++ joinL S (q :: r))).length ≤ ((q :: r).length + 1) * (m + S.length)
    rw [List.length_append, List.length_append, Nat.add_mul]
    omega
theorem joinL_nil : ∀ ps : List (List Nat), joinL [] ps = ps.flatten
  | [] => rfl
  | [p] => by
    show p = p ++ []
    rw [List.append_nil]
  | p :: q :: r => by
    show p ++ ([] ++ joinL [] (q :: r)) = p ++ (q :: r).flatten
    rw [joinL_nil (q :: r)]
    rfl
theorem log_200 {i : Int} (h : i.natAbs ≤ 10 ^ 200) : i.natAbs.log2 < 1920 := by
  have h2 : i.natAbs < 2 ^ 1920 := Nat.lt_of_le_of_lt h (by decide +kernel)
  by_cases h0 : i.natAbs = 0
  · rw [h0]; decide
  · exact (Nat.log2_lt h0).mpr h2
theorem intT_len {i : Int} {k : Nat} (hk : 1 ≤ k) (h : i.natAbs < 10 ^ k) : (intT i).length ≤ k + 1 := by
  have hb : (numL i.natAbs).length ≤ k := numL_len hk h
  rw [len_tl, tl_int]
  unfold sgnL
  split
  · rw [List.length_cons]; omega
  · omega
end L2.Lr

set_option maxHeartbeats 1000000
/-! enumerate(text) -/
namespace L2.Lr
open PySem PySem.Spec PyProof.Rows
/-- a text's signs, each in a new pair with its number -/
def IteS (x : Str) : It := ⟨fun i _ => i < x.cps.size, fun i H v H' => ∃ T c, v = .ref T ∧ H T = none ∧ H' = upd H T (.tup [.int (i : Nat), .str ⟨#[c]⟩]) ∧ x.cps[i]? = some c, fun i _ => i = x.cps.size⟩
theorem walk_enumS {x : Str} : Walk (IteS x) x.cps.size (fun _ => True) (fun i H v H' => ∃ T c, v = .ref T ∧ H T = none ∧ H' = upd H T (.tup [.int (i : Nat), .str ⟨#[c]⟩]) ∧ x.cps[i]? = some c) :=
  ⟨fun _ _ hi _ => hi, fun _ _ => rfl, fun _ _ _ _ _ _ y => y⟩
/-- the names of a text's iterator -/
abbrev sgn (ty : String) : Prop := ty = "str_ascii_iterator" ∨ ty = "str_iterator"
theorem draw_sgn {P : Program} {w : World} {A : Around} (hh : A.handled = none) {ty : String} (h : sgn ty) (it : Addr) (x : Str) (t : Tok) : Draws P w A it [it] x.cps.size (fun i v => ∃ c u, x.cps[i]? = some c ∧ v = .str ⟨#[c]⟩ u) (fun i h => h.IsStrIter it ty x t i) := by
  rcases h with e | e
  · rw [e]; exact Draws.strAscii hh it x t
  · rw [e]; exact Draws.strWide hh it x t
theorem turn_enumS {P : Program} {w : World} {K : PySem.W.Frag} {elts : List Expr} {kk : Nat} {tpos : Pos} (e it : Addr) (x : Str) (t : Tok) (ty : String) (hty : sgn ty) :
    Turn P w K (.Tuple elts kk tpos) (IteS x) [e, it] e (fun i h => (∃ old, IsEnum h e it ((i : Nat) : Int) old) ∧ h.IsStrIter it ty x t i ∧ e ≠ it) where
  mem := by simp
  obj := fun i h st b hb => by
    obtain ⟨⟨old, he⟩, ⟨o, ho, _, hd⟩, _⟩ := st
    simp only [List.mem_cons, List.not_mem_nil, or_false] at hb
    rcases hb with rfl | rfl
    · exact ⟨_, he, fun v q => nomatch q⟩
    · exact ⟨o, ho, fun v q => by rw [hd] at q; cases q⟩
  keep := fun i h h' st k => by
    obtain ⟨⟨old, he⟩, ⟨o, ho, r⟩, hne⟩ := st
    exact ⟨⟨old, k e (by simp) _ he⟩, ⟨o, k it (by simp) o ho, r⟩, hne⟩
  item := by
    intro X hP hw hK hc i pins s σ H E I hf st hg
    subst hP; subst hw; subst hK
    obtain ⟨⟨old, he⟩, hit, hne⟩ := st
    have D := draw_sgn (P := X.prog) (w := X.w) (A := X.A.in1) (by simp [I.ok.hd hc]) hty it x t
    have le : e < s.heap.objs.size := Heap.lt_size he
    have li : it < s.heap.objs.size := by obtain ⟨_, q, _⟩ := hit; exact Heap.lt_size q
    refine wpAny_pyNext_enum_itemD D he hit hg hne (fun z => hne (List.mem_singleton.mp z)) fun y h1 tk hy ho hit1 hT hsz hk => ?_
    obtain ⟨c, u, hcx, rfl⟩ := hy
    refine ⟨_, rfl, wpAny_letOwnedTupleGo_enum (s := { s with heap := h1, toks := tk + 1 }) ho fun h2 he2 sb => ?_⟩
    have hT2 : h2.get? s.heap.objs.size = some { cls := .type "tuple", data := .seq #[.int i tk, .str ⟨#[c]⟩ u] } := (sb.2 _ (Nat.ne_of_gt le)).trans hT
    have new : ObjOk X.prog X.w (upd H s.heap.objs.size (.tup [.int (i : Nat), .str ⟨#[c]⟩])) h2 s.heap.objs.size (.tup [.int (i : Nat), .str ⟨#[c]⟩]) :=
      ⟨by show 2 ≤ sizeLine; decide, [.int i tk, .str ⟨#[c]⟩ u], .cons ⟨_, rfl⟩ (.cons ⟨_, rfl⟩ .nil), ⟨_, hT2, rfl, _, rfl⟩⟩
    have I1 : Inv X pins σ (upd H s.heap.objs.size (.tup [.int (i : Nat), .str ⟨#[c]⟩])) { s with heap := h2, toks := tk + 1 } :=
      I.turnedNew (ch := [e, it]) (fun b ob hb q => (sb.2 b (fun z => hb (by simp [z]))).trans (hk b ob (fun z => hb (by simp [z])) (fun z => hb (by simp [z])) q)) hf (Nat.le_refl _) new
    refine ⟨.ref s.heap.objs.size, _, I1, rfl, ⟨_, c, rfl, I.hok.fresh (Nat.le_refl _), rfl, hcx⟩, ⟨⟨Value.str ⟨#[c]⟩ u, ?_⟩, ?_, hne⟩, fun b hb => ?_⟩
    · have e1 : ((i + 1 : Nat) : Int) = (i : Int) + 1 := by omega
      rw [e1]; exact he2
    · obtain ⟨o, q, r⟩ := hit1
      exact ⟨o, (sb.2 it (Ne.symm hne)).trans q, r⟩
    · have lb : b < s.heap.objs.size := by
        simp only [List.mem_cons, List.not_mem_nil, or_false] at hb
        rcases hb with rfl | rfl
        · exact le
        · exact li
      rw [upd_ne (Nat.ne_of_lt lb)]
      exact (hf b hb).1
  done := by
    intro X hP hw hK hc i pins s σ H E I hf st hg
    subst hP; subst hw; subst hK
    obtain ⟨⟨old, he⟩, hit, hne⟩ := st
    have hg : i = x.cps.size := hg
    rw [hg] at hit
    obtain ⟨f0, f1, f2, f3, f4, f5⟩ := hf it (by simp)
    have D := draw_sgn (P := X.prog) (w := X.w) (A := X.A.in1) (by simp [I.ok.hd hc]) hty it x t
    exact wpAny_pyNext_enum_endD D he hit fun h1 eb => ⟨rfl, I.turned (t' := s.toks) (fun b o hb q => eb b o hb q) f0 f1 f3 f4 f5⟩
  self := fun A i s Q E st h => by
    obtain ⟨⟨_, he⟩, _⟩ := st
    exact wpAny_pyIter_enum he h
def iEnumS (ta : TA) : TI := fun σ H R => ta σ H fun vs H1 => ∃ x, vs = [.str x] ∧ R (IteS x) H1
theorem pi_enumS {X : Cx} {e : Expr} {ta : TA} {p pos tpos : Pos} {elts : List Expr} {kk : Nat} (hg : Gl X "enumerate") (hm : X.mg "enumerate" = none) (ha : PA X [e] ta) (hs : starEach [e] X.env = [(false, eval e X.env)] := by rfl) :
    PI X (.Tuple elts kk tpos) (.Call (.Name "enumerate" p) [e] [] pos) (iEnumS ta) := by
  refine ⟨fun pins s σ H R I h => Call_ (ld_blt I hg hm boot_enumerate (PyProof.Rows.callWith_type1 (thn (ha.run pos pins s σ H _ I h) fun us s1 ⟨vs, H1, I1, r1, q1⟩ => ?_) hs rfl))⟩
  obtain ⟨x, rfl, q⟩ := q1
  cases r1 with
  | cons r rr =>
  cases rr
  obtain ⟨t, rfl⟩ := r
  have hty : sgn (strIterType x) := by
    unfold sgn strIterType
    split <;> simp
  refine call_enumerate_str fun h1 he hit hsz hk => wpAny_pyIter_enum he ?_
  have I2 : Inv X pins σ H1 { s1 with heap := h1 } := I1.kept (t' := s1.toks) hk
  refine ⟨s1.heap.objs.size + 1, [s1.heap.objs.size + 1, s1.heap.objs.size], _, _, H1, rfl, I2, turn_enumS (s1.heap.objs.size + 1) s1.heap.objs.size x t (strIterType x) hty, ⟨⟨.none, he⟩, hit, Nat.succ_ne_self _⟩, fun b hb => ?_, q⟩
  have le : s1.heap.objs.size ≤ b := by
    simp only [List.mem_cons, List.not_mem_nil, or_false] at hb
    rcases hb with rfl | rfl
    · exact Nat.le_add_right _ _
    · exact Nat.le_refl _
  exact I1.fpOk le (I1.hok.fresh le)
end L2.Lr

set_option maxHeartbeats 3200000
/-! len(set(t)), t a tuple of texts -/
namespace L2.Lr
open PySem PySem.Spec PyProof.Rows LR
/-- what the set holds behind i texts -/
abbrev hasT (xs : List Str) (i : Nat) : Str → Bool := fun y => (xs.take i).any (· == y)
/-- how many there are among the first i -/
def cnT (xs : List Str) : Nat → Nat
  | 0 => 0
  | i + 1 => if hasT xs i (xs.getD i Str.empty) then cnT xs i else cnT xs i + 1
theorem cnT_le (xs : List Str) : ∀ i, cnT xs i ≤ i
  | 0 => Nat.le_refl _
  | i + 1 => by
    have := cnT_le xs i
    unfold cnT
    split <;> omega
theorem hasT_mem {xs : List Str} {i : Nat} {y : Str} : hasT xs i y = true ↔ y ∈ xs.take i := by
  refine ⟨fun h => ?_, fun h => List.any_eq_true.mpr ⟨y, h, beq_self_eq_true _⟩⟩
  obtain ⟨z, hz, e⟩ := List.any_eq_true.mp h
  rw [← show z = y from beq_iff_eq.mp e]
  exact hz
theorem cnT_nodup {xs : List Str} : ∀ i, i ≤ xs.length → (cnT xs i = i ↔ (xs.take i).Nodup)
  | 0, _ => ⟨fun _ => by simp, fun _ => rfl⟩
  | i + 1, h => by
    have ih := cnT_nodup (xs := xs) i (by omega)
    have le := cnT_le xs i
    have e : xs[i]? = some (xs.getD i Str.empty) := by rw [List.getD_eq_getElem?_getD, List.getElem?_eq_getElem (show i < xs.length from h)]; rfl
    have ec : cnT xs (i + 1) = if hasT xs i (xs.getD i Str.empty) then cnT xs i else cnT xs i + 1 := rfl
    rw [ec, List.take_add_one, e]
    show _ ↔ (xs.take i ++ [xs.getD i Str.empty]).Nodup
    rw [List.nodup_append]
    cases hh : hasT xs i (xs.getD i Str.empty) with
    | true =>
      rw [if_pos rfl]
      refine ⟨fun z => by omega, fun z => absurd rfl (z.2.2 _ (hasT_mem.mp hh) _ (List.mem_singleton.mpr rfl))⟩
    | false =>
      rw [if_neg (by decide)]
      refine ⟨fun z => ⟨ih.mp (by omega), by simp, fun a ha b hb q => ?_⟩, fun z => by rw [ih.mpr z.1]⟩
      rw [List.mem_singleton.mp hb] at q
      rw [q] at ha
      rw [hasT_mem.mpr ha] at hh
      cases hh
theorem hasT_step {xs : List Str} {i : Nat} (h : i < xs.length) (y : Str) : (hasT xs i y || decide (y = xs.getD i Str.empty)) = hasT xs (i + 1) y := by
  have e : xs[i]? = some (xs.getD i Str.empty) := by rw [List.getD_eq_getElem?_getD, List.getElem?_eq_getElem h]; rfl
  show _ = (xs.take (i + 1)).any (· == y)
  rw [List.take_add_one, e, List.any_append]
  congr 1
  show _ = ((xs.getD i Str.empty == y) || false)
  rw [Bool.or_false]
  by_cases q : y = xs.getD i Str.empty
  · rw [decide_eq_true q, q]; exact (beq_self_eq_true _).symm
  · rw [decide_eq_false q]; exact (beq_eq_false_iff_ne.mpr fun z => q z.symm).symm
section
variable {P : Program} {w : World} {A : Around} {R : Result → Shared → Prop} {J : Addr} {fp wr : List Addr} {G : Array GenState → Array GenState → Prop} {n : Nat} {Pv : Nat → Value → Prop} {St : Nat → Shared → Prop}
theorem fill_set (W : WalksS P w A.in1 J fp wr G n Pv St) (D : Addr) (nf : D ∉ fp) (xs : List Str) (hl : xs.length = n) (hb : n + 1 < scanBound) (at_ : ∀ i v, Pv i v → ∃ t, v = .str (xs.getD i Str.empty) t) :
    ∀ (k i : Nat) (s : Shared), i + k = n → St i s → s.heap.SetOf (PySem.strKind P w) D (hasT xs i) (cnT xs i) →
      (∀ s', Moved (D :: wr) G s s' → s'.heap.SetOf (PySem.strKind P w) D (hasT xs n) (cnT xs n) → R (.ok (.ret .none)) s') → codeAny (model P w) A (.builtin "set.update.loop" ⟨[.ref D, .ref J], []⟩) R s := by
  have nw : D ∉ wr := fun z => nf (W.sub _ z)
  intro k
  induction k with
  | zero =>
    intro i s e hst hS out
    obtain rfl : i = n := by omega
    refine codeAny_builtin PyProof.Rows.F.entry_set_update_loop ?_
    rw [Around.under_plainId PyProof.Rows.F.plain_set_update_loop _]
    refine wpAny_bind (W.done s _ _ hst fun s' mv => wpAny_pure (out s' (mv.mono fun b q => List.mem_cons_of_mem _ q) ?_))
    obtain ⟨o, es, ep, t, ho, rest⟩ := hS; exact ⟨o, es, ep, t, mv.heap D _ nw ho, rest⟩
  | succ k ih =>
    intro i s e hst hS out
    have lt : i < xs.length := by omega
    refine codeAny_builtin PyProof.Rows.F.entry_set_update_loop ?_
    rw [Around.under_plainId PyProof.Rows.F.plain_set_update_loop _]
    refine wpAny_bind (W.item i s _ _ (by omega) hst fun v s1 hv hst1 mv => ?_)
    obtain ⟨t, rfl⟩ := at_ i v hv
    have hS1 : s1.heap.SetOf (PySem.strKind P w) D (hasT xs i) (cnT xs i) := by obtain ⟨o, es, ep, tb, ho, rest⟩ := hS; exact ⟨o, es, ep, tb, mv.heap D _ nw ho, rest⟩
    refine wpAny_bind (m := holding _ (setAdd D _)) (wpAny_holding ?_)
    unfold setAdd
    refine wpAny_holding (wpAny_bind ((PySem.strKind P w).pyHash (k := xs.getD i Str.empty) (strKind_is _ _ _ _) ?_))
    refine wpAny_setAddHashed_of (knd := PySem.strKind P w) (s := { s1 with toks := s1.toks + 1 }) (strKind_is _ _ _ _) rfl hS1 (by have := cnT_le xs i; omega) fun h2 same hS2 => ?_
    have hS3 : h2.SetOf (PySem.strKind P w) D (hasT xs (i + 1)) (cnT xs (i + 1)) := PyProof.Rows.SetOf_congr hS2 (fun y => hasT_step lt y) rfl
    refine wpAny_pure ⟨plainId_quiet PyProof.Rows.F.plain_set_update_loop _, ih (i + 1) _ (by omega) (W.frame _ s1 _ _ hst1 (Nat.le_succ _) fun b q o z => ?_) hS3 fun s3 mv3 hS4 => ?_⟩
    · exact (same.2 b fun y : b = D => nf (y ▸ q)).trans z
    · refine out s3 (Moved.trans W.gtrans ((mv.mono fun b q => List.mem_cons_of_mem _ q).then_heap (Nat.le_succ _) fun b o q z => ?_) mv3) hS4
      exact (same.2 b fun y : b = D => q (y ▸ List.mem_cons_self)).trans z
end
section
variable {P : Program} {w : World} {A : Around} {E : Value → Shared → Prop} {s : Shared}
/-- a heap with an empty set at its end -/
abbrev setAtEnd (h : Heap) (led : Bool) : Heap := h.push { cls := .type "set", dict := none, data := .set #[] 0 (.fresh 0 0 led) }
theorem set_of_texts {l : Addr} {its : Array Value} {xs : List Str} {Q : Value → Shared → Prop} (hd : A.handled = none) (ht : s.heap.IsTuple l its) (hx : PyProof.Rows.StrsAre its.toList xs) (few : xs.length + 1 < scanBound)
    (q : ∀ (h' : Heap) (tk : Nat), h'.SetOf (PySem.strKind P w) s.heap.objs.size (hasT xs its.size) (cnT xs its.size) → (∀ b o, b < s.heap.objs.size → s.heap.get? b = some o → h'.get? b = some o) → Q (.ref s.heap.objs.size) { s with heap := h', toks := tk }) :
    wpAny (model P w) A (call (.type "set") [.ref l]) Q E s := by
  obtain ⟨c0, t0, mr⟩ := PySem.F.called_set.mro
  have md := PySem.F.called_set.made; have su := PySem.F.called_set.sub; have nt := PySem.F.called_set.notType; have cc := PySem.F.called_set.canCreate
  have tc := PySem.F.typeCall_set_1 (.ref l)
  refine wpAny_call (codeAny_of_tree ?_)
  show wpAny _ _ (callAny (.type "set") _) _ _ _
  refine wpAny_pure ⟨Code.quiet_builtin _ (by decide +kernel), codeAny_builtin PySem.F.entry_type_call ?_⟩
  rw [Around.under_plain (weight_type_call_type "set" [.ref l] []) rfl]
  repeat (any_goals (first | assumption | wp_step))
  refine codeAny_mono (code_set_new_1 (.ref l) (E := E) (Q₁ := fun y z => ∃ led : Bool, y = .ref s.heap.objs.size ∧ z = { s with heap := setAtEnd s.heap led }) fun led => ⟨led, rfl, rfl⟩) fun r z hr => ?_
  match r, hr with
  | .ok (.ret y), hr =>
    obtain ⟨led, rfl, rfl⟩ := hr
    have at0 : (setAtEnd s.heap led).get? s.heap.objs.size = some { cls := .type "set", dict := none, data := .set #[] 0 (.fresh 0 0 led) } := Heap.get?_push_size _ rfl
    have ty0 : Shared.TypeIs { s with heap := setAtEnd s.heap led } (.ref s.heap.objs.size) "set" := ⟨_, at0, rfl⟩
    have il := PySem.F.called_set.init.lookup; have ib := PySem.F.called_set.init.bind (.ref s.heap.objs.size)
    repeat (any_goals (first | assumption | wp_step))
    refine codeAny_mono (codeAny_call_builtin (R := wants (fun r z => r = .none ∧ ∃ h' tk, z = { s with heap := h', toks := tk } ∧ h'.SetOf (PySem.strKind P w) s.heap.objs.size (hasT xs its.size) (cnT xs its.size) ∧ (∀ b o, b < s.heap.objs.size → s.heap.get? b = some o → h'.get? b = some o)) E) PySem.F.called_set.init.plain PySem.F.entry_set_init (check_set_init_1 ty0 ?_)) fun r z hr => ?_
    · obtain ⟨⟨oc, od, oda, osl⟩, ho, hc, nl, hda⟩ := ht
      simp only at hc hda
      subst hc; subst hda
      have ho' : (setAtEnd s.heap led).get? l = some { cls := .type "tuple", dict := od, data := .seq its nl, slots := osl } := Heap.get?_push_of_some _ ho
      have ht' : (setAtEnd s.heap led).IsTuple l its := ⟨_, ho', rfl, nl, rfl⟩
      have s1 := PySem.F.sub_tuple_set; have s2 := PySem.F.sub_tuple_frozenset; have s3 : (Value.type "tuple" == Value.type "dict") = false := by decide
      unfold Builtin.«set.__init__» noKeywords Builtin.Frozenset.updateFrom
      generalize gI : pyIter = I0
      wp_walk
      subst gI
      refine wpAny_pyIter_tuple ht' (wpAny_bind (wpAny_runValue ?_))
      have ll : l < s.heap.objs.size := Heap.lt_size ho
      have hd3 : A.in1.in1.in1.handled = none := by simp [hd]
      have n1 : l ≠ (setAtEnd s.heap led).objs.size := by rw [Heap.size_push]; exact Nat.ne_of_lt (Nat.lt_succ_of_lt ll)
      have n2 : s.heap.objs.size ∉ [(setAtEnd s.heap led).objs.size, l] := by
        rw [Heap.size_push]; intro z
        rcases List.mem_cons.mp z with z | z
        · exact absurd z (Nat.ne_of_lt (Nat.lt_succ_self _))
        · exact absurd (List.mem_singleton.mp z) (Nat.ne_of_gt ll)
      have len : xs.length = its.size := by rw [← StrsAre.len_eq hx, Array.length_toList]
      refine fill_set ((Walks.tuple hd3 _ l n1 its).toS) s.heap.objs.size n2 xs len (by omega) (fun i v hv => SS.strs_at hx i v (by rw [Array.getElem?_toList]; exact hv)) its.size 0 _ (by omega) ⟨⟨_, Heap.get?_push_size _ rfl, rfl, rfl⟩, (ht'.push _)⟩ ?_ ?_
      · have g2 : ((setAtEnd s.heap led).push { cls := .type "tuple_iterator", data := .fields #[.ref l, .int 0 0] }).get? s.heap.objs.size = some { cls := .type "set", dict := none, data := .set #[] 0 (.fresh 0 0 led) } := Heap.get?_push_of_some _ at0
        exact PyProof.Rows.SetOf_congr ((PyProof.Rows.setObjOf_fresh (knd := PySem.strKind P w) led).setOf g2 (by unfold scanBound; omega)) (fun _ => rfl) rfl
      · intro z mv hS
        obtain ⟨h', g', d', tk', os'⟩ := z
        have e1 : g' = s.gens := mv.gens
        have e2 : d' = s.drawn := mv.drawn
        have e3 : os' = s.os := mv.os
        subst e1; subst e2; subst e3
        show wpAny _ _ _ _ _ _
        refine wpAny_pure ?_
        show wpAny _ _ (ret Value.none) _ _ _
        refine wpAny_pure ⟨rfl, h', tk', rfl, hS, fun b o lt e => mv.heap b o (fun z => ?_) (Heap.get?_push_of_some _ (Heap.get?_push_of_some _ e))⟩
        rw [Heap.size_push] at z
        rcases List.mem_cons.mp z with z | z
        · exact absurd z (Nat.ne_of_lt lt)
        · exact absurd (List.mem_singleton.mp z) (Nat.ne_of_lt (Nat.lt_succ_of_lt lt))
    · match r, hr with
      | .error e, hr => exact hr
      | .ok (.ret r), hr =>
        obtain ⟨rfl, h', tk, rfl, hS, keep⟩ := hr
        repeat (any_goals (first | assumption | wp_step))
        exact q _ _ hS keep
  | .error e, hr => exact hr
end
/-- len(set(t)), t a tuple of texts -/
def tLenSetT (K : PySem.W.Frag) (ta : TE) : TE := fun σ H Q => ta σ H fun x H1 => ∃ (l : Addr) (xs : List Str), x = V.ref l ∧ SqT K H1 l (xs.map V.str) ∧ xs.length ≤ 4000 ∧ Q (.int (cnT xs xs.length : Nat)) H1
theorem pe_lenSetT {X : Cx} {a : Expr} {ta : TE} {p p2 q pos : Pos} (hc : X.calm = true) (hg : Gl X "len") (hm : X.mg "len" = none) (hg2 : Gl X "set") (hm2 : X.mg "set" = none) (ha : PE X a ta)
    (na : starEach [a] X.env = (false, eval a X.env) :: starEach [] X.env := by rfl) : PE X (.Call (.Name "len" p) [.Call (.Name "set" p2) [a] [] q] [] pos) (tLenSetT X.K ta) := by
  refine ⟨fun pins s σ H Q I h => Call_ (ld_blt I hg hm boot_len (PyProof.Rows.callWith_builtin1 (PyProof.Rows.args_cons (Call_ (ld_blt I hg2 hm2 boot_set (PyProof.Rows.callWith_type1 (PyProof.Rows.args_cons (thn (ha.run pins s σ H _ I h) fun v s1 ⟨x, H1, I1, r1, q1⟩ => PyProof.Rows.args_nil ?_) na) na rfl))) rfl) rfl rfl))⟩
  obtain ⟨l, xs, rfl, hq, hl, q1⟩ := q1
  cases r1
  obtain ⟨its, r, pl, hz⟩ := I1.tuple hq
  have e : its.toArray.size = xs.length := by rw [List.size_toArray, ← r.length, List.length_map]
  refine set_of_texts (I1.ok.hd hc) pl (by simpa using strsAre_of r) (by unfold scanBound; omega) fun h' tk hS hk => PyProof.Rows.args_nil ?_
  rw [e] at hS
  obtain ⟨o, es, ep, t, ho, hex, hd, _, _, _, hf, hn⟩ := hS
  have I2 : Inv X pins σ H1 { s1 with heap := h', toks := tk } := I1.kept fun b o e => hk b o (Heap.lt_size e) e
  exact call_len_set ho hex hd hf (by rw [hn]; have := cnT_le xs xs.length; omega) ⟨.int (cnT xs xs.length : Nat), H1, I2.tok _, ⟨_, by rw [hn]⟩, q1⟩
end L2.Lr

set_option maxHeartbeats 1000000
namespace L2.Lr
open PySem PySem.Spec PyProof.Rows LR
/-! ### displays with names of data in them -/
def tGv (K : PySem.W.Frag) (G : St → Hp → Prop) (d : PyData) : TE := fun σ H Q => G σ H ∧ ∀ v H', Same H H' → Dp K H' v d → Q v H'
def tGs (K : PySem.W.Frag) (G : St → Hp → Prop) (ds : List PyData) : TA := fun σ H Q => G σ H ∧ ∀ vs H', Same H H' → DpAll K H' vs ds → Q vs H'
def tGL (K : PySem.W.Frag) (G : St → Hp → Prop) (ds : List PyData) : TE := fun σ H Q => G σ H ∧ ∀ p vs H', Same H H' → H' p = some (.lst vs) → DpAll K H' vs ds → Q (.ref p) H'
def Kn (G : St → Hp → Prop) : Prop := ∀ σ H H', G σ H → Same H H' → G σ H'
section
variable {X : Cx} {e : Expr} {es : List Expr} {d : PyData} {ds : List PyData} {p pos : Pos} {G : St → Hp → Prop}
theorem gd_of (h : PE X e (tDat X.K d)) : PE X e (tGv X.K G d) := pe_weak h fun σ H Q q v H' s hd => q.2 v H' s hd
theorem gd_var {i : Nat} (hG : ∀ σ H, G σ H → ∃ v, σ[i]? = some (some v) ∧ Dp X.K H v d) (h : PE X e (tVar i)) : PE X e (tGv X.K G d) := pe_weak h fun σ H Q q => by
  obtain ⟨v, ev, hd⟩ := hG σ H q.1
  exact ⟨v, ev, q.2 v H (Same.refl H) hd⟩
theorem gd_nil : PA X [] (tGs X.K G []) := pa_weak pa_nil fun σ H Q q => q.2 [] H (Same.refl H) .nil
theorem gd_cons (hk : Kn G) (h1 : PE X e (tGv X.K G d)) (h2 : PA X es (tGs X.K G ds)) (hs : starEach (e :: es) X.env = (false, eval e X.env) :: starEach es X.env := by rfl) : PA X (e :: es) (tGs X.K G (d :: ds)) :=
  pa_weak (pa_cons h1 h2 hs) fun σ H Q q => ⟨q.1, fun v H1 s1 h1 => ⟨hk _ _ _ q.1 s1, fun vs H2 s2 h2 => q.2 (v :: vs) H2 (s1.trans s2) (.cons (Dp.same s2 h1) h2)⟩⟩
theorem gd_tup {x1} (h : PA X es (tGs X.K G ds)) (hz : ds.length ≤ sizeLine := by exact Nat.le_of_ble_eq_true rfl) : PE X (.Tuple es x1 pos) (tGv X.K G (.tuple ds)) :=
  pe_weak (pe_tup h) fun σ H Q q => ⟨q.1, fun vs H1 s1 h1 => ⟨by rw [DpAll.length h1]; exact hz, fun p np => q.2 _ _ (s1.trans (same_upd np)) (.tup (SqT.of upd_same) (DpAll.same (same_upd np) h1))⟩⟩
theorem gd_lst {x1} (h : PA X es (tGs X.K G ds)) (hz : ds.length ≤ sizeLine := by exact Nat.le_of_ble_eq_true rfl) : PE X (.List es x1) (tGv X.K G (.list ds)) :=
  pe_weak (pe_lst h) fun σ H Q q => ⟨q.1, fun vs H1 s1 h1 => ⟨by rw [DpAll.length h1]; exact hz, fun p np => q.2 _ _ (s1.trans (same_upd np)) (.lst (SqL.of upd_same) (DpAll.same (same_upd np) h1))⟩⟩
theorem gd_lstL {x1} (h : PA X es (tGs X.K G ds)) (hz : ds.length ≤ sizeLine := by exact Nat.le_of_ble_eq_true rfl) : PE X (.List es x1) (tGL X.K G ds) :=
  pe_weak (pe_lst h) fun σ H Q q => ⟨q.1, fun vs H1 s1 h1 => ⟨by rw [DpAll.length h1]; exact hz, fun p np => q.2 p vs _ (s1.trans (same_upd np)) upd_same (DpAll.same (same_upd np) h1)⟩⟩
theorem gd_listOf (hm : X.mg "list" = none) (ha : PE X e (tGv X.K G (.tuple ds))) (hg : Gl X "list" := by rfl) (he : starEach (e :: []) X.env = (false, eval e X.env) :: starEach [] X.env := by rfl) (hpl : (backTo pos (starEach [] X.env)).any (·.1) = false := by rfl) : PE X (.Call (.Name "list" p) [e] [] pos) (tGv X.K G (.list ds)) :=
  pe_weak (pe_callTy (e := e) (es := []) call_list_of hg hm bbL (pa_cons (pe_up ha) pa_nil he) (by decide) (by decide) he hpl) fun σ H Q q => ⟨fun x H1 => Same H H1 ∧ Dp X.K H1 x (.tuple ds), ⟨q.1, fun v H' s hd => ⟨s, hd⟩⟩, fun x H1 ⟨s1, hx⟩ => by
    cases hx with
    | @tup a xs _ hS ha => exact ⟨a, xs, rfl, .inr hS, fun l nl => q.2 _ _ (s1.trans (same_upd nl)) (.lst (SqL.of upd_same) (DpAll.same (same_upd nl) ha))⟩⟩
theorem gd_to3 {d1 d2 d3 d4 : PyData} {k : Nat} {p2 : Pos} (ha : PE X e (tGv X.K G (.tuple [d1, d2, d3, d4]))) : PE X (.Subscript e (.Slice none (some (.Constant (.int 3) k p)) none p2) pos) (tGv X.K G (.tuple [d1, d2, d3])) :=
  pe_weak (pe_slice sl_tupA (pe_up ha) po_none (po_some pe_int)) fun σ H Q q => ⟨fun x H1 => Same H H1 ∧ Dp X.K H1 x (.tuple [d1, d2, d3, d4]), ⟨q.1, fun v H' s hd => ⟨s, hd⟩⟩, fun x H1 ⟨s1, hx⟩ => by
    cases hx with
    | @tup a xs _ hS ha =>
    cases ha with
    | @cons v1 _ _ _ h1 ha => cases ha with
    | @cons v2 _ _ _ h2 ha => cases ha with
    | @cons v3 _ _ _ h3 ha => cases ha with
    | @cons v4 _ _ _ h4 ha =>
    cases ha
    refine ⟨3, rfl, a, _, rfl, hS, fun z => absurd z.2 (by show ¬ ((3 : Nat) = 4); decide), fun _ r nr => q.2 _ _ (s1.trans (same_upd nr)) (.tup (SqT.of upd_same) ?_)⟩
    exact .cons (Dp.same (same_upd nr) h1) (.cons (Dp.same (same_upd nr) h2) (.cons (Dp.same (same_upd nr) h3) .nil))⟩
theorem gd_catT {e2 : Expr} {d1 : PyData} {es2 : List PyData} {d2 : PyData} (hl : ds.length + es2.length + 2 ≤ sizeLine) (hk : Kn G) (ha : PE X e (tGv X.K G (.tuple (d1 :: ds)))) (hb : PE X e2 (tGv X.K G (.tuple (d2 :: es2)))) : PE X (.BinOp e .Add e2 pos) (tGv X.K G (.tuple (d1 :: ds ++ d2 :: es2))) :=
  pe_weak (pe_op op_catA ha hb) fun σ H Q q => ⟨q.1, fun x H1 s1 hx => ⟨hk _ _ _ q.1 s1, fun y H2 s2 hy => by
    have hx := Dp.same s2 hx
    cases hx with
    | @tup a xs _ hS ha =>
    cases hy with
    | @tup b ys _ hT hb =>
    have l1 := DpAll.length ha
    have l2 := DpAll.length hb
    simp only [List.length_cons] at l1 l2
    refine ⟨a, b, xs, ys, rfl, rfl, hS, hT, by omega, fun z => ?_, fun _ z => ?_, fun _ _ r nr => q.2 _ _ (s1.trans (s2.trans (same_upd nr))) (.tup (SqT.of upd_same) (DpAll.append (DpAll.same (same_upd nr) ha) (DpAll.same (same_upd nr) hb)))⟩
    · rw [z] at l1; cases l1
    · rw [z] at l2; cases l2⟩⟩
end
/-! ### data without a list of two -/
mutual
def l2 : PyData → Bool
  | .list ds => decide (ds.length ≠ 2) && l2All ds
  | .tuple ds => l2All ds
  | .none => true
  | .bool _ => true
  | .int _ => true
  | .str _ => true
  | .dict _ => true
def l2All : List PyData → Bool
  | [] => true
  | d :: ds => l2 d && l2All ds
end
mutual
theorem noL_l2 : ∀ {d : PyData}, noL d = true → l2 d = true
  | .list ds, h => by simp [noL] at h
  | .tuple ds, h => by
    simp only [noL] at h
    simp only [l2]
    exact noLAll_l2 h
  | .none, _ => by simp [l2]
  | .bool _, _ => by simp [l2]
  | .int _, _ => by simp [l2]
  | .str _, _ => by simp [l2]
  | .dict _, _ => by simp [l2]
theorem noLAll_l2 : ∀ {ds : List PyData}, noLAll ds = true → l2All ds = true
  | [], _ => by simp [l2All]
  | d :: ds, h => by
    simp only [noLAll] at h
    obtain ⟨h1, h2⟩ := Bool.and_eq_true_iff.mp h
    simp only [l2All]
    rw [noL_l2 h1, noLAll_l2 h2]
    rfl
end
/-- all but p stays, and p is a list of two -/
structure But (p : Addr) (H H' : Hp) : Prop where
  s : ∀ b o, H b = some o → b ≠ p → H' b = some o
  p : ∃ x y, H p = some (.lst [x, y])
theorem But.seqT {K : PySem.W.Frag} {p : Addr} {H H' : Hp} {a : Addr} {xs : List V} (s : But p H H') (h : SqT K H a xs) : SqT K H' a xs := by
  obtain ⟨x, y, hp⟩ := s.p
  rcases h with (h | ⟨o, h⟩) | h
  · exact .inl (.inl (s.s _ _ h fun z => by rw [z, hp] at h; cases h))
  · exact .inl (.inr ⟨o, s.s _ _ h fun z => by rw [z, hp] at h; cases h⟩)
  · exact .inr h
theorem But.seqL {K : PySem.W.Frag} {p : Addr} {H H' : Hp} {a : Addr} {xs : List V} (s : But p H H') (h : SqL K H a xs) (n : xs.length ≠ 2) : SqL K H' a xs := by
  obtain ⟨x, y, hp⟩ := s.p
  rcases h with (h | ⟨o, h⟩) | h
  · exact .inl (.inl (s.s _ _ h fun z => by rw [z, hp] at h; cases h; exact n rfl))
  · exact .inl (.inr ⟨o, s.s _ _ h fun z => by rw [z, hp] at h; cases h⟩)
  · exact .inr h
mutual
theorem Dp.but {K : PySem.W.Frag} {p : Addr} {H H' : Hp} (s : But p H H') : ∀ {v : V} {d : PyData}, Dp K H v d → l2 d = true → Dp K H' v d
  | _, _, .non, _ => .non
  | _, _, .bl b, _ => .bl b
  | _, _, .int i, _ => .int i
  | _, _, .str x, _ => .str x
  | _, _, .lst h a, n => by
    simp only [l2] at n
    obtain ⟨n1, n2⟩ := Bool.and_eq_true_iff.mp n
    exact .lst (s.seqL h (by rw [DpAll.length a]; exact of_decide_eq_true n1)) (DpAll.but s a n2)
  | _, _, .tup h a, n => .tup (s.seqT h) (DpAll.but s a (by simpa only [l2] using n))
theorem DpAll.but {K : PySem.W.Frag} {p : Addr} {H H' : Hp} (s : But p H H') : ∀ {vs : List V} {ds : List PyData}, DpAll K H vs ds → l2All ds = true → DpAll K H' vs ds
  | _, _, .nil, _ => .nil
  | _, _, .cons h a, n => by
    simp only [l2All] at n
    obtain ⟨n1, n2⟩ := Bool.and_eq_true_iff.mp n
    exact .cons (Dp.but s h n1) (DpAll.but s a n2)
end
theorem NiceAll.of {W D : Nat} : ∀ {ds : List PyData}, (∀ d ∈ ds, Nice W D d) → NiceAll (ds.length * (W + 1)) D ds
  | [], _ => (NiceAll.nil 0 D).mono (Nat.zero_le _) (Nat.le_refl _)
  | d :: ds, h => (NiceAll.cons (h d (List.mem_cons_self ..)) (NiceAll.of fun x hx => h x (List.mem_cons_of_mem _ hx))).mono (by rw [List.length_cons, Nat.add_mul]; omega) (Nat.le_refl _)
theorem Same.gone {H H' : Hp} {r : Addr} (s : Same H H') (n : H' r = none) : H r = none := by
  cases z : H r with
  | none => rfl
  | some o => rw [s _ _ z] at n; cases n
end L2.Lr

set_option maxHeartbeats 1000000
namespace L2.Tx
open PySem TL
/-! ### isascii, isalpha, islower: small letters -/
def lettersL : List Nat := ("abcdefghijklmnopqrstuvwxyz" : Str).cps.toList
theorem low_signs : ((List.range 128).all fun c => (decide (c ∈ lettersL) == (Unicode.isAlpha c && !(Unicode.isUpper c || Unicode.isTitle c))) && (!decide (c ∈ lettersL) || Unicode.isLower c)) = true := by decide +kernel
theorem low_sign {c : Nat} (h : c < 128) : decide (c ∈ lettersL) = (Unicode.isAlpha c && !(Unicode.isUpper c || Unicode.isTitle c)) ∧ (c ∈ lettersL → Unicode.isLower c = true) := by
  have z := List.all_eq_true.mp low_signs c (List.mem_range.mpr h)
  obtain ⟨z1, z2⟩ := Bool.and_eq_true_iff.mp z
  refine ⟨eq_of_beq z1, fun m => ?_⟩
  rw [decide_eq_true m] at z2
  exact z2
theorem letter_low : (lettersL.all fun c => decide (c < 128)) = true := by decide +kernel
theorem all_L (t : Str) (p : Nat → Bool) : t.cps.all p = (tl t).all p := by
  rw [← Array.all_toList]
theorem any_L (t : Str) (p : Nat → Bool) : t.cps.any p = (tl t).any p := by
  rw [← Array.any_toList]
theorem word_letters {t : Str} (h1 : 1 ≤ t.length) : (PySem.Txt.isascii t && (PySem.Txt.isalpha t && PySem.Txt.islower t)) = (tl t).all fun c => decide (c ∈ lettersL) := by
  unfold PySem.Txt.isascii PySem.Txt.isalpha PySem.Txt.islower
  rw [all_L, all_L, any_L, any_L, decide_eq_true (show t.length > 0 by omega), Bool.true_and]
  rw [len_tl] at h1
  generalize tl t = l at h1
  rw [Bool.eq_iff_iff]
  constructor
  · intro h
    obtain ⟨ha, h⟩ := Bool.and_eq_true_iff.mp h
    obtain ⟨hb, h⟩ := Bool.and_eq_true_iff.mp h
    obtain ⟨hc, hd⟩ := Bool.and_eq_true_iff.mp h
    refine List.all_eq_true.mpr fun c m => ?_
    rw [(low_sign (of_decide_eq_true (List.all_eq_true.mp ha c m))).1, List.all_eq_true.mp hb c m, Bool.true_and]
    cases hu : (Unicode.isUpper c || Unicode.isTitle c) with
    | false => rfl
    | true => rw [List.any_eq_true.mpr ⟨c, m, hu⟩] at hd; cases hd
  · intro h
    have h := List.all_eq_true.mp h
    have lo : ∀ c ∈ l, c < 128 := fun c m => of_decide_eq_true (List.all_eq_true.mp letter_low c (of_decide_eq_true (h c m)))
    have al : ∀ c ∈ l, Unicode.isAlpha c = true ∧ (Unicode.isUpper c || Unicode.isTitle c) = false := fun c m => by
      have z := (low_sign (lo c m)).1
      rw [h c m] at z
      obtain ⟨z1, z2⟩ := Bool.and_eq_true_iff.mp z.symm
      refine ⟨z1, ?_⟩
      cases hu : (Unicode.isUpper c || Unicode.isTitle c) with
      | false => rfl
      | true => rw [hu] at z2; cases z2
    refine Bool.and_eq_true_iff.mpr ⟨List.all_eq_true.mpr fun c m => decide_eq_true (lo c m), Bool.and_eq_true_iff.mpr ⟨List.all_eq_true.mpr fun c m => (al c m).1, Bool.and_eq_true_iff.mpr ⟨?_, ?_⟩⟩⟩
    · cases l with
      | nil => simp at h1
      | cons c l => exact List.any_eq_true.mpr ⟨c, List.mem_cons_self .., (low_sign (lo c (List.mem_cons_self ..))).2 (of_decide_eq_true (h c (List.mem_cons_self ..)))⟩
    · cases hu : l.any (fun c => Unicode.isUpper c || Unicode.isTitle c) with
      | false => rfl
      | true =>
        obtain ⟨c, m, z⟩ := List.any_eq_true.mp hu
        rw [(al c m).2] at z
        cases z
end L2.Tx

set_option maxHeartbeats 4000000
namespace L2.L86
open PySem PySem.Spec PyProof.Rows NumText LR L2.Lr L2.Tx TL
local macro_rules | `(tactic| walk_at "nx") => `(tactic| dsimp only [gName, tNext, tSeq, tAsg, List.set_cons_zero, List.set_cons_succ])
def top (i : Nat) : Stmt := PySem.Challenge.pw_leastrooms_k86_plans_written.main.body.getD i (.Pass ⟨0, 0, 0, 0⟩)
abbrev sWord : Stmt := top 13
abbrev sInt : Stmt := top 14
abbrev sBetw : Stmt := top 15
abbrev sCount : Stmt := top 20
abbrev sRound : Stmt := top 37
abbrev sHow : Stmt := top 39
abbrev sSize : Stmt := top 40
abbrev sHead : Stmt := top 41
abbrev sSing : Stmt := top 42
abbrev sFig : Stmt := top 9
abbrev sForm : Stmt := top 21
abbrev sCntOf : Stmt := top 22
abbrev sChk : Stmt := top 23
abbrev sWrit : Stmt := top 24
abbrev sRead : Stmt := top 25
abbrev sFree : Stmt := top 26
abbrev sLoop : Stmt := top 34
abbrev sApr : Stmt := top 35
abbrev sCkR : Stmt := top 36
abbrev sRowOf : Stmt := top 38
abbrev sGoes : Stmt := top 43
abbrev sTxt : Stmt := top 44
abbrev sTxP : Stmt := top 45
abbrev sAmong : Stmt := top 16
abbrev sTupOf : Stmt := top 17
abbrev sRoomQ : Stmt := top 49
abbrev sChange : Stmt := top 51
abbrev sDiff : Stmt := top 52
abbrev sParseR : Stmt := top 55
abbrev sPartsIn : Stmt := top 56
abbrev sPieces : Stmt := top 57
abbrev sPartIn : Stmt := top 58
abbrev sSingIn : Stmt := top 59
abbrev sEvent : Stmt := top 63
abbrev sToldE : Stmt := top 64
abbrev sLineOf : Stmt := top 65
abbrev sEvOf : Stmt := top 66
abbrev sEvIn : Stmt := top 67
abbrev sChIn : Stmt := top 68
abbrev sRowIn : Stmt := top 69
abbrev sWrite : Stmt := top 71
abbrev sReadP : Stmt := top 72
abbrev sPool : Stmt := top 74
abbrev sTake : Stmt := top 75
abbrev sFar : Stmt := top 76
abbrev sLWord : Stmt := top 77
abbrev sLNum : Stmt := top 78
abbrev sLRow : Stmt := top 79
abbrev sLChange : Stmt := top 80
abbrev sLEvent : Stmt := top 81
abbrev sLLine : Stmt := top 82
abbrev sRefused : Stmt := top 83
abbrev sLaw : Stmt := top 84
abbrev sRoom : Stmt := inClass (top 1) 0
abbrev sIni : Stmt := inClass (top 33) 0
abbrev sStr : Stmt := inClass (top 33) 4
abbrev FnP (K : PySem.W.Frag) (x : Str) (st : Stmt) (f : Addr) (fd : FuncData) : Prop := FunD K x x (defArgs st) (defBody st) (defScope st) [] [] f fd
abbrev FnM (K : PySem.W.Frag) (x q : Str) (st : Stmt) (f : Addr) (fd : FuncData) : Prop := FunD K x q (defArgs st) (defBody st) (defScope st) [] [] f fd
theorem scN : FnScope ["thing"] ["thing"] (defScope sInt) := ⟨rfl, rfl, rfl, by decide +kernel, rfl, by decide +kernel, by decide +kernel⟩
theorem scB : FnScope ["thing", "low", "high"] ["thing", "low", "high"] (defScope sBetw) := ⟨rfl, rfl, rfl, by decide +kernel, rfl, by decide +kernel, by decide +kernel⟩
theorem scC : FnScope ["thing", "a", "b"] ["thing"] (defScope sCount) := ⟨rfl, rfl, rfl, by decide +kernel, rfl, by decide +kernel, by decide +kernel⟩
theorem scR : FnScope ["part"] ["part"] (defScope sRound) := ⟨rfl, rfl, rfl, by decide +kernel, rfl, by decide +kernel, by decide +kernel⟩
theorem scH : FnScope ["part", "depth"] ["part", "depth"] (defScope sHead) := ⟨rfl, rfl, rfl, by decide +kernel, rfl, by decide +kernel, by decide +kernel⟩
theorem scG : FnScope ["part"] ["part"] (defScope sSing) := ⟨rfl, rfl, rfl, by decide +kernel, rfl, by decide +kernel, by decide +kernel⟩
theorem scW : FnScope ["parts", "depth", "many", "part"] ["parts", "depth"] (defScope sHow) := ⟨rfl, rfl, rfl, by decide +kernel, rfl, by decide +kernel, by decide +kernel⟩
theorem scZ : FnScope ["part", "depth"] ["part", "depth"] (defScope sSize) := ⟨rfl, rfl, rfl, by decide +kernel, rfl, by decide +kernel, by decide +kernel⟩
/-- a def as its callers need it -/
structure Def (P : Program) (w : World) (K : PySem.W.Frag) (mg : Str → Option Value) (base : Heap) (CX : CXT) (k : Nat) (x : Str) (f : Addr) (fd : FuncData) (ps : List Str) (sp : Sp) : Prop where
  ok : FnOk P w K mg base CX k f fd ps sp
  g : mg x = some (.ref f)
  k : PySem.W.keepIn K (.ref f) = true
  b : Binds K fd ps []
/-- the built-in names, and the constants -/
structure Prg (mg : Str → Option Value) : Prop where
  isn : mg "isinstance" = none
  len : mg "len" = none
  int : mg "int" = none
  bool : mg "bool" = none
  tuple : mg "tuple" = none
  str : mg "str" = none
  far : ∃ t, mg "LARGEST_NUMBER" = some (.int (10 ^ 30) t)
  most : ∃ t, mg "MOST_PARTS" = some (.int 60 t)
  deep : ∃ t, mg "MOST_LOOPS" = some (.int 4 t)
  once : ∃ t, mg "MOST_AT_ONCE" = some (.int 9 t)
  long : ∃ t, mg "LONGEST_WORK" = some (.int 99 t)
  norow : ∃ t, mg "NO_ROW" = some (.int 61 t)
def spInt (K : PySem.W.Frag) : Sp := fun vs H Q _ => ∃ x d, vs = [x] ∧ Dp K H x d ∧ Q (.bl (isI d)) H
def spBetw (K : PySem.W.Frag) : Sp := fun vs H Q _ => ∃ x lo hi d, vs = [x, .int lo, .int hi] ∧ Dp K H x d ∧ Q (.bl (betw lo hi d)) H
def spCount (K : PySem.W.Frag) : Sp := fun vs H Q _ => ∃ x d, vs = [x] ∧ Dp K H x d ∧ Q (.bl (countD d)) H
def letters : List Nat := ("abcdefghijklmnopqrstuvwxyz" : Str).cps.toList
def wordD : PyData → Bool
  | .str x => (decide (1 ≤ x.length) && decide (x.length ≤ 8)) && x.cps.toList.all fun c => decide (c ∈ letters)
  | _ => false
def roundW (w : Str) : Bool := decide (w = "loop") || decide (w = "forever")
def headD (dep : Int) (w : Str) : List PyData → Bool
  | [_] => decide (w = "forever") && decide (dep = 0)
  | [c, _] => !decide (w = "forever") && (countD c && decide (dep < 4))
  | _ => false
def singD (w : Str) : List PyData → Bool
  | [t] => decide (w = "work") && betw 1 99 t
  | [c, k] => !decide (w = "work") && ((decide (w = "send") || decide (w = "take")) && (wordD c && betw 1 9 k))
  | _ => false
mutual
/-- its texts are not too long -/
def sOk : PyData → Prop
  | .str x => x.length ≤ sizeLine ∧ PyData.strOk x = true
  | .tuple ds => ds.length ≤ sizeLine ∧ sOkAll ds
  | .none => True
  | .bool _ => True
  | .int _ => True
  | .list _ => True
  | .dict _ => True
def sOkAll : List PyData → Prop
  | [] => True
  | d :: ds => sOk d ∧ sOkAll ds
end
theorem sOkAll.at : ∀ {ds : List PyData} {i : Nat} {d : PyData}, sOkAll ds → ds[i]? = some d → sOk d
  | [], _, _, _, e => by simp at e
  | d :: ds, 0, _, h, e => by simp at e; subst e; unfold sOkAll at h; exact h.1
  | d :: ds, i + 1, _, h, e => by unfold sOkAll at h; exact sOkAll.at (ds := ds) (i := i) h.2 (by simpa using e)
def spWord (K : PySem.W.Frag) : Sp := fun vs H Q _ => ∃ x d, vs = [x] ∧ Dp K H x d ∧ sOk d ∧ ∀ H', Same H H' → Q (.bl (wordD d)) H'
def spRound (K : PySem.W.Frag) : Sp := fun vs H Q _ => ∃ x w ds, vs = [x] ∧ Dp K H x (.tuple (.str w :: ds)) ∧ ∀ H', Same H H' → Q (.bl (roundW w)) H'
def spHead (K : PySem.W.Frag) : Sp := fun vs H Q _ => ∃ x dep w ds, vs = [x, .int dep] ∧ Dp K H x (.tuple (.str w :: ds)) ∧ Q (.bl (headD dep w ds)) H
def spSing (K : PySem.W.Frag) : Sp := fun vs H Q _ => ∃ x w ds, vs = [x] ∧ Dp K H x (.tuple (.str w :: ds)) ∧ sOkAll ds ∧ ∀ H', Same H H' → Q (.bl (singD w ds)) H'
/-- the parts one by one; 61 where they are more than 60 -/
def goL (sz : PyData → Int) : Int → List PyData → Int
  | m, [] => m
  | m, d :: ds => if 60 < m + sz d then 61 else goL sz (m + sz d) ds
def howF (sz : PyData → Int) : PyData → Int
  | .tuple ds => goL sz 0 ds
  | _ => 61
def lastD (ds : List PyData) : PyData := ds.getLast?.getD .none
/-- a part that may hold n loops more in each other -/
def sizeD : Nat → PyData → Int
  | 0, .tuple (.str w :: ds) => if roundW w then 61 else if singD w ds then 1 else 61
  | n + 1, .tuple (.str w :: ds) => if roundW w then (if headD (3 - n) w ds then 1 + howF (sizeD n) (lastD ds) else 61) else if singD w ds then 1 else 61
  | _, _ => 61
def spSize (K : PySem.W.Frag) (n : Nat) : Sp := fun vs H Q _ => ∃ x d, vs = [x, .int (4 - n)] ∧ Dp K H x d ∧ sOk d ∧ ∀ H', Same H H' → Q (.int (sizeD n d)) H'
def spHow (K : PySem.W.Frag) (n : Nat) : Sp := fun vs H Q _ => ∃ x d, vs = [x, .int (4 - n)] ∧ Dp K H x d ∧ sOk d ∧ ∀ H', Same H H' → Q (.int (howF (sizeD n) d)) H'
section
variable {P : Program} {w : World} {K : PySem.W.Frag} {mg : Str → Option Value} {base : Heap}
theorem ok_int {f : Addr} {fd : FuncData} (F : FnP K "is_integer" sInt f fd) (T : Prg mg) : FnOk P w K mg base CX0 1 f fd ["thing"] (spInt K) := by
  refine F.ok scN (fun vs H Q E h => ?_) (fun cdv A outer s H vs Q E hr h => ?_)
  · obtain ⟨x, d, rfl, _⟩ := h
    rfl
  · obtain ⟨x, d, rfl, hd, q⟩ := h
    refine ⟨_, pss_one (ps_ret (pe_and (pe_isD T.isn (pv 0) (pe_bltn (by rfl) T.int bbI (by rfl)) (by rfl)) (pe_one (pe_not (pe_isD T.isn (pv 0) (pe_bltn (by rfl) T.bool bbB (by rfl)) (by rfl)))))), ?_⟩
    cases d with
    | int i => exact ⟨_, rfl, _, _, hd, (by decide +kernel : kitB "int" "int" = some true), _, rfl, iteT ⟨_, rfl, _, _, hd, (by decide +kernel : kitB "int" "bool" = some false), _, rfl, q⟩⟩
    | bool b => exact ⟨_, rfl, _, _, hd, (by decide +kernel : kitB "bool" "int" = some true), _, rfl, iteT ⟨_, rfl, _, _, hd, (by decide +kernel : kitB "bool" "bool" = some true), _, rfl, q⟩⟩
    | none => exact ⟨_, rfl, _, _, hd, (by decide +kernel : kitB "NoneType" "int" = some false), _, rfl, iteF q⟩
    | str x => exact ⟨_, rfl, _, _, hd, (by decide +kernel : kitB "str" "int" = some false), _, rfl, iteF q⟩
    | list x => exact ⟨_, rfl, _, _, hd, (by decide +kernel : kitB "list" "int" = some false), _, rfl, iteF q⟩
    | tuple x => exact ⟨_, rfl, _, _, hd, (by decide +kernel : kitB "tuple" "int" = some false), _, rfl, iteF q⟩
    | dict x => cases hd
theorem ok_betw {f fN : Addr} {fd dN : FuncData} (F : FnP K "is_between" sBetw f fd) (N : Def P w K mg base CX0 1 "is_integer" fN dN ["thing"] (spInt K)) : FnOk P w K mg base CX0 2 f fd ["thing", "low", "high"] (spBetw K) := by
  refine F.ok scB (fun vs H Q E h => ?_) (fun cdv A outer s H vs Q E hr h => ?_)
  · obtain ⟨x, lo, hi, d, rfl, _⟩ := h
    rfl
  · obtain ⟨x, lo, hi, d, rfl, hd, q⟩ := h
    refine ⟨_, pss_one (ps_ret (pe_and (pe_call N.ok hr (by rfl) N.g N.k N.b .nil pass0 (pa_cons (pv 0) pa_nil)) (pe_one (pe_chain op_le op_le (pv 1) (pv 0) (pv 2))))), ?_⟩
    have e0 : start ["thing", "low", "high"] [x, .int lo, .int hi] = [some x, some (.int lo), some (.int hi)] := rfl
    rw [e0]
    refine ⟨_, rfl, x, d, rfl, hd, _, rfl, ?_⟩
    cases hd with
    | int i =>
      refine iteT ⟨_, rfl, _, rfl, _, _, rfl, rfl, _, rfl, ite_dec (fun h => ?_) fun h => ?_⟩
      · refine ⟨_, rfl, _, _, rfl, rfl, ?_⟩
        have e : betw lo hi (.int i) = decide (i ≤ hi) := by
          show (decide (lo ≤ i) && decide (i ≤ hi)) = _
          rw [decide_eq_true h, Bool.true_and]
        rw [e] at q
        exact q
      · have e : betw lo hi (.int i) = false := by
          show (decide (lo ≤ i) && decide (i ≤ hi)) = _
          rw [decide_eq_false h, Bool.false_and]
        rw [e] at q
        exact q
    | _ => exact iteF q
theorem ok_count {f fB : Addr} {fd dB : FuncData} (F : FnP K "is_count" sCount f fd) (T : Prg mg) (N : Def P w K mg base CX0 2 "is_between" fB dB ["thing", "low", "high"] (spBetw K)) : FnOk P w K mg base CX0 3 f fd ["thing"] (spCount K) := by
  refine F.ok scC (fun vs H Q E h => ?_) (fun cdv A outer s H vs Q E hr h => ?_)
  · obtain ⟨x, d, rfl, _⟩ := h
    rfl
  · obtain ⟨x, d, rfl, hd, q⟩ := h
    obtain ⟨tf, hfar⟩ := T.far
    refine ⟨_, pss_cons (ps_if (PW.pt (pw_or (pt_not (pt_val (pe_isD T.isn (pv 0) (pe_bltn (by rfl) T.tuple bbT (by rfl)) (by rfl)))) (pw_or1 (pt_cmpR op_ne (pe_callB call_len_seq (by rfl) T.len boot_len (pa_cons (pv 0) pa_nil)) pe_int (nomark _))))) (pss_one (ps_ret pe_bl)) pss_nil)
      (pss_cons (ps_asg (pv 0) (pg_tup rfl (pgs_cons (pg_name (i := 1) scC.nd rfl (Or.inl rfl)) (pgs_cons (pg_name (i := 2) scC.nd rfl (Or.inl rfl)) pgs_nil))))
      (pss_cons (ps_if (PW.pt (pw_or (pt_not (pt_val (pe_call N.ok hr (by rfl) N.g N.k N.b .nil pass0 (pa_cons (pv 1) (pa_cons pe_int (pa_cons pe_int pa_nil))))))
          (pw_or1 (pt_not (pt_val (pe_call N.ok hr (by rfl) N.g N.k N.b .nil pass0 (pa_cons (pv 2) (pa_cons (pe_un un_neg (pe_gI hfar (by rfl))) (pa_cons (pe_gI hfar (by rfl)) pa_nil))))))))) (pss_one (ps_ret pe_bl)) pss_nil)
      (pss_one (ps_ret (pe_or (pe_cmpR op_gt (pv 1) pe_int (nomark _)) (pe_one (pe_cmpR op_ge (pv 2) pe_int (nomark _)))))))), ?_⟩
    have e0 : start ["thing", "a", "b"] [x] = [some x, none, none] := rfl
    rw [e0]
    have qf : countD d = false → Q (.bl false) H := fun e => by rw [e] at q; exact q
    refine go_seq ?_
    cases hd with
    | non => exact ⟨_, rfl, _, _, .non, (by decide +kernel : kitB "NoneType" "tuple" = some false), _, rfl, iteT (iteT (qf rfl))⟩
    | bl b => exact ⟨_, rfl, _, _, .bl b, (by decide +kernel : kitB "bool" "tuple" = some false), _, rfl, iteT (iteT (qf rfl))⟩
    | int i => exact ⟨_, rfl, _, _, .int i, (by decide +kernel : kitB "int" "tuple" = some false), _, rfl, iteT (iteT (qf rfl))⟩
    | str i => exact ⟨_, rfl, _, _, .str i, (by decide +kernel : kitB "str" "tuple" = some false), _, rfl, iteT (iteT (qf rfl))⟩
    | lst hS ha => exact ⟨_, rfl, _, _, .lst hS ha, (by decide +kernel : kitB "list" "tuple" = some false), _, rfl, iteT (iteT (qf rfl))⟩
    | @tup t xs ds hS ha =>
      refine ⟨_, rfl, _, _, .tup hS ha, (by decide +kernel : kitB "tuple" "tuple" = some true), _, rfl, iteF ⟨_, rfl, t, xs, rfl, .inr hS, rfl, _, rfl, ?_⟩⟩
      have short : ∀ {A B : Prop}, xs.length ≠ 2 → (countD (.tuple ds) = false → A) → countD (.tuple ds) = false → (if (!decide (V.int (xs.length : Int) = V.int 2)) = true then A else B) := fun n h e => by
        rw [decide_eq_false (fun z => n (by have z1 := V.int.inj z; omega))]
        exact iteT (h e)
      cases ha with
      | nil => exact short (fun z => by cases z) (fun e => qf e) rfl
      | @cons v1 vs d1 ds1 h1 ha1 =>
        cases ha1 with
        | nil => exact short (fun z => by cases z) (fun e => qf e) (by cases h1 <;> rfl)
        | @cons v2 vs2 d2 ds2 h2 ha2 =>
          cases ha2 with
          | cons h3 ha3 => exact short (by simp only [List.length_cons]; omega) (fun e => qf e) (by cases h1 <;> first | rfl | (cases h2 <;> rfl))
          | nil =>
            refine iteNS rfl ?_
            walk_at "nx"
            refine ⟨_, rfl, t, _, rfl, hS, rfl, v1, _, rfl, v2, _, rfl, rfl, ?_⟩
            refine ⟨_, rfl, v1, 0, 9, d1, rfl, h1, _, rfl, ?_⟩
            have q' := q
            rw [countD_two] at q'
            cases b1 : betw 0 9 d1 with
            | false =>
              rw [b1] at q'
              exact q'
            | true =>
              rw [b1, Bool.true_and] at q'
              refine iteF ⟨_, rfl, _, rfl, v2, -(10 ^ 30), 10 ^ 30, d2, rfl, h2, _, rfl, ?_⟩
              cases b2 : betw (-(10 ^ 30)) (10 ^ 30) d2 with
              | false =>
                rw [b2] at q'
                exact q'
              | true =>
                rw [b2, Bool.true_and] at q'
                obtain ⟨i, rfl, _, _⟩ := betw_int b1
                obtain ⟨j, rfl, _, _⟩ := betw_int b2
                cases h1
                cases h2
                walk_at "nx"
                refine ⟨_, rfl, _, _, rfl, rfl, _, rfl, ite_dec (fun g => ?_) fun g => ⟨_, rfl, _, _, rfl, rfl, ?_⟩⟩
                · dsimp only at q'
                  rw [decide_eq_true g, Bool.true_or] at q'
                  exact q'
                · dsimp only at q'
                  rw [decide_eq_false g, Bool.false_or] at q'
                  exact q'
theorem ok_round {f : Addr} {fd : FuncData} (F : FnP K "is_round" sRound f fd) : FnOk P w K mg base CX0 1 f fd ["part"] (spRound K) := by
  refine F.ok scR (fun vs H Q E h => ?_) (fun cdv A outer s H vs Q E hr h => ?_)
  · obtain ⟨x, w, ds, rfl, _⟩ := h
    rfl
  · obtain ⟨x, w, ds, rfl, hd, q⟩ := h
    obtain ⟨t, v, vs, rfl, hS, h1, h2⟩ := tupD hd
    cases strD h1
    refine ⟨_, pss_one (ps_ret (pe_cmpR op_in_seq (pe_ix ix_tup (pv 0) pe_int (fun _ _ => rfl)) (pe_tup (pa_cons pe_str (pa_cons pe_str pa_nil))) (by rfl))), ?_⟩
    have e0 : start ["part"] [V.ref t] = [some (.ref t)] := rfl
    rw [e0]
    refine ⟨_, rfl, t, _, 0, .str w, rfl, rfl, hS, at0, by show 2 ≤ sizeLine; decide, fun p np => ?_⟩
    refine ⟨p, _, rfl, .inr (SqT.of upd_same), rfl, rfl, ?_⟩
    have z := q _ (same_upd (o := .tup [.str "loop", .str "forever"]) np)
    have e : inV (V.str w) [V.str "loop", V.str "forever"] = roundW w := by
      have c : ∀ y : Str, ((y : Str) == w) = decide (w = y) := fun y => by
        by_cases h : w = y
        · subst h; simp
        · have h' : ¬ y = w := fun z => h z.symm
          simp [h, h']
      show (((("loop" : Str) == w) || ((("forever" : Str) == w) || false))) = _
      rw [c, c, Bool.or_false]
      rfl
    rw [← e] at z
    exact z
theorem ok_head {f fC : Addr} {fd dC : FuncData} (F : FnP K "_is_head" sHead f fd) (T : Prg mg) (N : Def P w K mg base CX0 3 "is_count" fC dC ["thing"] (spCount K)) : FnOk P w K mg base CX0 4 f fd ["part", "depth"] (spHead K) := by
  refine F.ok scH (fun vs H Q E h => ?_) (fun cdv A outer s H vs Q E hr h => ?_)
  · obtain ⟨x, dep, w, ds, rfl, _⟩ := h
    rfl
  · obtain ⟨x, dep, w, ds, rfl, hd, q⟩ := h
    obtain ⟨t, v, vs, rfl, hS, h1, h2⟩ := tupD hd
    cases strD h1
    obtain ⟨td, hdeep⟩ := T.deep
    refine ⟨_, pss_cons (ps_if (pt_cmpR op_eq (pe_ix ix_tup (pv 0) pe_int (fun _ _ => rfl)) pe_str (nomark _)) (pss_one (ps_ret (pe_and (pe_cmpR op_eq (pe_callB call_len_seq (by rfl) T.len boot_len (pa_cons (pv 0) pa_nil)) pe_int (nomark _)) (pe_one (pe_cmpR op_eq (pv 1) pe_int (nomark _)))))) pss_nil)
      (pss_one (ps_ret (pe_and (pe_cmpR op_eq (pe_callB call_len_seq (by rfl) T.len boot_len (pa_cons (pv 0) pa_nil)) pe_int (nomark _)) (pe_and (pe_call N.ok hr (by rfl) N.g N.k N.b .nil pass0 (pa_cons (pe_ix ix_tup (pv 0) pe_int (fun _ _ => rfl)) pa_nil)) (pe_one (pe_cmpR op_lt (pv 1) (pe_gI hdeep (by rfl)) (nomark _))))))), ?_⟩
    have e0 : start ["part", "depth"] [V.ref t, .int dep] = [some (.ref t), some (.int dep)] := rfl
    rw [e0]
    have hq : ∀ b, headD dep w ds = b → Q (.bl b) H := fun b e => by rw [e] at q; exact q
    refine go_seq ?_
    refine ⟨_, rfl, t, _, 0, .str w, rfl, rfl, hS, at0, rfl, _, rfl, ite_dec (fun hw => ?_) fun hw => ?_⟩
    · have hw := V.str.inj hw
      refine ⟨_, rfl, t, _, rfl, .inr hS, rfl, _, rfl, ?_⟩
      cases h2 with
      | nil => exact len_if (fun z => absurd z (by simp)) fun _ => hq _ rfl
      | cons g1 h3 =>
        cases h3 with
        | nil =>
          refine len_if (fun _ => ⟨_, rfl, rfl, hq _ ?_⟩) (fun z => absurd rfl z)
          show (decide (w = "forever") && decide (dep = 0)) = _
          rw [decide_eq_true hw, Bool.true_and, dec_vint]
        | cons g2 h4 =>
          refine len_if (fun z => absurd z ?_) fun _ => hq _ ?_
          · simp only [List.length_cons]; omega
          · cases h4 with
            | nil =>
              show (!decide (w = "forever") && _) = _
              rw [decide_eq_true hw]
              rfl
            | cons _ _ => rfl
    · have hw : ¬ w = "forever" := fun z => hw (by rw [z])
      refine ⟨_, rfl, t, _, rfl, .inr hS, rfl, _, rfl, ?_⟩
      cases h2 with
      | nil => exact len_if (fun z => absurd z (by simp)) fun _ => hq _ rfl
      | cons g1 h3 =>
        cases h3 with
        | nil =>
          refine len_if (fun z => absurd z (by simp)) fun _ => hq _ ?_
          show (decide (w = "forever") && _) = _
          rw [decide_eq_false hw]
          rfl
        | cons g2 h4 =>
          cases h4 with
          | cons _ _ => exact len_if (fun z => absurd z (by simp only [List.length_cons]; omega)) fun _ => hq _ rfl
          | nil =>
            refine len_if (fun _ => ⟨_, rfl, t, _, 1, _, rfl, rfl, hS, at1, _, _, rfl, g1, _, rfl, ?_⟩) (fun z => absurd rfl z)
            have e : ∀ c k, headD dep w [c, k] = (countD c && decide (dep < 4)) := fun c k => by
              show (!decide (w = "forever") && _) = _
              rw [decide_eq_false hw, Bool.not_false, Bool.true_and]
            simp only [e] at hq
            refine ite2 (fun h => ⟨_, rfl, _, _, rfl, rfl, hq _ ?_⟩) fun h => hq _ ?_
            · rw [h, Bool.true_and]
            · rw [Bool.not_eq_true _ |>.mp h, Bool.false_and]
theorem ok_sing {f fB fW : Addr} {fd dB dW : FuncData} (F : FnP K "_is_single" sSing f fd) (T : Prg mg) (N : Def P w K mg base CX0 2 "is_between" fB dB ["thing", "low", "high"] (spBetw K)) (W : Def P w K mg base CX0 1 "is_word" fW dW ["thing"] (spWord K)) : FnOk P w K mg base CX0 3 f fd ["part"] (spSing K) := by
  refine F.ok scG (fun vs H Q E h => ?_) (fun cdv A outer s H vs Q E hr h => ?_)
  · obtain ⟨x, w, ds, rfl, _⟩ := h
    rfl
  · obtain ⟨x, w, ds, rfl, hd, hso, q⟩ := h
    obtain ⟨t, v, vs, rfl, hS, h1, h2⟩ := tupD hd
    cases strD h1
    obtain ⟨tl, hlong⟩ := T.long
    obtain ⟨to, honce⟩ := T.once
    have hr1 : Room 1 _ := hr.mono (by decide)
    refine ⟨_, pss_cons (ps_if (pt_cmpR op_eq (pe_ix ix_tup (pv 0) pe_int (fun _ _ => rfl)) pe_str (nomark _)) (pss_one (ps_ret (pe_and (pe_cmpR op_eq (pe_callB call_len_seq (by rfl) T.len boot_len (pa_cons (pv 0) pa_nil)) pe_int (nomark _)) (pe_one (pe_call N.ok hr (by rfl) N.g N.k N.b .nil pass0 (pa_cons (pe_ix ix_tup (pv 0) pe_int (fun _ _ => rfl)) (pa_cons pe_int (pa_cons (pe_gI hlong (by rfl)) pa_nil)))))))) pss_nil)
      (pss_cons (ps_if (PW.pt (pw_or (pt_cmpR op_notIn_seq (pe_ix ix_tup (pv 0) pe_int (fun _ _ => rfl)) (pe_tup (pa_cons pe_str (pa_cons pe_str pa_nil))) (by rfl)) (pw_or1 (pt_cmpR op_ne (pe_callB call_len_seq (by rfl) T.len boot_len (pa_cons (pv 0) pa_nil)) pe_int (nomark _))))) (pss_one (ps_ret pe_bl)) pss_nil)
      (pss_one (ps_ret (pe_and (pe_call W.ok hr1 (by rfl) W.g W.k W.b .nil pass0 (pa_cons (pe_ix ix_tup (pv 0) pe_int (fun _ _ => rfl)) pa_nil)) (pe_one (pe_call N.ok hr (by rfl) N.g N.k N.b .nil pass0 (pa_cons (pe_ix ix_tup (pv 0) pe_int (fun _ _ => rfl)) (pa_cons pe_int (pa_cons (pe_gI honce (by rfl)) pa_nil))))))))), ?_⟩
    have e0 : start ["part"] [V.ref t] = [some (.ref t)] := rfl
    rw [e0]
    have hq : ∀ b H', Same H H' → singD w ds = b → Q (.bl b) H' := fun b H' s' e => by
      have z := q H' s'
      rw [e] at z
      exact z
    refine go_seq ?_
    refine ⟨_, rfl, t, _, 0, .str w, rfl, rfl, hS, at0, rfl, _, rfl, ite_dec (fun hw => ?_) fun hw => ?_⟩
    · have hw := V.str.inj hw
      refine ⟨_, rfl, t, _, rfl, .inr hS, rfl, _, rfl, ?_⟩
      cases h2 with
      | nil => exact len_if (fun z => absurd z (by simp)) fun _ => hq _ H (Same.refl H) rfl
      | cons g1 h3 =>
        cases h3 with
        | nil =>
          refine len_if (fun _ => ⟨_, rfl, t, _, 1, _, rfl, rfl, hS, at1, _, 1, 99, _, rfl, g1, hq _ H (Same.refl H) ?_⟩) (fun z => absurd rfl z)
          show (decide (w = "work") && _) = _
          rw [decide_eq_true hw, Bool.true_and]
        | cons g2 h4 =>
          refine len_if (fun z => absurd z ?_) fun _ => hq _ H (Same.refl H) ?_
          · simp only [List.length_cons]; omega
          · cases h4 with
            | nil =>
              show (!decide (w = "work") && _) = _
              rw [decide_eq_true hw]
              rfl
            | cons _ _ => rfl
    · have hw : ¬ w = "work" := fun z => hw (by rw [z])
      walk_at "nx"
      refine ⟨_, rfl, t, _, 0, .str w, rfl, rfl, hS, at0, by show 2 ≤ sizeLine; decide, fun p np => ?_⟩
      have sp := same_upd (o := .tup [.str "send", .str "take"]) np
      refine ⟨p, _, rfl, .inr (SqT.of upd_same), rfl, rfl, _, rfl, ?_⟩
      have e : inV (V.str w) [V.str "send", V.str "take"] = (decide (w = "send") || decide (w = "take")) := by
        have c : ∀ y : Str, ((y : Str) == w) = decide (w = y) := fun y => by
          by_cases h : w = y
          · subst h; simp
          · have h' : ¬ y = w := fun z => h z.symm
            simp [h, h']
        show (((("send" : Str) == w) || ((("take" : Str) == w) || false))) = _
        rw [c, c, Bool.or_false]
      have e2 : ∀ c k, singD w [c, k] = ((decide (w = "send") || decide (w = "take")) && (wordD c && betw 1 9 k)) := fun c k => by
        show (!decide (w = "work") && _) = _
        rw [decide_eq_false hw, Bool.not_false, Bool.true_and]
      have e3 : ∀ c, singD w [c] = false := fun c => by
        show (decide (w = "work") && _) = _
        rw [decide_eq_false hw]
        rfl
      rw [if_pos rfl, e]
      have no : (singD w ds = false) → Q (.bl false) (upd H p (.tup [.str "send", .str "take"])) := fun z => hq _ _ sp z
      cases hst : (decide (w = "send") || decide (w = "take")) with
      | false =>
        simp only [hst, Bool.false_and] at e2
        refine no ?_
        cases h2 with
        | nil => rfl
        | cons g1 h3 =>
          cases h3 with
          | nil => exact e3 _
          | cons g2 h4 =>
            cases h4 with
            | nil => exact e2 _ _
            | cons _ _ => rfl
      | true =>
        simp only [hst, Bool.true_and] at e2
        refine ⟨_, rfl, t, _, rfl, .inr (seqT sp hS), rfl, _, rfl, ?_⟩
        cases h2 with
        | nil => exact len_ne (fun _ => no rfl) fun z => absurd z (by simp)
        | cons g1 h3 =>
          cases h3 with
          | nil => exact len_ne (fun _ => no (e3 _)) fun z => absurd z (by simp)
          | cons g2 h4 =>
            cases h4 with
            | cons _ _ => exact len_ne (fun _ => no rfl) fun z => absurd z (by simp only [List.length_cons]; omega)
            | nil =>
              refine len_ne (fun z => absurd rfl z) fun _ => ?_
              walk_at "nx"
              refine ⟨_, rfl, t, _, 1, _, rfl, rfl, seqT sp hS, at1, _, _, rfl, Dp.same sp g1, sOkAll.at (i := 0) hso rfl, fun H2 s2 => ⟨_, rfl, ite2 (fun h => ?_) fun h => hq _ H2 (sp.trans s2) ?_⟩⟩
              · refine ⟨_, rfl, t, _, 2, _, rfl, rfl, seqT (sp.trans s2) hS, at2, _, 1, 9, _, rfl, Dp.same (sp.trans s2) g2, hq _ H2 (sp.trans s2) ?_⟩
                rw [e2, h, Bool.true_and]
              · rw [e2, Bool.not_eq_true _ |>.mp h, Bool.false_and]
theorem ok_how {n : Nat} {f fS : Addr} {fd dS : FuncData} (F : FnP K "_how_many" sHow f fd) (T : Prg mg) {k : Nat} (N : Def P w K mg base CX0 k "_size_of" fS dS ["part", "depth"] (spSize K n)) : FnOk P w K mg base CX0 (k + 1) f fd ["parts", "depth"] (spHow K n) := by
  refine F.ok scW (fun vs H Q E h => ?_) (fun cdv A outer s H vs Q E hr h => ?_)
  · obtain ⟨x, d, rfl, _⟩ := h
    rfl
  · obtain ⟨x, d, rfl, hd, hso, q⟩ := h
    obtain ⟨tm, hmost⟩ := T.most
    obtain ⟨tn, hno⟩ := T.norow
    refine ⟨_, PSs.nox (pss_cons (ps_if (pt_not (pt_val (pe_isD T.isn (pv 0) (pe_bltn (by rfl) T.tuple bbT (by rfl)) (by rfl)))) (pss_one (ps_ret (pe_gI hno (by rfl)))) pss_nil)
      (pss_cons (ps_set (i := 2) scW.nd rfl (Or.inl rfl) pe_int)
      (pss_cons (ps_for PassesOwn.never rfl (pi_tup (pv 0)) (pg_name (i := 3) scW.nd rfl (Or.inl rfl))
        (pss_cons (ps_set (i := 2) scW.nd rfl (Or.inl rfl) (pe_op op_add (pv 2) (pe_call N.ok hr (by rfl) N.g N.k N.b .nil pass0 (pa_cons (pv 3) (pa_cons (pv 1) pa_nil)))))
        (pss_one (ps_if (pt_cmpR op_gt (pv 2) (pe_gI hmost (by rfl)) (nomark _)) (pss_one (ps_ret (pe_gI hno (by rfl)))) pss_nil))))
      (pss_one (ps_ret (pv 2)))))), ?_⟩
    have e0 : start ["parts", "depth", "many", "part"] [x, .int (4 - n)] = [some x, some (.int (4 - n)), none, none] := rfl
    rw [e0]
    have qf : howF (sizeD n) d = 61 → Q (.int 61) H := fun e => by
      have z := q H (Same.refl H)
      rw [e] at z
      exact z
    refine go_seq ?_
    cases hd with
    | non => exact ⟨_, rfl, _, _, .non, (by decide +kernel : kitB "NoneType" "tuple" = some false), _, rfl, iteT (qf rfl)⟩
    | bl b => exact ⟨_, rfl, _, _, .bl b, (by decide +kernel : kitB "bool" "tuple" = some false), _, rfl, iteT (qf rfl)⟩
    | int i => exact ⟨_, rfl, _, _, .int i, (by decide +kernel : kitB "int" "tuple" = some false), _, rfl, iteT (qf rfl)⟩
    | str i => exact ⟨_, rfl, _, _, .str i, (by decide +kernel : kitB "str" "tuple" = some false), _, rfl, iteT (qf rfl)⟩
    | lst hS ha => exact ⟨_, rfl, _, _, .lst hS ha, (by decide +kernel : kitB "list" "tuple" = some false), _, rfl, iteT (qf rfl)⟩
    | @tup t xs ds hS ha =>
      refine ⟨_, rfl, _, _, .tup hS ha, (by decide +kernel : kitB "tuple" "tuple" = some true), _, rfl, ?_⟩
      walk_at "nx"
      refine iteF ?_
      refine ⟨_, rfl, t, rfl, ⟨_, hS⟩, for_tupD (K := K) (a := t) (xs := xs) (fun i σ H' => Same H H' ∧ ∃ m o, σ = [some (.ref t), some (.int (4 - n)), some (.int m), o] ∧ goL (sizeD n) m (ds.drop i) = goL (sizeD n) 0 ds)
        ⟨Same.refl H, _, _, rfl, rfl⟩ (fun i σ H' _ q => seqT q.1 hS) ?_ ?_⟩
      · rintro D' i v σ H2 hrt hnx - - hi ⟨s2, m, o, rfl, eg⟩
        obtain ⟨dv, hdi, hdv⟩ := DpAll.at ha hi
        have edrop : ds.drop i = dv :: ds.drop (i + 1) := by
          obtain ⟨hlt, e⟩ := List.getElem?_eq_some_iff.mp hdi
          rw [← e]
          exact List.drop_eq_getElem_cons hlt
        rw [edrop] at eg
        walk_at "nx"
        refine ⟨_, rfl, _, rfl, _, rfl, v, dv, rfl, Dp.same s2 hdv, sOkAll.at (by unfold sOk at hso; exact hso.2) hdi, fun H3 s3 => ⟨_, _, rfl, rfl, ?_⟩⟩
        have s0 := s2.trans s3
        refine ⟨_, rfl, _, _, rfl, rfl, _, rfl, ite_dec (fun g => ?_) fun g => hnx _ _ ⟨s0, _, _, rfl, ?_⟩⟩
        · have e : goL (sizeD n) m (dv :: ds.drop (i + 1)) = 61 := if_pos g
          show D'.rt (.int 61) H3
          rw [hrt]
          have z := q H3 s0
          rw [show howF (sizeD n) (.tuple ds) = 61 from eg.symm.trans e] at z
          exact z
        · rw [← eg]
          exact (if_neg g).symm
      · rintro σ H2 ⟨s2, m, o, rfl, eg⟩
        have len : ds.drop xs.length = [] := by
          rw [DpAll.length ha]
          exact List.drop_length
        rw [len] at eg
        have z := q H2 s2
        rw [show howF (sizeD n) (.tuple ds) = m from eg.symm] at z
        exact ⟨_, rfl, z⟩
theorem head4 {w : Str} {ds : List PyData} : headD (4 - ((0 : Nat) : Int)) w ds = false := by
  match ds with
  | [] => rfl
  | [d] => show (decide (w = "forever") && decide ((4 : Int) - ((0 : Nat) : Int) = 0)) = false; rw [decide_eq_false (p := (4 : Int) - ((0 : Nat) : Int) = 0) (by omega), Bool.and_false]
  | [c, d] => show (!decide (w = "forever") && (countD c && decide ((4 : Int) - ((0 : Nat) : Int) < 4))) = false; rw [decide_eq_false (p := (4 : Int) - ((0 : Nat) : Int) < 4) (by omega), Bool.and_false, Bool.and_false]
  | _ :: _ :: _ :: _ => rfl
theorem head_ne {dep : Int} {w : Str} {ds : List PyData} (h : headD dep w ds = true) : ds ≠ [] := fun z => by
  subst z
  cases h
theorem last_of {H : Hp} {v : V} {vs : List V} {ds : List PyData} (h : DpAll K H vs ds) (n : ds ≠ []) : ∃ u, atI (v :: vs) (-1) = some u ∧ Dp K H u (lastD ds) := by
  have hl := DpAll.length h
  have nv : vs ≠ [] := fun z => n (by rw [z] at hl; exact List.length_eq_zero_iff.mp hl.symm)
  have e := List.dropLast_concat_getLast nv
  have hlast : vs[vs.length - 1]? = some (vs.getLast nv) := by rw [← List.getLast?_eq_getElem?, List.getLast?_eq_some_getLast nv]
  obtain ⟨d, hd, hu⟩ := DpAll.at h hlast
  refine ⟨vs.getLast nv, ?_, ?_⟩
  · have z := atI_last (v :: vs.dropLast) (vs.getLast nv)
    rw [List.cons_append, e] at z
    exact z
  · have : lastD ds = d := by
      unfold lastD
      rw [List.getLast?_eq_getElem?, ← hl, hd]
      rfl
    rw [this]
    exact hu
theorem last_ok {ds : List PyData} (h : sOkAll ds) (n : ds ≠ []) : sOk (lastD ds) := by
  have e : ds[ds.length - 1]? = some (lastD ds) := by
    unfold lastD
    rw [← List.getLast?_eq_getElem?]
    cases hl : ds.getLast? with
    | none => exact absurd (List.getLast?_eq_none_iff.mp hl) n
    | some d => rfl
  exact sOkAll.at h e
theorem ok_size0 {f fR fH fG : Addr} {fd dR dH dG : FuncData} (F : FnP K "_size_of" sSize f fd) (T : Prg mg) {k : Nat} (h4 : 4 ≤ k) (R : Def P w K mg base CX0 1 "is_round" fR dR ["part"] (spRound K)) (Hd : Def P w K mg base CX0 4 "_is_head" fH dH ["part", "depth"] (spHead K)) (G : Def P w K mg base CX0 3 "_is_single" fG dG ["part"] (spSing K)) : FnOk P w K mg base CX0 (k + 1) f fd ["part", "depth"] (spSize K 0) := by
  refine F.ok scZ (fun vs H Q E h => ?_) (fun cdv A outer s H vs Q E hr h => ?_)
  · obtain ⟨x, d, rfl, _⟩ := h
    rfl
  · obtain ⟨x, d, rfl, hd, hso, q⟩ := h
    obtain ⟨tn, hno⟩ := T.norow
    have hr1 : Room 1 _ := hr.mono (by omega)
    have hr3 : Room 3 _ := hr.mono (by omega)
    have hr4 : Room 4 _ := hr.mono h4
    refine ⟨_, pss_cons (ps_if (PW.pt (pw_or (pt_not (pt_val (pe_isD T.isn (pv 0) (pe_bltn (by rfl) T.tuple bbT (by rfl)) (by rfl)))) (pw_or (pt_not (pt_truth (pv 0) (fun _ => rfl))) (pw_or1 (pt_not (pt_val (pe_isD T.isn (pe_ix ix_tup (pv 0) pe_int (fun _ _ => rfl)) (pe_bltn (by rfl) T.str bbS (by rfl)) (by rfl)))))))) (pss_one (ps_ret (pe_gI hno (by rfl)))) pss_nil)
      (pss_cons (ps_if (pt_val (pe_call R.ok hr1 (by rfl) R.g R.k R.b .nil pass0 (pa_cons (pv 0) pa_nil))) (pss_one (ps_ret (pe_ifExp (pt_val (pe_call Hd.ok hr4 (by rfl) Hd.g Hd.k Hd.b .nil pass0 (pa_cons (pv 0) (pa_cons (pv 1) pa_nil)))) (pe_op op_add pe_int pe_never) (pe_gI hno (by rfl))))) pss_nil)
      (pss_one (ps_ret (pe_ifExp (pt_val (pe_call G.ok hr3 (by rfl) G.g G.k G.b .nil pass0 (pa_cons (pv 0) pa_nil))) pe_int (pe_gI hno (by rfl)))))), ?_⟩
    have e0 : start ["part", "depth"] [x, .int (4 - ((0 : Nat) : Int))] = [some x, some (.int (4 - ((0 : Nat) : Int)))] := rfl
    rw [e0]
    have qf : ∀ H', Same H H' → sizeD (0) d = 61 → Q (.int 61) H' := fun H' s' e => by
      have z := q H' s'
      rw [e] at z
      exact z
    refine go_seq ?_
    cases hd with
    | non => exact ⟨_, rfl, _, _, .non, (by decide +kernel : kitB "NoneType" "tuple" = some false), _, rfl, iteT (iteT (qf H (Same.refl H) rfl))⟩
    | bl b => exact ⟨_, rfl, _, _, .bl b, (by decide +kernel : kitB "bool" "tuple" = some false), _, rfl, iteT (iteT (qf H (Same.refl H) rfl))⟩
    | int i => exact ⟨_, rfl, _, _, .int i, (by decide +kernel : kitB "int" "tuple" = some false), _, rfl, iteT (iteT (qf H (Same.refl H) rfl))⟩
    | str i => exact ⟨_, rfl, _, _, .str i, (by decide +kernel : kitB "str" "tuple" = some false), _, rfl, iteT (iteT (qf H (Same.refl H) rfl))⟩
    | lst hS ha => exact ⟨_, rfl, _, _, .lst hS ha, (by decide +kernel : kitB "list" "tuple" = some false), _, rfl, iteT (iteT (qf H (Same.refl H) rfl))⟩
    | @tup t xs ds hS ha =>
      refine ⟨_, rfl, _, _, .tup hS ha, (by decide +kernel : kitB "tuple" "tuple" = some true), _, rfl, iteF ⟨_, rfl, _, .inr (.inl ⟨xs, hS, rfl⟩), ?_⟩⟩
      have hd : Dp K H (.ref t) (.tuple ds) := .tup hS ha
      cases ha with
      | nil => exact iteT (qf H (Same.refl H) rfl)
      | @cons v vs d1 rest h1 h2 =>
        refine iteF ⟨_, rfl, t, _, 0, v, rfl, rfl, hS, at0, ?_⟩
        cases h1 with
        | non => exact ⟨_, _, .non, (by decide +kernel : kitB "NoneType" "str" = some false), _, rfl, qf H (Same.refl H) rfl⟩
        | bl b => exact ⟨_, _, .bl b, (by decide +kernel : kitB "bool" "str" = some false), _, rfl, qf H (Same.refl H) rfl⟩
        | int i => exact ⟨_, _, .int i, (by decide +kernel : kitB "int" "str" = some false), _, rfl, qf H (Same.refl H) rfl⟩
        | lst hS2 ha2 => exact ⟨_, _, .lst hS2 ha2, (by decide +kernel : kitB "list" "str" = some false), _, rfl, qf H (Same.refl H) rfl⟩
        | tup hS2 ha2 => exact ⟨_, _, .tup hS2 ha2, (by decide +kernel : kitB "tuple" "str" = some false), _, rfl, qf H (Same.refl H) rfl⟩
        | str w =>
          have hsr : sOkAll rest := by unfold sOk sOkAll at hso; exact hso.2.2
          refine ⟨_, _, .str w, (by decide +kernel : kitB "str" "str" = some true), _, rfl, ?_⟩
          walk_at "nx"
          refine ⟨_, rfl, _, w, rest, rfl, hd, fun H1 s1 => ⟨_, rfl, ?_⟩⟩
          cases hw : roundW w with
          | false =>
            have e : sizeD (0) (.tuple (.str w :: rest)) = if singD w rest then 1 else 61 := by
              show (if roundW w then _ else _) = _
              rw [hw]
              rfl
            walk_at "nx"
            refine ⟨_, rfl, _, w, rest, rfl, Dp.same s1 hd, hsr, fun H2 s2 => ⟨_, rfl, ?_⟩⟩
            have z := q H2 (s1.trans s2)
            rw [e] at z
            cases hs : singD w rest with
            | false => rw [hs] at z; exact z
            | true => rw [hs] at z; exact z
          | true =>
            refine ⟨_, rfl, _, rfl, _, _, w, rest, rfl, Dp.same s1 hd, _, rfl, ?_⟩
            rw [show headD (4 - ((0 : Nat) : Int)) w rest = false from head4]
            refine qf H1 s1 ?_
            show (if roundW w then (61 : Int) else _) = 61
            rw [hw]
            rfl
theorem ok_sizeS {m : Nat} {f fR fH fG : Addr} {fd dR dH dG : FuncData} (F : FnP K "_size_of" sSize f fd) (T : Prg mg) {k : Nat} (h4 : 4 ≤ k) (R : Def P w K mg base CX0 1 "is_round" fR dR ["part"] (spRound K)) (Hd : Def P w K mg base CX0 4 "_is_head" fH dH ["part", "depth"] (spHead K)) (G : Def P w K mg base CX0 3 "_is_single" fG dG ["part"] (spSing K)) {fW : Addr} {dW : FuncData} (N : Def P w K mg base CX0 k "_how_many" fW dW ["parts", "depth"] (spHow K m)) : FnOk P w K mg base CX0 (k + 1) f fd ["part", "depth"] (spSize K (m + 1)) := by
  refine F.ok scZ (fun vs H Q E h => ?_) (fun cdv A outer s H vs Q E hr h => ?_)
  · obtain ⟨x, d, rfl, _⟩ := h
    rfl
  · obtain ⟨x, d, rfl, hd, hso, q⟩ := h
    obtain ⟨tn, hno⟩ := T.norow
    have hr1 : Room 1 _ := hr.mono (by omega)
    have hr3 : Room 3 _ := hr.mono (by omega)
    have hr4 : Room 4 _ := hr.mono h4
    refine ⟨_, pss_cons (ps_if (PW.pt (pw_or (pt_not (pt_val (pe_isD T.isn (pv 0) (pe_bltn (by rfl) T.tuple bbT (by rfl)) (by rfl)))) (pw_or (pt_not (pt_truth (pv 0) (fun _ => rfl))) (pw_or1 (pt_not (pt_val (pe_isD T.isn (pe_ix ix_tup (pv 0) pe_int (fun _ _ => rfl)) (pe_bltn (by rfl) T.str bbS (by rfl)) (by rfl)))))))) (pss_one (ps_ret (pe_gI hno (by rfl)))) pss_nil)
      (pss_cons (ps_if (pt_val (pe_call R.ok hr1 (by rfl) R.g R.k R.b .nil pass0 (pa_cons (pv 0) pa_nil))) (pss_one (ps_ret (pe_ifExp (pt_val (pe_call Hd.ok hr4 (by rfl) Hd.g Hd.k Hd.b .nil pass0 (pa_cons (pv 0) (pa_cons (pv 1) pa_nil)))) (pe_op op_add pe_int (pe_call N.ok hr (by rfl) N.g N.k N.b .nil pass0 (pa_cons (pe_ix ix_tup (pv 0) (pe_un un_neg pe_int) (fun _ _ => rfl)) (pa_cons (pe_op op_add (pv 1) pe_int) pa_nil)))) (pe_gI hno (by rfl))))) pss_nil)
      (pss_one (ps_ret (pe_ifExp (pt_val (pe_call G.ok hr3 (by rfl) G.g G.k G.b .nil pass0 (pa_cons (pv 0) pa_nil))) pe_int (pe_gI hno (by rfl)))))), ?_⟩
    have e0 : start ["part", "depth"] [x, .int (4 - (((m + 1) : Nat) : Int))] = [some x, some (.int (4 - (((m + 1) : Nat) : Int)))] := rfl
    rw [e0]
    have qf : ∀ H', Same H H' → sizeD ((m + 1)) d = 61 → Q (.int 61) H' := fun H' s' e => by
      have z := q H' s'
      rw [e] at z
      exact z
    refine go_seq ?_
    cases hd with
    | non => exact ⟨_, rfl, _, _, .non, (by decide +kernel : kitB "NoneType" "tuple" = some false), _, rfl, iteT (iteT (qf H (Same.refl H) rfl))⟩
    | bl b => exact ⟨_, rfl, _, _, .bl b, (by decide +kernel : kitB "bool" "tuple" = some false), _, rfl, iteT (iteT (qf H (Same.refl H) rfl))⟩
    | int i => exact ⟨_, rfl, _, _, .int i, (by decide +kernel : kitB "int" "tuple" = some false), _, rfl, iteT (iteT (qf H (Same.refl H) rfl))⟩
    | str i => exact ⟨_, rfl, _, _, .str i, (by decide +kernel : kitB "str" "tuple" = some false), _, rfl, iteT (iteT (qf H (Same.refl H) rfl))⟩
    | lst hS ha => exact ⟨_, rfl, _, _, .lst hS ha, (by decide +kernel : kitB "list" "tuple" = some false), _, rfl, iteT (iteT (qf H (Same.refl H) rfl))⟩
    | @tup t xs ds hS ha =>
      refine ⟨_, rfl, _, _, .tup hS ha, (by decide +kernel : kitB "tuple" "tuple" = some true), _, rfl, iteF ⟨_, rfl, _, .inr (.inl ⟨xs, hS, rfl⟩), ?_⟩⟩
      have hd : Dp K H (.ref t) (.tuple ds) := .tup hS ha
      cases ha with
      | nil => exact iteT (qf H (Same.refl H) rfl)
      | @cons v vs d1 rest h1 h2 =>
        refine iteF ⟨_, rfl, t, _, 0, v, rfl, rfl, hS, at0, ?_⟩
        cases h1 with
        | non => exact ⟨_, _, .non, (by decide +kernel : kitB "NoneType" "str" = some false), _, rfl, qf H (Same.refl H) rfl⟩
        | bl b => exact ⟨_, _, .bl b, (by decide +kernel : kitB "bool" "str" = some false), _, rfl, qf H (Same.refl H) rfl⟩
        | int i => exact ⟨_, _, .int i, (by decide +kernel : kitB "int" "str" = some false), _, rfl, qf H (Same.refl H) rfl⟩
        | lst hS2 ha2 => exact ⟨_, _, .lst hS2 ha2, (by decide +kernel : kitB "list" "str" = some false), _, rfl, qf H (Same.refl H) rfl⟩
        | tup hS2 ha2 => exact ⟨_, _, .tup hS2 ha2, (by decide +kernel : kitB "tuple" "str" = some false), _, rfl, qf H (Same.refl H) rfl⟩
        | str w =>
          have hsr : sOkAll rest := by unfold sOk sOkAll at hso; exact hso.2.2
          refine ⟨_, _, .str w, (by decide +kernel : kitB "str" "str" = some true), _, rfl, ?_⟩
          walk_at "nx"
          refine ⟨_, rfl, _, w, rest, rfl, hd, fun H1 s1 => ⟨_, rfl, ?_⟩⟩
          cases hw : roundW w with
          | false =>
            have e : sizeD ((m + 1)) (.tuple (.str w :: rest)) = if singD w rest then 1 else 61 := by
              show (if roundW w then _ else _) = _
              rw [hw]
              rfl
            walk_at "nx"
            refine ⟨_, rfl, _, w, rest, rfl, Dp.same s1 hd, hsr, fun H2 s2 => ⟨_, rfl, ?_⟩⟩
            have z := q H2 (s1.trans s2)
            rw [e] at z
            cases hs : singD w rest with
            | false => rw [hs] at z; exact z
            | true => rw [hs] at z; exact z
          | true =>
            refine ⟨_, rfl, _, rfl, _, _, w, rest, rfl, Dp.same s1 hd, _, rfl, ?_⟩
            have e : sizeD (m + 1) (.tuple (.str w :: rest)) = if headD (4 - ((m + 1 : Nat) : Int)) w rest then 1 + howF (sizeD m) (lastD rest) else 61 := by
              show (if roundW w then (if headD (3 - (m : Int)) w rest then 1 + howF (sizeD m) (lastD rest) else 61) else _) = _
              rw [hw, if_pos rfl, show (3 : Int) - m = 4 - ((m + 1 : Nat) : Int) by omega]
            cases hh : headD (4 - ((m + 1 : Nat) : Int)) w rest with
            | false =>
              refine qf H1 s1 ?_
              rw [e, hh]
              rfl
            | true =>
              obtain ⟨vl, hvl, hdl⟩ := last_of (v := .str w) (DpAll.same s1 h2) (head_ne hh)
              refine ⟨_, rfl, 1, rfl, t, _, -1, vl, rfl, rfl, seqT s1 hS, hvl, _, rfl, _, _, rfl, rfl, vl, lastD rest, ?_, hdl, last_ok hsr (head_ne hh), fun H2 s2 => ⟨_, _, rfl, rfl, ?_⟩⟩
              · have e9 : (4 : Int) - ((m + 1 : Nat) : Int) + 1 = 4 - m := by omega
                show [vl, V.int (4 - ((m + 1 : Nat) : Int) + 1)] = _
                rw [e9]
              · have z := q H2 (s1.trans s2)
                rw [e, hh] at z
                exact z
end
end L2.L86

set_option maxHeartbeats 4000000
namespace L2.L86
open PySem PySem.Spec PyProof.Rows NumText LR L2.Lr L2.Tx TL
local macro_rules | `(tactic| walk_at "nx") => `(tactic| dsimp only [gName, tNext, tSeq, tAsg, List.set_cons_zero, List.set_cons_succ])
theorem scO : FnScope ["thing"] ["thing"] (defScope sWord) := ⟨rfl, rfl, rfl, by decide +kernel, rfl, by decide +kernel, by decide +kernel⟩
section
variable {P : Program} {w : World} {K : PySem.W.Frag} {mg : Str → Option Value} {base : Heap}
theorem ok_word {f : Addr} {fd : FuncData} (F : FnP K "is_word" sWord f fd) (T : Prg mg) {t2 : Tok} (hlw : mg "LONGEST_WORD" = some (.int 8 t2)) : FnOk P w K mg base CX0 1 f fd ["thing"] (spWord K) := by
  refine F.ok scO (fun vs H Q E h => ?_) (fun cdv A outer s H vs Q E hr h => ?_)
  · obtain ⟨x, d, rfl, _⟩ := h
    rfl
  · obtain ⟨x, d, rfl, hd, hso, q⟩ := h
    have q := q H (Same.refl H)
    refine ⟨_, pss_cons (ps_if (PW.pt (pw_or (pt_not (pt_val (pe_isD T.isn (pv 0) (pe_bltn (by rfl) T.str bbS (by rfl)) (by rfl)))) (pw_or1 (pt_not (pt_chain op_le op_le pe_int (pe_callB call_len_str (by rfl) T.len boot_len (pa_cons (pv 0) pa_nil)) (pe_gI hlw (by rfl))))))) (pss_one (ps_ret pe_bl)) pss_nil)
      (pss_one (ps_ret (pe_and (pe_m0 PySem.F.slot_str_isascii PySem.F.type_str_isascii mt_isascii (pv 0)) (pe_and (pe_m0 PySem.F.slot_str_isalpha PySem.F.type_str_isalpha mt_isalpha (pv 0)) (pe_one (pe_m0 PySem.F.slot_str_islower PySem.F.type_str_islower mt_islower (pv 0))))))), ?_⟩
    have e0 : start ["thing"] [x] = [some x] := rfl
    rw [e0]
    refine go_seq ?_
    have no : ∀ {t : String} (b : kitB t "str" = some false), TyX K H x (.type t) → wordD d = false → True := fun _ _ _ => trivial
    cases hd with
    | non => exact ⟨_, rfl, _, _, .non, (by decide +kernel : kitB "NoneType" "str" = some false), _, rfl, iteT (iteT q)⟩
    | bl b => exact ⟨_, rfl, _, _, .bl b, (by decide +kernel : kitB "bool" "str" = some false), _, rfl, iteT (iteT q)⟩
    | int i => exact ⟨_, rfl, _, _, .int i, (by decide +kernel : kitB "int" "str" = some false), _, rfl, iteT (iteT q)⟩
    | lst hS ha => exact ⟨_, rfl, _, _, .lst hS ha, (by decide +kernel : kitB "list" "str" = some false), _, rfl, iteT (iteT q)⟩
    | tup hS ha => exact ⟨_, rfl, _, _, .tup hS ha, (by decide +kernel : kitB "tuple" "str" = some false), _, rfl, iteT (iteT q)⟩
    | str t =>
      have hs : t.length ≤ sizeLine := by unfold sOk at hso; exact hso.1
      have wd : wordD (.str t) = ((decide (1 ≤ t.length) && decide (t.length ≤ 8)) && (PySem.Txt.isascii t && (PySem.Txt.isalpha t && PySem.Txt.islower t))) := by
        show ((decide (1 ≤ t.length) && decide (t.length ≤ 8)) && (TL.tl t).all fun c => decide (c ∈ letters)) = _
        by_cases h1 : 1 ≤ t.length
        · rw [L2.Tx.word_letters h1]
          rfl
        · rw [decide_eq_false h1]
          rfl
      rw [wd] at q
      refine ⟨_, rfl, _, _, .str t, (by decide +kernel : kitB "str" "str" = some true), _, rfl, iteF ?_⟩
      refine ⟨_, rfl, t, rfl, hs, _, _, rfl, rfl, _, rfl, ite_dec (fun g1 => ?_) fun g1 => ?_⟩
      · refine ⟨_, _, rfl, rfl, _, rfl, ?_⟩
        by_cases g2 : (t.length : Int) ≤ 8
        · rw [decide_eq_true g2]
          rw [decide_eq_true (show 1 ≤ t.length by omega), decide_eq_true (show t.length ≤ 8 by omega), Bool.and_self, Bool.true_and] at q
          refine iteF ?_
          refine ⟨_, rfl, ⟨_, rfl⟩, t, rfl, rfl, trivial, _, rfl, ?_⟩
          cases h1 : PySem.Txt.isascii t with
          | false => rw [h1] at q; exact iteF q
          | true =>
            rw [h1] at q
            refine iteT ⟨_, rfl, ⟨_, rfl⟩, t, rfl, rfl, trivial, _, rfl, ?_⟩
            cases h2 : PySem.Txt.isalpha t with
            | false => rw [h2] at q; exact iteF q
            | true => rw [h2] at q; exact iteT ⟨_, rfl, ⟨_, rfl⟩, t, rfl, rfl, trivial, q⟩
        · rw [decide_eq_false g2]
          rw [decide_eq_false (show ¬ t.length ≤ 8 by omega), Bool.and_false, Bool.false_and] at q
          exact iteT q
      · rw [decide_eq_false (show ¬ 1 ≤ t.length by omega), Bool.false_and, Bool.false_and] at q
        exact ⟨_, rfl, iteT q⟩
end
end L2.L86

set_option maxHeartbeats 4000000
namespace L2.L86
open PySem PySem.Spec PyProof.Rows NumText LR L2.Lr L2.Tx TL
local macro_rules | `(tactic| walk_at "nx") => `(tactic| dsimp only [gName, tNext, tSeq, tAsg, List.set_cons_zero, List.set_cons_succ])
theorem scRo : FnScope ["self", "value"] ["self", "value"] (defScope sRoom) := ⟨rfl, rfl, rfl, by decide +kernel, rfl, by decide +kernel, by decide +kernel⟩
theorem scFi : FnScope ["text", "most", "sign"] ["text", "most"] (defScope sFig) := ⟨rfl, rfl, rfl, by decide +kernel, rfl, by decide +kernel, by decide +kernel⟩
theorem scFo : FnScope ["count"] ["count"] (defScope sForm) := ⟨rfl, rfl, rfl, by decide +kernel, rfl, by decide +kernel, by decide +kernel⟩
theorem scCh : FnScope ["count"] ["count"] (defScope sChk) := ⟨rfl, rfl, rfl, by decide +kernel, rfl, by decide +kernel, by decide +kernel⟩
theorem scWr : FnScope ["count", "a", "b", "head"] ["count"] (defScope sWrit) := ⟨rfl, rfl, rfl, by decide +kernel, rfl, by decide +kernel, by decide +kernel⟩
theorem scRe : FnScope ["text", "count"] ["text"] (defScope sRead) := ⟨rfl, rfl, rfl, by decide +kernel, rfl, by decide +kernel, by decide +kernel⟩
theorem scFr : FnScope ["text", "head", "letter", "tail", "a", "b"] ["text"] (defScope sFree) := ⟨rfl, rfl, rfl, by decide +kernel, rfl, by decide +kernel, by decide +kernel⟩
def CT (K : PySem.W.Frag) : Addr := He.ga K "BadText"
def CC (K : PySem.W.Frag) : Addr := He.ga K "BadCount"
def CB (K : PySem.W.Frag) : Addr := He.ga K "BadRow"
def CE (K : PySem.W.Frag) : Addr := He.ga K "BadEvents"
def CP (K : PySem.W.Frag) : Addr := He.ga K "BadPlan"
def CR (K : PySem.W.Frag) : Addr := He.ga K "Row"
def fV (K : PySem.W.Frag) : Addr := He.ma K (He.ga K "RoomError") "__init__"
structure Xt (K : PySem.W.Frag) (mg : Str → Option Value) (x : Str) (C : Addr) : Prop where
  g : mg x = some (.ref C)
  x : XC K xV C
  nv : PySem.W.findIn K (.ref C) "value" = some none
  iC : PySem.W.findIn K (.ref C) "__init__" = some (some (.ref (fV K)))
  e : PySem.W.exmOne K (.ref C) (.ref C) = some true
  kB : PySem.W.kitOne K (.ref C) (.type "ValueError") = some true
structure Txt (K : PySem.W.Frag) (mg : Str → Option Value) : Prop where
  p : Prg mg
  all : mg "all" = none
  list : mg "list" = none
  set : mg "set" = none
  enum : mg "enumerate" = none
  range : mg "range" = none
  max : mg "max" = none
  min : mg "min" = none
  repr : mg "repr" = none
  vE : mg "ValueError" = none
  word : ∃ t, mg "LONGEST_WORD" = some (.int 8 t)
  lonc : ∃ t, mg "LONGEST_TEXT_counts" = some (.int 34 t)
  lont : ∃ t, mg "LONGEST_TEXT_texts" = some (.int 2640 t)
  figs : ∃ t, mg "FIGURES" = some (.str "0123456789" t)
  first : ∃ t, mg "MOST_FIRST" = some (.int 99 t)
  lroom : ∃ t, mg "LARGEST_ROOM" = some (.int (10 ^ 200) t)
  fnum : ∃ t, mg "FIGURES_OF_NUMBER" = some (.int 31 t)
  froom : ∃ t, mg "FIGURES_OF_ROOM" = some (.int 201 t)
  xT : Xt K mg "BadText" (CT K)
  xC : Xt K mg "BadCount" (CC K)
  xB : Xt K mg "BadRow" (CB K)
  xE : Xt K mg "BadEvents" (CE K)
  xP : Xt K mg "BadPlan" (CP K)
  tI : PySem.W.typeIn K (.ref (fV K)) = some (.type "function")
  gR : mg "Row" = some (.ref (CR K))
  cl : Cls K (CR K)
  nP : NoAttr K (CR K) "parts"
  nS : NoAttr K (CR K) "size"
  ic : C8.InsC K (CR K)
structure Rm (P : Program) (w : World) (K : PySem.W.Frag) (mg : Str → Option Value) (base : Heap) (dV : FuncData) : Prop where
  ok : FnOk P w K mg base CX0 1 (fV K) dV ["self", "value"] (L2.Lr.spIni K)
  b : Binds K dV ["self", "value"] []
def figO (cs : List Nat) (m : Nat) : Option Nat := if ((decide (1 ≤ cs.length) && decide (cs.length ≤ m)) && cs.all dig) && (decide (cs = [48]) || decide (cs.head? ≠ some 48)) then some (digitsVal cs) else none
def optV : Option Nat → V
  | none => .non
  | some n => .int (n : Int)
def optD : Option Nat → PyData
  | none => .none
  | some n => .int (n : Int)
theorem optVD {K : PySem.W.Frag} {H : Hp} (o : Option Nat) : Dp K H (optV o) (optD o) := by
  cases o with
  | none => exact .non
  | some n => exact .int _
def tailD (S : List Nat) : PyData := if S = [] then .int 0 else match figO S.tail 34 with
  | none => .none
  | some n => .int (if S.head? = some 45 then -(n : Int) else n)
def freeD (t : Str) : PyData :=
  if (Txt.partition t nT).2.1 = Str.empty then .tuple [.int 0, optD (figO (tl t) 34)]
  else .tuple [if (Txt.partition t nT).1 = Str.empty then .int 1 else optD (figO (tl (Txt.partition t nT).1) 34), tailD (tl (Txt.partition t nT).2.2)]
def cntD (t : Str) : PyData := match cntV t with
  | some (a, b) => .tuple [.int a, .int b]
  | none => .none
def readD : PyData → PyData
  | .str t => cntD t
  | _ => .none
theorem numOk_fig {cs : List Nat} (h : numOk cs = true) : figO cs 34 = some (digitsVal cs) := by
  obtain ⟨h1, h2⟩ := Bool.and_eq_true_iff.mp h
  obtain ⟨h3, h4⟩ := Bool.and_eq_true_iff.mp h1
  obtain ⟨h5, h6⟩ := Bool.and_eq_true_iff.mp h4
  obtain ⟨h7, _⟩ := Bool.and_eq_true_iff.mp h2
  have h5 := of_decide_eq_true h5
  have hne : 1 ≤ cs.length := by
    cases cs with
    | nil => cases h3
    | cons c r => simp
  unfold figO
  rw [decide_eq_true hne, decide_eq_true (by omega), h6, h7]
  rfl
theorem valid_count {a b : Int} : countD (.tuple [.int a, .int b]) = validC a b := rfl
theorem free_of {t : Str} {a b : Int} (h : cntV t = some (a, b)) : freeD t = .tuple [.int a, .int b] := by
  unfold cntV at h
  unfold freeD
  split at h
  · rename_i hm
    rw [if_pos hm]
    split at h
    · rename_i hn
      cases h
      rw [numOk_fig hn]
      rfl
    · cases h
  · rename_i hm
    rw [if_neg hm]
    generalize (Txt.partition t nT).1 = A at h ⊢
    generalize (Txt.partition t nT).2.2 = S at h ⊢
    cases hh : headV (tl A) with
    | none => rw [hh] at h; cases h
    | some a' =>
      cases ht : tailV (tl S) with
      | none => rw [hh, ht] at h; cases h
      | some b' =>
        rw [hh, ht] at h
        cases h
        have e1 : (if A = Str.empty then PyData.int 1 else optD (figO (tl A) 34)) = .int a := by
          unfold headV at hh
          split at hh
          · rename_i e
            cases hh
            rw [if_pos (tl_empty.mpr e)]
          · rename_i e
            rw [if_neg fun z => e (tl_empty.mp z)]
            split at hh
            · rename_i hk
              cases hh
              rw [numOk_fig hk.1]
              rfl
            · cases hh
        have e2 : tailD (tl S) = .int b := by
          unfold tailD
          cases hS : tl S with
          | nil =>
            rw [hS] at ht
            cases ht
            rfl
          | cons c cs =>
            rw [hS] at ht
            have e3 : (if (c = 43 ∨ c = 45) ∧ numOk cs = true ∧ digitsVal cs ≠ 0 then some (if c = 43 then ((digitsVal cs : Nat) : Int) else -((digitsVal cs : Nat) : Int)) else none) = some b := ht
            split at e3
            · rename_i hk
              obtain ⟨k1, k2, _⟩ := hk
              rw [if_neg (List.cons_ne_nil _ _), List.tail_cons, numOk_fig k2]
              rcases k1 with rfl | rfl
              · cases e3
                rfl
              · cases e3
                rfl
            · cases e3
        rw [e1, e2]
theorem read_no {t : Str} (h : countD (freeD t) = false) : cntD t = .none := by
  unfold cntD
  cases hc : cntV t with
  | none => rfl
  | some p =>
    obtain ⟨a, b⟩ := p
    have e := free_of hc
    have hv := (cntV_iff.mp hc).1
    rw [e, valid_count, hv] at h
    cases h
theorem read_yes {t : Str} {a b : Int} (h : countD (freeD t) = true) (e : freeD t = .tuple [.int a, .int b]) (ec : cntT a b = t) : cntD t = .tuple [.int a, .int b] := by
  have hc : cntV t = some (a, b) := cntV_iff.mpr ⟨by rw [← valid_count, ← e]; exact h, ec⟩
  unfold cntD
  rw [hc]
theorem read_other {t : Str} {a b : Int} (e : freeD t = .tuple [.int a, .int b]) (ec : cntT a b ≠ t) : cntD t = .none := by
  unfold cntD
  cases hc : cntV t with
  | none => rfl
  | some p =>
    obtain ⟨a', b'⟩ := p
    have e2 := free_of hc
    rw [e] at e2
    cases e2
    exact absurd (cntV_iff.mp hc).2 ec
theorem read_long {t : Str} (h : 34 < t.length) : cntD t = .none := by
  unfold cntD
  cases hc : cntV t with
  | none => rfl
  | some p =>
    obtain ⟨a', b'⟩ := p
    have := cnt_len (cntV_iff.mp hc)
    omega
theorem cntD_cases (t : Str) : cntD t = .none ∨ ∃ a b, cntD t = .tuple [.int a, .int b] ∧ cntV t = some (a, b) := by
  unfold cntD
  cases hc : cntV t with
  | none => exact .inl rfl
  | some p => exact .inr ⟨p.1, p.2, rfl, rfl⟩
theorem readD_cases (d : PyData) : readD d = .none ∨ ∃ a b, readD d = .tuple [.int a, .int b] := by
  cases d with
  | str t =>
    rcases cntD_cases t with h | ⟨a, b, h, _⟩
    · exact .inl h
    · exact .inr ⟨a, b, h⟩
  | _ => exact .inl rfl
theorem dig_mem (c : Nat) : decide (c ∈ ("0123456789" : Str).cps.toList) = dig c := by
  have e : ("0123456789" : Str).cps.toList = [48, 49, 50, 51, 52, 53, 54, 55, 56, 57] := by decide +kernel
  rw [e]
  by_cases h : 48 ≤ c ∧ c ≤ 57
  · have : c = 48 ∨ c = 49 ∨ c = 50 ∨ c = 51 ∨ c = 52 ∨ c = 53 ∨ c = 54 ∨ c = 55 ∨ c = 56 ∨ c = 57 := by omega
    rcases this with rfl | rfl | rfl | rfl | rfl | rfl | rfl | rfl | rfl | rfl <;> rfl
  · have hd : dig c = false := by
      unfold dig
      by_cases h1 : 48 ≤ c
      · rw [decide_eq_false (show ¬ c ≤ 57 by omega), Bool.and_false]
      · rw [decide_eq_false h1, Bool.false_and]
    rw [hd]
    refine decide_eq_false fun m => ?_
    simp only [List.mem_cons, List.not_mem_nil, or_false] at m
    omega
theorem preC_pos {a : Int} (h : 1 ≤ a) (h9 : a ≤ 9) : (preC a).length ≤ 1 := by
  rw [len_tl]
  unfold preC
  split
  · exact Nat.zero_le _
  · rw [tl_int]
    unfold sgnL
    rw [if_neg (by omega), numL_lt (by omega)]
    exact Nat.le_refl _
def spWrit (K : PySem.W.Frag) : Sp := fun vs H Q _ => ∃ x a b, vs = [x] ∧ Dp K H x (.tuple [.int a, .int b]) ∧ validC a b = true ∧ Q (.str (cntT a b)) H
def spFig : Sp := fun vs H Q _ => ∃ (t : Str) (m : Nat), vs = [.str t, .int m] ∧ t.length ≤ sizeLine ∧ m ≤ 600 ∧ ∀ H', Same H H' → Q (optV (figO (tl t) m)) H'
def spFree (K : PySem.W.Frag) : Sp := fun vs H Q _ => ∃ t : Str, vs = [.str t] ∧ t.length ≤ 34 ∧ ∀ v H', Same H H' → Dp K H' v (freeD t) → Q v H'
def spRead (K : PySem.W.Frag) : Sp := fun vs H Q _ => ∃ x d, vs = [x] ∧ Dp K H x d ∧ (∀ t, d = .str t → t.length ≤ sizeLine) ∧ ∀ v H', Same H H' → Dp K H' v (readD d) → Q v H'
def spChk (K : PySem.W.Frag) : Sp := fun vs H Q E => ∃ x d, vs = [x] ∧ Dp K H x d ∧ ((countD d = true ∧ Q .non H) ∨ (countD d = false ∧ Bad (CC K) x H E))
def spForm (K : PySem.W.Frag) : Sp := fun vs H Q E => ∃ x d, vs = [x] ∧ Dp K H x d ∧ ((countD d = false ∧ Bad (CC K) x H E) ∨ ∃ a b : Int, d = .tuple [.int a, .int b] ∧ countD d = true ∧ Q (.str (cntT a b)) H)
theorem log_lt {a : Int} (h : a.natAbs ≤ 10 ^ 30) : a.natAbs.log2 < 1920 := by
  have h2 : a.natAbs < 2 ^ 1920 := Nat.lt_of_le_of_lt h (by decide +kernel)
  by_cases h0 : a.natAbs = 0
  · rw [h0]; decide
  · exact (Nat.log2_lt h0).mpr h2
theorem len_int {a : Int} (h : a.natAbs ≤ 10 ^ 30) : (intT a).length ≤ 32 := by
  have hb : (numL a.natAbs).length ≤ 31 := numL_len (by decide) (Nat.lt_of_le_of_lt h (by decide))
  rw [len_tl, tl_int]
  unfold sgnL
  split
  · rw [List.length_cons]; omega
  · omega
theorem len_plus {a : Int} (h : a.natAbs ≤ 10 ^ 30) : (plusT a).length ≤ 32 := by
  have hb : (numL a.natAbs).length ≤ 31 := numL_len (by decide) (Nat.lt_of_le_of_lt h (by decide))
  rw [len_tl, tl_plus]
  unfold plusL
  rw [List.length_cons]; omega
theorem valid_nat {a b : Int} (h : validC a b = true) : (0 ≤ a ∧ a ≤ 9) ∧ b.natAbs ≤ 10 ^ 30 ∧ (a > 0 ∨ b ≥ 0) := by
  have e30 : (10 : Int) ^ 30 = ((10 ^ 30 : Nat) : Int) := by decide +kernel
  obtain ⟨h1, h2, h3⟩ := valid_iff.mp h
  exact ⟨h1, by rw [e30] at h2; omega, h3⟩
theorem intText_dig {t : Str} (h : (tl t).all dig = true) (h1 : 1 ≤ (tl t).length) (h2 : (tl t).length ≤ 600) : intText? t = some ((digitsVal (tl t) : Nat) : Int) := by
  have z := intText_digits (x := t) (dig_all.mp h) (fun e => by rw [show tl t = [] from e] at h1; cases h1) (by rw [len_tl]; omega)
  exact z
section
variable {P : Program} {w : World} {K : PySem.W.Frag} {mg : Str → Option Value} {base : Heap}
theorem ok_room {f : Addr} {fd : FuncData} (F : FnM K "__init__" "RoomError.__init__" sRoom f fd) : FnOk P w K mg base CX0 1 f fd ["self", "value"] (L2.Lr.spIni K) := by
  refine F.ok scRo (fun vs H Q E h => ?_) (fun cdv A outer s H vs Q E hr h => ?_)
  · obtain ⟨a, C, k, y, rfl, _⟩ := h
    rfl
  · obtain ⟨a, C, k, y, rfl, Sf, T, nv, ha, go⟩ := h
    refine ⟨_, pss_one (ps_stX (pv 0) (pv 1)), _, rfl, _, rfl, a, C, k, rfl, Sf, T, nv, .inl ⟨ha, fun dx hd ne => go _ dx hd ne (fun b o z nb => ?_) upd_same ((upd_ne ne).trans upd_same)⟩⟩
    exact (upd_ne nb).trans ((upd_ne (ne_of_none z hd)).trans z)
theorem ok_chk {f fB : Addr} {fd dB dV : FuncData} (F : FnP K "_check_count" sChk f fd) (T : Txt K mg) (N : Def P w K mg base CX0 3 "is_count" fB dB ["thing"] (spCount K)) (Z : Rm P w K mg base dV) : FnOk P w K mg base (L2.CX P w) 4 f fd ["count"] (spChk K) := by
  refine F.ok scCh (fun vs H Q E h => ?_) (fun cdv A outer s H vs Q E hr h => ?_)
  · obtain ⟨x, d, rfl, _⟩ := h
    rfl
  · obtain ⟨x, d, rfl, hd, h⟩ := h
    refine ⟨_, pss_one (ps_if (pt_not (pt_val (pe_call N.ok hr (by rfl) N.g N.k N.b .nil pass0 (pa_cons (pv 0) pa_nil)))) (pss_one (ps_raise rfl (takes_of rfl rfl rfl rfl) (pmk_new sV T.xC.x T.xC.nv T.xC.iC T.tI Z.ok (hr.mono (by decide)) Z.b T.xC.g (pv 0) (by rfl)))) pss_nil), ?_⟩
    have e0 : start ["count"] [x] = [some x] := rfl
    rw [e0]
    refine ⟨_, rfl, x, d, rfl, hd, _, rfl, ?_⟩
    rcases h with ⟨hb, q⟩ | ⟨hb, b⟩
    · rw [hb]
      exact iteF q
    · rw [hb]
      exact iteT ⟨_, rfl, fun dd H' s' n hx => b dd H' s' hx⟩
theorem passC {X : Cx} {E : XK} {W : WX} (tk : Takes X W) (h : W = fun cls d _ H => E cls d H) : Passes (L2.CX X.prog X.w) X E := passes_call tk fun cls d σ H q => by rw [h]; exact q
theorem head0 {t : Str} (h : 1 ≤ (tl t).length) : ∃ c, tl t = c :: (tl t).tail := by
  cases e : tl t with
  | nil => rw [e] at h; cases h
  | cons c r => exact ⟨c, rfl⟩
theorem ok_fig {f : Addr} {fd : FuncData} (F : FnP K "figures_of" sFig f fd) (T : Txt K mg) : FnOk P w K mg base CX0 1 f fd ["text", "most"] spFig := by
  refine F.ok scFi (fun vs H Q E h => ?_) (fun cdv A outer s H vs Q E hr h => ?_)
  · obtain ⟨t, m, rfl, _⟩ := h
    rfl
  · obtain ⟨t, m, rfl, hl, hm, q⟩ := h
    obtain ⟨tf, hfig⟩ := T.figs
    refine ⟨_, PSs.nox (C8.pss_cut (ps_if (PW.pt (pw_or (pt_not (pt_chain op_le op_le pe_int (pe_callB call_len_str (by rfl) T.p.len boot_len (pa_cons (pv 0) pa_nil)) (pv 1)))
        (pw_or1 (pt_not (pt_val (pe_callB (cr_all rfl) (by rfl) T.all boot_all (pa_cons (pe_lc (own := [("sign", 2)]) (g := gName 2) (tt := tYes) rfl scFi.nd (pi_str (pv 0)) (blkOk_by (N := ["text", "most", "sign"]) (sc := defScope sFig) (by decide +kernel)) (fun _ _ _ _ _ => pg_name (i := 2) scFi.nd rfl (Or.inl rfl)) (fun _ _ _ _ _ => pts_nil) (fun _ _ _ _ _ => pe_cmpR op_in_sign (pv 2) (pe_gS hfig (by rfl)) (by rfl))) pa_nil))))))) (pss_one (ps_ret pe_non)) pss_nil)
      (pss_one (ps_ret (pe_ifExp (PW.pt (pw_or (pt_cmpR op_eq (pv 0) pe_str (nomark _)) (pw_or1 (pt_cmpR op_ne (pe_ix ix_str (pv 0) pe_int (fun _ _ => rfl)) pe_str (nomark _))))) (pe_callTy call_int_str (by rfl) T.p.int bbI (pa_cons (pv 0) pa_nil)) pe_non)))), ?_⟩
    have e0 : start ["text", "most", "sign"] [V.str t, .int m] = [some (.str t), some (.int m), none] := rfl
    rw [e0]
    have qn : ∀ H', Same H H' → figO (tl t) m = none → Q .non H' := fun H' s' e => by
      have z := q H' s'
      rw [e] at z
      exact z
    have elen : (tl t).length = t.length := (len_tl t).symm
    refine ⟨fun σ' H' => σ' = [some (.str t), some (.int m), none] ∧ Same H H' ∧ ((1 ≤ (tl t).length ∧ (tl t).length ≤ m) ∧ (tl t).all dig = true), ?_, ?_⟩
    · refine ⟨_, rfl, t, rfl, hl, _, _, rfl, rfl, _, rfl, ite_dec (fun g1 => ?_) fun g1 => ?_⟩
      · refine ⟨_, rfl, _, _, rfl, rfl, _, rfl, ?_⟩
        by_cases g2 : (t.length : Int) ≤ m
        · rw [decide_eq_true g2]
          refine iteF ?_
          have sz : t.cps.size = t.length := rfl
          have l600 : t.length ≤ 600 := by omega
          refine ⟨_, rfl, t, rfl, fun D hD => lc_strG (fun i H' => Same H H' ∧ H' D = some (.lst ((t.cps.toList.take i).map fun c => V.bl (dig c)))) ⟨same_upd hD, upd_same⟩ ?_ ?_⟩
          · rintro i c H' hc ⟨s', hD'⟩
            have hc' : t.cps.toList[i]? = some c := by rw [Array.getElem?_toList]; exact hc
            refine ⟨rfl, ⟨_, rfl, c, _, rfl, rfl, _, hD', ?_, ?_, ?_⟩⟩
            · have : (List.take i t.cps.toList).length ≤ t.length := by
                rw [List.length_take, Array.length_toList]; omega
              rw [List.length_map, sizeLine_eq]
              omega
            · intro b o e
              by_cases hb : b = D
              · rw [hb, hD] at e
                cases e
              · exact (upd_ne hb).trans (s' b o e)
            · rw [upd_same, List.take_add_one, hc', List.map_append, dig_mem]
              rfl
          · rintro H' ⟨s', hD'⟩
            have e : (t.cps.toList.take t.cps.size) = t.cps.toList := by
              rw [← Array.length_toList]; exact List.take_length
            rw [e] at hD'
            refine ⟨D, t.cps.toList.map dig, rfl, SqL.of (by rw [hD', List.map_map]; rfl), _, rfl, ?_⟩
            have ea : (List.map dig t.cps.toList).all id = (tl t).all dig := by
              rw [List.all_map]
              rfl
            rw [ea]
            cases hd : (tl t).all dig with
            | true => exact iteF ⟨rfl, s', ⟨by omega, by omega⟩, rfl⟩
            | false => exact iteT (qn _ s' (by unfold figO; rw [hd, Bool.and_false, Bool.false_and]; rfl))
        · rw [decide_eq_false g2]
          exact iteT (qn _ (Same.refl H) (by unfold figO; rw [decide_eq_false (show ¬ (tl t).length ≤ m by omega), Bool.and_false, Bool.false_and, Bool.false_and]; rfl))
      · exact ⟨_, rfl, iteT (qn _ (Same.refl H) (by unfold figO; rw [decide_eq_false (show ¬ 1 ≤ (tl t).length by omega), Bool.false_and, Bool.false_and, Bool.false_and]; rfl))⟩
    rintro σ' H' ⟨rfl, s', ⟨l1, l2⟩, hd⟩
    have e1 : figO (tl t) m = if (decide (tl t = [48]) || decide ((tl t).head? ≠ some 48)) = true then some (digitsVal (tl t)) else none := by
      unfold figO
      rw [decide_eq_true l1, decide_eq_true l2, hd]
      simp only [Bool.true_and, Bool.and_self]
    have int : (decide (tl t = [48]) || decide ((tl t).head? ≠ some 48)) = true → ∃ n : Int, intText? t = some n ∧ Q (.int n) H' := fun h => by
      refine ⟨_, intText_dig hd l1 (by omega), ?_⟩
      have z := q H' s'
      rw [e1, if_pos h] at z
      exact z
    have e48 : t = "0" ↔ tl t = [48] := ⟨fun h => by rw [h]; rfl, fun h => tl_inj (by rw [h]; rfl)⟩
    obtain ⟨c, ec⟩ := head0 l1
    refine ⟨_, rfl, rfl, _, rfl, str_if (fun h => ?_) fun h => ?_⟩
    · obtain ⟨n, hn, qn'⟩ := int (by rw [decide_eq_true (e48.mp h)]; rfl)
      exact iteT ⟨_, rfl, t, n, rfl, hn, by rw [len_tl]; omega, qn'⟩
    · refine ⟨_, rfl, t, 0, c, rfl, rfl, by rw [sizeLine_eq]; omega, ?_, rfl, _, rfl, str_ne (fun h2 => ?_) fun h2 => ?_⟩
      · show atI t.cps.toList 0 = some c
        rw [show t.cps.toList = c :: (tl t).tail from ec]
        exact atI_nat (j := 0) rfl
      · obtain ⟨n, hn, qn'⟩ := int (by
          rw [decide_eq_true (show (tl t).head? ≠ some 48 from fun z => h2 ?_), Bool.or_true]
          rw [ec] at z
          cases z
          rfl)
        exact ⟨_, rfl, t, n, rfl, hn, by rw [len_tl]; omega, qn'⟩
      · refine qn _ s' ?_
        have e : [c] = [48] := congrArg tl (show (⟨#[c]⟩ : Str) = "0" from h2)
        cases e
        have hh : (tl t).head? = some 48 := by rw [ec]; rfl
        have f1 : ¬ (tl t = [48]) := fun z => h (e48.mpr z)
        rw [e1, if_neg]
        rw [decide_eq_false f1, decide_eq_false (fun z => z hh)]
        decide
theorem ok_writ {f : Addr} {fd : FuncData} (F : FnP K "_written" sWrit f fd) (T : Txt K mg) : FnOk P w K mg base CX0 1 f fd ["count"] (spWrit K) := by
  refine F.ok scWr (fun vs H Q E h => ?_) (fun cdv A outer s H vs Q E hr h => ?_)
  · obtain ⟨x, a, b, rfl, _⟩ := h
    rfl
  · obtain ⟨x, a, b, rfl, hd, hv, q⟩ := h
    obtain ⟨t, v, u, rfl, hS, h1, h2⟩ := tup2D hd
    cases intDv h1
    cases intDv h2
    obtain ⟨⟨a0, a9⟩, hb, _⟩ := valid_nat hv
    have ha : a.natAbs ≤ 10 ^ 30 := by
      have : (9 : Nat) ≤ 10 ^ 30 := by decide
      omega
    refine ⟨_, pss_cons (ps_asg (pv 0) (pg_tup rfl (pgs_cons (pg_name (i := 1) scWr.nd rfl (Or.inl rfl)) (pgs_cons (pg_name (i := 2) scWr.nd rfl (Or.inl rfl)) pgs_nil))))
      (pss_cons (ps_if (pt_cmpR op_eq (pv 1) pe_int (nomark _)) (pss_one (ps_ret (pe_callTy call_str_int (by rfl) T.p.str bbS (pa_cons (pv 2) pa_nil)))) pss_nil)
      (C8.pss_cut (ps_set (i := 3) scWr.nd rfl (Or.inl rfl) (pe_ifExp (pt_cmpR op_eq (pv 1) pe_int (nomark _)) pe_str (pe_joined (.cons (pe_fmt (pv 1)) (.cons pe_str .nil)))))
      (pss_one (ps_ret (pe_ifExp (pt_cmpR op_ne (pv 2) pe_int (nomark _)) (pe_joined (.cons (pe_fmt (pv 3)) (.cons (pe_fmtP (pv 2)) .nil))) (pv 3)))))), ?_⟩
    have e0 : start ["count", "a", "b", "head"] [V.ref t] = [some (.ref t), none, none, none] := rfl
    rw [e0]
    have l1 := len_int ha
    have l2 := len_plus hb
    have l3 : (preC a).length ≤ 32 := by unfold preC; split; · exact Nat.zero_le _
                                         · exact l1
    unfold cntT at q
    refine go_seq (go_asg ?_)
    refine ⟨_, rfl, t, _, rfl, hS, rfl, _, _, rfl, _, _, rfl, rfl, ?_⟩
    walk_at "nx"
    refine ⟨_, rfl, rfl, _, rfl, int_if (fun h => ?_) fun h => ?_⟩
    · rw [if_pos h] at q
      exact ⟨_, rfl, b, rfl, log_lt hb, q⟩
    · rw [if_neg h] at q
      refine ⟨fun σ' H' => σ' = [some (.ref t), some (.int a), some (.int b), some (.str (preC a ++ nT))] ∧ H' = H, ?_, ?_⟩
      · refine ⟨_, rfl, rfl, _, rfl, int_if (fun h1 => ?_) fun h1 => ?_⟩
        · have e : preC a ++ nT = nT := by unfold preC; rw [if_pos h1, empty_app]
          rw [e]
          exact ⟨rfl, rfl⟩
        · have e : preC a = intT a := by unfold preC; rw [if_neg h1]
          rw [e]
          refine ⟨_, rfl, .inr ⟨a, rfl, log_lt ha, intT a, rfl, ?_, nT, rfl, ?_, ?_⟩⟩
          · rw [empty_app, sizeLine_eq]; omega
          · rw [empty_app, len_app, sizeLine_eq]
            show _ + 1 ≤ _
            omega
          · rw [empty_app]
            exact ⟨rfl, rfl⟩
      · rintro σ' H' ⟨rfl, rfl⟩
        refine ⟨_, rfl, rfl, _, rfl, int_ne (fun h1 => ?_) fun h1 => ?_⟩
        · have e : tailT b = plusT b := by unfold tailT; rw [if_neg h1]
          rw [e] at q
          have l4 : (preC a ++ nT).length ≤ 33 := by
            rw [len_app]
            show _ + 1 ≤ _
            omega
          refine ⟨_, rfl, .inl ⟨_, rfl, by rw [sizeLine_eq]; omega, _, rfl, by rw [empty_app, sizeLine_eq]; omega, _, rfl, b, rfl, log_lt hb, by rw [sizeLine_eq]; omega, plusT b, rfl, by rw [empty_app, len_app, sizeLine_eq]; omega, ?_⟩⟩
          rw [empty_app]
          exact q
        · have e : tailT b = Str.empty := by unfold tailT; rw [if_pos h1]
          rw [e, app_empty] at q
          exact ⟨_, rfl, q⟩
theorem ok_form {f fC fW : Addr} {fd dC dW : FuncData} (F : FnP K "format_count" sForm f fd) (C : Def P w K mg base (L2.CX P w) 4 "_check_count" fC dC ["count"] (spChk K)) (W : Def P w K mg base CX0 1 "_written" fW dW ["count"] (spWrit K)) : FnOk P w K mg base (L2.CX P w) 5 f fd ["count"] (spForm K) := by
  refine F.ok scFo (fun vs H Q E h => ?_) (fun cdv A outer s H vs Q E hr h => ?_)
  · obtain ⟨x, d, rfl, _⟩ := h
    rfl
  · obtain ⟨x, d, rfl, hd, h⟩ := h
    refine ⟨_, pss_cons (ps_expr (pe_call C.ok hr (by rfl) C.g C.k C.b .nil (passC (takes_of rfl rfl rfl rfl) rfl) (pa_cons (pv 0) pa_nil)))
      (pss_one (ps_ret (pe_call W.ok (hr.mono (by decide)) (by rfl) W.g W.k W.b .nil pass0 (pa_cons (pv 0) pa_nil)))), ?_⟩
    have e0 : start ["count"] [x] = [some x] := rfl
    rw [e0]
    refine go_seq ?_
    rcases h with ⟨hc, b⟩ | ⟨a, b, rfl, hc, q⟩
    · exact ⟨_, rfl, x, d, rfl, hd, .inr ⟨hc, b⟩⟩
    · refine ⟨_, rfl, x, _, rfl, hd, .inl ⟨hc, ?_⟩⟩
      exact ⟨_, rfl, x, a, b, rfl, hd, hc, q⟩
theorem part_len (t : Str) : (Txt.partition t nT).1.length ≤ t.length ∧ (Txt.partition t nT).2.2.length ≤ t.length := by
  rcases part_cases t with ⟨_, h⟩ | ⟨A, S, _, e, h⟩
  · rw [h]; exact ⟨Nat.le_refl _, Nat.zero_le _⟩
  · rw [h, e, len_app, len_app]; dsimp only; exact ⟨by omega, by omega⟩
theorem ok_free {f fF : Addr} {fd dF : FuncData} (F : FnP K "_read_freely" sFree f fd) (T : Txt K mg) (N : Def P w K mg base CX0 1 "figures_of" fF dF ["text", "most"] spFig) : FnOk P w K mg base CX0 2 f fd ["text"] (spFree K) := by
  refine F.ok scFr (fun vs H Q E h => ?_) (fun cdv A outer s H vs Q E hr h => ?_)
  · obtain ⟨t, rfl, _⟩ := h
    rfl
  · obtain ⟨t, rfl, hl, q⟩ := h
    obtain ⟨tl', hlong⟩ := T.lonc
    refine ⟨_, pss_cons (ps_asg (pe_partition (pv 0) pe_str) (pg_tup rfl (pgs_cons (pg_name (i := 1) scFr.nd rfl (Or.inl rfl)) (pgs_cons (pg_name (i := 2) scFr.nd rfl (Or.inl rfl)) (pgs_cons (pg_name (i := 3) scFr.nd rfl (Or.inl rfl)) pgs_nil)))))
      (pss_cons (ps_if (pt_cmpR op_eq (pv 2) pe_str (nomark _)) (pss_one (ps_ret (pe_tup (pa_cons pe_int (pa_cons (pe_call N.ok hr (by rfl) N.g N.k N.b .nil pass0 (pa_cons (pv 0) (pa_cons (pe_gI hlong (by rfl)) pa_nil))) pa_nil))))) pss_nil)
      (C8.pss_cut (ps_set (i := 4) scFr.nd rfl (Or.inl rfl) (pe_ifExp (pt_cmpR op_eq (pv 1) pe_str (nomark _)) pe_int (pe_call N.ok hr (by rfl) N.g N.k N.b .nil pass0 (pa_cons (pv 1) (pa_cons (pe_gI hlong (by rfl)) pa_nil)))))
      (pss_cons (ps_if (pt_cmpR op_eq (pv 3) pe_str (nomark _)) (pss_one (ps_ret (pe_tup (pa_cons (pv 4) (pa_cons pe_int pa_nil))))) pss_nil)
      (pss_cons (ps_set (i := 5) scFr.nd rfl (Or.inl rfl) (pe_call N.ok hr (by rfl) N.g N.k N.b .nil pass0 (pa_cons (pe_slice sl_str (pv 3) (po_some pe_int) po_none) (pa_cons (pe_gI hlong (by rfl)) pa_nil))))
      (pss_one (ps_ret (pe_tup (pa_cons (pv 4) (pa_cons (pe_ifExp (PW.pt (pw_and (pt_cmpR op_eq (pe_ix ix_str (pv 3) pe_int (fun _ _ => rfl)) pe_str (nomark _)) (pw_and1 (pt_cmpR op_notN (pv 5) pe_non (nomark _))))) (pe_un un_neg (pv 5)) (pv 5)) pa_nil))))))))), ?_⟩
    have e0 : start ["text", "head", "letter", "tail", "a", "b"] [V.str t] = [some (.str t), none, none, none, none, none] := rfl
    rw [e0]
    have sz : sizeLine = 16777216 := sizeLine_eq
    obtain ⟨l1, l2⟩ := part_len t
    unfold freeD at q
    refine go_seq (go_asg ?_)
    refine ⟨_, rfl, ⟨_, rfl⟩, t, nT, rfl, rfl, rfl, by omega, fun p np => ?_⟩
    have sp := same_upd (o := .tup [.str (Txt.partition t nT).1, .str (Txt.partition t nT).2.1, .str (Txt.partition t nT).2.2]) np
    refine ⟨p, _, rfl, SqT.of upd_same, rfl, _, _, rfl, _, _, rfl, _, _, rfl, rfl, ?_⟩
    generalize upd H p (.tup [.str (Txt.partition t nT).1, .str (Txt.partition t nT).2.1, .str (Txt.partition t nT).2.2]) = H1 at sp ⊢
    generalize (Txt.partition t nT).1 = A at *
    generalize (Txt.partition t nT).2.1 = M at *
    generalize (Txt.partition t nT).2.2 = S at *
    walk_at "nx"
    refine ⟨_, rfl, rfl, _, rfl, str_if (fun h => ?_) fun h => ?_⟩
    · rw [if_pos (show M = Str.empty from h)] at q
      refine ⟨_, rfl, t, 34, rfl, by omega, by decide, fun H2 s2 => ⟨by show 2 ≤ sizeLine; decide, fun p2 n2 => ?_⟩⟩
      exact q _ _ (sp.trans (s2.trans (same_upd n2))) (.tup (SqT.of upd_same) (.cons (.int 0) (.cons (optVD _) .nil)))
    · rw [if_neg (show ¬ M = Str.empty from h)] at q
      walk_at "nx"
      refine ⟨fun σ' H' => ∃ v, σ' = [some (.str t), some (.str A), some (.str M), some (.str S), some v, none] ∧ Same H H' ∧ ∀ H2, Dp K H2 v (if A = Str.empty then .int 1 else optD (figO (tl A) 34)), ?_, ?_⟩
      · refine ⟨_, rfl, rfl, _, rfl, str_if (fun h => ?_) fun h => ?_⟩
        · rw [if_pos (show A = Str.empty from h)]
          exact ⟨_, rfl, sp, fun _ => .int 1⟩
        · rw [if_neg (show ¬ A = Str.empty from h)]
          exact ⟨_, rfl, A, 34, rfl, by omega, by decide, fun H2 s2 => ⟨_, rfl, sp.trans s2, fun _ => optVD _⟩⟩
      rintro σ' H' ⟨v, rfl, s', hv⟩
      refine ⟨_, rfl, rfl, _, rfl, str_if (fun h => ?_) fun h => ?_⟩
      · have e : tailD (tl S) = .int 0 := by
          have : tl S = [] := tl_empty.mp h
          rw [this]
          rfl
        rw [e] at q
        refine ⟨_, rfl, by show 2 ≤ sizeLine; decide, fun p2 n2 => ?_⟩
        exact q _ _ (s'.trans (same_upd n2)) (.tup (SqT.of upd_same) (.cons (hv _) (.cons (.int 0) .nil)))
      · walk_at "nx"
        have hne : tl S ≠ [] := fun z => h (tl_empty.mpr z)
        refine ⟨_, rfl, 1, rfl, S, rfl, by omega, cutS S (some 1) none, 34, rfl, by have := cut_le S (some 1) none; omega, by decide, fun H2 s2 => ?_⟩
        have ec : tl (cutS S (some 1) none) = (tl S).tail := by
          have z := tl_from S 1
          rw [List.drop_one] at z
          exact z
        rw [ec]
        obtain ⟨c, hc⟩ := head0 (t := S) (by cases hS : tl S with | nil => exact absurd hS hne | cons c r => simp)
        refine ⟨_, rfl, _, rfl, S, 0, c, rfl, rfl, by omega, ?_, rfl, _, rfl, ?_⟩
        · show atI S.cps.toList 0 = some c
          rw [show S.cps.toList = c :: (tl S).tail from hc]
          exact atI_nat (j := 0) rfl
        have fin : ∀ y : PyData, tailD (tl S) = y → ∀ u, (∀ H3, Dp K H3 u y) → ∀ p2, H2 p2 = none → Q (.ref p2) (upd H2 p2 (.tup [v, u])) := fun y e u hu p2 n2 => by
          rw [e] at q
          exact q _ _ (s'.trans (s2.trans (same_upd n2))) (.tup (SqT.of upd_same) (.cons (hv _) (.cons (hu _) .nil)))
        have et : tailD (tl S) = (match figO (tl S).tail 34 with | none => .none | some n => .int (if c = 45 then -(n : Int) else n)) := by
          unfold tailD
          rw [if_neg hne]
          have hh : (tl S).head? = some c := by rw [hc]; rfl
          cases figO (tl S).tail 34 with
          | none => rfl
          | some n =>
            show PyData.int _ = PyData.int _
            rw [hh]
            by_cases h5 : c = 45
            · rw [if_pos (by rw [h5]), if_pos h5]
            · rw [if_neg (fun z => h5 (Option.some.inj z)), if_neg h5]
        have c45 : (⟨#[c]⟩ : Str) = "-" ↔ c = 45 := ⟨fun z => by have z2 : [c] = [45] := congrArg tl z; cases z2; rfl, fun z => by rw [z]; rfl⟩
        refine str_if (fun h5 => ?_) fun h5 => ?_
        · have h5 := c45.mp h5
          cases hf : figO (tl S).tail 34 with
          | none =>
            rw [hf] at et
            refine ⟨_, rfl, rfl, _, rfl, ?_⟩
            refine iteF ?_
            exact ⟨_, rfl, by show 2 ≤ sizeLine; decide, fun p2 n2 => fin _ et .non (fun _ => .non) p2 n2⟩
          | some n =>
            rw [hf] at et
            dsimp only at et
            rw [if_pos h5] at et
            refine ⟨_, rfl, rfl, _, rfl, ?_⟩
            refine iteT ?_
            exact ⟨_, rfl, _, rfl, by show 2 ≤ sizeLine; decide, fun p2 n2 => fin _ et (.int _) (fun _ => .int _) p2 n2⟩
        · have h5 : ¬ c = 45 := fun z => h5 (c45.mpr z)
          cases hf : figO (tl S).tail 34 with
          | none =>
            rw [hf] at et
            exact iteF ⟨_, rfl, by show 2 ≤ sizeLine; decide, fun p2 n2 => fin _ et .non (fun _ => .non) p2 n2⟩
          | some n =>
            rw [hf] at et
            dsimp only at et
            rw [if_neg h5] at et
            exact iteF ⟨_, rfl, by show 2 ≤ sizeLine; decide, fun p2 n2 => fin _ et (.int _) (fun _ => .int _) p2 n2⟩
theorem ok_read {f fF fC fW : Addr} {fd dF dC dW : FuncData} (F : FnP K "read_count" sRead f fd) (T : Txt K mg) (N : Def P w K mg base CX0 2 "_read_freely" fF dF ["text"] (spFree K)) (C : Def P w K mg base CX0 3 "is_count" fC dC ["thing"] (spCount K)) (W : Def P w K mg base CX0 1 "_written" fW dW ["count"] (spWrit K)) : FnOk P w K mg base CX0 4 f fd ["text"] (spRead K) := by
  refine F.ok scRe (fun vs H Q E h => ?_) (fun cdv A outer s H vs Q E hr h => ?_)
  · obtain ⟨x, d, rfl, _⟩ := h
    rfl
  · obtain ⟨x, d, rfl, hd, hl, q⟩ := h
    obtain ⟨tl', hlong⟩ := T.lonc
    refine ⟨_, pss_cons (ps_if (PW.pt (pw_or (pt_not (pt_val (pe_isD T.p.isn (pv 0) (pe_bltn (by rfl) T.p.str bbS (by rfl)) (by rfl)))) (pw_or1 (pt_cmpR op_gt (pe_callB call_len_str (by rfl) T.p.len boot_len (pa_cons (pv 0) pa_nil)) (pe_gI hlong (by rfl)) (nomark _))))) (pss_one (ps_ret pe_non)) pss_nil)
      (pss_cons (ps_set (i := 1) scRe.nd rfl (Or.inl rfl) (pe_call N.ok (hr.mono (by decide)) (by rfl) N.g N.k N.b .nil pass0 (pa_cons (pv 0) pa_nil)))
      (pss_cons (ps_if (PW.pt (pw_or (pt_not (pt_val (pe_call C.ok hr (by rfl) C.g C.k C.b .nil pass0 (pa_cons (pv 1) pa_nil)))) (pw_or1 (pt_cmpR op_ne (pe_call W.ok (hr.mono (by decide)) (by rfl) W.g W.k W.b .nil pass0 (pa_cons (pv 1) pa_nil)) (pv 0) (nomark _))))) (pss_one (ps_ret pe_non)) pss_nil)
      (pss_one (ps_ret (pv 1))))), ?_⟩
    have e0 : start ["text", "count"] [x] = [some x, none] := rfl
    rw [e0]
    have qn : ∀ H', Same H H' → readD d = .none → Q .non H' := fun H' s' e => q .non H' s' (by rw [e]; exact .non)
    refine go_seq ?_
    cases hd with
    | non => exact ⟨_, rfl, _, _, .non, (by decide +kernel : kitB "NoneType" "str" = some false), _, rfl, iteT (iteT (qn H (Same.refl H) rfl))⟩
    | bl b => exact ⟨_, rfl, _, _, .bl b, (by decide +kernel : kitB "bool" "str" = some false), _, rfl, iteT (iteT (qn H (Same.refl H) rfl))⟩
    | int i => exact ⟨_, rfl, _, _, .int i, (by decide +kernel : kitB "int" "str" = some false), _, rfl, iteT (iteT (qn H (Same.refl H) rfl))⟩
    | lst hS ha => exact ⟨_, rfl, _, _, .lst hS ha, (by decide +kernel : kitB "list" "str" = some false), _, rfl, iteT (iteT (qn H (Same.refl H) rfl))⟩
    | tup hS ha => exact ⟨_, rfl, _, _, .tup hS ha, (by decide +kernel : kitB "tuple" "str" = some false), _, rfl, iteT (iteT (qn H (Same.refl H) rfl))⟩
    | str t =>
      have hl := hl t rfl
      refine ⟨_, rfl, _, _, .str t, (by decide +kernel : kitB "str" "str" = some true), _, rfl, iteF ?_⟩
      refine ⟨_, rfl, t, rfl, hl, _, _, rfl, rfl, _, rfl, ite_dec (fun g => ?_) fun g => ?_⟩
      · exact qn H (Same.refl H) (read_long (by omega))
      · walk_at "nx"
        refine ⟨_, rfl, t, rfl, by omega, fun v H1 s1 hv => ?_⟩
        walk_at "nx"
        refine ⟨_, rfl, v, freeD t, rfl, hv, _, rfl, ?_⟩
        cases hc : countD (freeD t) with
        | false => exact iteT (iteT (qn H1 s1 (read_no hc)))
        | true =>
          obtain ⟨a, b, e⟩ := countD_ints hc
          rw [e] at hv
          have hva : validC a b = true := by
            rw [e] at hc
            exact hc
          refine iteF ?_
          refine ⟨_, rfl, v, a, b, rfl, hv, hva, _, rfl, rfl, _, rfl, str_ne (fun h => ?_) fun h => ?_⟩
          · exact qn H1 s1 (read_other e h)
          · have er : readD (.str t) = .tuple [.int a, .int b] := read_yes hc e h
            exact ⟨_, rfl, q v H1 s1 (by rw [er]; exact hv)⟩
end
end L2.L86

set_option maxHeartbeats 4000000
namespace L2.L86
open PySem PySem.Spec PyProof.Rows NumText LR L2.Lr L2.Tx TL
local macro_rules | `(tactic| walk_at "nx") => `(tactic| dsimp only [gName, tNext, tSeq, tAsg, List.set_cons_zero, List.set_cons_succ])
theorem scgo : FnScope ["parts", "part"] ["parts"] (defScope sGoes) := ⟨rfl, rfl, rfl, by decide +kernel, rfl, by decide +kernel, by decide +kernel⟩
theorem scap : FnScope ["thing"] ["thing"] (defScope sApr) := ⟨rfl, rfl, rfl, by decide +kernel, rfl, by decide +kernel, by decide +kernel⟩
theorem scin : FnScope ["self", "parts", "kept"] ["self", "parts"] (defScope sIni) := ⟨rfl, rfl, rfl, by decide +kernel, rfl, by decide +kernel, by decide +kernel⟩
def flds (y : V) (m : Int) : List (Str × V) := putF "size" (.int m) (putF "parts" y [])
theorem kps : ¬ (("parts" : Str) = "size") := by decide +kernel
theorem flds_p (y : V) (m : Int) : (flds y m).lookup ("parts" : Str) = some y := by
  unfold flds
  rw [lookup_putF, if_neg kps, lookup_putF, if_pos rfl]
theorem flds_s (y : V) (m : Int) : (flds y m).lookup ("size" : Str) = some (.int m) := by
  unfold flds
  rw [lookup_putF, if_pos rfl]
def RowAt (K : PySem.W.Frag) (H : Hp) (p : Addr) (y : V) (m : Int) : Prop := ∃ dx, H p = some (.ins (CR K) dx (flds y m))
def cutD (ds : List PyData) (lo hi : Option Int) : List PyData := (ds.drop (HT.sIx ds.length 0 lo)).take (HT.sIx ds.length ds.length hi - HT.sIx ds.length 0 lo)
theorem DpAll.take {K : PySem.W.Frag} {H : Hp} : ∀ {vs : List V} {ds : List PyData} (n : Nat), DpAll K H vs ds → DpAll K H (vs.take n) (ds.take n)
  | _, _, 0, _ => by simpa using DpAll.nil
  | _, _, n + 1, .nil => by simpa using DpAll.nil
  | _, _, n + 1, .cons h a => by simpa using DpAll.cons h (DpAll.take n a)
theorem DpAll.drop {K : PySem.W.Frag} {H : Hp} : ∀ {vs : List V} {ds : List PyData} (n : Nat), DpAll K H vs ds → DpAll K H (vs.drop n) (ds.drop n)
  | _, _, 0, h => by simpa using h
  | _, _, n + 1, .nil => by simpa using DpAll.nil
  | _, _, n + 1, .cons h a => by simpa using DpAll.drop n a
/-- all but instances stays -/
def Ki (H H' : Hp) : Prop := ∀ b o, H b = some o → (∀ C dx fs, o ≠ .ins C dx fs) → H' b = some o
mutual
theorem Dp.ki {K : PySem.W.Frag} {H H' : Hp} (s : Ki H H') : ∀ {v : V} {d : PyData}, Dp K H v d → Dp K H' v d
  | _, _, .non => .non
  | _, _, .bl b => .bl b
  | _, _, .int i => .int i
  | _, _, .str x => .str x
  | _, _, .lst h a => .lst (by
      rcases h with (h | ⟨o, h⟩) | h
      · exact .inl (.inl (s _ _ h fun _ _ _ z => by cases z))
      · exact .inl (.inr ⟨o, s _ _ h fun _ _ _ z => by cases z⟩)
      · exact .inr h) (DpAll.ki s a)
  | _, _, .tup h a => .tup (by
      rcases h with (h | ⟨o, h⟩) | h
      · exact .inl (.inl (s _ _ h fun _ _ _ z => by cases z))
      · exact .inl (.inr ⟨o, s _ _ h fun _ _ _ z => by cases z⟩)
      · exact .inr h) (DpAll.ki s a)
theorem DpAll.ki {K : PySem.W.Frag} {H H' : Hp} (s : Ki H H') : ∀ {vs : List V} {ds : List PyData}, DpAll K H vs ds → DpAll K H' vs ds
  | _, _, .nil => .nil
  | _, _, .cons h a => .cons (Dp.ki s h) (DpAll.ki s a)
end
theorem slP {K : PySem.W.Frag} {H : Hp} {x : V} {ds : List PyData} {lo hi : Option Int} {Q : VK} (hx : Dp K H x (.tuple ds)) (q : ∀ v H', Same H H' → Dp K H' v (.tuple (cutD ds lo hi)) → Q v H') : rSlA K x lo hi H Q := by
  cases hx with
  | @tup a xs _ hS ha =>
    have hl := DpAll.length ha
    refine ⟨a, xs, rfl, hS, fun e => ?_, fun _ t nt => ?_⟩
    · refine q _ _ (Same.refl H) ?_
      rw [hl] at e
      have : cutD ds lo hi = ds := by
        unfold cutD
        rw [e.1, e.2]
        simp
      rw [this]
      exact .tup hS ha
    · have st := same_upd (o := .tup (cutV xs lo hi)) nt
      refine q _ _ st (.tup (SqT.of upd_same) ?_)
      have e1 : cutV xs lo hi = (xs.drop (HT.sIx ds.length 0 lo)).take (HT.sIx ds.length ds.length hi - HT.sIx ds.length 0 lo) := by
        unfold cutV
        rw [hl]
      generalize upd H t (.tup (cutV xs lo hi)) = G at st ⊢
      rw [e1]
      unfold cutD
      exact DpAll.same st (DpAll.take _ (DpAll.drop _ ha))
def foreverD : PyData → Bool
  | .tuple (.str w :: _) => decide (w = "forever")
  | _ => false
def goesD (ds : List PyData) : Bool := ds.dropLast.all fun d => !foreverD d
theorem cut_init {ds : List PyData} (h : ds ≠ []) : cutD ds none (some (-1)) = ds.dropLast := by
  have hl : 0 < ds.length := List.length_pos_iff.mpr h
  unfold cutD
  have e : HT.sIx ds.length ds.length (some (-1)) = ds.length - 1 := by
    show (if (-1 : Int) < 0 then ((-1 : Int) + (ds.length : Int)).toNat else min (-1 : Int).toNat ds.length) = ds.length - 1
    rw [if_pos (by decide)]
    omega
  rw [e, HT.sIx_none, List.dropLast_eq_take]
  simp
def spGoes (K : PySem.W.Frag) : Sp := fun vs H Q _ => ∃ x ds, vs = [x] ∧ Dp K H x (.tuple ds) ∧ ds.length ≤ 390000 ∧ (∀ d, d ∈ ds → ∃ w es, d = .tuple (.str w :: es)) ∧ ∀ H', Same H H' → Q (.bl (goesD ds)) H'
section
variable {P : Program} {w : World} {K : PySem.W.Frag} {mg : Str → Option Value} {base : Heap}
theorem ok_goes {f : Addr} {fd : FuncData} (F : FnP K "_goes_on_last" sGoes f fd) (T : Txt K mg) : FnOk P w K mg base CX0 1 f fd ["parts"] (spGoes K) := by
  refine F.ok scgo (fun vs H Q E h => ?_) (fun cdv A outer s H vs Q E hr h => ?_)
  · obtain ⟨x, ds, rfl, _⟩ := h
    rfl
  · obtain ⟨x, ds, rfl, hd, hl, hs, q⟩ := h
    refine ⟨_, PSs.nox (pss_one (ps_ret (pe_callB (cr_all rfl) (by rfl) T.all boot_all (pa_cons (pe_lc (own := [("part", 1)]) (g := gName 1) (tt := tYes) rfl scgo.nd (pi_tup (pe_slice sl_tupA (pv 0) po_none (po_some (pe_un un_neg pe_int)))) (blkOk_by (N := ["parts", "part"]) (sc := defScope sGoes) (by decide +kernel)) (fun _ _ _ _ _ => pg_name (i := 1) scgo.nd rfl (Or.inl rfl)) (fun _ _ _ _ _ => pts_nil) (fun _ _ _ _ _ => pe_cmpR op_ne (pe_ix (r := rIxT K) (by exact ix_tup) (pv 1) pe_int (fun _ _ => rfl)) pe_str (nomark _))) pa_nil)))), ?_⟩
    have e0 : start ["parts", "part"] [x] = [some x, none] := rfl
    rw [e0]
    have sz : sizeLine = 16777216 := sizeLine_eq
    refine ⟨_, rfl, 1, rfl, _, rfl, ?_⟩
    refine slP hd fun v H1 s1 h1 => ?_
    have ec : cutD ds none (some (-1)) = ds.dropLast := by
      by_cases hn : ds = []
      · subst hn; rfl
      · exact cut_init hn
    rw [ec] at h1
    cases h1 with
    | @tup t xs _ hS ha =>
      have hlx := DpAll.length ha
      have hle : ds.dropLast.length ≤ 390000 := by rw [List.length_dropLast]; omega
      refine ⟨t, rfl, ⟨_, hS⟩, fun D hD => ?_⟩
      have hSD := seqT (same_upd (o := .lst []) hD) hS
      refine lc_tup (K := K) (a := t) (xs := xs) (fun i H' => Same H1 H' ∧ H' D = some (.lst (((ds.dropLast.take i).map fun d => !foreverD d).map V.bl))) ⟨same_upd hD, upd_same⟩ (fun i H' _ q => seqT q.1 hS) ?_ ?_
      · rintro i x' H2 hx' ⟨s2, hD2⟩
        obtain ⟨dv, hdv, hDv⟩ := DpAll.at ha hx'
        have hm : dv ∈ ds := List.dropLast_subset _ (List.mem_of_getElem? hdv)
        obtain ⟨w0, es, rfl⟩ := hs dv hm
        obtain ⟨t0, v0, vs0, rfl, hS0, h0, _⟩ := tupD (Dp.same s2 hDv)
        cases strD h0
        refine ⟨rfl, _, rfl, t0, _, 0, _, rfl, rfl, hS0, at0, rfl, _, hD2, ?_, fun b o e => ?_, ?_⟩
        · rw [List.length_map, List.length_map, List.length_take]
          omega
        · by_cases hb : b = D
          · rw [hb, hD] at e; cases e
          · exact (upd_ne hb).trans (s2 _ _ e)
        · rw [upd_same, List.take_add_one, hdv, List.map_append, List.map_append]
          have ed : (!decide (V.str w0 = V.str "forever")) = !foreverD (.tuple (.str w0 :: es)) := by
            show _ = !decide (w0 = "forever")
            by_cases h : w0 = "forever"
            · rw [decide_eq_true h, h, decide_eq_true rfl]
            · rw [decide_eq_false h, decide_eq_false fun z => h (V.str.inj z)]
          rw [ed]
          rfl
      · rintro H2 ⟨s2, hD2⟩
        rw [hlx, List.take_length] at hD2
        refine ⟨D, _, rfl, SqL.of hD2, ?_⟩
        have ea : (List.map (fun d => !foreverD d) ds.dropLast).all id = goesD ds := by
          unfold goesD
          rw [List.all_map]
          rfl
        rw [ea]
        exact q H2 (s1.trans s2)
structure RowOk (ds : List PyData) : Prop where
  s : sOk (.tuple ds)
  l : ds.length ≤ 390000
  t : ∀ d, d ∈ ds → ∃ w es, d = .tuple (.str w :: es)
  h : howF (sizeD 4) (.tuple ds) ≤ 60
  g : goesD ds = true
def spRow (K : PySem.W.Frag) : Sp := fun vs H Q E => ∃ (p dx : Addr) (x : V) (ds : List PyData), vs = [.ref p, x] ∧ H p = some (.ins (CR K) dx []) ∧ Dp K H x (.tuple ds) ∧ RowOk ds ∧
  ∀ (H' : Hp) (y : V), (∀ b o, H b = some o → b ≠ p → H' b = some o) → RowAt K H' p y (howF (sizeD 4) (.tuple ds)) → Dp K H' y (.tuple ds) → Q .non H'
def aprD : PyData → Bool
  | .tuple ds => decide (howF (sizeD 4) (.tuple ds) ≤ 60) && goesD ds
  | _ => false
theorem goL_nn {sz : PyData → Int} (h : ∀ d, 0 ≤ sz d) : ∀ (ds : List PyData) (m : Int), 0 ≤ m → 0 ≤ goL sz m ds
  | [], m, hm => hm
  | d :: ds, m, hm => by
    unfold goL
    split
    · decide
    · exact goL_nn h ds _ (by have := h d; omega)
theorem howF_nn {sz : PyData → Int} (h : ∀ d, 0 ≤ sz d) (d : PyData) : 0 ≤ howF sz d := by
  cases d <;> first | exact goL_nn h _ 0 (by decide) | (show (0 : Int) ≤ 61; decide)
theorem sizeD_nn : ∀ (n : Nat) (d : PyData), 0 ≤ sizeD n d
  | 0, d => by
    unfold sizeD
    split
    · split
      · decide
      · split <;> decide
    · cases ‹0 = _ + 1›
    · decide
  | n + 1, d => by
    unfold sizeD
    split
    · cases ‹n + 1 = 0›
    · split
      · split
        · have := howF_nn (sizeD_nn n) (lastD ‹List PyData›)
          rename_i z _ _
          cases z
          omega
        · decide
      · split <;> decide
    · decide
theorem size_shape {n : Nat} {d : PyData} (h : sizeD n d ≤ 60) : ∃ w es, d = .tuple (.str w :: es) := by
  cases n <;> (unfold sizeD at h; split at h <;> first | exact ⟨_, _, rfl⟩ | omega)
theorem goL_shape {n : Nat} : ∀ (ds : List PyData) (m : Int), 0 ≤ m → goL (sizeD n) m ds ≤ 60 → ∀ d ∈ ds, ∃ w es, d = .tuple (.str w :: es)
  | [], m, hm, h => fun d hd => by cases hd
  | d :: ds, m, hm, h => fun e he => by
    unfold goL at h
    have nn := sizeD_nn n d
    split at h
    · omega
    · rcases List.mem_cons.mp he with rfl | he
      · exact size_shape (n := n) (by omega)
      · exact goL_shape ds _ (by omega) h e he
def spApr (K : PySem.W.Frag) : Sp := fun vs H Q _ => ∃ x d, vs = [x] ∧ Dp K H x d ∧ sOk d ∧ (∀ ds, d = .tuple ds → ds.length ≤ 390000) ∧ ∀ H', Same H H' → Q (.bl (aprD d)) H'
theorem ok_apr {f fH fG : Addr} {fd dH dG : FuncData} (F : FnP K "are_parts_of_row" sApr f fd) (T : Txt K mg) {k : Nat} (h2 : 2 ≤ k) (Hw : Def P w K mg base CX0 k "_how_many" fH dH ["parts", "depth"] (spHow K 4)) (G : Def P w K mg base CX0 1 "_goes_on_last" fG dG ["parts"] (spGoes K)) :
    FnOk P w K mg base CX0 (k + 1) f fd ["thing"] (spApr K) := by
  refine F.ok scap (fun vs H Q E h => ?_) (fun cdv A outer s H vs Q E hr h => ?_)
  · obtain ⟨x, ds, rfl, _⟩ := h
    rfl
  · obtain ⟨x, d, rfl, hd, so, hl, q⟩ := h
    obtain ⟨tm, hm⟩ := T.p.most
    have hr1 : Room 1 _ := (hr.mono h2).mono (by decide)
    refine ⟨_, pss_one (ps_ret (pe_and (pe_isD T.p.isn (pv 0) (pe_bltn (by rfl) T.p.tuple bbT (by rfl)) (by rfl)) (pe_and (pe_cmpR op_le (pe_call Hw.ok hr (by rfl) Hw.g Hw.k Hw.b .nil pass0 (pa_cons (pv 0) (pa_cons pe_int pa_nil))) (pe_gI hm (by rfl)) (nomark _)) (pe_one (pe_call G.ok hr1 (by rfl) G.g G.k G.b .nil pass0 (pa_cons (pv 0) pa_nil)))))), ?_⟩
    have e0 : start ["thing"] [x] = [some x] := rfl
    rw [e0]
    have q0 := q H (Same.refl H)
    cases d with
    | none => exact ⟨_, rfl, _, _, hd, (by decide +kernel : kitB "NoneType" "tuple" = some false), _, rfl, iteF q0⟩
    | bool _ => exact ⟨_, rfl, _, _, hd, (by decide +kernel : kitB "bool" "tuple" = some false), _, rfl, iteF q0⟩
    | int _ => exact ⟨_, rfl, _, _, hd, (by decide +kernel : kitB "int" "tuple" = some false), _, rfl, iteF q0⟩
    | str _ => exact ⟨_, rfl, _, _, hd, (by decide +kernel : kitB "str" "tuple" = some false), _, rfl, iteF q0⟩
    | list _ => exact ⟨_, rfl, _, _, hd, (by decide +kernel : kitB "list" "tuple" = some false), _, rfl, iteF q0⟩
    | dict _ => cases hd
    | tuple ds =>
    refine ⟨_, rfl, _, _, hd, (by decide +kernel : kitB "tuple" "tuple" = some true), _, rfl, iteT ?_⟩
    refine ⟨_, rfl, x, .tuple ds, rfl, hd, so, fun H3 s3 => ?_⟩
    refine ⟨_, _, rfl, rfl, _, rfl, ?_⟩
    have e : aprD (.tuple ds) = (decide (howF (sizeD 4) (.tuple ds) ≤ 60) && goesD ds) := rfl
    by_cases h60 : howF (sizeD 4) (.tuple ds) ≤ 60
    · rw [decide_eq_true h60] at e ⊢
      refine iteT ⟨_, rfl, x, ds, rfl, Dp.same s3 hd, hl ds rfl, goL_shape ds 0 (by decide) h60, fun H4 s4 => ?_⟩
      have z := q H4 (s3.trans s4)
      rw [e, Bool.true_and] at z
      exact z
    · rw [decide_eq_false h60] at e ⊢
      have z := q H3 s3
      rw [e, Bool.false_and] at z
      exact iteF z
theorem ok_row {f fH fA DFL : Addr} {fd dH dA dV : FuncData} (F : FunD K "__init__" "Row.__init__" (defArgs sIni) (defBody sIni) (defScope sIni) [.ref DFL] [] f fd) (T : Txt K mg) {k : Nat} (h2 : 2 ≤ k) (Hw : Def P w K mg base CX0 k "_how_many" fH dH ["parts", "depth"] (spHow K 4)) (Ap : Def P w K mg base CX0 (k + 1) "are_parts_of_row" fA dA ["thing"] (spApr K)) :
    FnOk P w K mg base CX0 (k + 2) f fd ["self", "parts"] (spRow K) := by
  refine F.ok scin (fun vs H Q E h => ?_) (fun cdv A outer s H vs Q E hr h => ?_)
  · obtain ⟨p, dx, x, ds, rfl, _⟩ := h
    rfl
  · obtain ⟨p, dx, x, ds, rfl, hp, hx, ok, q⟩ := h
    have hr1 : Room (k + 1) _ := hr
    have hrk : Room k _ := hr1.mono (by omega)
    refine ⟨_, pss_cons (ps_if (pt_not (pt_val (pe_callB call_isiT (by rfl) T.p.isn boot_isinstance (pa_cons (pv 1) (pa_cons (pe_tup (pa_cons (pe_bltn (v := .ty "list") (by rfl) T.list bbL (by rfl)) (pa_cons (pe_bltn (v := .ty "tuple") (by rfl) T.p.tuple bbT (by rfl)) pa_nil))) pa_nil))))) pss_never pss_nil)
      (C8.pss_cut (ps_set (i := 2) scin.nd rfl (Or.inl rfl) (pe_callTy call_tuple_of (by rfl) T.p.tuple bbT (pa_cons (pv 1) pa_nil)))
      (pss_cons (ps_if (pt_not (pt_val (pe_call Ap.ok hr1 (by rfl) Ap.g Ap.k Ap.b .nil pass0 (pa_cons (pv 2) pa_nil)))) pss_never pss_nil)
      (pss_cons (ps_fld (pv 0) (pv 2) rfl) (pss_one (ps_fld (pv 0) (pe_call Hw.ok hrk (by rfl) Hw.g Hw.k Hw.b .nil pass0 (pa_cons (pv 2) (pa_cons pe_int pa_nil))) rfl))))), ?_⟩
    have e0 : start ["self", "parts", "kept"] [V.ref p, x] = [some (.ref p), some x, none] := rfl
    rw [e0]
    refine go_seq ?_
    refine ⟨_, rfl, by show 2 ≤ sizeLine; decide, fun tp ntp => ⟨x, tp, [.ty "list", .ty "tuple"], .type "tuple", [.type "list", .type "tuple"], true, rfl, upd_same, .cons (.ty _) (.cons (.ty _) .nil), tyE (d := .tuple ds) (.inl (Dp.same (same_upd ntp) hx)), seq_any (.tuple ds), _, rfl, ?_⟩⟩
    have s1 := same_upd (o := .tup [.ty "list", .ty "tuple"]) ntp
    generalize upd H tp (.tup [.ty "list", .ty "tuple"]) = H1 at s1 ⊢
    refine iteF (go_next ?_)
    refine ⟨fun σ' H' => ∃ y, σ' = [some (.ref p), some x, some y] ∧ Same H H' ∧ Dp K H' y (.tuple ds), ?_, ?_⟩
    · have hx1 := Dp.same s1 hx
      cases hx1 with
      | @tup a xs ds hS ha => exact ⟨_, rfl, a, xs, rfl, .inr ⟨hS, _, rfl, s1, .tup hS ha⟩⟩
    rintro σ2 H2 ⟨y, rfl, s2, hy⟩
    walk_at "nx"
    refine ⟨_, rfl, y, .tuple ds, rfl, hy, ok.s, fun ds' z => by cases z; exact ok.l, fun H3 s3 => ⟨_, rfl, ?_⟩⟩
    have ea : aprD (.tuple ds) = true := by
      show (decide _ && _) = true
      rw [decide_eq_true ok.h, ok.g]
      rfl
    rw [ea]
    refine iteF ?_
    have s23 := s2.trans s3
    have hy3 := Dp.same s3 hy
    have hp3 := s23 _ _ hp
    refine ⟨_, rfl, _, rfl, p, CR K, dx, [], rfl, hp3, T.cl, T.nP, by show 0 < 1000; decide, ?_⟩
    have k1 : Ki H3 (upd H3 p (.ins (CR K) dx (putF "parts" y []))) := fun b o e ne => by
      have hb : b ≠ p := fun z => by rw [z, hp3] at e; exact ne _ _ _ (Option.some.inj e).symm
      exact (upd_ne hb).trans e
    refine ⟨_, rfl, y, .tuple ds, rfl, Dp.ki k1 hy3, ok.s, fun H4 s4 => ?_⟩
    have hp4 := s4 _ _ (upd_same (H := H3) (a := p) (o := .ins (CR K) dx (putF "parts" y [])))
    refine ⟨_, rfl, p, CR K, dx, _, rfl, hp4, T.cl, T.nS, by show 1 < 1000; decide, ?_⟩
    have k2 : Ki H4 (upd H4 p (.ins (CR K) dx (putF "size" (.int (howF (sizeD 4) (.tuple ds))) (putF "parts" y [])))) := fun b o e ne => by
      have hb : b ≠ p := fun z => by rw [z, hp4] at e; exact ne _ _ _ (Option.some.inj e).symm
      exact (upd_ne hb).trans e
    refine q _ y (fun b o e hb => ?_) ⟨dx, upd_same⟩ (Dp.ki k2 (Dp.same s4 (Dp.ki k1 hy3)))
    exact (upd_ne hb).trans (s4 _ _ ((upd_ne hb).trans (s23 _ _ e)))
end
end L2.L86

set_option maxHeartbeats 1000000
namespace L2.L86
open PySem PySem.Spec PyProof.Rows NumText LR L2.Lr L2.Tx TL
local macro_rules | `(tactic| walk_at "nx") => `(tactic| dsimp only [gName, tNext, tSeq, tAsg, List.set_cons_zero, List.set_cons_succ])
theorem sctx : FnScope ["parts", "part"] ["parts"] (defScope sTxt) := ⟨rfl, rfl, rfl, by decide +kernel, rfl, by decide +kernel, by decide +kernel⟩
theorem sctp : FnScope ["part", "word"] ["part"] (defScope sTxP) := ⟨rfl, rfl, rfl, by decide +kernel, rfl, by decide +kernel, by decide +kernel⟩
theorem scst : FnScope ["self"] ["self"] (defScope sStr) := ⟨rfl, rfl, rfl, by decide +kernel, rfl, by decide +kernel, by decide +kernel⟩
abbrev spS : Str := " "
abbrev opS : Str := " ("
abbrev clS : Str := ")"
abbrev scS : Str := "; "
def cntP : PyData → Str
  | .tuple [.int a, .int b] => cntT a b
  | _ => Str.empty
/-- the text of a part, where tx is the text of the parts in it -/
def txF (tx : List PyData → Str) : PyData → Str
  | .tuple [.str w, .int k] => w ++ spS ++ intT k
  | .tuple [.str w, .str c, .int k] => if k = 1 then w ++ spS ++ c else w ++ spS ++ c ++ spS ++ intT k
  | .tuple [.str _, c, .tuple ds] => ("loop " : Str) ++ cntP c ++ opS ++ tx ds ++ clS
  | .tuple [.str _, .tuple ds] => ("forever (" : Str) ++ tx ds ++ clS
  | _ => Str.empty
/-- the text of parts, n loops deep -/
def txM : Nat → List PyData → Str
  | 0, _ => Str.empty
  | n + 1, ds => PySem.Txt.join scS (ds.map (txF (txM n)))
theorem part_kind {n : Nat} (hn : n ≤ 4) {d : PyData} (h : sizeD n d ≤ 60) : (∃ k : Int, d = .tuple [.str "work", .int k] ∧ 1 ≤ k ∧ k ≤ 99 ∧ sizeD n d = 1) ∨
    (∃ (w c : Str) (k : Int), (w = "send" ∨ w = "take") ∧ d = .tuple [.str w, .str c, .int k] ∧ wordD (.str c) = true ∧ 1 ≤ k ∧ k ≤ 9 ∧ sizeD n d = 1) ∨
    (∃ m a b ds, n = m + 1 ∧ d = .tuple [.str "loop", .tuple [.int a, .int b], .tuple ds] ∧ countD (.tuple [.int a, .int b]) = true ∧ sizeD n d = 1 + howF (sizeD m) (.tuple ds)) ∨
    ∃ m ds, n = m + 1 ∧ d = .tuple [.str "forever", .tuple ds] ∧ sizeD n d = 1 + howF (sizeD m) (.tuple ds) := by
  obtain ⟨w, es, rfl⟩ := size_shape h
  have sing : ∀ (e : sizeD n (.tuple (.str w :: es)) = if singD w es then 1 else 61), (∃ k : Int, PyData.tuple (.str w :: es) = .tuple [.str "work", .int k] ∧ 1 ≤ k ∧ k ≤ 99 ∧ sizeD n (.tuple (.str w :: es)) = 1) ∨
      (∃ (w' c : Str) (k : Int), (w' = "send" ∨ w' = "take") ∧ PyData.tuple (.str w :: es) = .tuple [.str w', .str c, .int k] ∧ wordD (.str c) = true ∧ 1 ≤ k ∧ k ≤ 9 ∧ sizeD n (.tuple (.str w :: es)) = 1) := fun e => by
    cases hs : singD w es with
    | false => rw [e, hs] at h; exact absurd h (by show ¬ (61 : Int) ≤ 60; decide)
    | true =>
      have e1 : sizeD n (.tuple (.str w :: es)) = 1 := by rw [e, hs]; rfl
      match es, hs with
      | [t], hs =>
        obtain ⟨h1, h2⟩ := Bool.and_eq_true_iff.mp (show (decide (w = "work") && betw 1 99 t) = true from hs)
        obtain ⟨k, rfl, k1, k2⟩ := betw_int h2
        have := of_decide_eq_true h1
        subst this
        exact .inl ⟨k, rfl, k1, k2, e1⟩
      | [c, k], hs =>
        obtain ⟨h1, h2⟩ := Bool.and_eq_true_iff.mp (show (!decide (w = "work") && ((decide (w = "send") || decide (w = "take")) && (wordD c && betw 1 9 k))) = true from hs)
        obtain ⟨h3, h4⟩ := Bool.and_eq_true_iff.mp h2
        obtain ⟨h5, h6⟩ := Bool.and_eq_true_iff.mp h4
        obtain ⟨k, rfl, k1, k2⟩ := betw_int h6
        cases c with
        | str c => exact .inr ⟨w, c, k, (Bool.or_eq_true_iff.mp h3).imp of_decide_eq_true of_decide_eq_true, rfl, h5, k1, k2, e1⟩
        | _ => cases h5
  cases n with
  | zero =>
    have e : sizeD 0 (.tuple (.str w :: es)) = if roundW w then 61 else if singD w es then 1 else 61 := rfl
    cases hr : roundW w with
    | true => rw [e, hr] at h; exact absurd h (by show ¬ (61 : Int) ≤ 60; decide)
    | false =>
      rw [hr] at e
      rcases sing e with h | h
      · exact .inl h
      · exact .inr (.inl h)
  | succ m =>
    have e : sizeD (m + 1) (.tuple (.str w :: es)) = if roundW w then (if headD (3 - m) w es then 1 + howF (sizeD m) (lastD es) else 61) else if singD w es then 1 else 61 := rfl
    cases hr : roundW w with
    | false =>
      rw [hr] at e
      rcases sing e with h | h
      · exact .inl h
      · exact .inr (.inl h)
    | true =>
      rw [hr, if_pos rfl] at e
      cases hh : headD (3 - m) w es with
      | false => rw [e, hh] at h; exact absurd h (by show ¬ (61 : Int) ≤ 60; decide)
      | true =>
        rw [hh, if_pos rfl] at e
        have tup : ∀ {d : PyData}, 1 + howF (sizeD m) d ≤ 60 → ∃ ds, d = .tuple ds := fun {d} z => by
          cases d with
          | tuple ds => exact ⟨ds, rfl⟩
          | _ => exact absurd z (by show ¬ (1 + 61 : Int) ≤ 60; decide)
        rw [e] at h
        match es, hh, e, h with
        | [d], hh, e, h =>
          obtain ⟨h1, _⟩ := Bool.and_eq_true_iff.mp (show (decide (w = "forever") && decide (3 - (m : Int) = 0)) = true from hh)
          have := of_decide_eq_true h1
          subst this
          obtain ⟨ds, rfl⟩ := tup h
          exact .inr (.inr (.inr ⟨m, ds, rfl, rfl, e⟩))
        | [c, d], hh, e, h =>
          obtain ⟨h1, h2⟩ := Bool.and_eq_true_iff.mp (show (!decide (w = "forever") && (countD c && decide (3 - (m : Int) < 4))) = true from hh)
          obtain ⟨h3, _⟩ := Bool.and_eq_true_iff.mp h2
          obtain ⟨a, b, rfl⟩ := countD_ints h3
          have hw : w = "loop" := by
            rcases Bool.or_eq_true_iff.mp hr with z | z
            · exact of_decide_eq_true z
            · rw [z] at h1; cases h1
          subst hw
          obtain ⟨ds, rfl⟩ := tup h
          exact .inr (.inr (.inl ⟨m, a, b, ds, rfl, rfl, h3, e⟩))
/-- 44 signs a part -/
theorem join_len44 {tx : PyData → Str} {sz : PyData → Int} (h0 : ∀ d, 0 ≤ sz d) (h : ∀ d, sz d ≤ 60 → ((tx d).length : Int) + 2 ≤ 44 * sz d) :
    ∀ (ds : List PyData) (m : Int), 0 ≤ m → goL sz m ds ≤ 60 → ((ds.map tx).map (·.length)).sum + 2 * ds.length ≤ 44 * (goL sz m ds - m)
  | [], m, hm, hg => by
    show ((0 : Nat) : Int) ≤ 44 * (m - m)
    omega
  | d :: ds, m, hm, hg => by
    unfold goL at hg ⊢
    have nn := h0 d
    split at hg
    · omega
    · rename_i hle
      rw [if_neg hle]
      have h1 := h d (by omega)
      have h2 := join_len44 h0 h ds (m + sz d) (by omega) hg
      simp only [List.map_cons, List.sum_cons, List.length_cons]
      push_cast at h2 ⊢
      omega
theorem joinL_le {S : List Nat} : ∀ ps : List (List Nat), (joinL S ps).length ≤ (ps.map (·.length)).sum + S.length * ps.length
  | [] => Nat.zero_le _
  | [p] => by
    show p.length ≤ _
    simp only [List.map_cons, List.sum_cons, List.length_cons]
    omega
  | p :: q :: r => by
    have h := joinL_le (S := S) (q :: r)
    show (p ++ (S ++ joinL S (q :: r))).length ≤ _
    rw [List.length_append, List.length_append, List.map_cons, List.sum_cons, List.length_cons (a := p), Nat.mul_add]
    omega
theorem join_le (a : Str) (ys : List Str) : (PySem.Txt.join a ys).length ≤ (ys.map (·.length)).sum + a.length * ys.length := by
  have e : tl (PySem.Txt.join a ys) = joinL (tl a) (ys.map tl) := by rw [join_eq, tl_join]
  have h := joinL_le (S := tl a) (ys.map tl)
  rw [len_tl, e, len_tl a]
  rw [List.map_map, List.length_map] at h
  exact h
theorem word_len {c : Str} (h : wordD (.str c) = true) : 1 ≤ c.length ∧ c.length ≤ 8 := by
  obtain ⟨h1, _⟩ := Bool.and_eq_true_iff.mp h
  obtain ⟨h2, h3⟩ := Bool.and_eq_true_iff.mp h1
  exact ⟨of_decide_eq_true h2, of_decide_eq_true h3⟩
theorem small_len {k : Int} (h0 : 0 ≤ k) (h : k ≤ 99) : (intT k).length ≤ 3 := intT_len (k := 2) (by decide) (by omega)
theorem tx_len : ∀ (n : Nat), n ≤ 4 → ∀ d, sizeD n d ≤ 60 → ((txF (txM n) d).length : Int) + 2 ≤ 44 * sizeD n d
  | 0, hn, d, h => by
    rcases part_kind hn h with ⟨k, rfl, k1, k2, e⟩ | ⟨w, c, k, hw, rfl, hc, k1, k2, e⟩ | ⟨m, a, b, ds, hm, _⟩ | ⟨m, ds, hm, _⟩
    · rw [e]
      have := small_len (k := k) (by omega) k2
      show (((("work" : Str) ++ spS ++ intT k).length : Nat) : Int) + 2 ≤ _
      rw [len_app, len_app]
      show ((4 + 1 + (intT k).length : Nat) : Int) + 2 ≤ _
      omega
    · rw [e]
      have h3 := small_len (k := k) (by omega) (by omega)
      obtain ⟨_, h8⟩ := word_len hc
      have hw4 : w.length = 4 := by rcases hw with rfl | rfl <;> rfl
      show (((if k = 1 then w ++ spS ++ c else w ++ spS ++ c ++ spS ++ intT k).length : Nat) : Int) + 2 ≤ _
      split
      · rw [len_app, len_app, hw4]
        show ((4 + 1 + c.length : Nat) : Int) + 2 ≤ _
        omega
      · rw [len_app, len_app, len_app, len_app, hw4]
        show ((4 + 1 + c.length + 1 + (intT k).length : Nat) : Int) + 2 ≤ _
        omega
    · cases hm
    · cases hm
  | n + 1, hn, d, h => by
    rcases part_kind hn h with ⟨k, rfl, k1, k2, e⟩ | ⟨w, c, k, hw, rfl, hc, k1, k2, e⟩ | ⟨m, a, b, ds, hm, rfl, hc, e⟩ | ⟨m, ds, hm, rfl, e⟩
    · rw [e]
      have := small_len (k := k) (by omega) k2
      show (((("work" : Str) ++ spS ++ intT k).length : Nat) : Int) + 2 ≤ _
      rw [len_app, len_app]
      show ((4 + 1 + (intT k).length : Nat) : Int) + 2 ≤ _
      omega
    · rw [e]
      have h3 := small_len (k := k) (by omega) (by omega)
      obtain ⟨_, h8⟩ := word_len hc
      have hw4 : w.length = 4 := by rcases hw with rfl | rfl <;> rfl
      show (((if k = 1 then w ++ spS ++ c else w ++ spS ++ c ++ spS ++ intT k).length : Nat) : Int) + 2 ≤ _
      split
      · rw [len_app, len_app, hw4]
        show ((4 + 1 + c.length : Nat) : Int) + 2 ≤ _
        omega
      · rw [len_app, len_app, len_app, len_app, hw4]
        show ((4 + 1 + c.length + 1 + (intT k).length : Nat) : Int) + 2 ≤ _
        omega
    · cases hm
      have hg : goL (sizeD n) 0 ds ≤ 60 := by
        have z := h
        rw [e] at z
        have : howF (sizeD n) (.tuple ds) = goL (sizeD n) 0 ds := rfl
        omega
      have h1 := join_len44 (tx := txF (txM n)) (sizeD_nn n) (tx_len n (by omega)) ds 0 (by decide) hg
      have h2 := join_le scS (ds.map (txF (txM n)))
      have h3 : (cntT a b).length ≤ 34 := cnt_len ⟨hc, rfl⟩
      have h4 : scS.length = 2 := rfl
      rw [h4, List.length_map] at h2
      rw [e]
      show (((("loop " : Str) ++ cntT a b ++ opS ++ PySem.Txt.join scS (ds.map (txF (txM n))) ++ clS).length : Nat) : Int) + 2 ≤ 44 * (1 + goL (sizeD n) 0 ds)
      rw [len_app, len_app, len_app, len_app]
      show ((5 + (cntT a b).length + 2 + (PySem.Txt.join scS (ds.map (txF (txM n)))).length + 1 : Nat) : Int) + 2 ≤ _
      omega
    · cases hm
      have hg : goL (sizeD n) 0 ds ≤ 60 := by
        have z := h
        rw [e] at z
        have : howF (sizeD n) (.tuple ds) = goL (sizeD n) 0 ds := rfl
        omega
      have h1 := join_len44 (tx := txF (txM n)) (sizeD_nn n) (tx_len n (by omega)) ds 0 (by decide) hg
      have h2 := join_le scS (ds.map (txF (txM n)))
      have h4 : scS.length = 2 := rfl
      rw [h4, List.length_map] at h2
      rw [e]
      show (((("forever (" : Str) ++ PySem.Txt.join scS (ds.map (txF (txM n))) ++ clS).length : Nat) : Int) + 2 ≤ 44 * (1 + goL (sizeD n) 0 ds)
      rw [len_app, len_app]
      show ((9 + (PySem.Txt.join scS (ds.map (txF (txM n)))).length + 1 : Nat) : Int) + 2 ≤ _
      omega
theorem txM_len {n : Nat} (hn : n ≤ 4) {ds : List PyData} (h : howF (sizeD n) (.tuple ds) ≤ 60) : (txM (n + 1) ds).length ≤ 2640 ∧ ((ds.map (txF (txM n))).map (·.length)).sum + ds.length * 2 ≤ 2640 := by
  have h1 := join_len44 (tx := txF (txM n)) (sizeD_nn n) (tx_len n hn) ds 0 (by decide) h
  have h2 := join_le scS (ds.map (txF (txM n)))
  have h4 : scS.length = 2 := rfl
  rw [h4, List.length_map] at h2
  have e : howF (sizeD n) (.tuple ds) = goL (sizeD n) 0 ds := rfl
  rw [e] at h
  refine ⟨?_, by omega⟩
  show (PySem.Txt.join scS (ds.map (txF (txM n)))).length ≤ 2640
  omega
end L2.L86

set_option maxHeartbeats 1000000
namespace L2.L86
open PySem PySem.Spec PyProof.Rows NumText LR L2.Lr L2.Tx TL
local macro_rules | `(tactic| walk_at "nx") => `(tactic| dsimp only [gName, tNext, tSeq, tAsg, List.set_cons_zero, List.set_cons_succ])
def spCk0 (K : PySem.W.Frag) : Sp := fun vs H Q _ => ∃ x a b, vs = [x] ∧ Dp K H x (.tuple [.int a, .int b]) ∧ countD (.tuple [.int a, .int b]) = true ∧ Q .non H
def spFm0 (K : PySem.W.Frag) : Sp := fun vs H Q _ => ∃ x a b, vs = [x] ∧ Dp K H x (.tuple [.int a, .int b]) ∧ countD (.tuple [.int a, .int b]) = true ∧ Q (.str (cntT a b)) H
def spTxt (K : PySem.W.Frag) (n : Nat) : Sp := fun vs H Q _ => ∃ x ds, vs = [x] ∧ Dp K H x (.tuple ds) ∧ howF (sizeD n) (.tuple ds) ≤ 60 ∧ ∀ H', Same H H' → Q (.str (txM (n + 1) ds)) H'
def spTxP (K : PySem.W.Frag) (n : Nat) : Sp := fun vs H Q _ => ∃ x d, vs = [x] ∧ Dp K H x d ∧ sizeD n d ≤ 60 ∧ ∀ H', Same H H' → Q (.str (txF (txM n) d)) H'
theorem goL_len {sz : PyData → Int} (h0 : ∀ d, 1 ≤ sz d) : ∀ (ds : List PyData) (m : Int), 0 ≤ m → goL sz m ds ≤ 60 → m + ds.length ≤ 60
  | [], m, hm, h => by
    have h : m ≤ 60 := h
    show m + ((0 : Nat) : Int) ≤ 60
    omega
  | d :: ds, m, hm, h => by
    unfold goL at h
    have := h0 d
    split at h
    · omega
    · have := goL_len h0 ds _ (by omega) h
      rw [List.length_cons]
      push_cast at this ⊢
      omega
theorem sizeD_pos (n : Nat) (d : PyData) : 1 ≤ sizeD n d := by
  by_cases h : sizeD n d ≤ 60
  · cases n with
    | zero =>
      obtain ⟨w, es, rfl⟩ := size_shape h
      show (1 : Int) ≤ if roundW w then 61 else if singD w es then 1 else 61
      split
      · decide
      · split <;> decide
    | succ m =>
      obtain ⟨w, es, rfl⟩ := size_shape h
      show (1 : Int) ≤ if roundW w then (if headD (3 - m) w es then 1 + howF (sizeD m) (lastD es) else 61) else if singD w es then 1 else 61
      split
      · split
        · have := howF_nn (sizeD_nn m) (lastD es)
          omega
        · decide
      · split <;> decide
  · omega
theorem goL_at {sz : PyData → Int} (h0 : ∀ d, 0 ≤ sz d) : ∀ (ds : List PyData) (m : Int), 0 ≤ m → goL sz m ds ≤ 60 → ∀ d ∈ ds, sz d ≤ 60
  | [], m, hm, h => fun d hd => by cases hd
  | d :: ds, m, hm, h => fun e he => by
    unfold goL at h
    have := h0 d
    split at h
    · omega
    · rcases List.mem_cons.mp he with rfl | he
      · omega
      · exact goL_at h0 ds _ (by omega) h e he
section
variable {P : Program} {w : World} {K : PySem.W.Frag} {mg : Str → Option Value} {base : Heap}
theorem ok_ckc0 {f fB : Addr} {fd dB : FuncData} (F : FnP K "_check_count" sChk f fd) (T : Txt K mg) (N : Def P w K mg base CX0 3 "is_count" fB dB ["thing"] (spCount K)) : FnOk P w K mg base CX0 4 f fd ["count"] (spCk0 K) := by
  refine F.ok scCh (fun vs H Q E h => ?_) (fun cdv A outer s H vs Q E hr h => ?_)
  · obtain ⟨x, a, b, rfl, _⟩ := h
    rfl
  · obtain ⟨x, a, b, rfl, hd, hc, q⟩ := h
    refine ⟨_, pss_one (ps_if (pt_not (pt_val (pe_call N.ok hr (by rfl) N.g N.k N.b .nil pass0 (pa_cons (pv 0) pa_nil)))) pss_never pss_nil), ?_⟩
    have e0 : start ["count"] [x] = [some x] := rfl
    rw [e0]
    refine ⟨_, rfl, x, _, rfl, hd, _, rfl, ?_⟩
    rw [hc]
    exact iteF q
theorem ok_fm0 {f fC fW : Addr} {fd dC dW : FuncData} (F : FnP K "format_count" sForm f fd) (C : Def P w K mg base CX0 4 "_check_count" fC dC ["count"] (spCk0 K)) (W : Def P w K mg base CX0 1 "_written" fW dW ["count"] (spWrit K)) : FnOk P w K mg base CX0 5 f fd ["count"] (spFm0 K) := by
  refine F.ok scFo (fun vs H Q E h => ?_) (fun cdv A outer s H vs Q E hr h => ?_)
  · obtain ⟨x, a, b, rfl, _⟩ := h
    rfl
  · obtain ⟨x, a, b, rfl, hd, hc, q⟩ := h
    refine ⟨_, pss_cons (ps_expr (pe_call C.ok hr (by rfl) C.g C.k C.b .nil pass0 (pa_cons (pv 0) pa_nil)))
      (pss_one (ps_ret (pe_call W.ok (hr.mono (by decide)) (by rfl) W.g W.k W.b .nil pass0 (pa_cons (pv 0) pa_nil)))), ?_⟩
    have e0 : start ["count"] [x] = [some x] := rfl
    rw [e0]
    refine go_seq ?_
    exact ⟨_, rfl, x, a, b, rfl, hd, hc, _, rfl, x, a, b, rfl, hd, hc, q⟩
theorem ok_txt {n : Nat} (hn : n ≤ 4) {f fP : Addr} {fd dP : FuncData} (F : FnP K "_text_of" sTxt f fd) {k : Nat} (N : Def P w K mg base CX0 k "_text_of_part" fP dP ["part"] (spTxP K n)) : FnOk P w K mg base CX0 (k + 1) f fd ["parts"] (spTxt K n) := by
  refine F.ok sctx (fun vs H Q E h => ?_) (fun cdv A outer s H vs Q E hr h => ?_)
  · obtain ⟨x, ds, rfl, _⟩ := h
    rfl
  · obtain ⟨x, ds, rfl, hd, hz, q⟩ := h
    refine ⟨_, PSs.nox (pss_one (ps_ret (pe_join pe_str (pe_lc (own := [("part", 1)]) (g := gName 1) (tt := tYes) rfl sctx.nd (pi_tup (pv 0)) (blkOk_by (N := ["parts", "part"]) (sc := defScope sTxt) (by decide +kernel)) (fun _ _ _ _ _ => pg_name (i := 1) sctx.nd rfl (Or.inl rfl)) (fun _ _ _ _ _ => pts_nil) (fun _ _ _ _ _ => pe_call N.ok hr (by rfl) N.g N.k N.b .nil pass0 (pa_cons (pv 1) pa_nil)))))), ?_⟩
    have e0 : start ["parts", "part"] [x] = [some x, none] := rfl
    rw [e0]
    cases hd with
    | @tup a xs _ hS ha =>
    have hlx := DpAll.length ha
    have hg : goL (sizeD n) 0 ds ≤ 60 := hz
    have hl60 : ((0 : Int)) + ds.length ≤ 60 := goL_len (sizeD_pos n) ds 0 (by decide) hg
    refine ⟨⟨_, rfl⟩, _, rfl, a, rfl, ⟨_, hS⟩, fun D hD => lc_tup (K := K) (a := a) (xs := xs) (MapI H D (ds.map fun d => V.str (txF (txM n) d))) (MapI.zero hD) (fun i H' _ p => seqT p.1 hS) ?_ ?_⟩
    · rintro i v H4 hv p
      obtain ⟨d, hdi, hdv⟩ := DpAll.at ha hv
      refine ⟨rfl, ⟨_, rfl, v, d, rfl, Dp.same p.1 hdv, goL_at (sizeD_nn n) ds 0 (by decide) hg d (List.mem_of_getElem? hdi), fun H5 s5 => ?_⟩⟩
      exact MapI.step hD p (by rw [List.getElem?_map, hdi]; rfl) (by rw [List.length_map]; omega) s5
    · intro H4 pm
      obtain ⟨s4, hD4⟩ := pm.all (by rw [List.length_map, hlx]; exact Nat.le_refl _)
      obtain ⟨_, l2⟩ := txM_len hn hz
      refine ⟨_, D, ds.map (txF (txM n)), rfl, rfl, .inl (SqL.of (by rw [hD4, List.map_map]; rfl)), ?_, q H4 s4⟩
      rw [List.length_map]
      show _ + ds.length * 2 ≤ _
      omega
theorem ok_txp0 {f : Addr} {fd : FuncData} (F : FnP K "_text_of_part" sTxP f fd) {k : Nat} : FnOk P w K mg base CX0 (k + 1) f fd ["part"] (spTxP K 0) := by
  refine F.ok sctp (fun vs H Q E h => ?_) (fun cdv A outer s H vs Q E hr h => ?_)
  · obtain ⟨x, ds, rfl, _⟩ := h
    rfl
  · obtain ⟨x, d, rfl, hd, hz, q⟩ := h
    have hn : 0 ≤ 4 := by decide
    generalize hn0 : (0 : Nat) = n at hn hz q
    refine ⟨_, pss_cons (ps_set (i := 1) sctp.nd rfl (Or.inl rfl) (pe_ix ix_tup (pv 0) pe_int (fun _ _ => rfl)))
      (pss_cons (ps_if (pt_cmpR op_eq (pv 1) pe_str (nomark _)) (pss_one (ps_ret pe_never)) pss_nil)
      (pss_cons (ps_if (pt_cmpR op_eq (pv 1) pe_str (nomark _)) (pss_one (ps_ret pe_never)) pss_nil)
      (pss_cons (ps_if (PW.pt (pw_or (pt_cmpR op_eq (pv 1) pe_str (nomark _)) (pw_or1 (pt_cmpR op_eq (pe_ix ix_tup (pv 0) pe_int (fun _ _ => rfl)) pe_int (nomark _))))) (pss_one (ps_ret (pe_joined (.cons (pe_fmt (pv 1)) (.cons pe_str (.cons (pe_fmt (pe_ix ix_tup (pv 0) pe_int (fun _ _ => rfl))) .nil)))))) pss_nil)
      (pss_one (ps_ret (pe_joined (.cons (pe_fmt (pv 1)) (.cons pe_str (.cons (pe_fmt (pe_ix ix_tup (pv 0) pe_int (fun _ _ => rfl))) (.cons pe_str (.cons (pe_fmt (pe_ix ix_tup (pv 0) pe_int (fun _ _ => rfl))) .nil))))))))))), ?_⟩
    have e0 : ∀ x : V, start ["part", "word"] [x] = [some x, none] := fun _ => rfl
    rw [e0]
    have sz : sizeLine = 16777216 := sizeLine_eq
    rcases part_kind hn hz with ⟨k, rfl, k1, k2, e⟩ | ⟨w, c, k, hw, rfl, hc, k1, k2, e⟩ | ⟨m, a, b, ds, hm, rfl, hc, e⟩ | ⟨m, ds, hm, rfl, e⟩
    · obtain ⟨t, v, vs, rfl, hS, h1, h2⟩ := tupD hd
      cases strD h1
      cases h2 with
      | cons g1 h3 =>
      cases h3
      cases intDv g1
      have l3 := small_len (k := k) (by omega) k2
      refine go_seq (go_asg ?_)
      refine ⟨_, rfl, t, _, 0, .str "work", rfl, rfl, hS, at0, ?_⟩
      walk_at "nx"
      refine ⟨_, rfl, rfl, _, rfl, str_if (fun z => absurd z (by decide +kernel)) fun _ => ?_⟩
      walk_at "nx"
      refine ⟨_, rfl, rfl, _, rfl, str_if (fun z => absurd z (by decide +kernel)) fun _ => ?_⟩
      walk_at "nx"
      refine ⟨_, rfl, rfl, _, rfl, str_if (fun _ => ?_) fun z => absurd rfl z⟩
      refine iteT ?_
      refine ⟨_, rfl, .inl ⟨_, rfl, by decide +kernel, _, rfl, by rw [empty_app, sz]; decide, spS, rfl, by rw [empty_app, sz]; decide, _, rfl, t, _, 1, .int k, rfl, rfl, hS, at1, .inr ⟨k, rfl, log_200 (by omega), intT k, rfl, ?_, ?_⟩⟩⟩
      · rw [empty_app, len_app, sz]
        show 5 + _ ≤ _
        omega
      · rw [empty_app]
        exact q H (Same.refl H)
    · obtain ⟨t, v, vs, rfl, hS, h1, h2⟩ := tupD hd
      cases strD h1
      cases h2 with
      | cons g1 h3 =>
      cases h3 with
      | cons g2 h4 =>
      cases h4
      cases strD g1
      cases intDv g2
      have l3 := small_len (k := k) (by omega) (by omega)
      obtain ⟨_, h8⟩ := word_len hc
      have w4 : w.length = 4 := by rcases hw with rfl | rfl <;> rfl
      have wl : ¬ w = "loop" := fun z => by rw [z] at hw; rcases hw with z | z <;> exact absurd z (by decide +kernel)
      have wf : ¬ w = "forever" := fun z => by rw [z] at hw; rcases hw with z | z <;> exact absurd z (by decide +kernel)
      have ww : ¬ w = "work" := fun z => by rw [z] at hw; rcases hw with z | z <;> exact absurd z (by decide +kernel)
      refine go_seq (go_asg ?_)
      refine ⟨_, rfl, t, _, 0, .str w, rfl, rfl, hS, at0, ?_⟩
      walk_at "nx"
      refine ⟨_, rfl, rfl, _, rfl, str_if (fun z => absurd z wl) fun _ => ?_⟩
      walk_at "nx"
      refine ⟨_, rfl, rfl, _, rfl, str_if (fun z => absurd z wf) fun _ => ?_⟩
      walk_at "nx"
      refine ⟨_, rfl, rfl, _, rfl, str_if (fun z => absurd z ww) fun _ => ?_⟩
      refine ⟨_, rfl, t, _, 2, .int k, rfl, rfl, hS, at2, rfl, _, rfl, int_if (fun h1 => ?_) fun h1 => ?_⟩
      · refine ⟨_, rfl, .inl ⟨_, rfl, by omega, _, rfl, by rw [empty_app]; omega, spS, rfl, by rw [empty_app, len_app, w4, sz]; decide, _, rfl, t, _, 1, .str c, rfl, rfl, hS, at1, .inl ⟨c, rfl, by omega, c, rfl, ?_, ?_⟩⟩⟩
        · rw [empty_app, len_app, len_app, w4, sz]
          show 5 + _ ≤ _
          omega
        · rw [empty_app]
          have z := q H (Same.refl H)
          rw [show txF (txM n) (.tuple [.str w, .str c, .int k]) = if k = 1 then w ++ spS ++ c else w ++ spS ++ c ++ spS ++ intT k from rfl, if_pos h1] at z
          exact z
      · walk_at "nx"
        refine ⟨_, rfl, .inl ⟨_, rfl, by omega, _, rfl, by rw [empty_app]; omega, spS, rfl, by rw [empty_app, len_app, w4, sz]; decide, _, rfl, t, _, 1, .str c, rfl, rfl, hS, at1, .inl ⟨c, rfl, by omega, c, rfl, ?_, spS, rfl, ?_, _, rfl, t, _, 2, .int k, rfl, rfl, hS, at2, .inr ⟨k, rfl, log_200 (by omega), intT k, rfl, ?_, ?_⟩⟩⟩⟩
        · rw [empty_app, len_app, len_app, w4, sz]
          show 5 + _ ≤ _
          omega
        · rw [empty_app, len_app, len_app, len_app, w4, sz]
          show 5 + _ + 1 ≤ _
          omega
        · rw [empty_app, len_app, len_app, len_app, len_app, w4, sz]
          show 5 + _ + 1 + _ ≤ _
          omega
        · rw [empty_app]
          have z := q H (Same.refl H)
          rw [show txF (txM n) (.tuple [.str w, .str c, .int k]) = if k = 1 then w ++ spS ++ c else w ++ spS ++ c ++ spS ++ intT k from rfl, if_neg h1] at z
          exact z
    · omega
    · omega
theorem ok_txpS {n : Nat} (hn : n + 1 ≤ 4) {f fT fF : Addr} {fd dT dF : FuncData} (F : FnP K "_text_of_part" sTxP f fd) {k : Nat} (h5 : 5 ≤ k) (Fm : Def P w K mg base CX0 5 "format_count" fF dF ["count"] (spFm0 K)) (Tx : Def P w K mg base CX0 k "_text_of" fT dT ["parts"] (spTxt K n)) : FnOk P w K mg base CX0 (k + 1) f fd ["part"] (spTxP K (n + 1)) := by
  refine F.ok sctp (fun vs H Q E h => ?_) (fun cdv A outer s H vs Q E hr h => ?_)
  · obtain ⟨x, ds, rfl, _⟩ := h
    rfl
  · obtain ⟨x, d, rfl, hd, hz, q⟩ := h
    generalize hn0 : n + 1 = n' at hn hz q
    refine ⟨_, pss_cons (ps_set (i := 1) sctp.nd rfl (Or.inl rfl) (pe_ix ix_tup (pv 0) pe_int (fun _ _ => rfl)))
      (pss_cons (ps_if (pt_cmpR op_eq (pv 1) pe_str (nomark _)) (pss_one (ps_ret (pe_joined (.cons pe_str (.cons (pe_fmt (pe_call Fm.ok (hr.mono h5) (by rfl) Fm.g Fm.k Fm.b .nil pass0 (pa_cons (pe_ix ix_tup (pv 0) pe_int (fun _ _ => rfl)) pa_nil))) (.cons pe_str (.cons (pe_fmt (pe_call Tx.ok hr (by rfl) Tx.g Tx.k Tx.b .nil pass0 (pa_cons (pe_ix ix_tup (pv 0) pe_int (fun _ _ => rfl)) pa_nil))) (.cons pe_str .nil)))))))) pss_nil)
      (pss_cons (ps_if (pt_cmpR op_eq (pv 1) pe_str (nomark _)) (pss_one (ps_ret (pe_joined (.cons pe_str (.cons (pe_fmt (pe_call Tx.ok hr (by rfl) Tx.g Tx.k Tx.b .nil pass0 (pa_cons (pe_ix ix_tup (pv 0) pe_int (fun _ _ => rfl)) pa_nil))) (.cons pe_str .nil)))))) pss_nil)
      (pss_cons (ps_if (PW.pt (pw_or (pt_cmpR op_eq (pv 1) pe_str (nomark _)) (pw_or1 (pt_cmpR op_eq (pe_ix ix_tup (pv 0) pe_int (fun _ _ => rfl)) pe_int (nomark _))))) (pss_one (ps_ret (pe_joined (.cons (pe_fmt (pv 1)) (.cons pe_str (.cons (pe_fmt (pe_ix ix_tup (pv 0) pe_int (fun _ _ => rfl))) .nil)))))) pss_nil)
      (pss_one (ps_ret (pe_joined (.cons (pe_fmt (pv 1)) (.cons pe_str (.cons (pe_fmt (pe_ix ix_tup (pv 0) pe_int (fun _ _ => rfl))) (.cons pe_str (.cons (pe_fmt (pe_ix ix_tup (pv 0) pe_int (fun _ _ => rfl))) .nil))))))))))), ?_⟩
    have e0 : ∀ x : V, start ["part", "word"] [x] = [some x, none] := fun _ => rfl
    rw [e0]
    have sz : sizeLine = 16777216 := sizeLine_eq
    rcases part_kind hn hz with ⟨k, rfl, k1, k2, e⟩ | ⟨w, c, k, hw, rfl, hc, k1, k2, e⟩ | ⟨m, a, b, ds, hm, rfl, hc, e⟩ | ⟨m, ds, hm, rfl, e⟩
    · obtain ⟨t, v, vs, rfl, hS, h1, h2⟩ := tupD hd
      cases strD h1
      cases h2 with
      | cons g1 h3 =>
      cases h3
      cases intDv g1
      have l3 := small_len (k := k) (by omega) k2
      refine go_seq (go_asg ?_)
      refine ⟨_, rfl, t, _, 0, .str "work", rfl, rfl, hS, at0, ?_⟩
      walk_at "nx"
      refine ⟨_, rfl, rfl, _, rfl, str_if (fun z => absurd z (by decide +kernel)) fun _ => ?_⟩
      walk_at "nx"
      refine ⟨_, rfl, rfl, _, rfl, str_if (fun z => absurd z (by decide +kernel)) fun _ => ?_⟩
      walk_at "nx"
      refine ⟨_, rfl, rfl, _, rfl, str_if (fun _ => ?_) fun z => absurd rfl z⟩
      refine iteT ?_
      refine ⟨_, rfl, .inl ⟨_, rfl, by decide +kernel, _, rfl, by rw [empty_app, sz]; decide, spS, rfl, by rw [empty_app, sz]; decide, _, rfl, t, _, 1, .int k, rfl, rfl, hS, at1, .inr ⟨k, rfl, log_200 (by omega), intT k, rfl, ?_, ?_⟩⟩⟩
      · rw [empty_app, len_app, sz]
        show 5 + _ ≤ _
        omega
      · rw [empty_app]
        exact q H (Same.refl H)
    · obtain ⟨t, v, vs, rfl, hS, h1, h2⟩ := tupD hd
      cases strD h1
      cases h2 with
      | cons g1 h3 =>
      cases h3 with
      | cons g2 h4 =>
      cases h4
      cases strD g1
      cases intDv g2
      have l3 := small_len (k := k) (by omega) (by omega)
      obtain ⟨_, h8⟩ := word_len hc
      have w4 : w.length = 4 := by rcases hw with rfl | rfl <;> rfl
      have wl : ¬ w = "loop" := fun z => by rw [z] at hw; rcases hw with z | z <;> exact absurd z (by decide +kernel)
      have wf : ¬ w = "forever" := fun z => by rw [z] at hw; rcases hw with z | z <;> exact absurd z (by decide +kernel)
      have ww : ¬ w = "work" := fun z => by rw [z] at hw; rcases hw with z | z <;> exact absurd z (by decide +kernel)
      refine go_seq (go_asg ?_)
      refine ⟨_, rfl, t, _, 0, .str w, rfl, rfl, hS, at0, ?_⟩
      walk_at "nx"
      refine ⟨_, rfl, rfl, _, rfl, str_if (fun z => absurd z wl) fun _ => ?_⟩
      walk_at "nx"
      refine ⟨_, rfl, rfl, _, rfl, str_if (fun z => absurd z wf) fun _ => ?_⟩
      walk_at "nx"
      refine ⟨_, rfl, rfl, _, rfl, str_if (fun z => absurd z ww) fun _ => ?_⟩
      refine ⟨_, rfl, t, _, 2, .int k, rfl, rfl, hS, at2, rfl, _, rfl, int_if (fun h1 => ?_) fun h1 => ?_⟩
      · refine ⟨_, rfl, .inl ⟨_, rfl, by omega, _, rfl, by rw [empty_app]; omega, spS, rfl, by rw [empty_app, len_app, w4, sz]; decide, _, rfl, t, _, 1, .str c, rfl, rfl, hS, at1, .inl ⟨c, rfl, by omega, c, rfl, ?_, ?_⟩⟩⟩
        · rw [empty_app, len_app, len_app, w4, sz]
          show 5 + _ ≤ _
          omega
        · rw [empty_app]
          have z := q H (Same.refl H)
          rw [show txF (txM n') (.tuple [.str w, .str c, .int k]) = if k = 1 then w ++ spS ++ c else w ++ spS ++ c ++ spS ++ intT k from rfl, if_pos h1] at z
          exact z
      · walk_at "nx"
        refine ⟨_, rfl, .inl ⟨_, rfl, by omega, _, rfl, by rw [empty_app]; omega, spS, rfl, by rw [empty_app, len_app, w4, sz]; decide, _, rfl, t, _, 1, .str c, rfl, rfl, hS, at1, .inl ⟨c, rfl, by omega, c, rfl, ?_, spS, rfl, ?_, _, rfl, t, _, 2, .int k, rfl, rfl, hS, at2, .inr ⟨k, rfl, log_200 (by omega), intT k, rfl, ?_, ?_⟩⟩⟩⟩
        · rw [empty_app, len_app, len_app, w4, sz]
          show 5 + _ ≤ _
          omega
        · rw [empty_app, len_app, len_app, len_app, w4, sz]
          show 5 + _ + 1 ≤ _
          omega
        · rw [empty_app, len_app, len_app, len_app, len_app, w4, sz]
          show 5 + _ + 1 + _ ≤ _
          omega
        · rw [empty_app]
          have z := q H (Same.refl H)
          rw [show txF (txM n') (.tuple [.str w, .str c, .int k]) = if k = 1 then w ++ spS ++ c else w ++ spS ++ c ++ spS ++ intT k from rfl, if_neg h1] at z
          exact z
    · have hm : m = n := by omega
      subst hm
      obtain ⟨t, v, vs, rfl, hS, h1, h2⟩ := tupD hd
      cases strD h1
      cases h2 with
      | cons g1 h3 =>
      cases h3 with
      | cons g2 h4 =>
      cases h4
      have hz' : howF (sizeD m) (.tuple ds) ≤ 60 := by omega
      have lt := (txM_len (n := m) (by omega) hz').1
      have lc : (cntT a b).length ≤ 34 := cnt_len ⟨hc, rfl⟩
      subst hn0
      refine go_seq (go_asg ?_)
      refine ⟨_, rfl, t, _, 0, .str "loop", rfl, rfl, hS, at0, ?_⟩
      walk_at "nx"
      refine ⟨_, rfl, rfl, _, rfl, str_if (fun _ => ?_) fun z => absurd rfl z⟩
      refine ⟨("loop " : Str), rfl, by rw [empty_app, sz]; decide, _, rfl, t, _, 1, _, rfl, rfl, hS, at1, _, a, b, rfl, g1, hc, .inl ⟨_, rfl, by omega, _, rfl, ?_, opS, rfl, ?_, _, rfl, t, _, 2, _, rfl, rfl, hS, at2, _, ds, rfl, g2, hz', fun H' s' => .inl ⟨_, rfl, by omega, _, rfl, ?_, clS, rfl, ?_, ?_⟩⟩⟩
      · rw [empty_app, len_app, sz]
        show 5 + _ ≤ _
        omega
      · rw [empty_app, len_app, len_app, sz]
        show 5 + _ + 2 ≤ _
        omega
      · rw [empty_app, len_app, len_app, len_app, sz]
        show 5 + _ + 2 + _ ≤ _
        omega
      · rw [empty_app, len_app, len_app, len_app, len_app, sz]
        show 5 + _ + 2 + _ + 1 ≤ _
        omega
      · rw [empty_app]
        exact q H' s'
    · have hm : m = n := by omega
      subst hm
      obtain ⟨t, v, vs, rfl, hS, h1, h2⟩ := tupD hd
      cases strD h1
      cases h2 with
      | cons g1 h3 =>
      cases h3
      have hz' : howF (sizeD m) (.tuple ds) ≤ 60 := by omega
      have lt := (txM_len (n := m) (by omega) hz').1
      subst hn0
      refine go_seq (go_asg ?_)
      refine ⟨_, rfl, t, _, 0, .str "forever", rfl, rfl, hS, at0, ?_⟩
      walk_at "nx"
      refine ⟨_, rfl, rfl, _, rfl, str_if (fun z => absurd z (by decide +kernel)) fun _ => ?_⟩
      walk_at "nx"
      refine ⟨_, rfl, rfl, _, rfl, str_if (fun _ => ?_) fun z => absurd rfl z⟩
      refine ⟨("forever (" : Str), rfl, by rw [empty_app, sz]; decide, _, rfl, t, _, 1, _, rfl, rfl, hS, at1, _, ds, rfl, g1, hz', fun H' s' => .inl ⟨_, rfl, by omega, _, rfl, ?_, clS, rfl, ?_, ?_⟩⟩
      · rw [empty_app, len_app, sz]
        show 9 + _ ≤ _
        omega
      · rw [empty_app, len_app, len_app, sz]
        show 9 + _ + 1 ≤ _
        omega
      · rw [empty_app]
        exact q H' s'
end
end L2.L86

set_option maxHeartbeats 1000000
namespace L2.L86
open PySem PySem.Spec PyProof.Rows NumText LR L2.Lr L2.Tx TL SkE
local macro_rules | `(tactic| walk_at "nx") => `(tactic| dsimp only [gName, tNext, tSeq, tAsg, List.set_cons_zero, List.set_cons_succ])
theorem scto : FnScope ["thing", "word", "many"] ["thing", "word", "many"] (defScope sTupOf) := ⟨rfl, rfl, rfl, by decide +kernel, rfl, by decide +kernel, by decide +kernel⟩
theorem scrq : FnScope ["thing"] ["thing"] (defScope sRoomQ) := ⟨rfl, rfl, rfl, by decide +kernel, rfl, by decide +kernel, by decide +kernel⟩
theorem scdf : FnScope ["thing", "word"] ["thing"] (defScope sDiff) := ⟨rfl, rfl, rfl, by decide +kernel, rfl, by decide +kernel, by decide +kernel⟩
theorem scev : FnScope ["thing"] ["thing"] (defScope sEvent) := ⟨rfl, rfl, rfl, by decide +kernel, rfl, by decide +kernel, by decide +kernel⟩
theorem scte : FnScope ["thing"] ["thing"] (defScope sToldE) := ⟨rfl, rfl, rfl, by decide +kernel, rfl, by decide +kernel, by decide +kernel⟩
def RowAt' (K : PySem.W.Frag) (H : Hp) (p : Addr) (ds : List PyData) : Prop := ∃ y m, RowAt K H p y m ∧ Dp K H y (.tuple ds)
def spStr (K : PySem.W.Frag) : Sp := fun vs H Q _ => ∃ p ds, vs = [.ref p] ∧ RowAt' K H p ds ∧ howF (sizeD 4) (.tuple ds) ≤ 60 ∧ ∀ H', Same H H' → Q (.str (txM 5 ds)) H'
def tupOf (w : Str) (m : Nat) : PyData → Bool
  | .tuple (.str x :: es) => decide (es.length + 1 = m) && decide (x = w)
  | _ => false
def atD (i : Nat) : PyData → PyData
  | .tuple ds => ds.getD i .none
  | _ => .none
def spTupOf (K : PySem.W.Frag) : Sp := fun vs H Q _ => ∃ (x : V) (d : PyData) (w : Str) (m : Nat), vs = [x, .str w, .int m] ∧ Dp K H x d ∧ 1 ≤ m ∧ Q (.bl (tupOf w m d)) H
def roomB (d : PyData) : Bool := match d with
  | .none => true
  | d => betw 0 (10 ^ 200) d
def spRoomQ (K : PySem.W.Frag) : Sp := fun vs H Q _ => ∃ x d, vs = [x] ∧ Dp K H x d ∧ Q (.bl (roomB d)) H
def wordsD (ds : List PyData) : List Str := ds.map fun d => match d with
  | .str x => x
  | _ => Str.empty
def diffB : PyData → Bool
  | .tuple ds => decide (2 ≤ ds.length) && (ds.all wordD && decide (wordsD ds).Nodup)
  | _ => false
def spDiff (K : PySem.W.Frag) : Sp := fun vs H Q _ => ∃ x d, vs = [x] ∧ Dp K H x d ∧ sOk d ∧ (∀ ds, d = .tuple ds → ds.length ≤ 1000) ∧ ∀ H', Same H H' → Q (.bl (diffB d)) H'
def eventB (d : PyData) : Bool := if tupOf "room" 3 d then wordD (atD 1 d) && roomB (atD 2 d) else if tupOf "n" 2 d then betw 0 (10 ^ 30) (atD 1 d) else (tupOf "change" 2 d || tupOf "undo" 1 d)
theorem words_of {K : PySem.W.Frag} {H : Hp} : ∀ {xs : List V} {ds : List PyData}, DpAll K H xs ds → ds.all wordD = true → xs = (wordsD ds).map V.str
  | _, _, .nil, _ => rfl
  | _, _, @DpAll.cons _ _ v vs d ds h a, hw => by
    obtain ⟨h1, h2⟩ := Bool.and_eq_true_iff.mp (show (wordD d && ds.all wordD) = true from hw)
    cases h with
    | str x =>
      show _ = V.str x :: (wordsD ds).map V.str
      rw [words_of a h2]
    | _ => cases h1
section
variable {P : Program} {w : World} {K : PySem.W.Frag} {mg : Str → Option Value} {base : Heap}
theorem ok_str {f fT : Addr} {fd dT : FuncData} (F : FnM K "__str__" "Row.__str__" sStr f fd) (T : Txt K mg) {k : Nat} (Tx : Def P w K mg base CX0 k "_text_of" fT dT ["parts"] (spTxt K 4)) : FnOk P w K mg base CX0 (k + 1) f fd ["self"] (spStr K) := by
  refine F.ok scst (fun vs H Q E h => ?_) (fun cdv A outer s H vs Q E hr h => ?_)
  · obtain ⟨p, ds, rfl, _⟩ := h
    rfl
  · obtain ⟨p, ds, rfl, ⟨y, m, ⟨dx, hp⟩, hy⟩, hz, q⟩ := h
    refine ⟨_, pss_one (ps_ret (pe_callTy call_str_str (by rfl) T.p.str bbS (pa_cons (pe_call Tx.ok hr (by rfl) Tx.g Tx.k Tx.b .nil pass0 (pa_cons (pe_fld (pv 0) rfl) pa_nil)) pa_nil))), ?_⟩
    have e0 : start ["self"] [V.ref p] = [some (.ref p)] := rfl
    rw [e0]
    refine ⟨_, rfl, p, _, dx, _, _, rfl, hp, T.cl, T.nP, flds_p y m, y, ds, rfl, hy, hz, fun H' s' => ⟨_, rfl, q H' s'⟩⟩
theorem ok_tupof {f : Addr} {fd : FuncData} (F : FnP K "is_tuple_of" sTupOf f fd) (T : Txt K mg) : FnOk P w K mg base CX0 1 f fd ["thing", "word", "many"] (spTupOf K) := by
  refine F.ok scto (fun vs H Q E h => ?_) (fun cdv A outer s H vs Q E hr h => ?_)
  · obtain ⟨x, d, w, m, rfl, _⟩ := h
    rfl
  · obtain ⟨x, d, w, m, rfl, hd, h1, q⟩ := h
    refine ⟨_, pss_one (ps_ret (pe_and (pe_isD T.p.isn (pv 0) (pe_bltn (by rfl) T.p.tuple bbT (by rfl)) (by rfl)) (pe_and (pe_cmpR op_eq (pe_callB call_len_seq (by rfl) T.p.len boot_len (pa_cons (pv 0) pa_nil)) (pv 2) (nomark _))
      (pe_and (pe_isD T.p.isn (pe_ix ix_tup (pv 0) pe_int (fun _ _ => rfl)) (pe_bltn (by rfl) T.p.str bbS (by rfl)) (by rfl)) (pe_one (pe_cmpR op_eq (pe_ix ix_tup (pv 0) pe_int (fun _ _ => rfl)) (pv 1) (nomark _))))))), ?_⟩
    have e0 : start ["thing", "word", "many"] [x, .str w, .int m] = [some x, some (.str w), some (.int m)] := rfl
    rw [e0]
    cases d with
    | none => exact ⟨_, rfl, _, _, hd, (by decide +kernel : kitB "NoneType" "tuple" = some false), _, rfl, iteF q⟩
    | bool _ => exact ⟨_, rfl, _, _, hd, (by decide +kernel : kitB "bool" "tuple" = some false), _, rfl, iteF q⟩
    | int _ => exact ⟨_, rfl, _, _, hd, (by decide +kernel : kitB "int" "tuple" = some false), _, rfl, iteF q⟩
    | str _ => exact ⟨_, rfl, _, _, hd, (by decide +kernel : kitB "str" "tuple" = some false), _, rfl, iteF q⟩
    | list _ => exact ⟨_, rfl, _, _, hd, (by decide +kernel : kitB "list" "tuple" = some false), _, rfl, iteF q⟩
    | dict _ => cases hd
    | tuple ds =>
      refine ⟨_, rfl, _, _, hd, (by decide +kernel : kitB "tuple" "tuple" = some true), _, rfl, iteT ?_⟩
      cases hd with
      | @tup t xs _ hS ha =>
      have hlx := DpAll.length ha
      refine ⟨_, rfl, t, xs, rfl, .inr hS, _, rfl, rfl, _, rfl, ?_⟩
      cases ha with
      | nil =>
        refine len_if (fun z => absurd z ?_) fun _ => q
        show ¬ ((0 : Nat) : Int) = m
        omega
      | @cons v vs d ds h1' ha' =>
        have no : tupOf w m (.tuple (d :: ds)) = false → Q (.bl false) H := fun e => by rw [e] at q; exact q
        refine len_if (fun z => ?_) fun z => no ?_
        · have zl : ds.length + 1 = m := by
            rw [hlx] at z
            simp only [List.length_cons] at z
            omega
          refine ⟨_, rfl, t, _, 0, v, rfl, rfl, hS, at0, ?_⟩
          cases h1' with
          | non => exact ⟨_, _, .non, (by decide +kernel : kitB "NoneType" "str" = some false), _, rfl, iteF (no rfl)⟩
          | bl b => exact ⟨_, _, .bl b, (by decide +kernel : kitB "bool" "str" = some false), _, rfl, iteF (no rfl)⟩
          | int i => exact ⟨_, _, .int i, (by decide +kernel : kitB "int" "str" = some false), _, rfl, iteF (no rfl)⟩
          | lst hS2 ha2 => exact ⟨_, _, .lst hS2 ha2, (by decide +kernel : kitB "list" "str" = some false), _, rfl, iteF (no rfl)⟩
          | tup hS2 ha2 => exact ⟨_, _, .tup hS2 ha2, (by decide +kernel : kitB "tuple" "str" = some false), _, rfl, iteF (no rfl)⟩
          | str x =>
            refine ⟨_, _, .str x, (by decide +kernel : kitB "str" "str" = some true), _, rfl, iteT ⟨_, rfl, t, _, 0, _, rfl, rfl, hS, at0, _, rfl, rfl, ?_⟩⟩
            have e : tupOf w m (.tuple (.str x :: ds)) = decide (V.str x = V.str w) := by
              show (decide (ds.length + 1 = m) && decide (x = w)) = _
              rw [decide_eq_true zl, Bool.true_and, dec_vs]
            rw [e] at q
            exact q
        · cases d <;> try rfl
          show (decide (ds.length + 1 = m) && _) = false
          rw [decide_eq_false, Bool.false_and]
          intro y
          apply z
          rw [hlx]
          simp only [List.length_cons]
          omega
theorem ok_roomq {f fB : Addr} {fd dB : FuncData} (F : FnP K "is_room" sRoomQ f fd) (T : Txt K mg) (N : Def P w K mg base CX0 2 "is_between" fB dB ["thing", "low", "high"] (spBetw K)) : FnOk P w K mg base CX0 3 f fd ["thing"] (spRoomQ K) := by
  refine F.ok scrq (fun vs H Q E h => ?_) (fun cdv A outer s H vs Q E hr h => ?_)
  · obtain ⟨x, d, rfl, _⟩ := h
    rfl
  · obtain ⟨x, d, rfl, hd, q⟩ := h
    obtain ⟨tf, hroom⟩ := T.lroom
    refine ⟨_, pss_one (ps_ret (pe_or (pe_cmpR op_isN (pv 0) pe_non (nomark _)) (pe_one (pe_call N.ok hr (by rfl) N.g N.k N.b .nil pass0 (pa_cons (pv 0) (pa_cons pe_int (pa_cons (pe_gI hroom (by rfl)) pa_nil))))))), ?_⟩
    have e0 : start ["thing"] [x] = [some x] := rfl
    rw [e0]
    cases d with
    | none => cases nonDv hd; exact ⟨_, rfl, rfl, _, rfl, iteT q⟩
    | bool b => cases hd; exact ⟨_, rfl, rfl, _, rfl, iteF ⟨_, rfl, _, 0, _, .bool b, rfl, .bl b, q⟩⟩
    | int i => cases hd; exact ⟨_, rfl, rfl, _, rfl, iteF ⟨_, rfl, _, 0, _, .int i, rfl, .int i, q⟩⟩
    | str i => cases hd; exact ⟨_, rfl, rfl, _, rfl, iteF ⟨_, rfl, _, 0, _, .str i, rfl, .str i, q⟩⟩
    | list ds => obtain ⟨a, xs, rfl, _⟩ := lstD hd; exact ⟨_, rfl, rfl, _, rfl, iteF ⟨_, rfl, _, 0, _, .list ds, rfl, hd, q⟩⟩
    | tuple ds => obtain ⟨a, xs, rfl, _⟩ := tupDv hd; exact ⟨_, rfl, rfl, _, rfl, iteF ⟨_, rfl, _, 0, _, .tuple ds, rfl, hd, q⟩⟩
    | dict _ => cases hd
theorem ok_diff {f fW : Addr} {fd dW : FuncData} (F : FnP K "_are_different_words" sDiff f fd) (T : Txt K mg) (Wd : Def P w K mg base CX0 1 "is_word" fW dW ["thing"] (spWord K)) : FnOk P w K mg base CX0 2 f fd ["thing"] (spDiff K) := by
  refine F.ok scdf (fun vs H Q E h => ?_) (fun cdv A outer s H vs Q E hr h => ?_)
  · obtain ⟨x, d, rfl, _⟩ := h
    rfl
  · obtain ⟨x, d, rfl, hd, so, hl, q⟩ := h
    refine ⟨_, pss_cons (ps_if (PW.pt (pw_or (pt_not (pt_val (pe_isD T.p.isn (pv 0) (pe_bltn (by rfl) T.p.tuple bbT (by rfl)) (by rfl)))) (pw_or1 (pt_cmpR op_lt (pe_callB call_len_seq (by rfl) T.p.len boot_len (pa_cons (pv 0) pa_nil)) pe_int (nomark _))))) (pss_one (ps_ret pe_bl)) pss_nil)
      (PSs.nox (pss_one (ps_ret (pe_and (pe_callB (cr_all rfl) (by rfl) T.all boot_all (pa_cons (pe_lc (own := [("word", 1)]) (g := gName 1) (tt := tYes) rfl scdf.nd (pi_tup (pv 0)) (blkOk_by (N := ["thing", "word"]) (sc := defScope sDiff) (by decide +kernel)) (fun _ _ _ _ _ => pg_name (i := 1) scdf.nd rfl (Or.inl rfl)) (fun _ _ _ _ _ => pts_nil) (fun _ _ _ _ _ => pe_call Wd.ok hr (by rfl) Wd.g Wd.k Wd.b .nil pass0 (pa_cons (pv 1) pa_nil))) pa_nil))
        (pe_one (pe_cmpR op_eq (pe_lenSetT rfl (by rfl) T.p.len (by rfl) T.set (pv 0)) (pe_callB call_len_seq (by rfl) T.p.len boot_len (pa_cons (pv 0) pa_nil)) (nomark _))))))), ?_⟩
    have e0 : start ["thing", "word"] [x] = [some x, none] := rfl
    rw [e0]
    have q0 := q H (Same.refl H)
    refine go_seq ?_
    cases d with
    | none => exact ⟨_, rfl, _, _, hd, (by decide +kernel : kitB "NoneType" "tuple" = some false), _, rfl, iteT (iteT q0)⟩
    | bool _ => exact ⟨_, rfl, _, _, hd, (by decide +kernel : kitB "bool" "tuple" = some false), _, rfl, iteT (iteT q0)⟩
    | int _ => exact ⟨_, rfl, _, _, hd, (by decide +kernel : kitB "int" "tuple" = some false), _, rfl, iteT (iteT q0)⟩
    | str _ => exact ⟨_, rfl, _, _, hd, (by decide +kernel : kitB "str" "tuple" = some false), _, rfl, iteT (iteT q0)⟩
    | list _ => exact ⟨_, rfl, _, _, hd, (by decide +kernel : kitB "list" "tuple" = some false), _, rfl, iteT (iteT q0)⟩
    | dict _ => cases hd
    | tuple ds =>
      refine ⟨_, rfl, _, _, hd, (by decide +kernel : kitB "tuple" "tuple" = some true), _, rfl, iteF ?_⟩
      cases hd with
      | @tup t xs _ hS ha =>
      have hlx := DpAll.length ha
      have hl := hl ds rfl
      refine ⟨_, rfl, t, xs, rfl, .inr hS, _, _, rfl, rfl, _, rfl, ite_dec (fun g => ?_) fun g => ?_⟩
      · have e : diffB (.tuple ds) = false := by
          show (decide (2 ≤ ds.length) && _) = false
          rw [decide_eq_false (by omega), Bool.false_and]
        rw [e] at q0
        exact q0
      walk_at "nx"
      have sos : sOkAll ds := by unfold sOk at so; exact so.2
      refine ⟨_, rfl, t, rfl, ⟨_, hS⟩, fun D hD => lc_tup (K := K) (a := t) (xs := xs) (MapI H D (ds.map fun d => V.bl (wordD d))) (MapI.zero hD) (fun i H' _ p => seqT p.1 hS) ?_ ?_⟩
      · rintro i v H4 hv p
        obtain ⟨d, hdi, hdv⟩ := DpAll.at ha hv
        refine ⟨rfl, ⟨_, rfl, v, d, rfl, Dp.same p.1 hdv, sOkAll.at sos hdi, fun H5 s5 => ?_⟩⟩
        exact MapI.step hD p (by rw [List.getElem?_map, hdi]; rfl) (by rw [List.length_map]; omega) s5
      · intro H4 pm
        obtain ⟨s4, hD4⟩ := pm.all (by rw [List.length_map, hlx]; exact Nat.le_refl _)
        refine ⟨D, ds.map wordD, rfl, SqL.of (by rw [hD4, List.map_map]; rfl), _, rfl, ?_⟩
        rw [show (ds.map wordD).all id = ds.all wordD from by rw [List.all_map]; rfl]
        have z := q H4 s4
        have e : diffB (.tuple ds) = (ds.all wordD && decide (wordsD ds).Nodup) := by
          show (decide (2 ≤ ds.length) && _) = _
          rw [decide_eq_true (by omega), Bool.true_and]
        rw [e] at z
        cases ha4 : ds.all wordD with
        | false => rw [ha4] at z; exact iteF z
        | true =>
          rw [ha4, Bool.true_and] at z
          have ex := words_of ha ha4
          have ln : (wordsD ds).length = ds.length := by unfold wordsD; rw [List.length_map]
          refine iteT ⟨_, rfl, t, wordsD ds, rfl, by rw [← ex]; exact seqT s4 hS, by omega, _, rfl, t, xs, rfl, .inr (seqT s4 hS), rfl, ?_⟩
          have eb : decide (V.int ((cnT (wordsD ds) (wordsD ds).length : Nat) : Int) = V.int (xs.length : Int)) = decide (wordsD ds).Nodup := by
            rw [dec_vint]
            have c := cnT_nodup (xs := wordsD ds) (wordsD ds).length (Nat.le_refl _)
            rw [List.take_length] at c
            by_cases h : (wordsD ds).Nodup
            · rw [decide_eq_true h, decide_eq_true]
              rw [c.mpr h, ln, hlx]
            · rw [decide_eq_false h, decide_eq_false]
              intro y
              apply h
              apply c.mp
              rw [hlx] at y
              omega
          rw [eb]
          exact z
end
end L2.L86

set_option maxHeartbeats 1000000
namespace L2.L86
open PySem PySem.Spec PyProof.Rows NumText LR L2.Lr L2.Tx TL SkE
local macro_rules | `(tactic| walk_at "nx") => `(tactic| dsimp only [gName, tNext, tSeq, tAsg, List.set_cons_zero, List.set_cons_succ])
theorem scch : FnScope ["thing", "name", "number"] ["thing"] (defScope sChange) := ⟨rfl, rfl, rfl, by decide +kernel, rfl, by decide +kernel, by decide +kernel⟩
def changeB (d : PyData) : Bool :=
  if tupOf "row" 3 d then wordD (atD 1 d) && aprD (atD 2 d) else
  if tupOf "first" 3 d then wordD (atD 1 d) && betw 0 99 (atD 2 d) else
  if tupOf "join" 3 d then wordD (atD 1 d) && diffB (atD 2 d) else
  if tupOf "part" 2 d then wordD (atD 1 d) else
  if tupOf "relay" 4 d then (wordD (atD 1 d) && (wordD (atD 2 d) && wordD (atD 3 d))) else
  if tupOf "kill" 4 d then wordD (atD 1 d) && (betw 0 (10 ^ 30) (atD 2 d) && betw 0 (10 ^ 30) (atD 3 d)) else false
def isS (w : Str) : PyData → Bool
  | .str x => decide (x = w)
  | _ => false
def toldB (d : PyData) : Bool := eventB d && (!isS "change" (atD 0 d) || changeB (atD 1 d))
/-- its things are short enough -/
def ShC (d : PyData) : Prop := sOk d ∧ ∀ ds, d = .tuple ds → ∀ e ∈ ds, ∀ es, e = .tuple es → es.length ≤ 1000
def ShE (d : PyData) : Prop := sOk d ∧ ∀ ds, d = .tuple ds → ∀ e ∈ ds, ShC e
theorem sOk_at {d : PyData} {ds : List PyData} (h : sOk d) (e : d = .tuple ds) {i : Nat} {x : PyData} (hx : ds[i]? = some x) : sOk x := by
  subst e
  unfold sOk at h
  exact sOkAll.at h.2 hx
def spChange (K : PySem.W.Frag) : Sp := fun vs H Q _ => ∃ x d, vs = [x] ∧ Dp K H x d ∧ ShC d ∧ ∀ H', Same H H' → Q (.bl (changeB d)) H'
def spEvent (K : PySem.W.Frag) : Sp := fun vs H Q _ => ∃ x d, vs = [x] ∧ Dp K H x d ∧ sOk d ∧ ∀ H', Same H H' → Q (.bl (eventB d)) H'
def spToldE (K : PySem.W.Frag) : Sp := fun vs H Q _ => ∃ x d, vs = [x] ∧ Dp K H x d ∧ ShE d ∧ ∀ H', Same H H' → Q (.bl (toldB d)) H'
theorem tupOf_ok {w : Str} {m : Nat} {d : PyData} (h : tupOf w m d = true) : ∃ es, d = .tuple (.str w :: es) ∧ es.length + 1 = m := by
  cases d with
  | tuple ds =>
    cases ds with
    | nil => cases h
    | cons y es =>
      cases y with
      | str x =>
        obtain ⟨h1, h2⟩ := Bool.and_eq_true_iff.mp h
        exact ⟨es, by rw [of_decide_eq_true h2], of_decide_eq_true h1⟩
      | _ => cases h
  | _ => cases h
theorem cutD_1 {d : PyData} {ds : List PyData} : cutD (d :: ds) (some 1) none = ds := by
  show List.take (ds.length + 1 - min 1 (ds.length + 1)) (List.drop (min 1 (ds.length + 1)) (d :: ds)) = ds
  rw [show min 1 (ds.length + 1) = 1 by omega, show ds.length + 1 - 1 = ds.length by omega]
  exact List.take_length
theorem cutD_2 {d e : PyData} {ds : List PyData} : cutD (d :: e :: ds) (some 2) none = ds := by
  show List.take (ds.length + 1 + 1 - min 2 (ds.length + 1 + 1)) (List.drop (min 2 (ds.length + 1 + 1)) (d :: e :: ds)) = ds
  rw [show min 2 (ds.length + 1 + 1) = 2 by omega, show ds.length + 1 + 1 - 2 = ds.length by omega]
  exact List.take_length
section
variable {P : Program} {w : World} {K : PySem.W.Frag} {mg : Str → Option Value} {base : Heap}
theorem ok_change {f fO fW fA fD fB : Addr} {fd dO dW dA dD dB : FuncData} (F : FnP K "is_change" sChange f fd) (T : Txt K mg) (O : Def P w K mg base CX0 1 "is_tuple_of" fO dO ["thing", "word", "many"] (spTupOf K)) (Wd : Def P w K mg base CX0 1 "is_word" fW dW ["thing"] (spWord K)) {k : Nat} (h2 : 2 ≤ k)
    (Ap : Def P w K mg base CX0 k "are_parts_of_row" fA dA ["thing"] (spApr K)) (Df : Def P w K mg base CX0 2 "_are_different_words" fD dD ["thing"] (spDiff K)) (N : Def P w K mg base CX0 2 "is_between" fB dB ["thing", "low", "high"] (spBetw K)) :
    FnOk P w K mg base CX0 (k + 1) f fd ["thing"] (spChange K) := by
  refine F.ok scch (fun vs H Q E h => ?_) (fun cdv A outer s H vs Q E hr h => ?_)
  · obtain ⟨x, d, rfl, _⟩ := h
    rfl
  · obtain ⟨x, d, rfl, hd, ⟨so, sl⟩, q⟩ := h
    obtain ⟨tf, hfirst⟩ := T.first
    obtain ⟨tl', hfar⟩ := T.p.far
    have hr2 : Room 2 _ := hr.mono h2
    have hr1 : Room 1 _ := hr2.mono (by decide)
    refine ⟨_, PSs.nox (pss_cons (ps_if (pt_val (pe_call O.ok hr1 (by rfl) O.g O.k O.b .nil pass0 (pa_cons (pv 0) (pa_cons pe_str (pa_cons pe_int pa_nil))))) (pss_one (ps_ret (pe_and (pe_call Wd.ok hr1 (by rfl) Wd.g Wd.k Wd.b .nil pass0 (pa_cons (pe_ix ix_tup (pv 0) pe_int (fun _ _ => rfl)) pa_nil)) (pe_one (pe_call Ap.ok hr (by rfl) Ap.g Ap.k Ap.b .nil pass0 (pa_cons (pe_ix ix_tup (pv 0) pe_int (fun _ _ => rfl)) pa_nil)))))) pss_nil)
      (pss_cons (ps_if (pt_val (pe_call O.ok hr1 (by rfl) O.g O.k O.b .nil pass0 (pa_cons (pv 0) (pa_cons pe_str (pa_cons pe_int pa_nil))))) (pss_one (ps_ret (pe_and (pe_call Wd.ok hr1 (by rfl) Wd.g Wd.k Wd.b .nil pass0 (pa_cons (pe_ix ix_tup (pv 0) pe_int (fun _ _ => rfl)) pa_nil)) (pe_one (pe_call N.ok hr2 (by rfl) N.g N.k N.b .nil pass0 (pa_cons (pe_ix ix_tup (pv 0) pe_int (fun _ _ => rfl)) (pa_cons pe_int (pa_cons (pe_gI hfirst (by rfl)) pa_nil)))))))) pss_nil)
      (pss_cons (ps_if (pt_val (pe_call O.ok hr1 (by rfl) O.g O.k O.b .nil pass0 (pa_cons (pv 0) (pa_cons pe_str (pa_cons pe_int pa_nil))))) (pss_one (ps_ret (pe_and (pe_call Wd.ok hr1 (by rfl) Wd.g Wd.k Wd.b .nil pass0 (pa_cons (pe_ix ix_tup (pv 0) pe_int (fun _ _ => rfl)) pa_nil)) (pe_one (pe_call Df.ok hr2 (by rfl) Df.g Df.k Df.b .nil pass0 (pa_cons (pe_ix ix_tup (pv 0) pe_int (fun _ _ => rfl)) pa_nil)))))) pss_nil)
      (pss_cons (ps_if (pt_val (pe_call O.ok hr1 (by rfl) O.g O.k O.b .nil pass0 (pa_cons (pv 0) (pa_cons pe_str (pa_cons pe_int pa_nil))))) (pss_one (ps_ret (pe_call Wd.ok hr1 (by rfl) Wd.g Wd.k Wd.b .nil pass0 (pa_cons (pe_ix ix_tup (pv 0) pe_int (fun _ _ => rfl)) pa_nil)))) pss_nil)
      (pss_cons (ps_if (pt_val (pe_call O.ok hr1 (by rfl) O.g O.k O.b .nil pass0 (pa_cons (pv 0) (pa_cons pe_str (pa_cons pe_int pa_nil))))) (pss_one (ps_ret (pe_callB (cr_all rfl) (by rfl) T.all boot_all (pa_cons (pe_lc (own := [("name", 1)]) (g := gName 1) (tt := tYes) rfl scch.nd (pi_tup (pe_slice sl_tupA (pv 0) (po_some pe_int) po_none)) (blkOk_by (N := ["thing", "name", "number"]) (sc := defScope sChange) (by decide +kernel)) (fun _ _ _ _ _ => pg_name (i := 1) scch.nd rfl (Or.inl rfl)) (fun _ _ _ _ _ => pts_nil) (fun _ _ _ _ _ => pe_call Wd.ok hr1 (by rfl) Wd.g Wd.k Wd.b .nil pass0 (pa_cons (pv 1) pa_nil))) pa_nil)))) pss_nil)
      (pss_cons (ps_if (pt_val (pe_call O.ok hr1 (by rfl) O.g O.k O.b .nil pass0 (pa_cons (pv 0) (pa_cons pe_str (pa_cons pe_int pa_nil))))) (pss_one (ps_ret (pe_and (pe_call Wd.ok hr1 (by rfl) Wd.g Wd.k Wd.b .nil pass0 (pa_cons (pe_ix ix_tup (pv 0) pe_int (fun _ _ => rfl)) pa_nil)) (pe_one (pe_callB (cr_all rfl) (by rfl) T.all boot_all (pa_cons (pe_lc (own := [("number", 2)]) (g := gName 2) (tt := tYes) rfl scch.nd (pi_tup (pe_slice sl_tupA (pv 0) (po_some pe_int) po_none)) (blkOk_by (N := ["thing", "name", "number"]) (sc := defScope sChange) (by decide +kernel)) (fun _ _ _ _ _ => pg_name (i := 2) scch.nd rfl (Or.inl rfl)) (fun _ _ _ _ _ => pts_nil) (fun _ _ _ _ _ => pe_call N.ok hr2 (by rfl) N.g N.k N.b .nil pass0 (pa_cons (pv 2) (pa_cons pe_int (pa_cons (pe_gI hfar (by rfl)) pa_nil))))) pa_nil)))))) pss_nil)
      (pss_one (ps_ret pe_bl)))))))), ?_⟩
    have e0 : start ["thing", "name", "number"] [x] = [some x, none, none] := rfl
    rw [e0]
    have sos : ∀ {ds : List PyData}, d = .tuple ds → ∀ {i : Nat} {y : PyData}, ds[i]? = some y → sOk y := fun e _ _ h => sOk_at so e h
    unfold changeB at q
    refine go_seq ⟨_, rfl, x, d, "row", 3, rfl, hd, by decide, _, rfl, ?_⟩
    cases b1 : tupOf "row" 3 d with
    | true =>
      rw [b1, if_pos rfl] at q
      obtain ⟨es, rfl, hl⟩ := tupOf_ok b1
      match es, hl with
      | [d1, d2], _ =>
      obtain ⟨t, v, vs, rfl, hS, h1, ha⟩ := tupD hd
      cases ha with
      | cons g1 ha =>
      cases ha with
      | cons g2 ha =>
      cases ha
      refine iteT ⟨_, rfl, t, _, 1, _, rfl, rfl, hS, at1, _, d1, rfl, g1, sos rfl (i := 1) rfl, fun H1 s1 => ⟨_, rfl, ?_⟩⟩
      have q1 := fun H' (s' : Same H H') => q H' s'
      cases w1 : wordD d1 with
      | false =>
        have z := q H1 s1
        rw [show wordD (atD 1 (.tuple [.str "row", d1, d2])) = wordD d1 from rfl, w1] at z
        exact iteF z
      | true =>
        refine iteT ⟨_, rfl, t, _, 2, _, rfl, rfl, seqT s1 hS, at2, _, d2, rfl, Dp.same s1 g2, sos rfl (i := 2) rfl, fun ds e => Nat.le_trans (sl _ rfl d2 (by simp) ds e) (by decide), fun H2 s2 => ?_⟩
        have z := q H2 (s1.trans s2)
        rw [show wordD (atD 1 (.tuple [.str "row", d1, d2])) = wordD d1 from rfl, w1, Bool.true_and] at z
        exact z
    | false =>
    rw [b1, if_neg (by decide)] at q
    refine iteF ?_
    walk_at "nx"
    refine ⟨_, rfl, x, d, "first", 3, rfl, hd, by decide, _, rfl, ?_⟩
    cases b2 : tupOf "first" 3 d with
    | true =>
      rw [b2, if_pos rfl] at q
      obtain ⟨es, rfl, hl⟩ := tupOf_ok b2
      match es, hl with
      | [d1, d2], _ =>
      obtain ⟨t, v, vs, rfl, hS, h1, ha⟩ := tupD hd
      cases ha with
      | cons g1 ha =>
      cases ha with
      | cons g2 ha =>
      cases ha
      refine iteT ⟨_, rfl, t, _, 1, _, rfl, rfl, hS, at1, _, d1, rfl, g1, sos rfl (i := 1) rfl, fun H1 s1 => ⟨_, rfl, ?_⟩⟩
      have z := q H1 s1
      rw [show wordD (atD 1 (.tuple [.str "first", d1, d2])) = wordD d1 from rfl] at z
      cases w1 : wordD d1 with
      | false => rw [w1] at z; exact iteF z
      | true =>
        rw [w1, Bool.true_and] at z
        exact iteT ⟨_, rfl, t, _, 2, _, rfl, rfl, seqT s1 hS, at2, _, 0, 99, d2, rfl, Dp.same s1 g2, z⟩
    | false =>
    rw [b2, if_neg (by decide)] at q
    refine iteF ?_
    walk_at "nx"
    refine ⟨_, rfl, x, d, "join", 3, rfl, hd, by decide, _, rfl, ?_⟩
    cases b3 : tupOf "join" 3 d with
    | true =>
      rw [b3, if_pos rfl] at q
      obtain ⟨es, rfl, hl⟩ := tupOf_ok b3
      match es, hl with
      | [d1, d2], _ =>
      obtain ⟨t, v, vs, rfl, hS, h1, ha⟩ := tupD hd
      cases ha with
      | cons g1 ha =>
      cases ha with
      | cons g2 ha =>
      cases ha
      refine iteT ⟨_, rfl, t, _, 1, _, rfl, rfl, hS, at1, _, d1, rfl, g1, sos rfl (i := 1) rfl, fun H1 s1 => ⟨_, rfl, ?_⟩⟩
      cases w1 : wordD d1 with
      | false =>
        have z := q H1 s1
        rw [show wordD (atD 1 (.tuple [.str "join", d1, d2])) = wordD d1 from rfl, w1] at z
        exact iteF z
      | true =>
        refine iteT ⟨_, rfl, t, _, 2, _, rfl, rfl, seqT s1 hS, at2, _, d2, rfl, Dp.same s1 g2, sos rfl (i := 2) rfl, fun ds e => sl _ rfl d2 (by simp) ds e, fun H2 s2 => ?_⟩
        have z := q H2 (s1.trans s2)
        rw [show wordD (atD 1 (.tuple [.str "join", d1, d2])) = wordD d1 from rfl, w1, Bool.true_and] at z
        exact z
    | false =>
    rw [b3, if_neg (by decide)] at q
    refine iteF ?_
    walk_at "nx"
    refine ⟨_, rfl, x, d, "part", 2, rfl, hd, by decide, _, rfl, ?_⟩
    cases b4 : tupOf "part" 2 d with
    | true =>
      rw [b4, if_pos rfl] at q
      obtain ⟨es, rfl, hl⟩ := tupOf_ok b4
      match es, hl with
      | [d1], _ =>
      obtain ⟨t, v, vs, rfl, hS, h1, ha⟩ := tupD hd
      cases ha with
      | cons g1 ha =>
      cases ha
      exact iteT ⟨_, rfl, t, _, 1, _, rfl, rfl, hS, at1, _, d1, rfl, g1, sos rfl (i := 1) rfl, fun H1 s1 => q H1 s1⟩
    | false =>
    rw [b4, if_neg (by decide)] at q
    refine iteF ?_
    walk_at "nx"
    refine ⟨_, rfl, x, d, "relay", 4, rfl, hd, by decide, _, rfl, ?_⟩
    cases b5 : tupOf "relay" 4 d with
    | true =>
      rw [b5, if_pos rfl] at q
      obtain ⟨es, rfl, hl⟩ := tupOf_ok b5
      have hle : es.length ≤ 3 := by omega
      refine iteT ⟨_, rfl, 1, rfl, ?_⟩
      dsimp only [tNoPart]
      refine slP hd fun v H1 s1 h1 => ?_
      rw [cutD_1] at h1
      cases h1 with
      | @tup t xs _ hS ha =>
      have hlx := DpAll.length ha
      refine ⟨t, rfl, ⟨_, hS⟩, fun D hD => lc_tup (K := K) (a := t) (xs := xs) (MapI H1 D (es.map fun d => V.bl (wordD d))) (MapI.zero hD) (fun i H' _ p => seqT p.1 hS) ?_ ?_⟩
      · rintro i v H4 hv p
        obtain ⟨d, hdi, hdv⟩ := DpAll.at ha hv
        refine ⟨rfl, ⟨_, rfl, v, d, rfl, Dp.same p.1 hdv, sos rfl (i := i + 1) (by rw [List.getElem?_cons_succ]; exact hdi), fun H5 s5 => ?_⟩⟩
        exact MapI.step hD p (by rw [List.getElem?_map, hdi]; rfl) (by rw [List.length_map]; exact Nat.le_trans hle (by decide)) s5
      · intro H4 pm
        obtain ⟨s4, hD4⟩ := pm.all (by rw [List.length_map, hlx]; exact Nat.le_refl _)
        refine ⟨D, es.map wordD, rfl, SqL.of (by rw [hD4, List.map_map]; rfl), ?_⟩
        match es, hl with
        | [d1, d2, d3], _ =>
          have z := q H4 (s1.trans s4)
          have e : (List.map wordD [d1, d2, d3]).all id = (wordD d1 && (wordD d2 && wordD d3)) := by
            show (wordD d1 && (wordD d2 && (wordD d3 && true))) = _
            rw [Bool.and_true]
          rw [e]
          exact z
    | false =>
    rw [b5, if_neg (by decide)] at q
    refine iteF ?_
    walk_at "nx"
    refine ⟨_, rfl, x, d, "kill", 4, rfl, hd, by decide, _, rfl, ?_⟩
    cases b6 : tupOf "kill" 4 d with
    | true =>
      rw [b6, if_pos rfl] at q
      obtain ⟨es, rfl, hl⟩ := tupOf_ok b6
      match es, hl with
      | [d1, d2, d3], _ =>
      have hd0 := hd
      obtain ⟨t, v, vs, rfl, hS, h1, ha⟩ := tupD hd
      cases ha with
      | cons g1 ha =>
      refine iteT ⟨_, rfl, t, _, 1, _, rfl, rfl, hS, at1, _, d1, rfl, g1, sos rfl (i := 1) rfl, fun H1 s1 => ⟨_, rfl, ?_⟩⟩
      cases w1 : wordD d1 with
      | false =>
        have z := q H1 s1
        rw [show wordD (atD 1 (.tuple [.str "kill", d1, d2, d3])) = wordD d1 from rfl, w1] at z
        exact iteF z
      | true =>
      refine iteT ⟨_, rfl, 2, rfl, ?_⟩
      dsimp only [tNoPart]
      refine slP (Dp.same s1 hd0) fun v H2 s2 h2 => ?_
      rw [cutD_2] at h2
      cases h2 with
      | @tup t xs _ hS ha =>
      have hlx := DpAll.length ha
      refine ⟨t, rfl, ⟨_, hS⟩, fun D hD => lc_tup (K := K) (a := t) (xs := xs) (MapI H2 D ([d2, d3].map fun d => V.bl (betw 0 (10 ^ 30) d))) (MapI.zero hD) (fun i H' _ p => seqT p.1 hS) ?_ ?_⟩
      · rintro i v H4 hv p
        obtain ⟨d, hdi, hdv⟩ := DpAll.at ha hv
        refine ⟨rfl, ⟨_, rfl, v, 0, _, d, rfl, Dp.same p.1 hdv, ?_⟩⟩
        exact MapI.step hD p (by rw [List.getElem?_map, hdi]; rfl) (by show 2 ≤ 1000000; decide) (Same.refl _)
      · intro H4 pm
        obtain ⟨s4, hD4⟩ := pm.all (by rw [List.length_map, hlx]; exact Nat.le_refl _)
        refine ⟨D, [d2, d3].map (betw 0 (10 ^ 30)), rfl, SqL.of (by rw [hD4, List.map_map]; rfl), ?_⟩
        have z := q H4 (s1.trans (s2.trans s4))
        rw [show wordD (atD 1 (.tuple [.str "kill", d1, d2, d3])) = wordD d1 from rfl, w1, Bool.true_and] at z
        have e : (List.map (betw 0 (10 ^ 30)) [d2, d3]).all id = (betw 0 (10 ^ 30) d2 && betw 0 (10 ^ 30) d3) := by
          show (betw 0 (10 ^ 30) d2 && (betw 0 (10 ^ 30) d3 && true)) = _
          rw [Bool.and_true]
        rw [e]
        exact z
    | false =>
      rw [b6, if_neg (by decide)] at q
      refine iteF ?_
      exact q H (Same.refl H)
end
end L2.L86

set_option maxHeartbeats 1000000
namespace L2.L86
open PySem PySem.Spec PyProof.Rows NumText LR L2.Lr L2.Tx TL SkE
local macro_rules | `(tactic| walk_at "nx") => `(tactic| dsimp only [gName, tNext, tSeq, tAsg, List.set_cons_zero, List.set_cons_succ])
section
variable {P : Program} {w : World} {K : PySem.W.Frag} {mg : Str → Option Value} {base : Heap}
theorem ok_event {f fO fW fR fB : Addr} {fd dO dW dR dB : FuncData} (F : FnP K "is_event" sEvent f fd) (O : Def P w K mg base CX0 1 "is_tuple_of" fO dO ["thing", "word", "many"] (spTupOf K)) (Wd : Def P w K mg base CX0 1 "is_word" fW dW ["thing"] (spWord K))
    (Rq : Def P w K mg base CX0 3 "is_room" fR dR ["thing"] (spRoomQ K)) (N : Def P w K mg base CX0 2 "is_between" fB dB ["thing", "low", "high"] (spBetw K)) (T : Txt K mg) : FnOk P w K mg base CX0 4 f fd ["thing"] (spEvent K) := by
  refine F.ok scev (fun vs H Q E h => ?_) (fun cdv A outer s H vs Q E hr h => ?_)
  · obtain ⟨x, d, rfl, _⟩ := h
    rfl
  · obtain ⟨x, d, rfl, hd, so, q⟩ := h
    obtain ⟨tl', hfar⟩ := T.p.far
    have hr2 : Room 2 _ := hr.mono (by decide)
    have hr1 : Room 1 _ := hr2.mono (by decide)
    refine ⟨_, pss_cons (ps_if (pt_val (pe_call O.ok hr1 (by rfl) O.g O.k O.b .nil pass0 (pa_cons (pv 0) (pa_cons pe_str (pa_cons pe_int pa_nil))))) (pss_one (ps_ret (pe_and (pe_call Wd.ok hr1 (by rfl) Wd.g Wd.k Wd.b .nil pass0 (pa_cons (pe_ix ix_tup (pv 0) pe_int (fun _ _ => rfl)) pa_nil)) (pe_one (pe_call Rq.ok hr (by rfl) Rq.g Rq.k Rq.b .nil pass0 (pa_cons (pe_ix ix_tup (pv 0) pe_int (fun _ _ => rfl)) pa_nil)))))) pss_nil)
      (pss_cons (ps_if (pt_val (pe_call O.ok hr1 (by rfl) O.g O.k O.b .nil pass0 (pa_cons (pv 0) (pa_cons pe_str (pa_cons pe_int pa_nil))))) (pss_one (ps_ret (pe_call N.ok hr2 (by rfl) N.g N.k N.b .nil pass0 (pa_cons (pe_ix ix_tup (pv 0) pe_int (fun _ _ => rfl)) (pa_cons pe_int (pa_cons (pe_gI hfar (by rfl)) pa_nil)))))) pss_nil)
      (pss_one (ps_ret (pe_or (pe_call O.ok hr1 (by rfl) O.g O.k O.b .nil pass0 (pa_cons (pv 0) (pa_cons pe_str (pa_cons pe_int pa_nil)))) (pe_one (pe_call O.ok hr1 (by rfl) O.g O.k O.b .nil pass0 (pa_cons (pv 0) (pa_cons pe_str (pa_cons pe_int pa_nil))))))))), ?_⟩
    have e0 : start ["thing"] [x] = [some x] := rfl
    rw [e0]
    unfold eventB at q
    refine go_seq ⟨_, rfl, x, d, "room", 3, rfl, hd, by decide, _, rfl, ?_⟩
    cases b1 : tupOf "room" 3 d with
    | true =>
      rw [b1, if_pos rfl] at q
      obtain ⟨es, rfl, hl⟩ := tupOf_ok b1
      match es, hl with
      | [d1, d2], _ =>
      obtain ⟨t, v, vs, rfl, hS, h1, ha⟩ := tupD hd
      cases ha with
      | cons g1 ha =>
      cases ha with
      | cons g2 ha =>
      cases ha
      refine iteT ⟨_, rfl, t, _, 1, _, rfl, rfl, hS, at1, _, d1, rfl, g1, sOk_at so rfl (i := 1) rfl, fun H1 s1 => ⟨_, rfl, ?_⟩⟩
      have z := q H1 s1
      rw [show wordD (atD 1 (.tuple [.str "room", d1, d2])) = wordD d1 from rfl] at z
      cases w1 : wordD d1 with
      | false => rw [w1] at z; exact iteF z
      | true =>
        rw [w1, Bool.true_and] at z
        exact iteT ⟨_, rfl, t, _, 2, _, rfl, rfl, seqT s1 hS, at2, _, d2, rfl, Dp.same s1 g2, z⟩
    | false =>
    rw [b1, if_neg (by decide)] at q
    refine iteF ?_
    walk_at "nx"
    refine ⟨_, rfl, x, d, "n", 2, rfl, hd, by decide, _, rfl, ?_⟩
    cases b2 : tupOf "n" 2 d with
    | true =>
      rw [b2, if_pos rfl] at q
      obtain ⟨es, rfl, hl⟩ := tupOf_ok b2
      match es, hl with
      | [d1], _ =>
      obtain ⟨t, v, vs, rfl, hS, h1, ha⟩ := tupD hd
      cases ha with
      | cons g1 ha =>
      exact iteT ⟨_, rfl, t, _, 1, _, rfl, rfl, hS, at1, _, 0, _, d1, rfl, g1, q H (Same.refl H)⟩
    | false =>
    rw [b2, if_neg (by decide)] at q
    have q := q H (Same.refl H)
    refine iteF ?_
    walk_at "nx"
    refine ⟨_, rfl, x, d, "change", 2, rfl, hd, by decide, _, rfl, ?_⟩
    cases b3 : tupOf "change" 2 d with
    | true => rw [b3] at q; exact iteT q
    | false =>
      rw [b3, Bool.false_or] at q
      exact iteF ⟨_, rfl, x, d, "undo", 1, rfl, hd, by decide, q⟩
theorem event_shape {d : PyData} (h : eventB d = true) : ∃ w es, d = .tuple (.str w :: es) ∧ (w = "change" → ∃ c, es = [c]) := by
  unfold eventB at h
  cases b1 : tupOf "room" 3 d with
  | true =>
    obtain ⟨es, e, hl⟩ := tupOf_ok b1
    exact ⟨_, es, e, fun z => absurd z (by decide +kernel)⟩
  | false =>
  rw [b1, if_neg (by decide)] at h
  cases b2 : tupOf "n" 2 d with
  | true =>
    obtain ⟨es, e, hl⟩ := tupOf_ok b2
    exact ⟨_, es, e, fun z => absurd z (by decide +kernel)⟩
  | false =>
  rw [b2, if_neg (by decide)] at h
  cases b3 : tupOf "change" 2 d with
  | true =>
    obtain ⟨es, e, hl⟩ := tupOf_ok b3
    match es, hl with
    | [c], _ => exact ⟨_, [c], e, fun _ => ⟨c, rfl⟩⟩
  | false =>
    rw [b3, Bool.false_or] at h
    obtain ⟨es, e, hl⟩ := tupOf_ok h
    exact ⟨_, es, e, fun z => absurd z (by decide +kernel)⟩
theorem ok_tolde {f fE fC : Addr} {fd dE dC : FuncData} (F : FnP K "is_told_event" sToldE f fd) {k : Nat} (h4 : 4 ≤ k) (Ev : Def P w K mg base CX0 4 "is_event" fE dE ["thing"] (spEvent K)) (Ch : Def P w K mg base CX0 k "is_change" fC dC ["thing"] (spChange K)) :
    FnOk P w K mg base CX0 (k + 1) f fd ["thing"] (spToldE K) := by
  refine F.ok scte (fun vs H Q E h => ?_) (fun cdv A outer s H vs Q E hr h => ?_)
  · obtain ⟨x, d, rfl, _⟩ := h
    rfl
  · obtain ⟨x, d, rfl, hd, ⟨so, sl⟩, q⟩ := h
    refine ⟨_, pss_one (ps_ret (pe_and (pe_call Ev.ok (hr.mono h4) (by rfl) Ev.g Ev.k Ev.b .nil pass0 (pa_cons (pv 0) pa_nil)) (pe_one (pe_or (pe_cmpR op_ne (pe_ix ix_tup (pv 0) pe_int (fun _ _ => rfl)) pe_str (nomark _)) (pe_one (pe_call Ch.ok hr (by rfl) Ch.g Ch.k Ch.b .nil pass0 (pa_cons (pe_ix ix_tup (pv 0) pe_int (fun _ _ => rfl)) pa_nil))))))), ?_⟩
    have e0 : start ["thing"] [x] = [some x] := rfl
    rw [e0]
    refine ⟨_, rfl, x, d, rfl, hd, so, fun H1 s1 => ⟨_, rfl, ?_⟩⟩
    unfold toldB at q
    cases he : eventB d with
    | false => have z := q H1 s1; rw [he] at z; exact iteF z
    | true =>
      simp only [he, Bool.true_and] at q
      obtain ⟨w, es, rfl, hc⟩ := event_shape he
      obtain ⟨t, v, vs, rfl, hS, h1, ha⟩ := tupD (Dp.same s1 hd)
      cases strD h1
      refine iteT ⟨_, rfl, t, _, 0, _, rfl, rfl, hS, at0, rfl, _, rfl, ?_⟩
      have ew : isS "change" (atD 0 (.tuple (.str w :: es))) = decide (w = "change") := rfl
      rw [ew] at q
      by_cases hw : w = "change"
      · obtain ⟨c, rfl⟩ := hc hw
        cases ha with
        | cons g1 ha =>
        subst hw
        refine iteF ⟨_, rfl, t, _, 1, _, rfl, rfl, hS, at1, _, c, rfl, g1, sl _ rfl c (by simp), fun H2 s2 => ?_⟩
        exact q H2 (s1.trans s2)
      · rw [decide_eq_false hw] at q
        have z := q H1 s1
        refine (show _ from ?_)
        rw [dec_vs, decide_eq_false hw]
        exact iteT z
end
end L2.L86

set_option maxHeartbeats 1000000
namespace L2.L86
open PySem PySem.Spec PyProof.Rows NumText LR L2.Lr L2.Tx TL SkE
local macro_rules | `(tactic| walk_at "nx") => `(tactic| dsimp only [gName, tNext, tSeq, tAsg, List.set_cons_zero, List.set_cons_succ])
abbrev NLn : List Str := ["event", "told", "thing"]
theorem scln : FnScope NLn ["event"] (defScope sLineOf) := ⟨rfl, rfl, rfl, by decide +kernel, rfl, by decide +kernel, by decide +kernel⟩
def toldOf (d : PyData) : PyData := if isS "change" (atD 0 d) then atD 1 d else d
def strN : PyData → Str
  | .none => "none"
  | d => strOf d
def strOk' (d : PyData) : Prop := d = .none ∨ (∃ x, d = .str x ∧ wordD d = true) ∨ ∃ i : Int, d = .int i ∧ 0 ≤ i ∧ i ≤ 10 ^ 200
/-- the line of what is told -/
def lnT : PyData → Str
  | .tuple [.str w, .str p, .tuple ds] => if w = "row" then ("row " : Str) ++ p ++ spS ++ txM 5 ds else PySem.Txt.join spS (("join" : Str) :: p :: wordsD ds)
  | .tuple ts => PySem.Txt.join spS (ts.map strN)
  | _ => Str.empty
def lineD (d : PyData) : Str := lnT (toldOf d)
inductive Told : PyData → Prop where
  | row {p : Str} {ds : List PyData} (hp : wordD (.str p) = true) (ha : aprD (.tuple ds) = true) : Told (.tuple [.str "row", .str p, .tuple ds])
  | join {p : Str} {ds : List PyData} (hp : wordD (.str p) = true) (hd : diffB (.tuple ds) = true) : Told (.tuple [.str "join", .str p, .tuple ds])
  | other {w : Str} {es : List PyData} (h1 : w ≠ "row") (h2 : w ≠ "join") (hw : w.length ≤ 8) (hl : es.length ≤ 3) (he : ∀ e ∈ es, strOk' e) (hn : ∀ p ds, es ≠ [.str p, .tuple ds]) : Told (.tuple (.str w :: es))
theorem isW {d : PyData} (h : wordD d = true) : strOk' d := by
  cases d with
  | str x => exact .inr (.inl ⟨x, rfl, h⟩)
  | _ => cases h
theorem isN {d : PyData} {hi : Int} (hh : hi ≤ 10 ^ 200) (h : betw 0 hi d = true) : strOk' d := by
  obtain ⟨i, rfl, h0, h1⟩ := betw_int h
  exact .inr (.inr ⟨i, rfl, h0, by omega⟩)
theorem isRm {d : PyData} (h : roomB d = true) : strOk' d := by
  cases d with
  | none => exact .inl rfl
  | int i => exact isN (hi := 10 ^ 200) (Int.le_refl _) h
  | _ => cases h
theorem wS {d : PyData} (h : wordD d = true) : ∃ p, d = .str p := by
  cases d with
  | str x => exact ⟨x, rfl⟩
  | _ => cases h
theorem noTup {e : PyData} (h : strOk' e) : ∀ ds, e ≠ .tuple ds := fun ds z => by
  subst z
  rcases h with h | ⟨_, h, _⟩ | ⟨_, h, _⟩ <;> cases h
theorem strs2 {es : List PyData} (he : ∀ e ∈ es, strOk' e) : ∀ p ds, es ≠ [.str p, .tuple ds] := fun p ds z => by
  subst z
  exact noTup (he (.tuple ds) (by simp)) ds rfl
theorem change_told {d : PyData} (h : changeB d = true) : Told d := by
  unfold changeB at h
  have mk : ∀ {w : Str} {es : List PyData}, w ≠ "row" → w ≠ "join" → w.length ≤ 8 → es.length ≤ 3 → (∀ e ∈ es, strOk' e) → Told (.tuple (.str w :: es)) := fun a b c l e => .other a b c l e (strs2 e)
  cases b1 : tupOf "row" 3 d with
  | true =>
    rw [b1, if_pos rfl] at h
    obtain ⟨es, rfl, hl⟩ := tupOf_ok b1
    match es, hl with
    | [d1, d2], _ =>
      obtain ⟨h1, h2⟩ := Bool.and_eq_true_iff.mp (show (wordD d1 && aprD d2) = true from h)
      obtain ⟨p, rfl⟩ := wS h1
      cases d2 with
      | tuple ds => exact .row h1 h2
      | _ => cases h2
  | false =>
  rw [b1, if_neg (by decide)] at h
  cases b2 : tupOf "first" 3 d with
  | true =>
    rw [b2, if_pos rfl] at h
    obtain ⟨es, rfl, hl⟩ := tupOf_ok b2
    match es, hl with
    | [d1, d2], _ =>
      obtain ⟨h1, h2⟩ := Bool.and_eq_true_iff.mp (show (wordD d1 && betw 0 99 d2) = true from h)
      refine mk (by decide +kernel) (by decide +kernel) (by decide +kernel) (by simp) fun e he => ?_
      rcases List.mem_cons.mp he with rfl | he
      · exact isW h1
      · rw [List.mem_singleton.mp he]; exact isN (by decide +kernel) h2
  | false =>
  rw [b2, if_neg (by decide)] at h
  cases b3 : tupOf "join" 3 d with
  | true =>
    rw [b3, if_pos rfl] at h
    obtain ⟨es, rfl, hl⟩ := tupOf_ok b3
    match es, hl with
    | [d1, d2], _ =>
      obtain ⟨h1, h2⟩ := Bool.and_eq_true_iff.mp (show (wordD d1 && diffB d2) = true from h)
      obtain ⟨p, rfl⟩ := wS h1
      cases d2 with
      | tuple ds => exact .join h1 h2
      | _ => cases h2
  | false =>
  rw [b3, if_neg (by decide)] at h
  cases b4 : tupOf "part" 2 d with
  | true =>
    rw [b4, if_pos rfl] at h
    obtain ⟨es, rfl, hl⟩ := tupOf_ok b4
    match es, hl with
    | [d1], _ =>
      refine mk (by decide +kernel) (by decide +kernel) (by decide +kernel) (by simp) fun e he => ?_
      rw [List.mem_singleton.mp he]; exact isW h
  | false =>
  rw [b4, if_neg (by decide)] at h
  cases b5 : tupOf "relay" 4 d with
  | true =>
    rw [b5, if_pos rfl] at h
    obtain ⟨es, rfl, hl⟩ := tupOf_ok b5
    match es, hl with
    | [d1, d2, d3], _ =>
      obtain ⟨h1, h2⟩ := Bool.and_eq_true_iff.mp (show (wordD d1 && (wordD d2 && wordD d3)) = true from h)
      obtain ⟨h2, h3⟩ := Bool.and_eq_true_iff.mp h2
      refine mk (by decide +kernel) (by decide +kernel) (by decide +kernel) (by simp) fun e he => ?_
      simp only [List.mem_cons, List.not_mem_nil, or_false] at he
      rcases he with rfl | rfl | rfl
      · exact isW h1
      · exact isW h2
      · exact isW h3
  | false =>
  rw [b5, if_neg (by decide)] at h
  cases b6 : tupOf "kill" 4 d with
  | true =>
    rw [b6, if_pos rfl] at h
    obtain ⟨es, rfl, hl⟩ := tupOf_ok b6
    match es, hl with
    | [d1, d2, d3], _ =>
      obtain ⟨h1, h2⟩ := Bool.and_eq_true_iff.mp (show (wordD d1 && (betw 0 (10 ^ 30) d2 && betw 0 (10 ^ 30) d3)) = true from h)
      obtain ⟨h2, h3⟩ := Bool.and_eq_true_iff.mp h2
      refine mk (by decide +kernel) (by decide +kernel) (by decide +kernel) (by simp) fun e he => ?_
      simp only [List.mem_cons, List.not_mem_nil, or_false] at he
      rcases he with rfl | rfl | rfl
      · exact isW h1
      · exact isN (by decide +kernel) h2
      · exact isN (by decide +kernel) h3
  | false =>
    rw [b6, if_neg (by decide)] at h
    cases h
theorem told_told {d : PyData} (h : toldB d = true) : Told (toldOf d) := by
  obtain ⟨he, hc⟩ := Bool.and_eq_true_iff.mp h
  obtain ⟨w, es, rfl, hw⟩ := event_shape he
  have e : isS "change" (atD 0 (.tuple (.str w :: es))) = decide (w = "change") := rfl
  unfold toldOf
  rw [e] at hc ⊢
  by_cases hch : w = "change"
  · obtain ⟨c, rfl⟩ := hw hch
    rw [decide_eq_true hch] at hc ⊢
    exact change_told hc
  · rw [decide_eq_false hch, if_neg (by decide)]
    have mk : w ≠ "row" → w ≠ "join" → w.length ≤ 8 → es.length ≤ 3 → (∀ e ∈ es, strOk' e) → Told (.tuple (.str w :: es)) := fun a b c l e => .other a b c l e (strs2 e)
    unfold eventB at he
    cases b1 : tupOf "room" 3 (.tuple (.str w :: es)) with
    | true =>
      rw [b1, if_pos rfl] at he
      obtain ⟨es', e', hl⟩ := tupOf_ok b1
      cases e'
      match es, hl with
      | [d1, d2], _ =>
        obtain ⟨h1, h2⟩ := Bool.and_eq_true_iff.mp (show (wordD d1 && roomB d2) = true from he)
        refine mk (by decide +kernel) (by decide +kernel) (by decide +kernel) (by simp) fun e he => ?_
        rcases List.mem_cons.mp he with rfl | he
        · exact isW h1
        · rw [List.mem_singleton.mp he]; exact isRm h2
    | false =>
    rw [b1, if_neg (by decide)] at he
    cases b2 : tupOf "n" 2 (.tuple (.str w :: es)) with
    | true =>
      rw [b2, if_pos rfl] at he
      obtain ⟨es', e', hl⟩ := tupOf_ok b2
      cases e'
      match es, hl with
      | [d1], _ =>
        refine mk (by decide +kernel) (by decide +kernel) (by decide +kernel) (by simp) fun e he' => ?_
        rw [List.mem_singleton.mp he']; exact isN (by decide +kernel) he
    | false =>
    rw [b2, if_neg (by decide)] at he
    cases b3 : tupOf "change" 2 (.tuple (.str w :: es)) with
    | true =>
      obtain ⟨es', e', hl⟩ := tupOf_ok b3
      cases e'
      exact absurd rfl hch
    | false =>
      rw [b3, Bool.false_or] at he
      obtain ⟨es', e', hl⟩ := tupOf_ok he
      cases e'
      have : es = [] := List.eq_nil_of_length_eq_zero (by omega)
      subst this
      exact mk (by decide +kernel) (by decide +kernel) (by decide +kernel) (by simp) fun e he => by cases he
theorem lnT_other {w : Str} {es : List PyData} (hn : ∀ p ds, es ≠ [.str p, .tuple ds]) : lnT (.tuple (.str w :: es)) = PySem.Txt.join spS ((PyData.str w :: es).map strN) := by
  unfold lnT
  split
  · rename_i e
    cases e
    exact absurd rfl (hn _ _)
  · rename_i ts _ e
    cases e
    rfl
  · rename_i _ h
    exact absurd rfl (h _)
end L2.L86

set_option maxHeartbeats 1000000
namespace L2.L86
open PySem PySem.Spec PyProof.Rows NumText LR L2.Lr L2.Tx TL SkE
local macro_rules | `(tactic| walk_at "nx") => `(tactic| dsimp only [gName, tNext, tSeq, tAsg, List.set_cons_zero, List.set_cons_succ])
/-- a row of these parts -/
def RowD (K : PySem.W.Frag) (H : Hp) (v : V) (ds : List PyData) : Prop := ∃ p, v = .ref p ∧ RowAt' K H p ds
theorem RowD.same {K : PySem.W.Frag} {H H' : Hp} {v : V} {ds : List PyData} (r : RowD K H v ds) (s : Same H H') : RowD K H' v ds := by
  obtain ⟨p, e, y, m, ⟨dx, h⟩, hd⟩ := r
  exact ⟨p, e, y, m, ⟨dx, s _ _ h⟩, Dp.same s hd⟩
structure RMk (P : Program) (w : World) (K : PySem.W.Frag) (mg : Str → Option Value) (base : Heap) (k : Nat) (fI : Addr) (dI : FuncData) (fS : Addr) (dS : FuncData) : Prop where
  m : Mk K (CR K) fI
  ok : FnOk P w K mg base CX0 k fI dI ["self", "parts"] (spRow K)
  b : Binds K dI ["self", "parts"] []
  d : Dun K (CR K) fS "__str__"
  fm : FmtO K (CR K)
  sk : FnOk P w K mg base CX0 k fS dS ["self"] (spStr K)
  sb : Binds K dS ["self"] []
theorem row_go {K : PySem.W.Frag} {H : Hp} {u : V} {ds : List PyData} {Q : VK} {E : XK} (hu : Dp K H u (.tuple ds)) (ok : RowOk ds) (q : ∀ r H', Same H H' → H r = none → RowAt' K H' r ds → Q (.ref r) H') :
    ∀ x dx, H x = none → H dx = none → dx ≠ x → spRow K [.ref x, u] (upd (upd H dx (.own x)) x (.ins (CR K) dx [])) (fun v H2 => v = .non ∧ Q (.ref x) H2) E := by
  intro x dx hx hdx hne
  have sl : Same H (upd (upd H dx (.own x)) x (.ins (CR K) dx [])) := fun b o hb => (upd_ne (ne_of_none hb hx)).trans ((upd_ne (ne_of_none hb hdx)).trans hb)
  refine ⟨x, dx, u, ds, rfl, upd_same, Dp.same sl hu, ok, fun H' y keep hR hy => ⟨rfl, q x H' (fun b o hb => ?_) hx ⟨y, _, hR, hy⟩⟩⟩
  have n1 : b ≠ x := ne_of_none hb hx
  have n2 : b ≠ dx := ne_of_none hb hdx
  exact keep b o ((upd_ne n1).trans ((upd_ne n2).trans hb)) n1
theorem row_ok {ds : List PyData} (so : sOk (.tuple ds)) (h : aprD (.tuple ds) = true) : RowOk ds := by
  obtain ⟨h1, h2⟩ := Bool.and_eq_true_iff.mp (show (decide (howF (sizeD 4) (.tuple ds) ≤ 60) && goesD ds) = true from h)
  have h1 := of_decide_eq_true h1
  have hl := goL_len (sizeD_pos 4) ds 0 (by decide) h1
  exact ⟨so, by omega, goL_shape ds 0 (by decide) h1, h1, h2⟩
def spLineOf (K : PySem.W.Frag) : Sp := fun vs H Q _ => ∃ x d, vs = [x] ∧ Dp K H x d ∧ ShE d ∧ toldB d = true ∧ ∀ H', Same H H' → Q (.str (lineD d)) H'
theorem sum_words {ds : List PyData} (h : ds.all wordD = true) : ((wordsD ds).map (·.length)).sum ≤ ds.length * 8 := by
  have := sum_le (m := 8) (l := (wordsD ds).map (·.length)) fun x hx => by
    obtain ⟨y, hy, rfl⟩ := List.mem_map.mp hx
    obtain ⟨d, hd, rfl⟩ := List.mem_map.mp hy
    have hw := List.all_eq_true.mp h d hd
    cases d with
    | str x => exact (word_len hw).2
    | _ => cases hw
  rw [List.length_map] at this
  unfold wordsD at this
  rw [List.length_map] at this
  exact this
theorem strN_len {e : PyData} (h : strOk' e) : (strN e).length ≤ 202 := by
  rcases h with rfl | ⟨x, rfl, hw⟩ | ⟨i, rfl, h0, h1⟩
  · decide +kernel
  · have := (word_len hw).2
    show x.length ≤ 202
    omega
  · exact intT_len (k := 201) (by decide) (by
      have : i.natAbs ≤ 10 ^ 200 := by omega
      exact Nat.lt_of_le_of_lt this (by decide +kernel))
section
variable {P : Program} {w : World} {K : PySem.W.Frag} {mg : Str → Option Value} {base : Heap}
theorem ok_lineof {f fI fS : Addr} {fd dI dS : FuncData} (F : FnP K "line_of" sLineOf f fd) (T : Txt K mg) {k : Nat} (M : RMk P w K mg base k fI dI fS dS) : FnOk P w K mg base CX0 (k + 2) f fd ["event"] (spLineOf K) := by
  refine F.ok scln (fun vs H Q E h => ?_) (fun cdv A outer s H vs Q E hr h => ?_)
  · obtain ⟨x, d, rfl, _⟩ := h
    rfl
  · obtain ⟨x, d, rfl, hd, ⟨so, sl⟩, ht, q⟩ := h
    have sz : sizeLine = 16777216 := sizeLine_eq
    refine ⟨_, PSs.nox (C8.pss_cut (ps_set (i := 1) scln.nd rfl (Or.inl rfl) (pe_ifExp (pt_cmpR op_eq (pe_ix ix_tup (pv 0) pe_int (fun _ _ => rfl)) pe_str (nomark _)) (pe_ix ix_tup (pv 0) pe_int (fun _ _ => rfl)) (pv 0)))
      (pss_cons (ps_if (pt_cmpR op_eq (pe_ix ix_tup (pv 1) pe_int (fun _ _ => rfl)) pe_str (nomark _)) (pss_one (ps_ret (pe_joined (.cons pe_str (.cons (pe_fmt (pe_ix ix_tup (pv 1) pe_int (fun _ _ => rfl))) (.cons pe_str (.cons (pe_fmtO (E := E0) M.d M.fm M.sk hr M.sb pass0 (pe_make M.m M.ok hr (by rfl) T.gR M.b .nil pass0 (pa_cons (pe_ix ix_tup (pv 1) pe_int (fun _ _ => rfl)) pa_nil))) .nil))))))) pss_nil)
      (pss_cons (ps_if (pt_cmpR op_eq (pe_ix ix_tup (pv 1) pe_int (fun _ _ => rfl)) pe_str (nomark _)) (pss_one (ps_ret (pe_join pe_str (pe_op op_cat (pe_lst (pa_cons pe_str (pa_cons (pe_ix ix_tup (pv 1) pe_int (fun _ _ => rfl)) pa_nil))) (pe_callTy call_list_of (by rfl) T.list bbL (pa_cons (pe_ix ix_tup (pv 1) pe_int (fun _ _ => rfl)) pa_nil)))))) pss_nil)
      (pss_one (ps_ret (pe_join pe_str (pe_lc (own := [("thing", 2)]) (g := gName 2) (tt := tYes) rfl scln.nd (pi_tup (pv 1)) (blkOk_by (N := NLn) (sc := defScope sLineOf) (by decide +kernel)) (fun _ _ _ _ _ => pg_name (i := 2) scln.nd rfl (Or.inl rfl)) (fun _ _ _ _ _ => pts_nil) (fun _ _ _ _ _ => pe_ifExp (pt_cmpR op_isN (pv 2) pe_non (nomark _)) pe_str (pe_callTy (call_strD K rfl) (by rfl) T.p.str bbS (pa_cons (pv 2) pa_nil)))))))))), ?_⟩
    have e0 : start NLn [x] = [some x, none, none] := rfl
    rw [e0]
    have hto := told_told ht
    have hev : eventB d = true := (Bool.and_eq_true_iff.mp ht).1
    have shl : ∀ w p ds, toldOf d = .tuple [.str w, .str p, .tuple ds] → ds.length ≤ 1000 := fun w p ds e => by
      obtain ⟨w0, es, rfl, hw⟩ := event_shape hev
      have e1 : isS "change" (atD 0 (.tuple (.str w0 :: es))) = decide (w0 = "change") := rfl
      unfold toldOf at e
      rw [e1] at e
      by_cases hc : w0 = "change"
      · obtain ⟨c, rfl⟩ := hw hc
        rw [decide_eq_true hc, if_pos rfl] at e
        have e2 : c = .tuple [.str w, .str p, .tuple ds] := e
        exact (sl _ rfl c (by simp)).2 _ e2 (.tuple ds) (by simp) ds rfl
      · rw [decide_eq_false hc, if_neg (by decide)] at e
        cases e
        unfold eventB at hev
        have no : ∀ m, tupOf "room" m (.tuple [.str w, .str p, .tuple ds]) = true → roomB (.tuple ds) = true → False := fun _ _ z => by cases z
        cases b1 : tupOf "room" 3 (.tuple [.str w, .str p, .tuple ds]) with
        | true =>
          rw [b1, if_pos rfl] at hev
          have z : (wordD (.str p) && roomB (.tuple ds)) = true := hev
          rw [show roomB (.tuple ds) = false from rfl, Bool.and_false] at z
          cases z
        | false =>
          rw [b1, if_neg (by decide)] at hev
          have n2 : tupOf "n" 2 (.tuple [.str w, .str p, .tuple ds]) = false := rfl
          have n3 : tupOf "change" 2 (.tuple [.str w, .str p, .tuple ds]) = false := rfl
          have n4 : tupOf "undo" 1 (.tuple [.str w, .str p, .tuple ds]) = false := rfl
          rw [n2, n3, n4] at hev
          cases hev
    refine ⟨fun σ' H' => ∃ y, σ' = [some x, some y, none] ∧ H' = H ∧ Dp K H y (toldOf d) ∧ sOk (toldOf d), ?_, ?_⟩
    · obtain ⟨w, es, rfl, hw⟩ := event_shape hev
      obtain ⟨t, v, vs, rfl, hS, h1, ha⟩ := tupD hd
      cases strD h1
      have e : isS "change" (atD 0 (.tuple (.str w :: es))) = decide (w = "change") := rfl
      unfold toldOf
      rw [e]
      refine ⟨_, rfl, t, _, 0, _, rfl, rfl, hS, at0, rfl, _, rfl, str_if (fun hc => ?_) fun hc => ?_⟩
      · obtain ⟨c, rfl⟩ := hw hc
        cases ha with
        | cons g1 ha =>
        cases ha
        rw [decide_eq_true hc]
        exact ⟨_, rfl, t, _, 1, _, rfl, rfl, hS, at1, _, rfl, rfl, g1, sOk_at so rfl (i := 1) rfl⟩
      · rw [decide_eq_false hc]
        exact ⟨_, rfl, _, rfl, rfl, hd, so⟩
    rintro σ2 H2 ⟨y, rfl, rfl, hy, soy⟩
    unfold lineD at q
    generalize toldOf d = t0 at hto hy soy q shl
    cases hto with
    | @row p ds hp ha =>
      obtain ⟨t, v, vs, rfl, hS, h1, h2⟩ := tupD hy
      cases strD h1
      cases h2 with
      | cons g1 h2 =>
      cases h2 with
      | cons g2 h2 =>
      cases h2
      cases strD g1
      have so2 : sOk (.tuple ds) := sOk_at soy rfl (i := 2) rfl
      have ok := row_ok so2 ha
      have hp8 := (word_len hp).2
      refine ⟨_, rfl, t, _, 0, _, rfl, rfl, hS, at0, rfl, _, rfl, str_if (fun _ => ?_) fun z => absurd rfl z⟩
      refine ⟨("row " : Str), rfl, by rw [empty_app, sz]; decide, _, rfl, t, _, 1, _, rfl, rfl, hS, at1, .inl ⟨p, rfl, by omega, p, rfl, ?_, spS, rfl, ?_, _, rfl, t, _, 2, _, rfl, rfl, hS, at2, ?_⟩⟩
      · rw [empty_app, len_app, sz]
        show 4 + _ ≤ _
        omega
      · rw [empty_app, len_app, len_app, sz]
        show 4 + _ + 1 ≤ _
        omega
      intro r dx0 hr0 hdx hne
      have sl0 : Same H2 (upd (upd H2 dx0 (.own r)) r (.ins (CR K) dx0 [])) := fun b o hb => (upd_ne (ne_of_none hb hr0)).trans ((upd_ne (ne_of_none hb hdx)).trans hb)
      refine ⟨r, dx0, _, ds, rfl, upd_same, Dp.same sl0 g2, ok, fun H3 y keep hR hyd => ⟨rfl, ?_⟩⟩
      have s3 : Same H2 H3 := fun b o hb => keep b o ((upd_ne (ne_of_none hb hr0)).trans ((upd_ne (ne_of_none hb hdx)).trans hb)) (ne_of_none hb hr0)
      obtain ⟨dx, hra⟩ := hR
      refine ⟨r, dx, _, rfl, hra, r, ds, rfl, ⟨y, _, ⟨dx, hra⟩, hyd⟩, ok.h, fun H4 s4 => ⟨_, rfl, _, rfl, ?_, ?_⟩⟩
      · have : (txM 5 ds).length ≤ 2640 := (txM_len (n := 4) (by decide) ok.h).1
        rw [empty_app, len_app, len_app, len_app, sz]
        show 4 + _ + 1 + _ ≤ _
        omega
      · rw [empty_app]
        exact q H4 (s3.trans s4)
    | @join p ds hp hdf =>
      obtain ⟨t, v, vs, rfl, hS, h1, h2⟩ := tupD hy
      cases strD h1
      cases h2 with
      | cons g1 h2 =>
      cases h2 with
      | cons g2 h2 =>
      cases h2
      cases strD g1
      obtain ⟨t2, xs, rfl, hS2, ha2⟩ := tupDv g2
      obtain ⟨_, hda⟩ := Bool.and_eq_true_iff.mp (show (decide (2 ≤ ds.length) && (ds.all wordD && decide (wordsD ds).Nodup)) = true from hdf)
      obtain ⟨haw, _⟩ := Bool.and_eq_true_iff.mp hda
      have ex := words_of ha2 haw
      have hl : ds.length ≤ 1000 := by
        exact shl _ _ ds rfl
      refine ⟨_, rfl, t, _, 0, _, rfl, rfl, hS, at0, rfl, _, rfl, str_if (fun z => absurd z (by decide +kernel)) fun _ => ?_⟩
      walk_at "nx"
      refine ⟨_, rfl, t, _, 0, _, rfl, rfl, hS, at0, rfl, _, rfl, str_if (fun _ => ?_) fun z => absurd rfl z⟩
      refine ⟨⟨_, rfl⟩, _, rfl, t, _, 1, _, rfl, rfl, hS, at1, by show 2 ≤ sizeLine; decide, fun l nl => ?_⟩
      have s1 := same_upd (o := .lst [.str "join", .str p]) nl
      have hL := upd_same (H := H2) (a := l) (o := .lst [.str "join", .str p])
      generalize upd H2 l (.lst [.str "join", .str p]) = H3 at s1 hL ⊢
      refine ⟨_, rfl, t, _, 2, _, rfl, rfl, seqT s1 hS, at2, t2, xs, rfl, .inr (seqT s1 hS2), fun l2 nl2 => ?_⟩
      have s2 := same_upd (o := .lst xs) nl2
      have hL2 := upd_same (H := H3) (a := l2) (o := .lst xs)
      generalize upd H3 l2 (.lst xs) = H4 at s2 hL2 ⊢
      have lw : (wordsD ds).length = ds.length := by unfold wordsD; rw [List.length_map]
      have lx : xs.length = ds.length := DpAll.length ha2
      refine ⟨_, _, _, _, rfl, rfl, s2 _ _ hL, hL2, ?_, fun r nr => ?_⟩
      · rw [lx, sz]
        show 2 + _ ≤ _
        omega
      · have e : [V.str "join", V.str p] ++ xs = (("join" : Str) :: p :: wordsD ds).map V.str := by rw [ex]; rfl
        rw [e]
        refine ⟨spS, r, _, rfl, rfl, .inl (SqL.of upd_same), ?_, ?_⟩
        · have h8 := (word_len hp).2
          have hs := sum_words haw
          have h3 : spS.length = 1 := rfl
          rw [h3]
          simp only [List.map_cons, List.sum_cons, List.length_cons]
          show 4 + (p.length + _) + _ ≤ _
          omega
        · have z := q _ (s1.trans (s2.trans (same_upd nr (o := .lst ((("join" : Str) :: p :: wordsD ds).map V.str)))))
          have el : lnT (.tuple [.str "join", .str p, .tuple ds]) = if ("join" : Str) = "row" then ("row " : Str) ++ p ++ spS ++ txM 5 ds else PySem.Txt.join spS (("join" : Str) :: p :: wordsD ds) := rfl
          rw [el, if_neg (by decide +kernel)] at z
          exact z
    | @other w es n1 n2 hw hl he hn =>
      obtain ⟨t, xs, rfl, hS, ha⟩ := tupDv hy
      obtain ⟨v, vs, rfl⟩ : ∃ v vs, xs = v :: vs := by cases ha; exact ⟨_, _, rfl⟩
      have hv : v = .str w := by cases ha with | cons h1 _ => exact strD h1
      subst hv
      refine ⟨_, rfl, t, _, 0, _, rfl, rfl, hS, at0, rfl, _, rfl, str_if (fun z => absurd z n1) fun _ => ?_⟩
      walk_at "nx"
      refine ⟨_, rfl, t, _, 0, _, rfl, rfl, hS, at0, rfl, _, rfl, str_if (fun z => absurd z n2) fun _ => ?_⟩
      walk_at "nx"
      have hlx := DpAll.length ha
      have hls : ((PyData.str w :: es).map strN).length ≤ 4 := by rw [List.length_map, List.length_cons]; omega
      have kind : ∀ e ∈ (PyData.str w :: es), e = .none ∨ (∃ x, e = .str x) ∨ ∃ i : Int, e = .int i ∧ i.natAbs.log2 < 1920 := fun e me => by
        rcases List.mem_cons.mp me with rfl | me
        · exact .inr (.inl ⟨w, rfl⟩)
        · rcases he e me with h | ⟨x, h, _⟩ | ⟨i, h, h0, h1⟩
          · exact .inl h
          · exact .inr (.inl ⟨x, h⟩)
          · exact .inr (.inr ⟨i, h, log_200 (by omega)⟩)
      refine ⟨⟨_, rfl⟩, _, rfl, t, rfl, ⟨_, hS⟩, fun D hD => lc_tup (K := K) (a := t) (xs := _) (MapI H2 D ((PyData.str w :: es).map fun d => V.str (strN d))) (MapI.zero hD) (fun i H' _ p => seqT p.1 hS) ?_ ?_⟩
      · rintro i v H4 hv p
        obtain ⟨d, hdi, hdv⟩ := DpAll.at ha hv
        have stp : ∀ {u : V}, u = V.str (strN d) → _ := fun {u} eu => MapI.step hD p (y := u) (by rw [List.getElem?_map, hdi, eu]; rfl) (by rw [List.length_map]; exact Nat.le_trans (show _ ≤ 4 by rw [List.length_cons]; omega) (by decide)) (Same.refl H4)
        rcases kind d (List.mem_of_getElem? hdi) with rfl | ⟨x, rfl⟩ | ⟨j, rfl, hj⟩
        · cases nonDv hdv
          exact ⟨rfl, ⟨_, rfl, rfl, _, rfl, iteT (stp rfl)⟩⟩
        · have hdv' := Dp.same p.1 hdv
          cases strD hdv
          exact ⟨rfl, ⟨_, rfl, rfl, _, rfl, iteF ⟨_, rfl, _, _, rfl, hdv', .inl ⟨x, rfl⟩, stp rfl⟩⟩⟩
        · have hdv' := Dp.same p.1 hdv
          cases intDv hdv
          exact ⟨rfl, ⟨_, rfl, rfl, _, rfl, iteF ⟨_, rfl, _, _, rfl, hdv', .inr ⟨j, rfl, hj⟩, stp rfl⟩⟩⟩
      · intro H4 pm
        obtain ⟨s4, hD4⟩ := pm.all (by rw [List.length_map, hlx]; exact Nat.le_refl _)
        refine ⟨spS, D, (PyData.str w :: es).map strN, rfl, rfl, .inl (SqL.of (by rw [hD4, List.map_map]; rfl)), ?_, ?_⟩
        · have hs := sum_le (m := 202) (l := ((PyData.str w :: es).map strN).map (·.length)) fun x hx => by
            obtain ⟨y, hy, rfl⟩ := List.mem_map.mp hx
            obtain ⟨e, me, rfl⟩ := List.mem_map.mp hy
            rcases List.mem_cons.mp me with rfl | me
            · show w.length ≤ 202
              omega
            · exact strN_len (he e me)
          have h3 : spS.length = 1 := rfl
          rw [List.length_map] at hs
          rw [h3]
          omega
        · rw [← lnT_other hn]
          exact q H4 s4
end
end L2.L86

set_option maxHeartbeats 1000000
namespace L2.L86
open PySem PySem.Spec PyProof.Rows NumText LR L2.Lr L2.Tx TL SkE
local macro_rules | `(tactic| walk_at "nx") => `(tactic| dsimp only [gName, tNext, tSeq, tAsg, List.set_cons_zero, List.set_cons_succ])
abbrev NPc : List Str := ["text", "pieces", "depth", "start", "at", "sign"]
theorem scpc : FnScope NPc ["text"] (defScope sPieces) := ⟨rfl, rfl, rfl, by decide +kernel, rfl, by decide +kernel, by decide +kernel⟩
theorem scam : FnScope ["thing", "words"] ["thing", "words"] (defScope sAmong) := ⟨rfl, rfl, rfl, by decide +kernel, rfl, by decide +kernel, by decide +kernel⟩
theorem scsi : FnScope ["words"] ["words"] (defScope sSingIn) := ⟨rfl, rfl, rfl, by decide +kernel, rfl, by decide +kernel, by decide +kernel⟩
/-- the pieces from sign i on: d brackets are open, the piece began at st -/
def pcG (t : Str) : List Nat → Nat → Int → Nat → List Str
  | [], _, _, st => [cutS t (some (st : Int)) none]
  | c :: r, i, d, st => if c = 40 then pcG t r (i + 1) (d + 1) st else if c = 41 then pcG t r (i + 1) (d - 1) st else
    if c = 59 ∧ d = 0 then cutS t (some (st : Int)) (some (i : Int)) :: pcG t r (i + 1) d (i + 2) else pcG t r (i + 1) d st
def pcs (t : Str) : List Str := if t = Str.empty then [] else pcG t (tl t) 0 0 0
theorem pcG_len (t : Str) : ∀ (l : List Nat) (i : Nat) (d : Int) (st : Nat), (pcG t l i d st).length ≤ l.length + 1 ∧ ∀ p ∈ pcG t l i d st, p.length ≤ t.length
  | [], i, d, st => ⟨Nat.le_refl _, fun p hp => by rw [List.mem_singleton.mp hp]; exact cut_le _ _ _⟩
  | c :: r, i, d, st => by
    unfold pcG
    rw [List.length_cons]
    split
    · exact ⟨Nat.le_succ_of_le (pcG_len t r _ _ _).1, (pcG_len t r _ _ _).2⟩
    · split
      · exact ⟨Nat.le_succ_of_le (pcG_len t r _ _ _).1, (pcG_len t r _ _ _).2⟩
      · split
        · refine ⟨Nat.succ_le_succ (pcG_len t r _ _ _).1, fun p hp => ?_⟩
          rcases List.mem_cons.mp hp with rfl | hp
          · exact cut_le _ _ _
          · exact (pcG_len t r _ _ _).2 p hp
        · exact ⟨Nat.le_succ_of_le (pcG_len t r _ _ _).1, (pcG_len t r _ _ _).2⟩
theorem pcs_len (t : Str) : (pcs t).length ≤ t.length + 1 ∧ ∀ p ∈ pcs t, p.length ≤ t.length := by
  unfold pcs
  split
  · exact ⟨Nat.zero_le _, fun p hp => by cases hp⟩
  · have := pcG_len t (tl t) 0 0 0
    rw [← len_tl] at this
    exact this
def spPieces (K : PySem.W.Frag) : Sp := fun vs H Q _ => ∃ t : Str, vs = [.str t] ∧ t.length ≤ 100000 ∧ ∀ r H', Same H H' → H r = none → H' r = some (.lst ((pcs t).map V.str)) → Q (.ref r) H'
def sngD : List Str → PyData
  | [w, c] => if w = "work" then .tuple [.str w, optD (figO (tl c) 2)] else if w = "send" ∨ w = "take" then .tuple [.str w, .str c, .int 1] else .none
  | [w, c, k] => if w = "send" ∨ w = "take" then .tuple [.str w, .str c, optD (figO (tl k) 1)] else .none
  | _ => .none
def spAmong : Sp := fun vs H Q _ => ∃ (x a b : Str) (t : Addr), vs = [.str x, .ref t] ∧ H t = some (.tup [.str a, .str b]) ∧ Q (.bl (decide (x = a) || decide (x = b))) H
def spSingIn (K : PySem.W.Frag) : Sp := fun vs H Q _ => ∃ (p : Addr) (ws : List Str), vs = [.ref p] ∧ H p = some (.lst (ws.map V.str)) ∧ ws ≠ [] ∧ (∀ x ∈ ws, x.length ≤ 100000) ∧ ws.length ≤ 100001 ∧ ∀ v H', Same H H' → Dp K H' v (sngD ws) → Q v H'
theorem sign_eq {c k : Nat} {s : Str} (e : tl s = [k]) : (⟨#[c]⟩ : Str) = s ↔ c = k := ⟨fun z => by have z2 : [c] = [k] := (congrArg tl z).trans e; cases z2; rfl, fun z => tl_inj (by rw [e, z])⟩
section
variable {P : Program} {w : World} {K : PySem.W.Frag} {mg : Str → Option Value} {base : Heap}
theorem ok_pieces {f : Addr} {fd : FuncData} (F : FnP K "_pieces_of" sPieces f fd) (T : Txt K mg) : FnOk P w K mg base CX0 1 f fd ["text"] (spPieces K) := by
  refine F.ok scpc (fun vs H Q E h => ?_) (fun cdv A outer s H vs Q E hr h => ?_)
  · obtain ⟨t, rfl, _⟩ := h
    rfl
  · obtain ⟨t, rfl, hl, q⟩ := h
    have sz : sizeLine = 16777216 := sizeLine_eq
    refine ⟨_, PSs.nox (pss_cons (ps_if (pt_cmpR op_eq (pv 0) pe_str (nomark _)) (pss_one (ps_ret (pe_lst pa_nil))) pss_nil)
      (pss_cons (ps_set (i := 1) scpc.nd rfl (Or.inl rfl) (pe_lst pa_nil))
      (pss_cons (ps_set (i := 2) scpc.nd rfl (Or.inl rfl) pe_int)
      (pss_cons (ps_set (i := 3) scpc.nd rfl (Or.inl rfl) pe_int)
      (pss_cons (ps_for PassesOwn.never rfl (pi_enumS (by rfl) T.enum (pa_cons (pv 0) pa_nil)) (pg_tup rfl (pgs_cons (pg_name (i := 4) scpc.nd rfl (Or.inl rfl)) (pgs_cons (pg_name (i := 5) scpc.nd rfl (Or.inl rfl)) pgs_nil)))
        (pss_one (ps_if (pt_cmpR op_eq (pv 5) pe_str (nomark _)) (pss_one (ps_set (i := 2) scpc.nd rfl (Or.inl rfl) (pe_op op_add (pv 2) pe_int)))
          (pss_one (ps_if (pt_cmpR op_eq (pv 5) pe_str (nomark _)) (pss_one (ps_set (i := 2) scpc.nd rfl (Or.inl rfl) (pe_op op_sub (pv 2) pe_int)))
            (pss_one (ps_if (PW.pt (pw_and (pt_cmpR op_eq (pv 5) pe_str (nomark _)) (pw_and1 (pt_cmpR op_eq (pv 2) pe_int (nomark _)))))
              (pss_cons (ps_expr (pe_bm PySem.F.plainAttrs_list PySem.F.slot_list_append PySem.F.type_list_append mt_append (pv 1) (pa_cons (pe_slice sl_str (pv 0) (po_some (pv 3)) (po_some (pv 4))) pa_nil)))
                (pss_one (ps_set (i := 3) scpc.nd rfl (Or.inl rfl) (pe_op op_add (pv 4) (pe_callB call_len_str (by rfl) T.p.len boot_len (pa_cons pe_str pa_nil)))))) pss_nil)))))))
      (pss_one (ps_ret (pe_op op_cat (pv 1) (pe_lst (pa_cons (pe_slice sl_str (pv 0) (po_some (pv 3)) po_none) pa_nil)))))))))), ?_⟩
    have e0 : start NPc [V.str t] = [some (.str t), none, none, none, none, none] := rfl
    rw [e0]
    refine go_seq ?_
    refine ⟨_, rfl, rfl, _, rfl, str_if (fun h => ?_) fun h => ?_⟩
    · refine ⟨by show 0 ≤ sizeLine; omega, fun l nl => ?_⟩
      refine q l _ (same_upd nl) nl ?_
      rw [upd_same, show pcs t = [] from if_pos h]
      rfl
    walk_at "nx"
    refine ⟨by show 0 ≤ sizeLine; omega, fun l nl => ?_⟩
    have sl := same_upd (o := .lst []) nl
    have hL := upd_same (H := H) (a := l) (o := .lst [])
    generalize upd H l (.lst []) = H1 at sl hL ⊢
    have hlen : (tl t).length = t.cps.size := by rw [← len_tl]; rfl
    have hsz : t.cps.size = t.length := rfl
    refine ⟨_, rfl, t, rfl, ?_⟩
    refine for_itD walk_enumS (fun i σ H' => ∃ (ps : List Str) (d : Int) (st : Nat) (o4 o5 : Option V), σ = [some (.str t), some (.ref l), some (.int d), some (.int (st : Int)), o4, o5] ∧ Same H H' ∧ H' l = some (.lst (ps.map V.str)) ∧ ps.length ≤ i ∧ (-(i : Int) ≤ d ∧ d ≤ i) ∧ st ≤ i + 1 ∧ pcs t = ps ++ pcG t ((tl t).drop i) i d st)
      ⟨[], 0, 0, none, none, rfl, sl, hL, Nat.le_refl _, ⟨by decide, by decide⟩, Nat.zero_le _, by rw [List.nil_append, List.drop_zero]; exact if_neg h⟩ (fun _ _ _ _ _ => trivial) ?_ ?_
    · rintro D' i v σ H4 H5 hrt hnx - - hi ⟨ps, d, st, o4, o5, rfl, s4, h4, hpl, ⟨hd1, hd2⟩, hst, hp⟩ ⟨T', c, rfl, nT, rfl, hc⟩
      have hc' : (tl t)[i]? = some c := by rw [← hc]; exact Array.getElem?_toList ..
      have hdr : (tl t).drop i = c :: (tl t).drop (i + 1) := (List.drop_eq_getElem?_toList_append ..).trans (by rw [hc']; rfl)
      rw [hdr] at hp
      have sT := same_upd (o := .tup [.int (i : Int), .str ⟨#[c]⟩]) nT
      refine ⟨T', _, rfl, SqT.of upd_same, rfl, _, _, rfl, _, _, rfl, rfl, ?_⟩
      generalize upd H4 T' (.tup [.int (i : Int), .str ⟨#[c]⟩]) = H5 at sT ⊢
      have s5 := s4.trans sT
      have h5 := sT _ _ h4
      unfold pcG at hp
      walk_at "nx"
      refine ⟨_, rfl, rfl, _, rfl, str_if (fun h1 => ?_) fun h1 => ?_⟩
      · have h1 := (sign_eq (k := 40) (s := "(") rfl).mp h1
        rw [if_pos h1] at hp
        walk_at "nx"
        exact ⟨_, rfl, _, _, rfl, rfl, hnx _ _ ⟨ps, d + 1, st, _, _, rfl, s5, h5, by omega, ⟨by omega, by omega⟩, by omega, hp⟩⟩
      have h1 : ¬ c = 40 := fun z => h1 ((sign_eq (k := 40) (s := "(") rfl).mpr z)
      rw [if_neg h1] at hp
      refine ⟨_, rfl, rfl, _, rfl, str_if (fun h2 => ?_) fun h2 => ?_⟩
      · have h2 := (sign_eq (k := 41) (s := ")") rfl).mp h2
        rw [if_pos h2] at hp
        walk_at "nx"
        exact ⟨_, rfl, _, _, rfl, rfl, hnx _ _ ⟨ps, d - 1, st, _, _, rfl, s5, h5, by omega, ⟨by omega, by omega⟩, by omega, hp⟩⟩
      have h2 : ¬ c = 41 := fun z => h2 ((sign_eq (k := 41) (s := ")") rfl).mpr z)
      rw [if_neg h2] at hp
      have skip : ¬ (c = 59 ∧ d = 0) → D'.nx [some (.str t), some (.ref l), some (.int d), some (.int (st : Int)), some (.int (i : Int)), some (.str ⟨#[c]⟩)] H5 := fun z => by
        rw [if_neg z] at hp
        exact hnx _ _ ⟨ps, d, st, _, _, rfl, s5, h5, by omega, ⟨by omega, by omega⟩, by omega, hp⟩
      refine ⟨_, rfl, rfl, _, rfl, str_if (fun h3 => ?_) fun h3 => ?_⟩
      · have h3 := (sign_eq (k := 59) (s := ";") rfl).mp h3
        refine ⟨_, rfl, rfl, _, rfl, int_if (fun h4' => ?_) fun h4' => skip fun z => h4' z.2⟩
        rw [if_pos ⟨h3, h4'⟩] at hp
        refine ⟨_, rfl, .inl ⟨rfl, _, SqL.of h5⟩, _, rfl, _, rfl, _, rfl, _, rfl, _, rfl, t, rfl, by omega, ?_⟩
        refine ⟨l, _, _, rfl, rfl, h5, by rw [List.length_map]; omega, ?_⟩
        walk_at "nx"
        refine ⟨_, rfl, ("; " : Str), rfl, by decide +kernel, _, _, rfl, rfl, ?_⟩
        refine hnx _ _ ⟨ps ++ [cutS t (some (st : Int)) (some (i : Int))], d, i + 2, _, _, rfl, ?_, ?_, ?_, ⟨by omega, by omega⟩, by omega, ?_⟩
        · exact fun b o hb => (upd_ne (ne_of_none hb nl)).trans (s5 b o hb)
        · rw [upd_same, List.map_append]; rfl
        · rw [List.length_append]; show ps.length + 1 ≤ _; omega
        · rw [hp, List.append_assoc]; rfl
      · exact skip fun z => h3 ((sign_eq (k := 59) (s := ";") rfl).mpr z.1)
    · rintro σ H4 ⟨ps, d, st, o4, o5, rfl, s4, h4, hpl, _, _, hp⟩
      have e0 : (tl t).drop t.cps.size = [] := List.drop_of_length_le (by omega)
      rw [e0] at hp
      have hp : pcs t = ps ++ [cutS t (some (st : Int)) none] := hp
      walk_at "nx"
      refine ⟨_, rfl, _, rfl, _, rfl, _, rfl, t, rfl, by omega, by show 1 ≤ sizeLine; omega, fun l2 nl2 => ?_⟩
      have s2 := same_upd (o := .lst [.str (cutS t (some (st : Int)) none)]) nl2
      have h2 := upd_same (H := H4) (a := l2) (o := .lst [.str (cutS t (some (st : Int)) none)])
      have h4' := s2 _ _ h4
      generalize upd H4 l2 (.lst [.str (cutS t (some (st : Int)) none)]) = H5 at s2 h2 h4' ⊢
      refine ⟨_, _, _, _, rfl, rfl, h4', h2, ?_, fun r nr => ?_⟩
      · rw [List.length_map]
        show ps.length + 1 ≤ sizeLine
        omega
      · have nr0 : H r = none := by
          cases hz : H r with
          | none => rfl
          | some o => rw [s2 _ _ (s4 _ _ hz)] at nr; cases nr
        refine q r _ (s4.trans (s2.trans (same_upd nr))) nr0 ?_
        rw [upd_same, hp, List.map_append]
        rfl
end
end L2.L86

set_option maxHeartbeats 1000000
namespace L2.L86
open PySem PySem.Spec PyProof.Rows NumText LR L2.Lr L2.Tx TL SkE
local macro_rules | `(tactic| walk_at "nx") => `(tactic| dsimp only [gName, tNext, tSeq, tAsg, List.set_cons_zero, List.set_cons_succ])
theorem inV_strs (x : Str) : ∀ ws : List Str, inV (V.str x) (ws.map V.str) = decide (x ∈ ws)
  | [] => rfl
  | w :: ws => by
    show ((w == x) || inV (V.str x) (ws.map V.str)) = _
    rw [inV_strs x ws]
    by_cases h : x = w
    · subst h
      rw [decide_eq_true (List.mem_cons_self ..), beq_self_eq_true]
      rfl
    · rw [beq_eq_false_iff_ne.mpr fun z => h z.symm, Bool.false_or]
      by_cases h2 : x ∈ ws
      · rw [decide_eq_true h2, decide_eq_true (List.mem_cons_of_mem _ h2)]
      · rw [decide_eq_false h2, decide_eq_false fun z => (List.mem_cons.mp z).elim h h2]
def spAm (K : PySem.W.Frag) : Sp := fun vs H Q _ => ∃ (x : Str) (p : Addr) (ws : List Str), vs = [.str x, .ref p] ∧ SqT K H p (ws.map V.str) ∧ Q (.bl (decide (x ∈ ws))) H
section
variable {P : Program} {w : World} {K : PySem.W.Frag} {mg : Str → Option Value} {base : Heap}
theorem ok_among {f : Addr} {fd : FuncData} (F : FnP K "is_among" sAmong f fd) (T : Txt K mg) : FnOk P w K mg base CX0 1 f fd ["thing", "words"] (spAm K) := by
  refine F.ok scam (fun vs H Q E h => ?_) (fun cdv A outer s H vs Q E hr h => ?_)
  · obtain ⟨x, p, ws, rfl, _⟩ := h
    rfl
  · obtain ⟨x, p, ws, rfl, hS, q⟩ := h
    refine ⟨_, pss_one (ps_ret (pe_and (pe_isD T.p.isn (pv 0) (pe_bltn (by rfl) T.p.str bbS (by rfl)) (by rfl)) (pe_one (pe_cmpR op_in_seq (pv 0) (pv 1) (by rfl))))), ?_⟩
    have e0 : start ["thing", "words"] [V.str x, .ref p] = [some (.str x), some (.ref p)] := rfl
    rw [e0]
    refine ⟨_, rfl, _, _, .str x, (by decide +kernel : kitB "str" "str" = some true), _, rfl, iteT ?_⟩
    refine ⟨_, rfl, _, rfl, p, _, rfl, .inr hS, rfl, flat_strs ws, ?_⟩
    show Q (.bl (inV (.str x) (ws.map V.str))) H
    rw [inV_strs]
    exact q
theorem ok_singin {f fF fA : Addr} {fd dF dA : FuncData} (F : FnP K "_single_in" sSingIn f fd) (T : Txt K mg) (Fg : Def P w K mg base CX0 1 "figures_of" fF dF ["text", "most"] spFig) (Am : Def P w K mg base CX0 1 "is_among" fA dA ["thing", "words"] (spAm K)) : FnOk P w K mg base CX0 2 f fd ["words"] (spSingIn K) := by
  refine F.ok scsi (fun vs H Q E h => ?_) (fun cdv A outer s H vs Q E hr h => ?_)
  · obtain ⟨p, ws, rfl, _⟩ := h
    rfl
  · obtain ⟨p, ws, rfl, hp, hne, hw, hlw, q⟩ := h
    have sz : sizeLine = 16777216 := sizeLine_eq
    refine ⟨_, pss_cons (ps_if (PW.pt (pw_and (pt_cmpR op_eq (pe_ix ix_list (pv 0) pe_int (fun _ _ => rfl)) pe_str (nomark _)) (pw_and1 (pt_cmpR op_eq (pe_callB call_len_seq (by rfl) T.p.len boot_len (pa_cons (pv 0) pa_nil)) pe_int (nomark _))))) (pss_one (ps_ret (pe_tup (pa_cons pe_str (pa_cons (pe_call Fg.ok hr (by rfl) Fg.g Fg.k Fg.b .nil pass0 (pa_cons (pe_ix ix_list (pv 0) pe_int (fun _ _ => rfl)) (pa_cons pe_int pa_nil))) pa_nil))))) pss_nil)
      (pss_cons (ps_if (PW.pt (pw_or (pt_not (pt_val (pe_call Am.ok hr (by rfl) Am.g Am.k Am.b .nil pass0 (pa_cons (pe_ix ix_list (pv 0) pe_int (fun _ _ => rfl)) (pa_cons (pe_tup (pa_cons pe_str (pa_cons pe_str pa_nil))) pa_nil))))) (pw_or1 (pt_not (pt_chain op_le op_le pe_int (pe_callB call_len_seq (by rfl) T.p.len boot_len (pa_cons (pv 0) pa_nil)) pe_int))))) (pss_one (ps_ret pe_non)) pss_nil)
      (pss_one (ps_ret (pe_tup (pa_cons (pe_ix ix_list (pv 0) pe_int (fun _ _ => rfl)) (pa_cons (pe_ix ix_list (pv 0) pe_int (fun _ _ => rfl)) (pa_cons (pe_ifExp (pt_cmpR op_eq (pe_callB call_len_seq (by rfl) T.p.len boot_len (pa_cons (pv 0) pa_nil)) pe_int (nomark _)) (pe_call Fg.ok hr (by rfl) Fg.g Fg.k Fg.b .nil pass0 (pa_cons (pe_ix ix_list (pv 0) pe_int (fun _ _ => rfl)) (pa_cons pe_int pa_nil))) pe_int) pa_nil))))))), ?_⟩
    have e0 : start ["words"] [V.ref p] = [some (.ref p)] := rfl
    rw [e0]
    have hS : SqL K H p (ws.map V.str) := SqL.of hp
    have hlm : ((ws.map V.str).length : Int) = ws.length := by rw [List.length_map]
    match ws, hne, hw, hS, q with
    | [], hne, _, _, _ => exact absurd rfl hne
    | [w0], _, hw, hS, q =>
      have nq : ∀ H', Same H H' → Q .non H' := fun H' s' => q .non H' s' .non
      refine go_seq ?_
      have part2 : ∀ {A B : Prop}, (∀ H', Same H H' → A) → (if (!decide (w0 ∈ [("send" : Str), "take"])) = true then A else (if True then A else B)) → A := fun {A B} a z => by
        exact a H (Same.refl H)
      have thru : ∀ tp : Addr, H tp = none → Same H (upd H tp (.tup [.str "send", .str "take"])) := fun tp n => same_upd n
      refine ⟨_, rfl, p, _, 0, _, rfl, rfl, hS, at0, rfl, _, rfl, str_if (fun h => ?_) fun h => ?_⟩
      · refine ⟨_, rfl, p, _, rfl, .inl hS, rfl, _, rfl, len_if (fun z => absurd z (by simp)) fun _ => ?_⟩
        walk_at "nx"
        refine ⟨_, rfl, p, _, 0, _, rfl, rfl, hS, at0, by show 2 ≤ sizeLine; decide, fun tp ntp => ⟨w0, tp, ["send", "take"], rfl, SqT.of upd_same, _, rfl, ?_⟩⟩
        rw [decide_eq_false (show ¬ w0 ∈ [("send" : Str), "take"] from fun z => by rw [h] at z; exact absurd z (by decide +kernel))]
        exact iteT (iteT (nq _ (thru tp ntp)))
      · walk_at "nx"
        refine ⟨_, rfl, p, _, 0, _, rfl, rfl, hS, at0, by show 2 ≤ sizeLine; decide, fun tp ntp => ⟨w0, tp, ["send", "take"], rfl, SqT.of upd_same, _, rfl, ?_⟩⟩
        have hS2 := Same.seq (thru tp ntp) hS
        cases hm : decide (w0 ∈ [("send" : Str), "take"]) with
        | false => exact iteT (iteT (nq _ (thru tp ntp)))
        | true => exact iteF ⟨_, rfl, p, _, rfl, .inl hS2, _, _, rfl, rfl, _, rfl, ite_dec (fun g => absurd g (by simp)) fun _ => ⟨_, rfl, iteT (nq _ (thru tp ntp))⟩⟩
    | [w0, c], _, hw, hS, q =>
      have lc := hw c (by simp)
      have thru : ∀ tp : Addr, H tp = none → Same H (upd H tp (.tup [.str "send", .str "take"])) := fun tp n => same_upd n
      refine go_seq ?_
      refine ⟨_, rfl, p, _, 0, _, rfl, rfl, hS, at0, rfl, _, rfl, str_if (fun h => ?_) fun h => ?_⟩
      · refine ⟨_, rfl, p, _, rfl, .inl hS, rfl, _, rfl, len_if (fun _ => ?_) (fun z => absurd rfl z)⟩
        refine ⟨_, rfl, p, _, 1, _, rfl, rfl, hS, at1, c, 2, rfl, by omega, by decide, fun H2 s2 => ⟨by show 2 ≤ sizeLine; decide, fun tp ntp => ?_⟩⟩
        have e : sngD [w0, c] = .tuple [.str w0, optD (figO (tl c) 2)] := if_pos h
        rw [e, h] at q
        exact q _ _ (s2.trans (same_upd ntp)) (.tup (SqT.of upd_same) (.cons (.str _) (.cons (optVD _) .nil)))
      · walk_at "nx"
        refine ⟨_, rfl, p, _, 0, _, rfl, rfl, hS, at0, by show 2 ≤ sizeLine; decide, fun tp ntp => ⟨w0, tp, ["send", "take"], rfl, SqT.of upd_same, _, rfl, ?_⟩⟩
        have s1 := thru tp ntp
        have hS2 := Same.seq s1 hS
        generalize upd H tp (.tup [.str "send", .str "take"]) = H1 at s1 hS2 ⊢
        have e : sngD [w0, c] = if w0 = "send" ∨ w0 = "take" then .tuple [.str w0, .str c, .int 1] else .none := if_neg h
        by_cases hm : w0 ∈ [("send" : Str), "take"]
        · rw [decide_eq_true hm]
          have hm2 : w0 = "send" ∨ w0 = "take" := by simpa using hm
          rw [e, if_pos hm2] at q
          refine iteF ⟨_, rfl, p, _, rfl, .inl hS2, _, _, rfl, rfl, _, rfl, ite_dec (fun _ => ⟨_, _, rfl, rfl, _, rfl, ?_⟩) fun g => absurd (by simp) g⟩
          rw [decide_eq_true (show ((List.map V.str [w0, c]).length : Int) ≤ 3 by simp)]
          refine iteF ?_
          walk_at "nx"
          refine ⟨_, rfl, p, _, 0, _, rfl, rfl, hS2, at0, _, rfl, p, _, 1, _, rfl, rfl, hS2, at1, _, rfl, p, _, rfl, .inl hS2, rfl, _, rfl, len_if (fun z => absurd z (by simp)) fun _ => ⟨by show 3 ≤ sizeLine; decide, fun t3 n3 => ?_⟩⟩
          exact q _ _ (s1.trans (same_upd n3)) (.tup (SqT.of upd_same) (.cons (.str _) (.cons (.str _) (.cons (.int _) .nil))))
        · rw [decide_eq_false hm]
          have hm2 : ¬ (w0 = "send" ∨ w0 = "take") := by simpa using hm
          rw [e, if_neg hm2] at q
          exact iteT (iteT (q .non _ s1 .non))
    | [w0, c, k], _, hw, hS, q =>
      have lk := hw k (by simp)
      have thru : ∀ tp : Addr, H tp = none → Same H (upd H tp (.tup [.str "send", .str "take"])) := fun tp n => same_upd n
      have e : sngD [w0, c, k] = if w0 = "send" ∨ w0 = "take" then .tuple [.str w0, .str c, optD (figO (tl k) 1)] else .none := rfl
      have part2 : _ := fun (tp : Addr) (ntp : H tp = none) => thru tp ntp
      refine go_seq ?_
      refine ⟨_, rfl, p, _, 0, _, rfl, rfl, hS, at0, rfl, _, rfl, str_if (fun h => ?_) fun h => ?_⟩
      · refine ⟨_, rfl, p, _, rfl, .inl hS, rfl, _, rfl, len_if (fun z => absurd z (by simp)) fun _ => ?_⟩
        walk_at "nx"
        refine ⟨_, rfl, p, _, 0, _, rfl, rfl, hS, at0, by show 2 ≤ sizeLine; decide, fun tp ntp => ⟨w0, tp, ["send", "take"], rfl, SqT.of upd_same, _, rfl, ?_⟩⟩
        have hm : ¬ w0 ∈ [("send" : Str), "take"] := fun z => by rw [h] at z; exact absurd z (by decide +kernel)
        have hm2 : ¬ (w0 = "send" ∨ w0 = "take") := by simpa using hm
        rw [decide_eq_false hm]
        rw [e, if_neg hm2] at q
        exact iteT (iteT (q .non _ (thru tp ntp) .non))
      · walk_at "nx"
        refine ⟨_, rfl, p, _, 0, _, rfl, rfl, hS, at0, by show 2 ≤ sizeLine; decide, fun tp ntp => ⟨w0, tp, ["send", "take"], rfl, SqT.of upd_same, _, rfl, ?_⟩⟩
        have s1 := thru tp ntp
        have hS2 := Same.seq s1 hS
        generalize upd H tp (.tup [.str "send", .str "take"]) = H1 at s1 hS2 ⊢
        by_cases hm : w0 ∈ [("send" : Str), "take"]
        · rw [decide_eq_true hm]
          have hm2 : w0 = "send" ∨ w0 = "take" := by simpa using hm
          rw [e, if_pos hm2] at q
          refine iteF ⟨_, rfl, p, _, rfl, .inl hS2, _, _, rfl, rfl, _, rfl, ite_dec (fun _ => ⟨_, _, rfl, rfl, _, rfl, ?_⟩) fun g => absurd (by simp) g⟩
          rw [decide_eq_true (show ((List.map V.str [w0, c, k]).length : Int) ≤ 3 by simp)]
          refine iteF ?_
          walk_at "nx"
          refine ⟨_, rfl, p, _, 0, _, rfl, rfl, hS2, at0, _, rfl, p, _, 1, _, rfl, rfl, hS2, at1, _, rfl, p, _, rfl, .inl hS2, rfl, _, rfl, len_if (fun _ => ?_) fun z => absurd rfl z⟩
          refine ⟨_, rfl, p, _, 2, _, rfl, rfl, hS2, at2, k, 1, rfl, by omega, by decide, fun H2 s2 => ⟨by show 3 ≤ sizeLine; decide, fun t3 n3 => ?_⟩⟩
          exact q _ _ (s1.trans (s2.trans (same_upd n3))) (.tup (SqT.of upd_same) (.cons (.str _) (.cons (.str _) (.cons (optVD _) .nil))))
        · rw [decide_eq_false hm]
          have hm2 : ¬ (w0 = "send" ∨ w0 = "take") := by simpa using hm
          rw [e, if_neg hm2] at q
          exact iteT (iteT (q .non _ s1 .non))
    | w0 :: c :: k :: j :: r, _, hw, hS, q =>
      have thru : ∀ tp : Addr, H tp = none → Same H (upd H tp (.tup [.str "send", .str "take"])) := fun tp n => same_upd n
      have q' : ∀ H', Same H H' → Q .non H' := fun H' s' => q .non H' s' .non
      refine go_seq ?_
      have n2 : ((List.map V.str (w0 :: c :: k :: j :: r)).length : Int) ≠ 2 := by simp only [List.length_map, List.length_cons]; omega
      refine ⟨_, rfl, p, _, 0, _, rfl, rfl, hS, at0, rfl, _, rfl, str_if (fun h => ?_) fun h => ?_⟩
      · refine ⟨_, rfl, p, _, rfl, .inl hS, rfl, _, rfl, len_if (fun z => absurd z n2) fun _ => ?_⟩
        walk_at "nx"
        refine ⟨_, rfl, p, _, 0, _, rfl, rfl, hS, at0, by show 2 ≤ sizeLine; decide, fun tp ntp => ⟨w0, tp, ["send", "take"], rfl, SqT.of upd_same, _, rfl, ?_⟩⟩
        rw [decide_eq_false (show ¬ w0 ∈ [("send" : Str), "take"] from fun z => by rw [h] at z; exact absurd z (by decide +kernel))]
        exact iteT (iteT (q' _ (thru tp ntp)))
      · walk_at "nx"
        refine ⟨_, rfl, p, _, 0, _, rfl, rfl, hS, at0, by show 2 ≤ sizeLine; decide, fun tp ntp => ⟨w0, tp, ["send", "take"], rfl, SqT.of upd_same, _, rfl, ?_⟩⟩
        have hS2 := Same.seq (thru tp ntp) hS
        cases hm : decide (w0 ∈ [("send" : Str), "take"]) with
        | false => exact iteT (iteT (q' _ (thru tp ntp)))
        | true =>
          refine iteF ⟨_, rfl, p, _, rfl, .inl hS2, _, _, rfl, rfl, _, rfl, ite_dec (fun _ => ⟨_, _, rfl, rfl, _, rfl, ?_⟩) fun g => absurd (by simp only [List.length_map, List.length_cons]; omega) g⟩
          rw [decide_eq_false (show ¬ ((List.map V.str (w0 :: c :: k :: j :: r)).length : Int) ≤ 3 by simp only [List.length_map, List.length_cons]; omega)]
          exact iteT (q' _ (thru tp ntp))
end
end L2.L86

set_option maxHeartbeats 1000000
namespace L2.L86
open PySem PySem.Spec PyProof.Rows NumText LR L2.Lr L2.Tx TL SkE
local macro_rules | `(tactic| walk_at "nx") => `(tactic| dsimp only [gName, tNext, tSeq, tAsg, List.set_cons_zero, List.set_cons_succ])
/-! a comprehension that makes data without lists -/
def DatI (K : PySem.W.Frag) (H : Hp) (D : Addr) (ds : List PyData) (i : Nat) (H' : Hp) : Prop := Same H H' ∧ ∃ vs, H' D = some (.lst vs) ∧ DpAll K H' vs (ds.take i)
theorem DatI.zero {K : PySem.W.Frag} {H : Hp} {D : Addr} {ds : List PyData} (hD : H D = none) : DatI K H D ds 0 (upd H D (.lst [])) := ⟨same_upd hD, [], upd_same, by rw [List.take_zero]; exact .nil⟩
theorem noLAll_take : ∀ {ds : List PyData} (i : Nat), noLAll ds = true → noLAll (ds.take i) = true
  | ds, 0, _ => by rw [List.take_zero]; rfl
  | [], i + 1, _ => rfl
  | d :: ds, i + 1, h => by
    obtain ⟨h1, h2⟩ := Bool.and_eq_true_iff.mp (show (noL d && noLAll ds) = true from h)
    show (noL d && noLAll (ds.take i)) = true
    rw [h1, noLAll_take i h2]
    rfl
theorem noLAll_at : ∀ {ds : List PyData} {i : Nat} {d : PyData}, noLAll ds = true → ds[i]? = some d → noL d = true
  | [], _, _, _, e => by simp at e
  | d :: ds, 0, _, h, e => by simp at e; subst e; exact (Bool.and_eq_true_iff.mp (show (noL d && noLAll ds) = true from h)).1
  | d :: ds, i + 1, _, h, e => noLAll_at (ds := ds) (i := i) (Bool.and_eq_true_iff.mp (show (noL d && noLAll ds) = true from h)).2 (by simpa using e)
theorem noLAll_map {α : Type} {f : α → PyData} : ∀ {l : List α}, (∀ x ∈ l, noL (f x) = true) → noLAll (l.map f) = true
  | [], _ => rfl
  | x :: l, h => by
    show (noL (f x) && noLAll (l.map f)) = true
    rw [h x (List.mem_cons_self ..), noLAll_map fun y hy => h y (List.mem_cons_of_mem _ hy)]
    rfl
theorem DatI.step {K : PySem.W.Frag} {H H2 H5 : Hp} {D : Addr} {ds : List PyData} {i : Nat} {d : PyData} {v : V} (hD : H D = none) (p : DatI K H D ds i H2) (hd : ds[i]? = some d) (nl : noLAll ds = true) (hl : ds.length ≤ 1000000) (s : Same H2 H5) (hv : Dp K H5 v d) :
    ∃ acc, H5 D = some (.lst acc) ∧ acc.length < sizeLine ∧ DatI K H D ds (i + 1) (upd H5 D (.lst (acc ++ [v]))) := by
  obtain ⟨s1, vs, h2, ha⟩ := p
  have h5 := s _ _ h2
  have hkt := Kt.upd (o := .lst (vs ++ [v])) h5
  have hlen := DpAll.length ha
  rw [List.length_take] at hlen
  refine ⟨vs, h5, by rw [sizeLine_eq]; omega, fun b o hb => (upd_ne (ne_of_none hb hD)).trans (s _ _ (s1 b o hb)), vs ++ [v], upd_same, ?_⟩
  rw [List.take_add_one, hd]
  exact DpAll.append (DpAll.kt hkt (DpAll.same s ha) (noLAll_take i nl)) (.cons (Dp.kt hkt hv (noLAll_at nl hd)) .nil)
theorem DatI.all {K : PySem.W.Frag} {H H' : Hp} {D : Addr} {ds : List PyData} {n : Nat} (p : DatI K H D ds n H') (h : ds.length ≤ n) : Same H H' ∧ ∃ vs, H' D = some (.lst vs) ∧ DpAll K H' vs ds := by
  obtain ⟨s, vs, h1, h2⟩ := p
  rw [List.take_of_length_le h] at h2
  exact ⟨s, vs, h1, h2⟩
abbrev NPi : List Str := ["text", "depth", "head", "bracket", "tail", "parts", "word", "_", "count"]
theorem scpi : FnScope NPi ["text", "depth"] (defScope sPartIn) := ⟨rfl, rfl, rfl, by decide +kernel, rfl, by decide +kernel, by decide +kernel⟩
theorem scps : FnScope ["text", "depth", "piece"] ["text", "depth"] (defScope sPartsIn) := ⟨rfl, rfl, rfl, by decide +kernel, rfl, by decide +kernel, by decide +kernel⟩
/-- a part as it is read, where rec reads the parts in it -/
def prt (rec : Str → PyData) (t : Str) : PyData :=
  if (PySem.Txt.partition t opS).2.1 = Str.empty then sngD (PySem.Txt.split t spS) else
  if (PySem.Txt.partition t opS).1 = "forever" then .tuple [.str "forever", rec (cutS (PySem.Txt.partition t opS).2.2 none (some (-1)))] else
  if (PySem.Txt.partition (PySem.Txt.partition t opS).1 spS).1 = "loop" then .tuple [.str "loop", cntD (PySem.Txt.partition (PySem.Txt.partition t opS).1 spS).2.2, rec (cutS (PySem.Txt.partition t opS).2.2 none (some (-1)))] else .none
def prs : Nat → Str → PyData
  | 0, _ => .none
  | n + 1, t => .tuple ((pcs t).map (prt (prs n)))
theorem noL_cnt (t : Str) : noL (cntD t) = true := by
  rcases cntD_cases t with h | ⟨a, b, h, _⟩ <;> rw [h] <;> rfl
theorem noL_opt (o : Option Nat) : noL (optD o) = true := by cases o <;> rfl
theorem noL_sng (ws : List Str) : noL (sngD ws) = true := by
  unfold sngD
  split
  · split
    · show (true && (noL (optD _) && true)) = true
      rw [noL_opt]; rfl
    · split <;> rfl
  · split
    · show (true && (true && (noL (optD _) && true))) = true
      rw [noL_opt]; rfl
    · rfl
  · rfl
theorem noL_prt {rec : Str → PyData} (h : ∀ t, noL (rec t) = true) (t : Str) : noL (prt rec t) = true := by
  unfold prt
  split
  · exact noL_sng _
  · split
    · show (true && (noL (rec _) && true)) = true
      rw [h]; rfl
    · split
      · show (true && (noL (cntD _) && (noL (rec _) && true))) = true
        rw [noL_cnt, h]; rfl
      · rfl
theorem noL_prs : ∀ (n : Nat) (t : Str), noL (prs n t) = true
  | 0, _ => rfl
  | n + 1, t => by
    have e : noL (prs (n + 1) t) = noLAll ((pcs t).map (prt (prs n))) := by
      show noL (.tuple ((pcs t).map (prt (prs n)))) = _
      simp only [noL]
    rw [e]
    exact noLAll_map fun x _ => noL_prt (noL_prs n) x
theorem part_le (t y : Str) : (PySem.Txt.partition t y).1.length ≤ t.length ∧ (PySem.Txt.partition t y).2.2.length ≤ t.length := by
  have h := congrArg Str.length (StrLaws.partition_sum t y)
  rw [len_app, len_app] at h
  omega
def spPartIn (K : PySem.W.Frag) (n : Nat) : Sp := fun vs H Q _ => ∃ t : Str, vs = [.str t, .int (4 - (n : Int))] ∧ t.length ≤ 100000 ∧ ∀ v H', Same H H' → Dp K H' v (prt (prs n) t) → Q v H'
def spPartsIn (K : PySem.W.Frag) (n : Nat) : Sp := fun vs H Q _ => ∃ t : Str, vs = [.str t, .int (5 - (n : Int))] ∧ t.length ≤ 100000 ∧ ∀ v H', Same H H' → Dp K H' v (prs n t) → Q v H'
section
variable {P : Program} {w : World} {K : PySem.W.Frag} {mg : Str → Option Value} {base : Heap}
theorem ok_partin {n : Nat} {f fP fS fR : Addr} {fd dP dS dR : FuncData} (F : FnP K "_part_in" sPartIn f fd) {k : Nat} (h4 : 4 ≤ k) (Ps : Def P w K mg base CX0 k "_parts_in" fP dP ["text", "depth"] (spPartsIn K n)) (Sg : Def P w K mg base CX0 2 "_single_in" fS dS ["words"] (spSingIn K))
    (Rd : Def P w K mg base CX0 4 "read_count" fR dR ["text"] (spRead K)) : FnOk P w K mg base CX0 (k + 1) f fd ["text", "depth"] (spPartIn K n) := by
  refine F.ok scpi (fun vs H Q E h => ?_) (fun cdv A outer s H vs Q E hr h => ?_)
  · obtain ⟨t, rfl, _⟩ := h
    rfl
  · obtain ⟨t, rfl, hl, q⟩ := h
    have sz : sizeLine = 16777216 := sizeLine_eq
    have hr4 : Room 4 _ := hr.mono h4
    refine ⟨_, pss_cons (ps_asg (pe_partition (pv 0) pe_str) (pg_tup rfl (pgs_cons (pg_name (i := 2) scpi.nd rfl (Or.inl rfl)) (pgs_cons (pg_name (i := 3) scpi.nd rfl (Or.inl rfl)) (pgs_cons (pg_name (i := 4) scpi.nd rfl (Or.inl rfl)) pgs_nil)))))
      (pss_cons (ps_if (pt_cmpR op_eq (pv 3) pe_str (nomark _)) (pss_one (ps_ret (pe_call Sg.ok (hr4.mono (by decide)) (by rfl) Sg.g Sg.k Sg.b .nil pass0 (pa_cons (pe_split (pv 0) pe_str) pa_nil)))) pss_nil)
      (pss_cons (ps_set (i := 5) scpi.nd rfl (Or.inl rfl) (pe_call Ps.ok hr (by rfl) Ps.g Ps.k Ps.b .nil pass0 (pa_cons (pe_slice sl_str (pv 4) po_none (po_some (pe_un un_neg pe_int))) (pa_cons (pe_op op_add (pv 1) pe_int) pa_nil))))
      (pss_cons (ps_if (pt_cmpR op_eq (pv 2) pe_str (nomark _)) (pss_one (ps_ret (pe_tup (pa_cons pe_str (pa_cons (pv 5) pa_nil))))) pss_nil)
      (pss_cons (ps_asg (pe_partition (pv 2) pe_str) (pg_tup rfl (pgs_cons (pg_name (i := 6) scpi.nd rfl (Or.inl rfl)) (pgs_cons (pg_name (i := 7) scpi.nd rfl (Or.inl rfl)) (pgs_cons (pg_name (i := 8) scpi.nd rfl (Or.inl rfl)) pgs_nil)))))
      (pss_one (ps_ret (pe_ifExp (pt_cmpR op_eq (pv 6) pe_str (nomark _)) (pe_tup (pa_cons pe_str (pa_cons (pe_call Rd.ok hr4 (by rfl) Rd.g Rd.k Rd.b .nil pass0 (pa_cons (pv 8) pa_nil)) (pa_cons (pv 5) pa_nil)))) pe_non))))))), ?_⟩
    have e0 : start NPi [V.str t, .int (4 - (n : Int))] = [some (.str t), some (.int (4 - (n : Int))), none, none, none, none, none, none, none] := rfl
    rw [e0]
    unfold prt at q
    obtain ⟨w1, w2⟩ := split_parts (x := t) (y := spS) (s := 32) (S := []) rfl (by decide +kernel)
    have wn := split_ne (x := t) (y := spS) (by decide) (by decide +kernel)
    have la : (PySem.Txt.partition t opS).1.length ≤ t.length ∧ (PySem.Txt.partition t opS).2.2.length ≤ t.length := part_le t opS
    refine go_seq (go_asg ?_)
    refine ⟨_, rfl, ⟨_, rfl⟩, t, opS, rfl, rfl, rfl, by omega, fun p np => ?_⟩
    have sp := same_upd (o := .tup [.str (PySem.Txt.partition t opS).1, .str (PySem.Txt.partition t opS).2.1, .str (PySem.Txt.partition t opS).2.2]) np
    refine ⟨p, _, rfl, SqT.of upd_same, rfl, _, _, rfl, _, _, rfl, _, _, rfl, rfl, ?_⟩
    generalize upd H p (.tup [.str (PySem.Txt.partition t opS).1, .str (PySem.Txt.partition t opS).2.1, .str (PySem.Txt.partition t opS).2.2]) = H1 at sp ⊢
    generalize (PySem.Txt.partition t opS).1 = A at *
    generalize (PySem.Txt.partition t opS).2.1 = B at *
    generalize (PySem.Txt.partition t opS).2.2 = C at *
    walk_at "nx"
    refine ⟨_, rfl, rfl, _, rfl, str_if (fun h => ?_) fun h => ?_⟩
    · have h : B = Str.empty := h
      rw [if_pos h] at q
      refine ⟨_, rfl, ⟨_, rfl⟩, t, spS, rfl, rfl, rfl, by omega, fun p2 np2 => ?_⟩
      have s2 := same_upd (o := .lst ((PySem.Txt.split t spS).map V.str)) np2
      exact ⟨p2, _, rfl, upd_same, wn, fun x hx => Nat.le_trans (w1 x hx) hl, by omega, fun v H' s' hv => q v H' (sp.trans (s2.trans s')) hv⟩
    have h : ¬ B = Str.empty := h
    rw [if_neg h] at q
    walk_at "nx"
    refine ⟨_, rfl, 1, rfl, _, rfl, C, rfl, by omega, _, rfl, _, _, rfl, rfl, ?_⟩
    refine ⟨cutS C none (some (-1)), by
      show [V.str (cutS C none (some (-1))), V.int (4 - (n : Int) + 1)] = _
      rw [show (4 : Int) - n + 1 = 5 - n by omega], by have := cut_le C none (some (-1)); omega, fun v H2 s2 hv => ?_⟩
    have s02 := sp.trans s2
    walk_at "nx"
    refine ⟨_, rfl, rfl, _, rfl, str_if (fun h1 => ?_) fun h1 => ?_⟩
    · have h1 : A = "forever" := h1
      rw [if_pos h1] at q
      refine ⟨_, rfl, by show 2 ≤ sizeLine; omega, fun p2 np2 => ?_⟩
      exact q _ _ (s02.trans (same_upd np2)) (.tup (SqT.of upd_same) (.cons (.str _) (.cons (Dp.same (same_upd np2) hv) .nil)))
    have h1 : ¬ A = "forever" := h1
    rw [if_neg h1] at q
    have lb := part_le A spS
    walk_at "nx"
    refine ⟨_, rfl, ⟨_, rfl⟩, A, spS, rfl, rfl, rfl, by omega, fun p3 np3 => ?_⟩
    have s3 := same_upd (o := .tup [.str (PySem.Txt.partition A spS).1, .str (PySem.Txt.partition A spS).2.1, .str (PySem.Txt.partition A spS).2.2]) np3
    refine ⟨p3, _, rfl, SqT.of upd_same, rfl, _, _, rfl, _, _, rfl, _, _, rfl, rfl, ?_⟩
    generalize upd H2 p3 (.tup [.str (PySem.Txt.partition A spS).1, .str (PySem.Txt.partition A spS).2.1, .str (PySem.Txt.partition A spS).2.2]) = H3 at s3 ⊢
    generalize (PySem.Txt.partition A spS).1 = A2 at *
    generalize (PySem.Txt.partition A spS).2.1 = B2 at *
    generalize (PySem.Txt.partition A spS).2.2 = C2 at *
    have s03 := s02.trans s3
    walk_at "nx"
    refine ⟨_, rfl, rfl, _, rfl, str_if (fun h2 => ?_) fun h2 => ?_⟩
    · have h2 : A2 = "loop" := h2
      rw [if_pos h2] at q
      refine ⟨_, rfl, _, .str C2, rfl, .str C2, (fun t e => by cases e; omega), fun u H4 s4 hu => ⟨_, rfl, by show 3 ≤ sizeLine; omega, fun p4 np4 => ?_⟩⟩
      exact q _ _ (s03.trans (s4.trans (same_upd np4))) (.tup (SqT.of upd_same) (.cons (.str _) (.cons (Dp.same (same_upd np4) hu) (.cons (Dp.same (s3.trans (s4.trans (same_upd np4))) hv) .nil))))
    · have h2 : ¬ A2 = "loop" := h2
      rw [if_neg h2] at q
      exact q _ _ s03 .non
theorem ok_partsin0 {f : Addr} {fd : FuncData} (F : FnP K "_parts_in" sPartsIn f fd) (T : Txt K mg) {k : Nat} : FnOk P w K mg base CX0 (k + 1) f fd ["text", "depth"] (spPartsIn K 0) := by
  refine F.ok scps (fun vs H Q E h => ?_) (fun cdv A outer s H vs Q E hr h => ?_)
  · obtain ⟨t, rfl, _⟩ := h
    rfl
  · obtain ⟨t, rfl, hl, q⟩ := h
    obtain ⟨td, hdeep⟩ := T.p.deep
    refine ⟨_, pss_cons (ps_if (pt_cmpR op_gt (pv 1) (pe_gI hdeep (by rfl)) (nomark _)) (pss_one (ps_ret pe_non)) pss_nil) pss_never, ?_⟩
    have e0 : start ["text", "depth", "piece"] [V.str t, .int (5 - ((0 : Nat) : Int))] = [some (.str t), some (.int (5 - ((0 : Nat) : Int))), none] := rfl
    rw [e0]
    refine go_seq ?_
    refine ⟨_, rfl, _, _, rfl, rfl, _, rfl, ite_dec (fun _ => ?_) fun g => absurd (by decide) g⟩
    exact q .non H (Same.refl H) .non
theorem ok_partsinS {n : Nat} (hn : n ≤ 4) {f fI fP : Addr} {fd dI dP : FuncData} (F : FnP K "_parts_in" sPartsIn f fd) (T : Txt K mg) {k : Nat} (h1 : 1 ≤ k) (Pi : Def P w K mg base CX0 k "_part_in" fI dI ["text", "depth"] (spPartIn K n)) (Pc : Def P w K mg base CX0 1 "_pieces_of" fP dP ["text"] (spPieces K)) :
    FnOk P w K mg base CX0 (k + 1) f fd ["text", "depth"] (spPartsIn K (n + 1)) := by
  refine F.ok scps (fun vs H Q E h => ?_) (fun cdv A outer s H vs Q E hr h => ?_)
  · obtain ⟨t, rfl, _⟩ := h
    rfl
  · obtain ⟨t, rfl, hl, q⟩ := h
    obtain ⟨td, hdeep⟩ := T.p.deep
    have sz : sizeLine = 16777216 := sizeLine_eq
    refine ⟨_, PSs.nox (pss_cons (ps_if (pt_cmpR op_gt (pv 1) (pe_gI hdeep (by rfl)) (nomark _)) (pss_one (ps_ret pe_non)) pss_nil)
      (pss_one (ps_ret (pe_callTy call_tuple_of (by rfl) T.p.tuple bbT (pa_cons (pe_lc (own := [("piece", 2)]) (g := gName 2) (tt := tYes) rfl scps.nd (pi_list (pe_call Pc.ok (hr.mono h1) (by rfl) Pc.g Pc.k Pc.b .nil pass0 (pa_cons (pv 0) pa_nil))) (blkOk_by (N := ["text", "depth", "piece"]) (sc := defScope sPartsIn) (by decide +kernel)) (fun _ _ _ _ _ => pg_name (i := 2) scps.nd rfl (Or.inl rfl)) (fun _ _ _ _ _ => pts_nil)
        (fun _ _ _ _ _ => pe_call Pi.ok hr (by rfl) Pi.g Pi.k Pi.b .nil pass0 (pa_cons (pv 2) (pa_cons (pv 1) pa_nil)))) pa_nil))))), ?_⟩
    have e0 : start ["text", "depth", "piece"] [V.str t, .int (5 - ((n + 1 : Nat) : Int))] = [some (.str t), some (.int (5 - ((n + 1 : Nat) : Int))), none] := rfl
    rw [e0]
    obtain ⟨c1, c2⟩ := pcs_len t
    have hlen : ((pcs t).map (prt (prs n))).length ≤ 1000000 := by rw [List.length_map]; omega
    have hno : noLAll ((pcs t).map (prt (prs n))) = true := noLAll_map fun x _ => noL_prt (noL_prs n) x
    refine go_seq ?_
    refine ⟨_, rfl, _, _, rfl, rfl, _, rfl, ite_dec (fun g => absurd g (by omega)) fun _ => ?_⟩
    walk_at "nx"
    refine ⟨_, rfl, t, rfl, hl, fun r H1 s1 nr hr1 => ⟨r, rfl, ⟨_, SqL.of hr1⟩, fun D hD => lc_list (K := K) (a := r) (xs := (pcs t).map V.str) (DatI K H1 D ((pcs t).map (prt (prs n)))) (DatI.zero hD) (fun i H' _ p => SqL.of (p.1 _ _ hr1)) ?_ ?_⟩⟩
    · rintro i v H4 hv p
      obtain ⟨x, hx, rfl⟩ : ∃ x, (pcs t)[i]? = some x ∧ v = .str x := by
        rw [List.getElem?_map] at hv
        cases hx : (pcs t)[i]? with
        | none => rw [hx] at hv; cases hv
        | some x => rw [hx] at hv; exact ⟨x, rfl, (Option.some.inj hv).symm⟩
      refine ⟨rfl, ⟨_, rfl, _, rfl, x, ?_, Nat.le_trans (c2 x (List.mem_of_getElem? hx)) hl, fun u H5 s5 hu => ?_⟩⟩
      · show [V.str x, V.int (5 - ((n + 1 : Nat) : Int))] = _
        rw [show (5 : Int) - ((n + 1 : Nat) : Int) = 4 - n by omega]
      · exact DatI.step hD p (by rw [List.getElem?_map, hx]; rfl) hno hlen s5 hu
    · intro H4 pm
      obtain ⟨s4, vs, hD4, hds⟩ := pm.all (by rw [List.length_map, List.length_map]; exact Nat.le_refl _)
      refine ⟨D, vs, rfl, .inl ⟨SqL.of hD4, fun l nl => ?_⟩⟩
      exact q _ _ (s1.trans (s4.trans (same_upd nl))) (.tup (SqT.of upd_same) (DpAll.same (same_upd nl) hds))
end
end L2.L86

set_option maxHeartbeats 1000000
namespace L2.L86
open PySem PySem.Spec PyProof.Rows NumText LR L2.Lr L2.Tx TL SkE
local macro_rules | `(tactic| walk_at "nx") => `(tactic| dsimp only [gName, tNext, tSeq, tAsg, List.set_cons_zero, List.set_cons_succ])
theorem scpr : FnScope ["text", "parts", "row"] ["text"] (defScope sParseR) := ⟨rfl, rfl, rfl, by decide +kernel, rfl, by decide +kernel, by decide +kernel⟩
theorem scri : FnScope ["process", "text", "row"] ["process", "text"] (defScope sRowIn) := ⟨rfl, rfl, rfl, by decide +kernel, rfl, by decide +kernel, by decide +kernel⟩
theorem scci : FnScope ["words", "line", "figures"] ["words", "line"] (defScope sChIn) := ⟨rfl, rfl, rfl, by decide +kernel, rfl, by decide +kernel, by decide +kernel⟩
theorem scei : FnScope ["line", "words"] ["line"] (defScope sEvIn) := ⟨rfl, rfl, rfl, by decide +kernel, rfl, by decide +kernel, by decide +kernel⟩
theorem sceo : FnScope ["line", "event"] ["line"] (defScope sEvOf) := ⟨rfl, rfl, rfl, by decide +kernel, rfl, by decide +kernel, by decide +kernel⟩
/-- t is the text of these parts, and is read so -/
structure POk (t : Str) (ds : List PyData) : Prop where
  l : t.length ≤ 2640
  p : prs 5 t = .tuple ds
  a : aprD (.tuple ds) = true
  s : sOk (.tuple ds)
  x : txM 5 ds = t
def spParseR (K : PySem.W.Frag) : Sp := fun vs H Q _ => ∃ t ds, vs = [.str t] ∧ POk t ds ∧ ∀ r H', Same H H' → H r = none → RowAt' K H' r ds → Q (.ref r) H'
def spRowIn (K : PySem.W.Frag) : Sp := fun vs H Q _ => ∃ (p t : Str) (ds : List PyData), vs = [.str p, .str t] ∧ POk t ds ∧ ∀ v H', Same H H' → Dp K H' v (.tuple [.str "row", .str p, .tuple ds]) → Q v H'
/-- a change as its words tell it -/
def chgD (ws : List Str) (line : Str) : PyData :=
  if ws.headD Str.empty = "row" ∧ 2 < ws.length then .tuple [.str "row", .str (ws.getD 1 Str.empty), prs 5 (cutS line (some (4 + (ws.getD 1 Str.empty).length + 1 : Int)) none)] else
  if ws.headD Str.empty = "join" then .tuple [.str "join", .str (ws.getD 1 Str.empty), .tuple ((ws.drop 2).map .str)] else
  if ws.headD Str.empty ∈ [("first" : Str), "kill"] then .tuple ((ws.take 2).map .str ++ (ws.drop 2).map fun f => optD (figO (tl f) 31)) else .tuple (ws.map .str)
def evD (ws : List Str) (line : Str) : PyData :=
  if ws.headD Str.empty = "room" ∧ ws.length = 3 then .tuple [.str "room", .str (ws.getD 1 Str.empty), optD (figO (tl (ws.getD 2 Str.empty)) 201)] else
  if ws.headD Str.empty = "n" ∧ ws.length = 2 then .tuple [.str "n", optD (figO (tl (ws.getD 1 Str.empty)) 31)] else
  if ws.headD Str.empty = "undo" then .tuple [.str "undo"] else .tuple [.str "change", chgD ws line]
/-- a line that tells a row tells it right -/
def RowLn (ws : List Str) (line : Str) : Prop := ws.headD Str.empty = "row" → 2 < ws.length → ∃ ds, POk (cutS line (some (4 + (ws.getD 1 Str.empty).length + 1 : Int)) none) ds
def spChIn (K : PySem.W.Frag) : Sp := fun vs H Q _ => ∃ (p : Addr) (ws : List Str) (line : Str), vs = [.ref p, .str line] ∧ H p = some (.lst (ws.map V.str)) ∧ ws ≠ [] ∧ (∀ x ∈ ws, x.length ≤ 100000) ∧ ws.length ≤ 100001 ∧ line.length ≤ 100000 ∧ RowLn ws line ∧
  ∀ v H', Same H H' → Dp K H' v (chgD ws line) → Q v H'
def spEvIn (K : PySem.W.Frag) : Sp := fun vs H Q _ => ∃ t : Str, vs = [.str t] ∧ t.length ≤ 100000 ∧ RowLn (PySem.Txt.split t spS) t ∧ ∀ v H', Same H H' → Dp K H' v (evD (PySem.Txt.split t spS) t) → Q v H'
def spEvOf (K : PySem.W.Frag) : Sp := fun vs H Q _ => ∃ (t : Str) (d : PyData), vs = [.str t] ∧ t.length ≤ 100000 ∧ RowLn (PySem.Txt.split t spS) t ∧ evD (PySem.Txt.split t spS) t = d ∧ toldB d = true ∧ ShE d ∧ lineD d = t ∧ ∀ v H', Same H H' → Dp K H' v d → Q v H'
section
variable {P : Program} {w : World} {K : PySem.W.Frag} {mg : Str → Option Value} {base : Heap}
theorem ok_parser {f fP fA fI fS : Addr} {fd dP dA dI dS : FuncData} (F : FnP K "parse_row" sParseR f fd) (T : Txt K mg) {k : Nat} (M : RMk P w K mg base k fI dI fS dS) (Ps : Def P w K mg base CX0 k "_parts_in" fP dP ["text", "depth"] (spPartsIn K 5)) (Ap : Def P w K mg base CX0 k "are_parts_of_row" fA dA ["thing"] (spApr K)) :
    FnOk P w K mg base CX0 (k + 3) f fd ["text"] (spParseR K) := by
  refine F.ok scpr (fun vs H Q E h => ?_) (fun cdv A outer s H vs Q E hr h => ?_)
  · obtain ⟨t, ds, rfl, _⟩ := h
    rfl
  · obtain ⟨t, ds, rfl, po, q⟩ := h
    obtain ⟨tl', hlong⟩ := T.lont
    have sz : sizeLine = 16777216 := sizeLine_eq
    have hrk : Room k _ := hr.mono (by omega)
    have hrk1 : Room (k + 1) _ := hr.mono (by omega)
    have ok := row_ok po.s po.a
    refine ⟨_, PSs.nox (pss_cons (ps_set (i := 1) scpr.nd rfl (Or.inl rfl) pe_non)
      (C8.pss_cut (ps_if (PW.pt (pw_and (pt_val (pe_isD T.p.isn (pv 0) (pe_bltn (by rfl) T.p.str bbS (by rfl)) (by rfl))) (pw_and1 (pt_cmpR op_le (pe_callB call_len_str (by rfl) T.p.len boot_len (pa_cons (pv 0) pa_nil)) (pe_gI hlong (by rfl)) (nomark _))))) (pss_one (ps_set (i := 1) scpr.nd rfl (Or.inl rfl) (pe_call Ps.ok hrk (by rfl) Ps.g Ps.k Ps.b .nil pass0 (pa_cons (pv 0) (pa_cons pe_int pa_nil))))) pss_nil)
      (pss_cons (ps_if (pt_not (pt_val (pe_call Ap.ok hrk (by rfl) Ap.g Ap.k Ap.b .nil pass0 (pa_cons (pv 1) pa_nil)))) pss_never pss_nil)
      (C8.pss_cut (ps_set (i := 2) scpr.nd rfl (Or.inl rfl) (pe_make M.m M.ok hrk1 (by rfl) T.gR M.b .nil pass0 (pa_cons (pv 1) pa_nil)))
      (pss_cons (ps_if (pt_cmpR op_ne (pe_callTy (call_strO (E := E0) M.d M.sk hr M.sb pass0) (by rfl) T.p.str bbS (pa_cons (pv 2) pa_nil)) (pv 0) (nomark _)) pss_never pss_nil)
      (pss_one (ps_ret (pv 2)))))))), ?_⟩
    have e0 : start ["text", "parts", "row"] [V.str t] = [some (.str t), none, none] := rfl
    rw [e0]
    have l := po.l
    refine go_seq (go_asg ?_)
    walk_at "nx"
    refine ⟨fun σ' H' => ∃ v, σ' = [some (.str t), some v, none] ∧ Same H H' ∧ Dp K H' v (.tuple ds), ?_, ?_⟩
    · refine ⟨_, rfl, _, _, .str t, (by decide +kernel : kitB "str" "str" = some true), _, rfl, iteT ?_⟩
      refine ⟨_, rfl, t, rfl, by omega, _, _, rfl, rfl, _, rfl, ?_⟩
      rw [decide_eq_true (show (t.length : Int) ≤ 2640 by omega)]
      refine iteT ⟨_, rfl, t, rfl, by omega, fun v H1 s1 hv => ?_⟩
      rw [po.p] at hv
      exact ⟨v, rfl, s1, hv⟩
    rintro σ' H1 ⟨v, rfl, s1, hv⟩
    refine ⟨_, rfl, v, .tuple ds, rfl, hv, po.s, (fun ds' z => by cases z; exact ok.l), fun H2 s2 => ⟨_, rfl, ?_⟩⟩
    rw [po.a]
    refine iteF ?_
    refine ⟨fun σ' H' => ∃ r, σ' = [some (.str t), some v, some (.ref r)] ∧ Same H H' ∧ H r = none ∧ RowAt' K H' r ds, ?_, ?_⟩
    · refine ⟨_, rfl, ?_⟩
      intro r dx0 hr0 hdx hne
      have hv2 := Dp.same s2 hv
      have sl0 : Same H2 (upd (upd H2 dx0 (.own r)) r (.ins (CR K) dx0 [])) := fun b o hb => (upd_ne (ne_of_none hb hr0)).trans ((upd_ne (ne_of_none hb hdx)).trans hb)
      refine ⟨r, dx0, v, ds, rfl, upd_same, Dp.same sl0 hv2, ok, fun H3 y keep hR hyd => ⟨rfl, r, rfl, ?_, ?_, y, _, hR, hyd⟩⟩
      · exact s1.trans (s2.trans fun b o hb => keep b o ((upd_ne (ne_of_none hb hr0)).trans ((upd_ne (ne_of_none hb hdx)).trans hb)) (ne_of_none hb hr0))
      · cases hz : H r with
        | none => rfl
        | some o => rw [s2 _ _ (s1 _ _ hz)] at hr0; cases hr0
    rintro σ3 H3 ⟨r, rfl, s3, nr, hR⟩
    obtain ⟨y, m, ⟨dx, hra⟩, hyd⟩ := hR
    refine ⟨_, rfl, r, dx, _, rfl, hra, r, ds, rfl, ⟨y, m, ⟨dx, hra⟩, hyd⟩, ok.h, fun H4 s4 => ⟨_, rfl, _, rfl, rfl, _, rfl, str_ne (fun h => absurd po.x h) fun _ => ?_⟩⟩
    exact ⟨_, rfl, q r H4 (s3.trans s4) nr ⟨y, m, ⟨dx, s4 _ _ hra⟩, Dp.same s4 hyd⟩⟩
theorem ok_rowin {f fP : Addr} {fd dP : FuncData} (F : FnP K "_row_in" sRowIn f fd) (T : Txt K mg) {k : Nat} (Pr : Def P w K mg base CX0 k "parse_row" fP dP ["text"] (spParseR K)) : FnOk P w K mg base CX0 (k + 1) f fd ["process", "text"] (spRowIn K) := by
  refine F.ok scri (fun vs H Q E h => ?_) (fun cdv A outer s H vs Q E hr h => ?_)
  · obtain ⟨p, t, ds, rfl, _⟩ := h
    rfl
  · obtain ⟨p, t, ds, rfl, po, q⟩ := h
    refine ⟨_, pss_cons (ps_try_thru0 (pss_one (ps_set (i := 2) scri.nd rfl (Or.inl rfl) (pe_call Pr.ok hr (by rfl) Pr.g Pr.k Pr.b .nil pass0 (pa_cons (pv 1) pa_nil)))))
      (pss_one (ps_ret (pe_tup (pa_cons pe_str (pa_cons (pv 0) (pa_cons (pe_fld (pv 2) rfl) pa_nil)))))), ?_⟩
    have e0 : start ["process", "text", "row"] [V.str p, .str t] = [some (.str p), some (.str t), none] := rfl
    rw [e0]
    refine go_seq ?_
    refine ⟨_, rfl, t, ds, rfl, po, fun r H1 s1 nr hR => ?_⟩
    obtain ⟨y, m, ⟨dx, hra⟩, hyd⟩ := hR
    walk_at "nx"
    refine ⟨_, rfl, _, rfl, r, _, dx, _, _, rfl, hra, T.cl, T.nP, flds_p y m, by show 3 ≤ sizeLine; decide, fun p2 np2 => ?_⟩
    exact q _ _ (s1.trans (same_upd np2)) (.tup (SqT.of upd_same) (.cons (.str _) (.cons (.str _) (.cons (Dp.same (same_upd np2) hyd) .nil))))
end
end L2.L86

set_option maxHeartbeats 1000000
namespace L2.L86
open PySem PySem.Spec PyProof.Rows NumText LR L2.Lr L2.Tx TL SkE
local macro_rules | `(tactic| walk_at "nx") => `(tactic| dsimp only [gName, tNext, tSeq, tAsg, List.set_cons_zero, List.set_cons_succ])
theorem DpAll.strs {K : PySem.W.Frag} {H : Hp} : ∀ ws : List Str, DpAll K H (ws.map V.str) (ws.map PyData.str)
  | [] => .nil
  | w :: ws => .cons (.str w) (DpAll.strs ws)
theorem DpAll.figs {K : PySem.W.Frag} {H : Hp} (m : Nat) : ∀ fs : List Str, DpAll K H (fs.map fun f => optV (figO (tl f) m)) (fs.map fun f => optD (figO (tl f) m))
  | [] => .nil
  | f :: fs => .cons (optVD _) (DpAll.figs m fs)
theorem cutV_from2 (xs : List V) : cutV xs (some 2) none = xs.drop 2 := by
  show List.take (xs.length - min 2 xs.length) (List.drop (min 2 xs.length) xs) = _
  by_cases h : 2 ≤ xs.length
  · rw [Nat.min_eq_left h]; exact List.take_of_length_le (by rw [List.length_drop]; omega)
  · rw [Nat.min_eq_right (by omega), List.drop_of_length_le (Nat.le_refl _), List.drop_of_length_le (by omega)]; exact List.take_nil
theorem cutV_to2 (xs : List V) : cutV xs none (some 2) = xs.take 2 := by
  show List.take (min 2 xs.length - 0) (List.drop 0 xs) = _
  rw [List.drop_zero, Nat.sub_zero]
  by_cases h : 2 ≤ xs.length
  · rw [Nat.min_eq_left h]
  · rw [Nat.min_eq_right (by omega), List.take_length, List.take_of_length_le (by omega)]
theorem at_map {ws : List Str} {i : Nat} (h : i < ws.length) : atI (ws.map V.str) (i : Int) = some (.str (ws.getD i Str.empty)) := by
  refine atI_nat (j := i) ?_
  rw [List.getElem?_map, List.getElem?_eq_getElem h, List.getD_eq_getElem?_getD, List.getElem?_eq_getElem h]
  rfl
section
variable {P : Program} {w : World} {K : PySem.W.Frag} {mg : Str → Option Value} {base : Heap}
theorem ok_chin {f fR fA fF : Addr} {fd dR dA dF : FuncData} (F : FnP K "_change_in" sChIn f fd) (T : Txt K mg) {k : Nat} (h1 : 1 ≤ k) (Ri : Def P w K mg base CX0 k "_row_in" fR dR ["process", "text"] (spRowIn K)) (Am : Def P w K mg base CX0 1 "is_among" fA dA ["thing", "words"] (spAm K)) (Fg : Def P w K mg base CX0 1 "figures_of" fF dF ["text", "most"] spFig) :
    FnOk P w K mg base CX0 (k + 1) f fd ["words", "line"] (spChIn K) := by
  refine F.ok scci (fun vs H Q E h => ?_) (fun cdv A outer s H vs Q E hr h => ?_)
  · obtain ⟨p, ws, line, rfl, _⟩ := h
    rfl
  · obtain ⟨p, ws, line, rfl, hp, hne, hw, hlw, hll, hrow, q⟩ := h
    obtain ⟨tn, hnum⟩ := T.fnum
    have hr1 : Room 1 _ := hr.mono h1
    have sz : sizeLine = 16777216 := sizeLine_eq
    refine ⟨_, PSs.nox (C8.pss_cut (ps_if (PW.pt (pw_and (pt_cmpR op_eq (pe_ix ix_list (pv 0) pe_int (fun _ _ => rfl)) pe_str (nomark _)) (pw_and1 (pt_cmpR op_gt (pe_callB call_len_seq (by rfl) T.p.len boot_len (pa_cons (pv 0) pa_nil)) pe_int (nomark _))))) (pss_one (ps_ret (pe_call Ri.ok hr (by rfl) Ri.g Ri.k Ri.b .nil pass0 (pa_cons (pe_ix ix_list (pv 0) pe_int (fun _ _ => rfl))
          (pa_cons (pe_slice sl_str (pv 1) (po_some (pe_op op_add (pe_op op_add (pe_callB call_len_str (by rfl) T.p.len boot_len (pa_cons pe_str pa_nil)) (pe_callB call_len_str (by rfl) T.p.len boot_len (pa_cons (pe_ix ix_list (pv 0) pe_int (fun _ _ => rfl)) pa_nil))) (pe_callB call_len_str (by rfl) T.p.len boot_len (pa_cons pe_str pa_nil)))) po_none) pa_nil))))) pss_nil)
      (pss_cons (ps_if (pt_cmpR op_eq (pe_ix ix_list (pv 0) pe_int (fun _ _ => rfl)) pe_str (nomark _)) (pss_one (ps_ret (pe_tup (pa_cons pe_str (pa_cons (pe_ifExp (pt_cmpR op_gt (pe_callB call_len_seq (by rfl) T.p.len boot_len (pa_cons (pv 0) pa_nil)) pe_int (nomark _)) (pe_ix ix_list (pv 0) pe_int (fun _ _ => rfl)) pe_str) (pa_cons (pe_callTy call_tuple_of (by rfl) T.p.tuple bbT (pa_cons (pe_slice sl_list (pv 0) (po_some pe_int) po_none) pa_nil)) pa_nil)))))) pss_nil)
      (pss_cons (ps_if (pt_val (pe_call Am.ok hr1 (by rfl) Am.g Am.k Am.b .nil pass0 (pa_cons (pe_ix ix_list (pv 0) pe_int (fun _ _ => rfl)) (pa_cons (pe_tup (pa_cons pe_str (pa_cons pe_str pa_nil))) pa_nil)))) (pss_one (ps_ret (pe_callTy call_tuple_of (by rfl) T.p.tuple bbT (pa_cons (pe_op op_cat (pe_slice sl_list (pv 0) po_none (po_some pe_int))
          (pe_lc (own := [("figures", 2)]) (g := gName 2) (tt := tYes) rfl scci.nd (pi_list (pe_slice sl_list (pv 0) (po_some pe_int) po_none)) (blkOk_by (N := ["words", "line", "figures"]) (sc := defScope sChIn) (by decide +kernel)) (fun _ _ _ _ _ => pg_name (i := 2) scci.nd rfl (Or.inl rfl)) (fun _ _ _ _ _ => pts_nil) (fun _ _ _ _ _ => pe_call Fg.ok hr1 (by rfl) Fg.g Fg.k Fg.b .nil pass0 (pa_cons (pv 2) (pa_cons (pe_gI hnum (by rfl)) pa_nil))))) pa_nil)))) pss_nil)
      (pss_one (ps_ret (pe_callTy call_tuple_of (by rfl) T.p.tuple bbT (pa_cons (pv 0) pa_nil))))))), ?_⟩
    have e0 : start ["words", "line", "figures"] [V.ref p, .str line] = [some (.ref p), some (.str line), none] := rfl
    rw [e0]
    have hS : SqL K H p (ws.map V.str) := SqL.of hp
    have hl0 : 0 < ws.length := List.length_pos_iff.mpr hne
    have ehd : ws.getD 0 Str.empty = ws.headD Str.empty := by cases ws <;> rfl
    have a0 : atI (ws.map V.str) 0 = some (.str (ws.headD Str.empty)) := by rw [← ehd]; exact at_map (i := 0) hl0
    have hlm : ((ws.map V.str).length : Int) = ws.length := by rw [List.length_map]
    unfold chgD at q
    unfold RowLn at hrow
    generalize hw0 : ws.headD Str.empty = w0 at q hrow a0
    refine ⟨fun σ' H' => σ' = [some (.ref p), some (.str line), none] ∧ H' = H ∧ ¬ (w0 = "row" ∧ 2 < ws.length), ?_, ?_⟩
    · refine ⟨_, rfl, p, _, 0, _, rfl, rfl, hS, a0, rfl, _, rfl, str_if (fun h => ?_) fun h => ⟨rfl, rfl, fun z => h z.1⟩⟩
      refine ⟨_, rfl, p, _, rfl, .inl hS, _, _, rfl, rfl, _, rfl, ite_dec (fun g => ?_) fun g => ⟨rfl, rfl, fun z => g (by rw [hlm]; have := z.2; omega)⟩⟩
      have g2 : 2 < ws.length := by rw [hlm] at g; omega
      rw [if_pos ⟨h, g2⟩] at q
      obtain ⟨ds, po⟩ := hrow h g2
      have lw1 := hw (ws.getD 1 Str.empty) (by rw [List.getD_eq_getElem?_getD, List.getElem?_eq_getElem (show 1 < ws.length by omega)]; exact List.getElem_mem _)
      refine ⟨_, rfl, p, _, 1, _, rfl, rfl, hS, at_map (i := 1) (by omega), _, rfl, ("row " : Str), rfl, by decide +kernel, _, rfl, p, _, 1, _, rfl, rfl, hS, at_map (i := 1) (by omega), ws.getD 1 Str.empty, rfl, by omega, _, _, rfl, rfl, (" " : Str), rfl, by decide +kernel, _, _, rfl, rfl, _, rfl, line, rfl, by omega, ?_⟩
      refine ⟨ws.getD 1 Str.empty, _, ds, rfl, po, fun v H' s' hv => ?_⟩
      rw [po.p] at q
      exact q v H' s' hv
    rintro σ' H' ⟨rfl, rfl, hn⟩
    rw [if_neg hn] at q
    refine ⟨_, rfl, p, _, 0, _, rfl, rfl, hS, a0, rfl, _, rfl, str_if (fun h => ?_) fun h => ?_⟩
    · rw [if_pos h] at q
      have fin : ∀ x1 : Str, x1 = ws.getD 1 Str.empty → ∀ (l : Addr), H' l = none → ∀ t2, (upd H' l (.lst ((ws.map V.str).drop 2))) t2 = none → ∀ t3, (upd (upd H' l (.lst ((ws.map V.str).drop 2))) t2 (.tup ((ws.map V.str).drop 2))) t3 = none →
          Q (.ref t3) (upd (upd (upd H' l (.lst ((ws.map V.str).drop 2))) t2 (.tup ((ws.map V.str).drop 2))) t3 (.tup [.str "join", .str x1, .ref t2])) := fun x1 e l nl t2 n2 t3 n3 => by
        have s1 := same_upd (o := .lst ((ws.map V.str).drop 2)) nl
        have s2 := same_upd (o := .tup ((ws.map V.str).drop 2)) n2
        have s3 := same_upd (o := .tup [.str "join", .str x1, .ref t2]) n3
        refine q _ _ (s1.trans (s2.trans s3)) (.tup (SqT.of upd_same) (.cons (.str _) (.cons (e ▸ .str _) (.cons (Dp.same s3 (.tup (SqT.of upd_same) ?_)) .nil))))
        rw [← List.map_drop]
        exact DpAll.strs _
      refine ⟨_, rfl, p, _, rfl, .inl hS, _, _, rfl, rfl, _, rfl, ite_dec (fun g => ?_) fun g => ?_⟩
      · refine ⟨_, rfl, p, _, 1, _, rfl, rfl, hS, at_map (i := 1) (by rw [hlm] at g; omega), _, rfl, 2, rfl, p, _, rfl, hS, fun l nl => ?_⟩
        rw [cutV_from2]
        exact ⟨l, _, rfl, .inl ⟨SqL.of upd_same, fun t2 n2 => ⟨by show 3 ≤ sizeLine; decide, fun t3 n3 => fin _ rfl l nl t2 n2 t3 n3⟩⟩⟩
      · refine ⟨_, rfl, 2, rfl, p, _, rfl, hS, fun l nl => ?_⟩
        rw [cutV_from2]
        have e1 : (Str.empty : Str) = ws.getD 1 Str.empty := by
          rw [List.getD_eq_getElem?_getD, List.getElem?_eq_none (by rw [hlm] at g; omega)]
          rfl
        exact ⟨l, _, rfl, .inl ⟨SqL.of upd_same, fun t2 n2 => ⟨by show 3 ≤ sizeLine; decide, fun t3 n3 => fin _ e1 l nl t2 n2 t3 n3⟩⟩⟩
    rw [if_neg h] at q
    walk_at "nx"
    refine ⟨_, rfl, p, _, 0, _, rfl, rfl, hS, a0, by show 2 ≤ sizeLine; decide, fun tp ntp => ⟨w0, tp, ["first", "kill"], rfl, SqT.of upd_same, _, rfl, ?_⟩⟩
    have s1 := same_upd (o := .tup [.str "first", .str "kill"]) ntp
    have hS2 := Same.seq s1 hS
    generalize upd H' tp (.tup [.str "first", .str "kill"]) = H1 at s1 hS2 ⊢
    by_cases hm : w0 ∈ [("first" : Str), "kill"]
    · rw [decide_eq_true hm]
      rw [if_pos hm] at q
      refine iteT ⟨_, rfl, 2, rfl, p, _, rfl, hS2, fun l nl => ?_⟩
      rw [cutV_to2]
      have s2 := same_upd (o := .lst ((ws.map V.str).take 2)) nl
      have hL := upd_same (H := H1) (a := l) (o := .lst ((ws.map V.str).take 2))
      generalize upd H1 l (.lst ((ws.map V.str).take 2)) = H2 at s2 hL ⊢
      refine ⟨_, rfl, 2, rfl, p, _, rfl, Same.seq s2 hS2, fun l2 nl2 => ?_⟩
      rw [cutV_from2]
      have s3 := same_upd (o := .lst ((ws.map V.str).drop 2)) nl2
      have hL2 := upd_same (H := H2) (a := l2) (o := .lst ((ws.map V.str).drop 2))
      have hL' := s3 _ _ hL
      generalize upd H2 l2 (.lst ((ws.map V.str).drop 2)) = H3 at s3 hL2 hL' ⊢
      have hlf : (ws.drop 2).length ≤ 100001 := by rw [List.length_drop]; omega
      refine ⟨l2, rfl, ⟨_, SqL.of hL2⟩, fun D hD => lc_list (K := K) (a := l2) (xs := (ws.map V.str).drop 2) (MapI H3 D ((ws.drop 2).map fun f => optV (figO (tl f) 31))) (MapI.zero hD) (fun i H' _ p => SqL.of (p.1 _ _ hL2)) ?_ ?_⟩
      · rintro i v H5 hv p5
        obtain ⟨x, hx, rfl⟩ : ∃ x, (ws.drop 2)[i]? = some x ∧ v = .str x := by
          rw [← List.map_drop, List.getElem?_map] at hv
          cases hx : (ws.drop 2)[i]? with
          | none => rw [hx] at hv; cases hv
          | some x => rw [hx] at hv; exact ⟨x, rfl, (Option.some.inj hv).symm⟩
        have lx := hw x (List.mem_of_mem_drop (List.mem_of_getElem? hx))
        refine ⟨rfl, ⟨_, rfl, x, 31, rfl, by omega, by decide, fun H6 s6 => ?_⟩⟩
        exact MapI.step hD p5 (by rw [List.getElem?_map, hx]; rfl) (by rw [List.length_map]; omega) s6
      · intro H5 pm
        obtain ⟨s5, hD5⟩ := pm.all (by rw [List.length_map, ← List.map_drop, List.length_map]; exact Nat.le_refl _)
        refine ⟨_, _, _, _, rfl, rfl, s5 _ _ hL', hD5, ?_, fun r nr => ?_⟩
        · rw [List.length_take, List.length_map, List.length_map, sz]
          omega
        · refine ⟨r, _, rfl, .inl ⟨SqL.of upd_same, fun t2 n2 => ?_⟩⟩
          refine q _ _ (s1.trans (s2.trans (s3.trans (s5.trans ((same_upd nr).trans (same_upd n2)))))) (.tup (SqT.of upd_same) ?_)
          rw [← List.map_take]
          exact DpAll.append (DpAll.strs _) (DpAll.figs 31 _)
    · rw [decide_eq_false hm]
      rw [if_neg hm] at q
      refine iteF ?_
      walk_at "nx"
      refine ⟨_, rfl, p, _, rfl, .inl ⟨hS2, fun t2 n2 => ?_⟩⟩
      exact q _ _ (s1.trans (same_upd n2)) (.tup (SqT.of upd_same) (DpAll.strs _))
end
end L2.L86

set_option maxHeartbeats 1000000
namespace L2.L86
open PySem PySem.Spec PyProof.Rows NumText LR L2.Lr L2.Tx TL SkE
local macro_rules | `(tactic| walk_at "nx") => `(tactic| dsimp only [gName, tNext, tSeq, tAsg, List.set_cons_zero, List.set_cons_succ])
section
variable {P : Program} {w : World} {K : PySem.W.Frag} {mg : Str → Option Value} {base : Heap}
theorem ok_evin {f fC fF : Addr} {fd dC dF : FuncData} (F : FnP K "_event_in" sEvIn f fd) (T : Txt K mg) {k : Nat} (h1 : 1 ≤ k) (Ci : Def P w K mg base CX0 k "_change_in" fC dC ["words", "line"] (spChIn K)) (Fg : Def P w K mg base CX0 1 "figures_of" fF dF ["text", "most"] spFig) :
    FnOk P w K mg base CX0 (k + 1) f fd ["line"] (spEvIn K) := by
  refine F.ok scei (fun vs H Q E h => ?_) (fun cdv A outer s H vs Q E hr h => ?_)
  · obtain ⟨t, rfl, _⟩ := h
    rfl
  · obtain ⟨t, rfl, hl, hrow, q⟩ := h
    obtain ⟨tn, hnum⟩ := T.fnum
    obtain ⟨tr, hroom⟩ := T.froom
    have hr1 : Room 1 _ := hr.mono h1
    have sz : sizeLine = 16777216 := sizeLine_eq
    refine ⟨_, pss_cons (ps_set (i := 1) scei.nd rfl (Or.inl rfl) (pe_split (pv 0) pe_str))
      (C8.pss_cut (ps_if (PW.pt (pw_and (pt_cmpR op_eq (pe_ix ix_list (pv 1) pe_int (fun _ _ => rfl)) pe_str (nomark _)) (pw_and1 (pt_cmpR op_eq (pe_callB call_len_seq (by rfl) T.p.len boot_len (pa_cons (pv 1) pa_nil)) pe_int (nomark _))))) (pss_one (ps_ret (pe_tup (pa_cons pe_str (pa_cons (pe_ix ix_list (pv 1) pe_int (fun _ _ => rfl)) (pa_cons (pe_call Fg.ok hr1 (by rfl) Fg.g Fg.k Fg.b .nil pass0 (pa_cons (pe_ix ix_list (pv 1) pe_int (fun _ _ => rfl)) (pa_cons (pe_gI hroom (by rfl)) pa_nil))) pa_nil)))))) pss_nil)
      (C8.pss_cut (ps_if (PW.pt (pw_and (pt_cmpR op_eq (pe_ix ix_list (pv 1) pe_int (fun _ _ => rfl)) pe_str (nomark _)) (pw_and1 (pt_cmpR op_eq (pe_callB call_len_seq (by rfl) T.p.len boot_len (pa_cons (pv 1) pa_nil)) pe_int (nomark _))))) (pss_one (ps_ret (pe_tup (pa_cons pe_str (pa_cons (pe_call Fg.ok hr1 (by rfl) Fg.g Fg.k Fg.b .nil pass0 (pa_cons (pe_ix ix_list (pv 1) pe_int (fun _ _ => rfl)) (pa_cons (pe_gI hnum (by rfl)) pa_nil))) pa_nil))))) pss_nil)
      (pss_cons (ps_if (pt_cmpR op_eq (pe_ix ix_list (pv 1) pe_int (fun _ _ => rfl)) pe_str (nomark _)) (pss_one (ps_ret (pe_tup (pa_cons pe_str pa_nil)))) pss_nil)
      (pss_one (ps_ret (pe_tup (pa_cons pe_str (pa_cons (pe_call Ci.ok hr (by rfl) Ci.g Ci.k Ci.b .nil pass0 (pa_cons (pv 1) (pa_cons (pv 0) pa_nil))) pa_nil)))))))), ?_⟩
    have e0 : start ["line", "words"] [V.str t] = [some (.str t), none] := rfl
    rw [e0]
    obtain ⟨w1, w2⟩ := split_parts (x := t) (y := spS) (s := 32) (S := []) rfl (by decide +kernel)
    have wn := split_ne (x := t) (y := spS) (by decide) (by decide +kernel)
    refine go_seq (go_asg ?_)
    refine ⟨_, rfl, ⟨_, rfl⟩, t, spS, rfl, rfl, rfl, by omega, fun p np => ?_⟩
    generalize PySem.Txt.split t spS = ws at *
    have s1 := same_upd (o := .lst (ws.map V.str)) np
    have hp := upd_same (H := H) (a := p) (o := .lst (ws.map V.str))
    generalize upd H p (.lst (ws.map V.str)) = H1 at s1 hp ⊢
    have hS : SqL K H1 p (ws.map V.str) := SqL.of hp
    have hl0 : 0 < ws.length := List.length_pos_iff.mpr wn
    have ehd : ws.getD 0 Str.empty = ws.headD Str.empty := by cases ws <;> rfl
    have a0 : atI (ws.map V.str) 0 = some (.str (ws.headD Str.empty)) := by rw [← ehd]; exact at_map (i := 0) hl0
    have hlm : ((ws.map V.str).length : Int) = ws.length := by rw [List.length_map]
    have lw : ∀ i, i < ws.length → (ws.getD i Str.empty).length ≤ 100000 := fun i hi => by
      refine Nat.le_trans (w1 (ws.getD i Str.empty) ?_) hl
      rw [List.getD_eq_getElem?_getD, List.getElem?_eq_getElem hi]
      exact List.getElem_mem _
    unfold evD at q
    walk_at "nx"
    refine ⟨fun σ' H' => σ' = [some (.str t), some (.ref p)] ∧ H' = H1 ∧ ¬ (ws.headD Str.empty = "room" ∧ ws.length = 3), ?_, ?_⟩
    · refine ⟨_, rfl, p, _, 0, _, rfl, rfl, hS, a0, rfl, _, rfl, str_if (fun h => ?_) fun h => ⟨rfl, rfl, fun z => h z.1⟩⟩
      refine ⟨_, rfl, p, _, rfl, .inl hS, rfl, _, rfl, len_if (fun g => ?_) fun g => ⟨rfl, rfl, fun z => g (by rw [hlm, z.2]; rfl)⟩⟩
      have g2 : ws.length = 3 := by rw [hlm] at g; omega
      rw [if_pos ⟨h, g2⟩] at q
      have l2 := lw 2 (by omega)
      refine ⟨_, rfl, p, _, 1, _, rfl, rfl, hS, at_map (i := 1) (by omega), _, rfl, p, _, 2, _, rfl, rfl, hS, at_map (i := 2) (by omega), ws.getD 2 Str.empty, 201, rfl, by omega, by decide, fun H2 s2 => ⟨by show 3 ≤ sizeLine; omega, fun t2 n2 => ?_⟩⟩
      exact q _ _ (s1.trans (s2.trans (same_upd n2))) (.tup (SqT.of upd_same) (.cons (.str _) (.cons (.str _) (.cons (optVD _) .nil))))
    rintro σ' H' ⟨rfl, rfl, hn⟩
    rw [if_neg hn] at q
    refine ⟨fun σ' H2 => σ' = [some (.str t), some (.ref p)] ∧ H2 = H' ∧ ¬ (ws.headD Str.empty = "n" ∧ ws.length = 2), ?_, ?_⟩
    · refine ⟨_, rfl, p, _, 0, _, rfl, rfl, hS, a0, rfl, _, rfl, str_if (fun h => ?_) fun h => ⟨rfl, rfl, fun z => h z.1⟩⟩
      refine ⟨_, rfl, p, _, rfl, .inl hS, rfl, _, rfl, len_if (fun g => ?_) fun g => ⟨rfl, rfl, fun z => g (by rw [hlm, z.2]; rfl)⟩⟩
      have g2 : ws.length = 2 := by rw [hlm] at g; omega
      rw [if_pos ⟨h, g2⟩] at q
      have l2 := lw 1 (by omega)
      refine ⟨_, rfl, p, _, 1, _, rfl, rfl, hS, at_map (i := 1) (by omega), ws.getD 1 Str.empty, 31, rfl, by omega, by decide, fun H2 s2 => ⟨by show 2 ≤ sizeLine; omega, fun t2 n2 => ?_⟩⟩
      exact q _ _ (s1.trans (s2.trans (same_upd n2))) (.tup (SqT.of upd_same) (.cons (.str _) (.cons (optVD _) .nil)))
    rintro σ' H2 ⟨rfl, rfl, hn2⟩
    rw [if_neg hn2] at q
    refine ⟨_, rfl, p, _, 0, _, rfl, rfl, hS, a0, rfl, _, rfl, str_if (fun h => ?_) fun h => ?_⟩
    · rw [if_pos h] at q
      refine ⟨by show 1 ≤ sizeLine; omega, fun t2 n2 => ?_⟩
      exact q _ _ (s1.trans (same_upd n2)) (.tup (SqT.of upd_same) (.cons (.str _) .nil))
    · rw [if_neg h] at q
      walk_at "nx"
      refine ⟨_, rfl, _, rfl, p, ws, t, rfl, hp, wn, fun x hx => Nat.le_trans (w1 x hx) hl, by omega, hl, hrow, fun v H3 s3 hv => ⟨by show 2 ≤ sizeLine; omega, fun t2 n2 => ?_⟩⟩
      exact q _ _ (s1.trans (s3.trans (same_upd n2))) (.tup (SqT.of upd_same) (.cons (.str _) (.cons (Dp.same (same_upd n2) hv) .nil)))
theorem ok_evof {f fE fT fL : Addr} {fd dE dT dL : FuncData} (F : FnP K "event_of" sEvOf f fd) {k : Nat} (Ei : Def P w K mg base CX0 k "_event_in" fE dE ["line"] (spEvIn K)) (Te : Def P w K mg base CX0 k "is_told_event" fT dT ["thing"] (spToldE K)) (Lo : Def P w K mg base CX0 k "line_of" fL dL ["event"] (spLineOf K)) :
    FnOk P w K mg base CX0 (k + 1) f fd ["line"] (spEvOf K) := by
  refine F.ok sceo (fun vs H Q E h => ?_) (fun cdv A outer s H vs Q E hr h => ?_)
  · obtain ⟨t, d, rfl, _⟩ := h
    rfl
  · obtain ⟨t, d, rfl, hl, hrow, he, ht, hsh, hln, q⟩ := h
    refine ⟨_, pss_cons (ps_set (i := 1) sceo.nd rfl (Or.inl rfl) (pe_call Ei.ok hr (by rfl) Ei.g Ei.k Ei.b .nil pass0 (pa_cons (pv 0) pa_nil)))
      (pss_one (ps_ret (pe_ifExp (PW.pt (pw_and (pt_val (pe_call Te.ok hr (by rfl) Te.g Te.k Te.b .nil pass0 (pa_cons (pv 1) pa_nil))) (pw_and1 (pt_cmpR op_eq (pe_call Lo.ok hr (by rfl) Lo.g Lo.k Lo.b .nil pass0 (pa_cons (pv 1) pa_nil)) (pv 0) (nomark _))))) (pv 1) pe_non))), ?_⟩
    have e0 : start ["line", "event"] [V.str t] = [some (.str t), none] := rfl
    rw [e0]
    refine go_seq (go_asg ?_)
    refine ⟨_, rfl, t, rfl, hl, hrow, fun v H1 s1 hv => ?_⟩
    rw [he] at hv
    walk_at "nx"
    refine ⟨_, rfl, v, d, rfl, hv, hsh, fun H2 s2 => ⟨_, rfl, ?_⟩⟩
    rw [ht]
    have hv2 := Dp.same s2 hv
    refine iteT ⟨_, rfl, v, d, rfl, hv2, hsh, ht, fun H3 s3 => ⟨_, rfl, rfl, _, rfl, str_if (fun _ => ?_) fun z => absurd hln z⟩⟩
    exact ⟨_, rfl, q v H3 (s1.trans (s2.trans s3)) (Dp.same s3 hv2)⟩
end
end L2.L86

set_option maxHeartbeats 1000000
namespace L2.L86
open PySem PySem.Spec PyProof.Rows NumText LR L2.Lr L2.Tx TL SkE
local macro_rules | `(tactic| walk_at "nx") => `(tactic| dsimp only [gName, tNext, tSeq, tAsg, List.set_cons_zero, List.set_cons_succ])
def nlS : Str := Str.ofString "\n"
def cat : List Str → Str
  | [] => Str.empty
  | l :: ls => l ++ nlS ++ cat ls
theorem tl_nl : tl nlS = [10] := rfl
theorem tl_cat : ∀ ls : List Str, tl (cat ls) = joinL [10] ((ls ++ [Str.empty]).map tl)
  | [] => rfl
  | [l] => by
    show tl (l ++ nlS ++ Str.empty) = _
    rw [tl_append, tl_append, List.append_assoc]
    rfl
  | l :: m :: ls => by
    have ih := tl_cat (m :: ls)
    show tl (l ++ nlS ++ cat (m :: ls)) = _
    rw [tl_append, tl_append, ih, List.append_assoc]
    rfl
theorem split_cat {ls : List Str} (h : ∀ l ∈ ls, 10 ∉ tl l) : PySem.Txt.split (cat ls) nlS = ls ++ [Str.empty] := by
  have e : cat ls = PySem.Txt.join nlS (ls ++ [Str.empty]) := tl_inj (by rw [tl_cat, join_eq, tl_join]; rfl)
  rw [e]
  refine split_join tl_nl (by decide +kernel) (by simp) fun p hp => ?_
  rcases List.mem_append.mp hp with m | m
  · exact h p m
  · cases m with
    | head => intro z; cases z
    | tail _ m => cases m
theorem tl_catF : ∀ ls : List Str, tl (cat ls) = (ls.map fun l => tl (l ++ nlS)).flatten
  | [] => rfl
  | l :: ls => by
    show tl (l ++ nlS ++ cat ls) = tl (l ++ nlS) ++ (ls.map fun l => tl (l ++ nlS)).flatten
    rw [tl_append, tl_catF ls]
theorem join_cat (ls : List Str) : PySem.Txt.join Str.empty (ls.map fun l => l ++ nlS) = cat ls := tl_inj (by
  rw [join_eq, tl_join, tl_catF, List.map_map]
  exact joinL_nil _)
abbrev NWr : List Str := ["events", "event"]
theorem scwr : FnScope NWr ["events"] (defScope sWrite) := ⟨rfl, rfl, rfl, by decide +kernel, rfl, by decide +kernel, by decide +kernel⟩
abbrev NRp : List Str := ["text", "lines", "events", "line"]
theorem scrp : FnScope NRp ["text"] (defScope sReadP) := ⟨rfl, rfl, rfl, by decide +kernel, rfl, by decide +kernel, by decide +kernel⟩
/-- f'..' with a name for its reading -/
def tJoin (ts : List TE) : TE := fun σ H Q => tJs ts Str.empty σ H fun out H1 => Q (.str out) H1
theorem pe_joinedT {X : Cx} {v1 v2 : Expr} {rest : List Expr} {ts : List TE} {pos : Pos} (h : PJ X (v1 :: v2 :: rest) ts) : PE X (.JoinedStr (v1 :: v2 :: rest) pos) (tJoin ts) := pe_joined h
def seqE : PyData → Option (List PyData)
  | .list ds => some ds
  | .tuple ds => some ds
  | _ => none
def planT (ds : List PyData) : Str := cat (ds.map lineD)
def spWrite (K : PySem.W.Frag) : Sp := fun vs H Q E => ∃ x d, vs = [x] ∧ DpE K H x d ∧
  ((seqE d = none ∧ Bad (CE K) x H E) ∨ ∃ ds, seqE d = some ds ∧ ds.length ≤ 1000 ∧ (∀ e ∈ ds, ShE e) ∧ ((ds.all toldB = false ∧ Bad (CE K) x H E) ∨ (ds.all toldB = true ∧ (∀ e ∈ ds, (lineD e).length ≤ 12000) ∧ ∀ H', Same H H' → Q (.str (planT ds)) H')))
/-- an event that is told and read back -/
structure EvOk (d : PyData) : Prop where
  t : toldB d = true
  s : ShE d
  r : RowLn (PySem.Txt.split (lineD d) spS) (lineD d)
  e : evD (PySem.Txt.split (lineD d) spS) (lineD d) = d
  n : noL d = true
  nl : 10 ∉ tl (lineD d)
  l : (lineD d).length ≤ 12000
  ni : Nice2 6000 10 d
def spReadP (K : PySem.W.Frag) : Sp := fun vs H Q _ => ∃ ds, vs = [.str (planT ds)] ∧ ds.length ≤ 1000 ∧ (∀ d ∈ ds, EvOk d) ∧ ∀ r xs H', Same H H' → H r = none → H' r = some (.lst xs) → DpAll K H' xs ds → Q (.ref r) H'
theorem cat_len {m : Nat} : ∀ {ls : List Str}, (∀ l ∈ ls, l.length ≤ m) → (cat ls).length ≤ ls.length * (m + 1)
  | [], _ => Nat.zero_le _
  | l :: ls, h => by
    have h1 := h l (List.mem_cons_self ..)
    have h2 := cat_len (m := m) fun x hx => h x (List.mem_cons_of_mem _ hx)
    show (l ++ nlS ++ cat ls).length ≤ (ls.length + 1) * (m + 1)
    rw [len_app, len_app, Nat.add_mul]
    show l.length + 1 + _ ≤ _
    omega
section
variable {P : Program} {w : World} {K : PySem.W.Frag} {mg : Str → Option Value} {base : Heap}
theorem ok_write {f fT fL : Addr} {fd dT dL dV : FuncData} (F : FnP K "write_plan" sWrite f fd) (T : Txt K mg) {k : Nat} (h1 : 1 ≤ k) (Te : Def P w K mg base CX0 k "is_told_event" fT dT ["thing"] (spToldE K)) (Lo : Def P w K mg base CX0 k "line_of" fL dL ["event"] (spLineOf K)) (Z : Rm P w K mg base dV) :
    FnOk P w K mg base (L2.CX P w) (k + 2) f fd ["events"] (spWrite K) := by
  refine F.ok scwr (fun vs H Q E h => ?_) (fun cdv A outer s H vs Q E hr h => ?_)
  · obtain ⟨x, d, rfl, _⟩ := h
    rfl
  obtain ⟨x, d, rfl, hd, h⟩ := h
  have hrk : Room k _ := hr.mono (by omega)
  have hr2 : Room 2 _ := hr.mono (by omega)
  have sz : sizeLine = 16777216 := sizeLine_eq
  rcases h with ⟨hs, b⟩ | ⟨ds, hs, hl, hsh, h⟩
  · refine ⟨_, pss_cons (ps_if (PW.pt (pw_or (pt_not (pt_val (pe_callB call_isiT (by rfl) T.p.isn boot_isinstance (pa_cons (pv 0) (pa_cons (pe_tup (pa_cons (pe_bltn (v := .ty "list") (by rfl) T.list bbL (by rfl)) (pa_cons (pe_bltn (v := .ty "tuple") (by rfl) T.p.tuple bbT (by rfl)) pa_nil))) pa_nil)))))
          (pw_or1 (pt_not (pt_val pe_never)))))
        (pss_one (ps_raise rfl (takes_of rfl rfl rfl rfl) (pmk_new sV T.xE.x T.xE.nv T.xE.iC T.tI Z.ok hr2 Z.b T.xE.g (pv 0) (by rfl)))) pss_nil) pss_never, ?_⟩
    have e0 : start NWr [x] = [some x, none] := rfl
    rw [e0]
    refine go_seq ?_
    have hsq : seqD d = false := by cases d <;> first | rfl | cases hs
    refine ⟨_, rfl, by show 2 ≤ sizeLine; decide, fun tp ntp => ⟨x, tp, [.ty "list", .ty "tuple"], .type (tyN d), [.type "list", .type "tuple"], false, rfl, upd_same, .cons (.ty _) (.cons (.ty _) .nil), tyE (hd.same (same_upd ntp)), by rw [seq_any d, hsq], _, rfl, iteT (iteT ?_)⟩⟩
    exact ⟨_, rfl, fun dd H' s' n hx => b dd H' ((same_upd ntp).trans s') hx⟩
  rcases hd with hd | ⟨rfl, _⟩
  case inr => cases hs
  cases hd <;> try cases hs
  · rename_i a xs hS ha
    refine ⟨_, pss_cons (ps_if (PW.pt (pw_or (pt_not (pt_val (pe_callB call_isiT (by rfl) T.p.isn boot_isinstance (pa_cons (pv 0) (pa_cons (pe_tup (pa_cons (pe_bltn (v := .ty "list") (by rfl) T.list bbL (by rfl)) (pa_cons (pe_bltn (v := .ty "tuple") (by rfl) T.p.tuple bbT (by rfl)) pa_nil))) pa_nil)))))
          (pw_or1 (pt_not (pt_val (pe_callB (cr_all rfl) (by rfl) T.all boot_all (pa_cons (pe_lc (own := [("event", 1)]) (g := gName 1) (tt := tYes) rfl scwr.nd (pi_list (pv 0)) (blkOk_by (N := NWr) (sc := defScope sWrite) (by decide +kernel)) (fun _ _ _ _ _ => pg_name (i := 1) scwr.nd rfl (Or.inl rfl)) (fun _ _ _ _ _ => pts_nil) (fun _ _ _ _ _ => pe_call Te.ok hrk (by rfl) Te.g Te.k Te.b .nil pass0 (pa_cons (pv 1) pa_nil))) pa_nil)))))))
        (pss_one (ps_raise rfl (takes_of rfl rfl rfl rfl) (pmk_new sV T.xE.x T.xE.nv T.xE.iC T.tI Z.ok hr2 Z.b T.xE.g (pv 0) (by rfl)))) pss_nil)
      (PSs.nox (pss_one (ps_ret (pe_join pe_str (pe_lc (own := [("event", 1)]) (g := gName 1) (tt := tYes) rfl scwr.nd (pi_list (pv 0)) (blkOk_by (N := NWr) (sc := defScope sWrite) (by decide +kernel)) (fun _ _ _ _ _ => pg_name (i := 1) scwr.nd rfl (Or.inl rfl)) (fun _ _ _ _ _ => pts_nil)
        (fun _ _ _ _ _ => pe_joinedT (.cons (pe_fmt (pe_call Lo.ok hrk (by rfl) Lo.g Lo.k Lo.b .nil pass0 (pa_cons (pv 1) pa_nil))) (.cons pe_str .nil))))))))  , ?_⟩
    have e0 : start NWr [V.ref a] = [some (.ref a), none] := rfl
    rw [e0]
    refine go_seq ?_
    have hlx := DpAll.length ha
    refine ⟨_, rfl, by show 2 ≤ sizeLine; decide, fun tp ntp => ⟨.ref a, tp, [.ty "list", .ty "tuple"], .type (tyN (.list ds)), [.type "list", .type "tuple"], true, rfl, upd_same, .cons (.ty _) (.cons (.ty _) .nil), tyE (.inl (Dp.same (same_upd ntp) (.lst hS ha))), seq_any (.list ds), _, rfl, iteF ?_⟩⟩
    have s1 := same_upd (o := .tup [.ty "list", .ty "tuple"]) ntp
    generalize upd H tp (.tup [.ty "list", .ty "tuple"]) = H1 at s1 ⊢
    have hS1 := Same.seq s1 hS
    have ha1 := DpAll.same s1 ha
    refine ⟨_, rfl, a, rfl, ⟨_, hS1⟩, fun D hD => lc_list (K := K) (a := a) (xs := xs) (MapI H1 D (ds.map fun d => V.bl (toldB d))) (MapI.zero hD) (fun i H' _ p => Same.seq p.1 hS1) ?_ ?_⟩
    · rintro i v H4 hv p
      obtain ⟨d, hdi, hd⟩ := DpAll.at ha1 hv
      refine ⟨rfl, ⟨_, rfl, v, d, rfl, Dp.same p.1 hd, hsh d (List.mem_of_getElem? hdi), fun H5 s5 => ?_⟩⟩
      exact MapI.step hD p (by rw [List.getElem?_map, hdi]; rfl) (by rw [List.length_map]; omega) s5
    · intro H4 pm
      obtain ⟨s4, hD4⟩ := pm.all (by rw [List.length_map, hlx]; exact Nat.le_refl _)
      refine ⟨D, ds.map toldB, rfl, SqL.of (by rw [hD4, List.map_map]; rfl), _, rfl, ?_⟩
      rw [show (ds.map toldB).all id = ds.all toldB from by rw [List.all_map]; rfl]
      rcases h with ⟨hb, b⟩ | ⟨hb, hln, q⟩
      · rw [hb]
        exact iteT ⟨_, rfl, fun dd H' s' n hx => b dd H' (s1.trans (s4.trans s')) hx⟩
      rw [hb]
      refine iteF ?_
      have hall : ∀ e ∈ ds, toldB e = true := List.all_eq_true.mp hb
      walk_at "nx"
      have ha4 := DpAll.same s4 ha1
      have hS4 := Same.seq s4 hS1
      refine ⟨⟨_, rfl⟩, _, rfl, a, rfl, ⟨_, hS4⟩, fun D2 hD2 => lc_list (K := K) (a := a) (xs := xs) (MapI H4 D2 (ds.map fun d => V.str (lineD d ++ nlS))) (MapI.zero hD2) (fun i H' _ p => Same.seq p.1 hS4) ?_ ?_⟩
      · rintro i v H5 hv p5
        obtain ⟨d, hdi, hd⟩ := DpAll.at ha4 hv
        have hm := List.mem_of_getElem? hdi
        have ll := hln d hm
        refine ⟨rfl, ⟨_, rfl, v, d, rfl, Dp.same p5.1 hd, hsh d hm, hall d hm, fun H6 s6 => .inl ⟨_, rfl, by omega, _, rfl, by rw [empty_app]; omega, nlS, rfl, ?_, ?_⟩⟩⟩
        · rw [empty_app, len_app]
          show _ + 1 ≤ _
          omega
        · rw [empty_app]
          exact MapI.step hD2 p5 (by rw [List.getElem?_map, hdi]; rfl) (by rw [List.length_map]; omega) s6
      · intro H5 pm5
        obtain ⟨s5, hD5⟩ := pm5.all (by rw [List.length_map, hlx]; exact Nat.le_refl _)
        refine ⟨Str.empty, D2, (ds.map lineD).map fun l => l ++ nlS, rfl, rfl, .inl (SqL.of (by rw [hD5, List.map_map, List.map_map]; rfl)), ?_, ?_⟩
        · have hs := sum_le (m := 12001) (l := ((ds.map lineD).map fun l => l ++ nlS).map (·.length)) fun x hx => by
            obtain ⟨y, hy, rfl⟩ := List.mem_map.mp hx
            obtain ⟨z, hz, rfl⟩ := List.mem_map.mp hy
            obtain ⟨d, hd, rfl⟩ := List.mem_map.mp hz
            have := hln d hd
            show (lineD d ++ nlS).length ≤ _
            rw [len_app]
            show _ + 1 ≤ _
            omega
          rw [List.length_map, List.length_map, List.length_map] at hs
          have t5 : Str.empty.length = 0 := rfl
          rw [t5]
          omega
        · rw [join_cat]
          exact q _ (s1.trans (s4.trans s5))
  · rename_i a xs hS ha
    refine ⟨_, pss_cons (ps_if (PW.pt (pw_or (pt_not (pt_val (pe_callB call_isiT (by rfl) T.p.isn boot_isinstance (pa_cons (pv 0) (pa_cons (pe_tup (pa_cons (pe_bltn (v := .ty "list") (by rfl) T.list bbL (by rfl)) (pa_cons (pe_bltn (v := .ty "tuple") (by rfl) T.p.tuple bbT (by rfl)) pa_nil))) pa_nil)))))
          (pw_or1 (pt_not (pt_val (pe_callB (cr_all rfl) (by rfl) T.all boot_all (pa_cons (pe_lc (own := [("event", 1)]) (g := gName 1) (tt := tYes) rfl scwr.nd (pi_tup (pv 0)) (blkOk_by (N := NWr) (sc := defScope sWrite) (by decide +kernel)) (fun _ _ _ _ _ => pg_name (i := 1) scwr.nd rfl (Or.inl rfl)) (fun _ _ _ _ _ => pts_nil) (fun _ _ _ _ _ => pe_call Te.ok hrk (by rfl) Te.g Te.k Te.b .nil pass0 (pa_cons (pv 1) pa_nil))) pa_nil)))))))
        (pss_one (ps_raise rfl (takes_of rfl rfl rfl rfl) (pmk_new sV T.xE.x T.xE.nv T.xE.iC T.tI Z.ok hr2 Z.b T.xE.g (pv 0) (by rfl)))) pss_nil)
      (PSs.nox (pss_one (ps_ret (pe_join pe_str (pe_lc (own := [("event", 1)]) (g := gName 1) (tt := tYes) rfl scwr.nd (pi_tup (pv 0)) (blkOk_by (N := NWr) (sc := defScope sWrite) (by decide +kernel)) (fun _ _ _ _ _ => pg_name (i := 1) scwr.nd rfl (Or.inl rfl)) (fun _ _ _ _ _ => pts_nil)
        (fun _ _ _ _ _ => pe_joinedT (.cons (pe_fmt (pe_call Lo.ok hrk (by rfl) Lo.g Lo.k Lo.b .nil pass0 (pa_cons (pv 1) pa_nil))) (.cons pe_str .nil))))))))  , ?_⟩
    have e0 : start NWr [V.ref a] = [some (.ref a), none] := rfl
    rw [e0]
    refine go_seq ?_
    have hlx := DpAll.length ha
    refine ⟨_, rfl, by show 2 ≤ sizeLine; decide, fun tp ntp => ⟨.ref a, tp, [.ty "list", .ty "tuple"], .type (tyN (.tuple ds)), [.type "list", .type "tuple"], true, rfl, upd_same, .cons (.ty _) (.cons (.ty _) .nil), tyE (.inl (Dp.same (same_upd ntp) (.tup hS ha))), seq_any (.tuple ds), _, rfl, iteF ?_⟩⟩
    have s1 := same_upd (o := .tup [.ty "list", .ty "tuple"]) ntp
    generalize upd H tp (.tup [.ty "list", .ty "tuple"]) = H1 at s1 ⊢
    have hS1 := seqT s1 hS
    have ha1 := DpAll.same s1 ha
    refine ⟨_, rfl, a, rfl, ⟨_, hS1⟩, fun D hD => lc_tup (K := K) (a := a) (xs := xs) (MapI H1 D (ds.map fun d => V.bl (toldB d))) (MapI.zero hD) (fun i H' _ p => seqT p.1 hS1) ?_ ?_⟩
    · rintro i v H4 hv p
      obtain ⟨d, hdi, hd⟩ := DpAll.at ha1 hv
      refine ⟨rfl, ⟨_, rfl, v, d, rfl, Dp.same p.1 hd, hsh d (List.mem_of_getElem? hdi), fun H5 s5 => ?_⟩⟩
      exact MapI.step hD p (by rw [List.getElem?_map, hdi]; rfl) (by rw [List.length_map]; omega) s5
    · intro H4 pm
      obtain ⟨s4, hD4⟩ := pm.all (by rw [List.length_map, hlx]; exact Nat.le_refl _)
      refine ⟨D, ds.map toldB, rfl, SqL.of (by rw [hD4, List.map_map]; rfl), _, rfl, ?_⟩
      rw [show (ds.map toldB).all id = ds.all toldB from by rw [List.all_map]; rfl]
      rcases h with ⟨hb, b⟩ | ⟨hb, hln, q⟩
      · rw [hb]
        exact iteT ⟨_, rfl, fun dd H' s' n hx => b dd H' (s1.trans (s4.trans s')) hx⟩
      rw [hb]
      refine iteF ?_
      have hall : ∀ e ∈ ds, toldB e = true := List.all_eq_true.mp hb
      walk_at "nx"
      have ha4 := DpAll.same s4 ha1
      have hS4 := seqT s4 hS1
      refine ⟨⟨_, rfl⟩, _, rfl, a, rfl, ⟨_, hS4⟩, fun D2 hD2 => lc_tup (K := K) (a := a) (xs := xs) (MapI H4 D2 (ds.map fun d => V.str (lineD d ++ nlS))) (MapI.zero hD2) (fun i H' _ p => seqT p.1 hS4) ?_ ?_⟩
      · rintro i v H5 hv p5
        obtain ⟨d, hdi, hd⟩ := DpAll.at ha4 hv
        have hm := List.mem_of_getElem? hdi
        have ll := hln d hm
        refine ⟨rfl, ⟨_, rfl, v, d, rfl, Dp.same p5.1 hd, hsh d hm, hall d hm, fun H6 s6 => .inl ⟨_, rfl, by omega, _, rfl, by rw [empty_app]; omega, nlS, rfl, ?_, ?_⟩⟩⟩
        · rw [empty_app, len_app]
          show _ + 1 ≤ _
          omega
        · rw [empty_app]
          exact MapI.step hD2 p5 (by rw [List.getElem?_map, hdi]; rfl) (by rw [List.length_map]; omega) s6
      · intro H5 pm5
        obtain ⟨s5, hD5⟩ := pm5.all (by rw [List.length_map, hlx]; exact Nat.le_refl _)
        refine ⟨Str.empty, D2, (ds.map lineD).map fun l => l ++ nlS, rfl, rfl, .inl (SqL.of (by rw [hD5, List.map_map, List.map_map]; rfl)), ?_, ?_⟩
        · have hs := sum_le (m := 12001) (l := ((ds.map lineD).map fun l => l ++ nlS).map (·.length)) fun x hx => by
            obtain ⟨y, hy, rfl⟩ := List.mem_map.mp hx
            obtain ⟨z, hz, rfl⟩ := List.mem_map.mp hy
            obtain ⟨d, hd, rfl⟩ := List.mem_map.mp hz
            have := hln d hd
            show (lineD d ++ nlS).length ≤ _
            rw [len_app]
            show _ + 1 ≤ _
            omega
          rw [List.length_map, List.length_map, List.length_map] at hs
          have t5 : Str.empty.length = 0 := rfl
          rw [t5]
          omega
        · rw [join_cat]
          exact q _ (s1.trans (s4.trans s5))
end
end L2.L86

set_option maxHeartbeats 1000000
namespace L2.L86
open PySem PySem.Spec PyProof.Rows NumText LR L2.Lr L2.Tx TL SkE
local macro_rules | `(tactic| walk_at "nx") => `(tactic| dsimp only [gName, tNext, tSeq, tAsg, List.set_cons_zero, List.set_cons_succ])
theorem op_inDK {X : Cx} (K : PySem.W.Frag) (hK : X.K = K) (hu : X.A.units + 65 < cLine) : OpR X (compareOp .In) (rInD K) := by subst hK; exact op_inD hu
theorem niceAll_of2 {W D : Nat} : ∀ {ds : List PyData}, (∀ d ∈ ds, Nice2 W D d) → NiceAll2 (ds.length * (W + 1)) D ds
  | [], _ => (NiceAll2.nil 0 D).mono (Nat.zero_le _) (Nat.le_refl _)
  | d :: ds, h => by
    have h1 := NiceAll2.cons (h d (List.mem_cons_self ..)) (niceAll_of2 fun x hx => h x (List.mem_cons_of_mem _ hx))
    refine h1.mono ?_ (Nat.le_refl _)
    rw [List.length_cons, Nat.add_mul]
    omega
theorem ev_none {d : PyData} (h : toldB d = true) : PyData.eqv d .none = false := by
  obtain ⟨w, es, rfl, _⟩ := event_shape (Bool.and_eq_true_iff.mp h).1
  rfl
section
variable {P : Program} {w : World} {K : PySem.W.Frag} {mg : Str → Option Value} {base : Heap}
theorem ok_readp {f fE : Addr} {fd dE : FuncData} (F : FnP K "read_plan" sReadP f fd) (T : Txt K mg) {k : Nat} (Eo : Def P w K mg base CX0 k "event_of" fE dE ["line"] (spEvOf K)) : FnOk P w K mg base CX0 (k + 2) f fd ["text"] (spReadP K) := by
  refine F.ok scrp (fun vs H Q E h => ?_) (fun cdv A outer s H vs Q E hr h => ?_)
  · obtain ⟨t, rfl, _⟩ := h
    rfl
  · obtain ⟨ds, rfl, hl, hev, q⟩ := h
    have hrk : Room k _ := hr.mono (by omega)
    have hu65 : (A.deeper (envOfC "read_plan" (defScope sReadP) s.heap.objs.size f cdv)).units + 65 < cLine := by have := hr.un; omega
    have sz : sizeLine = 16777216 := sizeLine_eq
    refine ⟨_, PSs.nox (pss_cons (ps_if (pt_not (pt_val (pe_isD T.p.isn (pv 0) (pe_bltn (by rfl) T.p.str bbS (by rfl)) (by rfl)))) pss_never pss_nil)
      (pss_cons (ps_set (i := 1) scrp.nd rfl (Or.inl rfl) (pe_split (pv 0) pe_str))
      (C8.pss_cut (ps_setLc (i := 2) (own := [("line", 3)]) (g := gName 3) (tt := tYes) rfl scrp.nd rfl rfl (sw_true rfl rfl rfl (by decide +kernel)) (pi_list (pe_slice sl_list (pv 1) po_none (po_some (pe_un un_neg pe_int)))) (blkOk_by (N := NRp) (sc := defScope sReadP) (by decide +kernel)) (fun _ _ _ _ _ => pg_name (i := 3) scrp.nd rfl (Or.inl rfl)) (fun _ _ _ _ _ => pts_nil)
          (fun _ _ _ _ _ => pe_call Eo.ok hrk (by rfl) Eo.g Eo.k Eo.b .nil pass0 (pa_cons (pv 3) pa_nil)))
      (pss_cons (ps_if (PW.pt (pw_or (pt_cmpR (op_inDK K rfl hu65) pe_non (pv 2) (by rfl)) (pw_or1 (pt_cmpR op_ne (pe_ix ix_list (pv 1) (pe_un un_neg pe_int) (fun _ _ => rfl)) pe_str (nomark _))))) pss_never pss_nil)
      (pss_one (ps_ret (pv 2))))))), ?_⟩
    have e0 : start NRp [V.str (planT ds)] = [some (.str (planT ds)), none, none, none] := rfl
    rw [e0]
    have lines : PySem.Txt.split (planT ds) nlS = ds.map lineD ++ [Str.empty] := split_cat fun l hl => by
      obtain ⟨d, hd, rfl⟩ := List.mem_map.mp hl
      exact (hev d hd).nl
    have lp : (planT ds).length ≤ 1000 * 12001 := by
      have h := cat_len (m := 12000) (ls := ds.map lineD) fun l hl => by
        obtain ⟨d, hd, rfl⟩ := List.mem_map.mp hl
        exact (hev d hd).l
      rw [List.length_map] at h
      unfold planT
      omega
    refine go_seq ?_
    refine ⟨_, rfl, _, _, .str _, (by decide +kernel : kitB "str" "str" = some true), _, rfl, iteF ?_⟩
    walk_at "nx"
    refine ⟨_, rfl, ⟨_, rfl⟩, planT ds, nlS, rfl, rfl, rfl, by omega, fun p np => ?_⟩
    rw [lines]
    have s1 := same_upd (o := .lst ((ds.map lineD ++ [Str.empty]).map V.str)) np
    have hp := upd_same (H := H) (a := p) (o := .lst ((ds.map lineD ++ [Str.empty]).map V.str))
    generalize upd H p (.lst ((ds.map lineD ++ [Str.empty]).map V.str)) = H1 at s1 hp ⊢
    walk_at "nx"
    refine ⟨fun σ' H' => ∃ D xs, σ' = [some (.str (planT ds)), some (.ref p), some (.ref D), none] ∧ Same H1 H' ∧ H D = none ∧ H' D = some (.lst xs) ∧ DpAll K H' xs ds, ?_, ?_⟩
    · refine ⟨_, rfl, _, rfl, _, rfl, p, _, rfl, SqL.of hp, fun g ng => ?_⟩
      have ec : cutV ((ds.map lineD ++ [Str.empty]).map V.str) none (some (-1)) = (ds.map lineD).map V.str := by
        rw [cut_last, List.map_append]
        exact List.dropLast_concat
      rw [ec]
      have sg := same_upd (o := .lst ((ds.map lineD).map V.str)) ng
      have hg := upd_same (H := H1) (a := g) (o := .lst ((ds.map lineD).map V.str))
      generalize upd H1 g (.lst ((ds.map lineD).map V.str)) = H2 at sg hg ⊢
      have hno : noLAll ds = true := by
        have := noLAll_map (f := id) (l := ds) fun d hd => (hev d hd).n
        rwa [List.map_id] at this
      refine ⟨g, rfl, ⟨_, SqL.of hg⟩, fun D hD => lc_list (K := K) (a := g) (xs := (ds.map lineD).map V.str) (DatI K H2 D ds) (DatI.zero hD) (fun i H' _ p => SqL.of (p.1 _ _ hg)) ?_ ?_⟩
      · rintro i v H4 hv p4
        rw [List.map_map, List.getElem?_map] at hv
        cases hdi : ds[i]? with
        | none => rw [hdi] at hv; cases hv
        | some d =>
          rw [hdi] at hv
          cases Option.some.inj hv
          have ok := hev d (List.mem_of_getElem? hdi)
          refine ⟨rfl, ⟨_, rfl, lineD d, d, rfl, by have := ok.l; omega, ok.r, ok.e, ok.t, ok.s, rfl, fun u H5 s5 hu => ?_⟩⟩
          exact DatI.step hD p4 hdi hno (by omega) s5 hu
      · intro H4 pm
        obtain ⟨s4, xs, hD4, hds⟩ := pm.all (by rw [List.length_map, List.length_map]; exact Nat.le_refl _)
        refine ⟨D, xs, rfl, sg.trans s4, ?_, hD4, hds⟩
        cases hz : H D with
        | none => rfl
        | some o => rw [sg _ _ (s1 _ _ hz)] at hD; cases hD
    rintro σ' H3 ⟨D, xs, rfl, s3, nD, hD3, hds⟩
    have hsh : SeqAt.shaped (.list ds) = true := (niceAll_of2 fun d hd => (hev d hd).ni).lst.shaped (by decide)
    refine ⟨_, rfl, .none, ds, .non, .lst (SqL.of hD3) hds, rfl, hsh, _, rfl, ?_⟩
    have ea : (ds.any fun z => PyData.eqv z .none) = false := List.any_eq_false.mpr fun d hd => by rw [ev_none (hev d hd).t]; decide
    rw [ea]
    have el : atI ((ds.map lineD ++ [Str.empty]).map V.str) (-1) = some (.str Str.empty) := by
      rw [List.map_append]
      exact atI_last _ _
    refine iteF ⟨_, rfl, _, rfl, p, _, _, _, rfl, rfl, SqL.of (s3 _ _ hp), el, rfl, _, rfl, str_ne (fun h => absurd rfl h) fun _ => ?_⟩
    exact ⟨_, rfl, q D xs H3 (s1.trans s3) nD hD3 hds⟩
end
end L2.L86

set_option maxHeartbeats 1000000
namespace L2.L86
open PySem PySem.Spec PyProof.Rows NumText LR L2.Lr L2.Tx TL SkE
local macro_rules | `(tactic| walk_at "rd") => `(tactic| simp only [tSeq, tAsg, gName, tIfS, tTest, tOp, tIf, tInt, rI, rI0, tVar, tC, tCB, tCons, tNil, tNext, tRet, tLst, rIxL, CPow, CMul, gSub, rSetL, rIxT,
  List.getElem?_cons_zero, List.getElem?_cons_succ, List.set_cons_zero, List.set_cons_succ, Option.some.injEq, V.int.injEq, V.ref.injEq, V.bl.injEq, V.str.injEq, List.cons.injEq, and_true, true_and, exists_and_left, exists_eq_left', exists_eq_left, exists_eq, decide_eq_true_eq, or_true, true_or, List.length_cons, List.length_nil, Nat.zero_add, Nat.reduceAdd])
local macro_rules | `(tactic| walk_at "so") => `(tactic| repeat (first | refine And.intro (by omega) ?_ | refine And.intro (by decide) ?_))
local macro_rules | `(tactic| walk_at "nx") => `(tactic| dsimp only [gName, tNext, tSeq, tAsg, List.set_cons_zero, List.set_cons_succ])
theorem scpo : FnScope ["_law_script", "_law_k", "_law_cell", "_law_seed"] ["_law_script", "_law_k"] (defScope sPool) := ⟨rfl, rfl, rfl, by decide +kernel, rfl, by decide +kernel, by decide +kernel⟩
theorem scta : FnScope ["_law_pool_here", "_law_many", "_law_found"] ["_law_pool_here", "_law_many"] (defScope sTake) := ⟨rfl, rfl, rfl, by decide +kernel, rfl, by decide +kernel, by decide +kernel⟩
def PoolAt (H : Hp) (p : Addr) : Prop := ∃ c s : Int, H p = some (.lst [.int c, .int s]) ∧ 0 ≤ c ∧ 0 ≤ s ∧ s < 2147483648
def Adv (p : Addr) (H H' : Hp) : Prop := ∀ b o, H b = some o → b ≠ p → H' b = some o
theorem Adv.refl {p : Addr} {H : Hp} : Adv p H H := fun _ _ h _ => h
theorem Adv.trans {p : Addr} {H H1 H2 : Hp} (a : Adv p H H1) (b : Adv p H1 H2) : Adv p H H2 := fun c o h n => b c o (a c o h n) n
theorem Adv.same {p : Addr} {H H1 H2 : Hp} (a : Adv p H H1) (b : Same H1 H2) : Adv p H H2 := fun c o h n => b c o (a c o h n)
theorem Same.adv {p : Addr} {H H1 H2 : Hp} (a : Same H H1) (b : Adv p H1 H2) : Adv p H H2 := fun c o h n => b c o (a c o h) n
theorem Adv.new {p : Addr} {H H1 : Hp} (n : H p = none) (a : Adv p H H1) : Same H H1 := fun c o h => a c o h (ne_of_none h n)
theorem PoolAt.same {H H' : Hp} {p : Addr} (h : PoolAt H p) (s : Same H H') : PoolAt H' p := by
  obtain ⟨c, s', hp, q⟩ := h
  exact ⟨c, s', s _ _ hp, q⟩
theorem Adv.gone {p t : Addr} {H H1 : Hp} (a : Adv p H H1) (hp : PoolAt H1 p) (n : H1 t = .none) : H t = .none := by
  cases e : H t with
  | none => rfl
  | some o =>
    obtain ⟨c, s, hq, _⟩ := hp
    by_cases h : t = p
    · rw [h, hq] at n
      cases n
    · rw [a t o e h] at n
      cases n
def spPool (K : PySem.W.Frag) : Sp := fun vs H Q _ => ∃ (a : Addr) (ns : List Int) (k : Int), vs = [.ref a, .int k] ∧ SqL K H a (ns.map V.int) ∧ ns.length ≤ 1000 ∧ 0 ≤ k ∧ k < 1000 ∧
  ∀ (p : Addr) (H' : Hp), H p = none → Same H H' → PoolAt H' p → Q (.ref p) H'
def spTake : Sp := fun vs H Q _ => ∃ (p : Addr) (m : Int), vs = [.ref p, .int m] ∧ PoolAt H p ∧ 0 < m ∧ m < 2 ^ 128 ∧
  ∀ (r : Int) (H' : Hp), 0 ≤ r → r < m → Adv p H H' → PoolAt H' p → Q (.int r) H'
section
variable {P : Program} {w : World} {K : PySem.W.Frag} {mg : Str → Option Value} {base : Heap}
theorem ol_pool {f : Addr} {fd : FuncData} (F : FnP K "_law_pool" sPool f fd) (T : Txt K mg) : FnOk P w K mg base CX0 1 f fd ["_law_script", "_law_k"] (spPool K) := by
  refine F.ok scpo (fun vs H Q E h => ?_) (fun cdv A outer s H vs Q E hr h => ?_)
  · obtain ⟨a, ns, k, rfl, _⟩ := h
    rfl
  · obtain ⟨a, ns, k, rfl, hS, hl, h0, h1, q⟩ := h
    refine ⟨_, pss_cons (ps_set (i := 2) scpo.nd rfl (Or.inl rfl) (pe_ifExp (pt_cmpR op_lt (pv 1) (pe_callB call_len (by rfl) T.p.len boot_len (pa_cons (pv 0) pa_nil)) (nomark _)) (pe_ix ix_list (pv 0) (pv 1) (fun _ _ => rfl)) pe_int))
      (pss_cons (ps_set (i := 3) scpo.nd rfl (Or.inl rfl) (pe_op op_mul (pe_toI T.p.int (pe_op op_add (pe_op op_add (pe_op op_mod (pe_toI T.p.int (pv 2) (by rfl)) pe_int) (pe_op op_mul (pe_op op_mul pe_int (pv 1)) (pv 1))) pe_int) (by rfl)) pe_int))
      (pss_one (ps_ret (pe_lst (pa_cons (pe_ifExp (pt_cmpR op_ge (pv 2) (pe_op op_pow pe_int pe_int) (nomark _)) (pv 2) pe_int) (pa_cons (pe_op op_add (pe_op op_mod (pe_toI T.p.int (pv 3) (by rfl)) pe_int) pe_int) pa_nil)))))), ?_⟩
    have e0 : start ["_law_script", "_law_k", "_law_cell", "_law_seed"] [V.ref a, V.int k] = [some (.ref a), some (.int k), none, none] := rfl
    rw [e0]
    have fin : ∀ (c x : Int) (p : Addr), 0 ≤ c → H p = none → Q (.ref p) (upd H p (.lst [.int c, .int (x % 2147483647 + 1)])) := fun c x p hc hp => q p _ hp (same_upd hp) ⟨c, _, upd_same, hc, by omega, by omega⟩
    walk_at "rd"
    have e2 : (10 : Int) ^ (Int.toNat 18) = 1000000000000000000 := by decide
    rw [e2]
    refine ⟨(ns.map V.int).length, Or.inl ⟨_, hS, rfl⟩, ?_⟩
    rw [List.length_map]
    split
    · rename_i hk
      obtain ⟨z, ez⟩ : ∃ z, ns[k.toNat]? = some z := ⟨_, List.getElem?_eq_getElem (by omega)⟩
      refine ⟨_, hS, .int z, ?_, z, rfl, ?_⟩
      · have e1 : k = (k.toNat : Int) := by omega
        rw [e1]
        exact atI_nat (by rw [List.getElem?_map, ez]; rfl)
      · walk_at "so"
        refine ⟨z, rfl, ?_⟩
        split
        · rename_i hz
          refine ⟨by decide, by show 2 ≤ sizeLine; decide, fun p hp => fin z _ p (by omega) hp⟩
        · exact ⟨by decide, by show 2 ≤ sizeLine; decide, fun p hp => fin 0 _ p (Int.le_refl 0) hp⟩
    · walk_at "so"
      exact fun p hp => fin 0 _ p (Int.le_refl 0) hp
theorem ol_take {f : Addr} {fd : FuncData} (F : FnP K "_law_take" sTake f fd) (T : Txt K mg) : FnOk P w K mg base CX0 1 f fd ["_law_pool_here", "_law_many"] spTake := by
  refine F.ok scta (fun vs H Q E h => ?_) (fun cdv A outer s H vs Q E hr h => ?_)
  · obtain ⟨a, m, rfl, _⟩ := h
    rfl
  · obtain ⟨p, m, rfl, ⟨c, s, hp, hc, hs0, hs1⟩, hm0, hm1, q⟩ := h
    refine ⟨_, pss_cons (ps_if (pt_cmpR op_gt (pe_ix ix_list (pv 0) pe_int (fun _ _ => rfl)) pe_int (nomark _))
        (pss_cons (ps_set (i := 2) scta.nd rfl (Or.inl rfl) (pe_op op_mod (pe_toI T.p.int (pe_ix ix_list (pv 0) pe_int (fun _ _ => rfl)) (by rfl)) (pv 1)))
        (pss_cons (ps_asg (pe_op op_fdivW (pe_ix ix_list (pv 0) pe_int (fun _ _ => rfl)) (pv 1)) (pg_sub (pv 0) pe_int set_list))
        (pss_one (ps_ret (pv 2))))) pss_nil)
      (pss_cons (ps_asg (pe_op op_mod (pe_toI T.p.int (pe_op op_add (pe_op op_mul (pe_ix ix_list (pv 0) pe_int (fun _ _ => rfl)) pe_int) pe_int) (by rfl)) pe_int) (pg_sub (pv 0) pe_int set_list))
      (pss_one (ps_ret (pe_op op_mod (pe_op op_fdiv (pe_op op_mod (pe_toI T.p.int (pe_op op_mul (pe_ix ix_list (pv 0) pe_int (fun _ _ => rfl)) (pe_ix ix_list (pv 0) pe_int (fun _ _ => rfl))) (by rfl)) pe_int) pe_int) (pv 1))))), ?_⟩
    have e0 : start ["_law_pool_here", "_law_many", "_law_found"] [V.ref p, V.int m] = [some (.ref p), some (.int m), none] := rfl
    rw [e0]
    have fin : ∀ (r c' s' : Int), 0 ≤ r → r < m → 0 ≤ c' → 0 ≤ s' → s' < 2147483648 → Q (.int r) (upd H p (.lst [.int c', .int s'])) := fun r c' s' h0 h1 hc' hs0' hs1' =>
      q r _ h0 h1 (fun b o e n => (upd_ne n).trans e) ⟨c', s', upd_same, hc', hs0', hs1'⟩
    walk_at "rd"
    refine ⟨_, SqL.of hp, _, rfl, c, rfl, ?_⟩
    split
    · refine ⟨_, SqL.of hp, _, rfl, c, rfl, hm0, _, SqL.of hp, _, rfl, c, rfl, wide_div (b := 128) hm0 (by omega) (by decide) (by decide), _, hp, 0, rfl, ?_⟩
      exact fin _ _ s (Int.emod_nonneg _ (by omega)) (Int.emod_lt_of_pos _ hm0) (Int.ediv_nonneg hc (by omega)) hs0 hs1
    · refine ⟨_, SqL.of hp, .int s, rfl, s, rfl, by omega, by decide, _, hp, 1, rfl, _, SqL.of upd_same, _, rfl, _, SqL.of upd_same, _, rfl, _, rfl, _, rfl, .inl (by omega), by decide, ⟨by decide, by decide⟩, hm0, ?_⟩
      exact fin _ c _ (Int.emod_nonneg _ (by omega)) (Int.emod_lt_of_pos _ hm0) hc (by omega) (by omega)
end
end L2.L86

set_option maxHeartbeats 1000000
namespace L2.L86
open PySem PySem.Spec PyProof.Rows NumText LR L2.Lr L2.Tx TL SkE
local macro_rules | `(tactic| walk_at "nx") => `(tactic| dsimp only [gName, tNext, tSeq, tAsg, List.set_cons_zero, List.set_cons_succ])
theorem scwo : FnScope ["_law_pool_here"] ["_law_pool_here"] (defScope sLWord) := ⟨rfl, rfl, rfl, by decide +kernel, rfl, by decide +kernel, by decide +kernel⟩
theorem scnu : FnScope ["_law_pool_here"] ["_law_pool_here"] (defScope sLNum) := ⟨rfl, rfl, rfl, by decide +kernel, rfl, by decide +kernel, by decide +kernel⟩
abbrev NRw : List Str := ["_law_pool_here", "_law_parts", "_law_found", "_law_turn"]
theorem scrw : FnScope NRw ["_law_pool_here"] (defScope sLRow) := ⟨rfl, rfl, rfl, by decide +kernel, rfl, by decide +kernel, by decide +kernel⟩
def n30 : Int := 10 ^ (Int.toNat 30)
theorem n30_eq : n30 = 10 ^ 30 := by decide +kernel
def names : List PyData := [.str "c", .str "ann", .str "undo", .str "none", .str "zzzzzzzz", .str "row", .str "n"]
def parts1 : List PyData := [.tuple [.str "send", .str "c", .int 1], .tuple [.str "take", .str "d", .int 3], .tuple [.str "work", .int 99], .tuple [.str "loop", .tuple [.int 2, .int (-3)], .tuple [.tuple [.str "work", .int 1], .tuple [.str "send", .str "e", .int 9]]]]
def parts2 : List PyData := [.tuple [.str "loop", .tuple [.int 0, .int n30], .tuple []], .tuple [.str "loop", .tuple [.int 1, .int 5], .tuple [.tuple [.str "loop", .tuple [.int 0, .int 0], .tuple [.tuple [.str "take", .str "d", .int 1]]]]]]
def partDs : List PyData := parts1 ++ parts2
def tails (ds : List PyData) : List (List PyData) := [[], [.tuple [.str "forever", .tuple ds]]]
theorem PoolAt.ne {H : Hp} {p l : Addr} (h : PoolAt H p) (n : H l = none) : l ≠ p := by
  obtain ⟨c, s, z, _⟩ := h
  intro e
  rw [e, z] at n
  cases n
theorem PoolAt.kt {H H' : Hp} {p : Addr} (h : PoolAt H p) (s : Adv p H H') : Kt H H' := fun b o e m => by
  obtain ⟨c, s', z, _⟩ := h
  exact s b o e fun y => by
    rw [y, z] at e
    exact m _ (Option.some.inj e).symm
theorem at_pick {K : PySem.W.Frag} {H : Hp} {xs : List V} {ds : List PyData} {i : Int} (h : DpAll K H xs ds) (h0 : 0 ≤ i) (h1 : i < ds.length) : ∃ v d, atI xs i = some v ∧ d ∈ ds ∧ Dp K H v d := by
  have hl := DpAll.length h
  obtain ⟨v, hv⟩ : ∃ v, xs[i.toNat]? = some v := ⟨_, List.getElem?_eq_getElem (by omega)⟩
  obtain ⟨d, hd, hdv⟩ := DpAll.at h hv
  refine ⟨v, d, ?_, List.mem_of_getElem? hd, hdv⟩
  have e : i = (i.toNat : Int) := by omega
  rw [e]
  exact atI_nat hv
/-- a list of another length is not the pool -/
theorem PoolAt.off {K : PySem.W.Frag} {H : Hp} {p l : Addr} {vs : List V} {ds : List PyData} (h : PoolAt H p) (hl : H l = some (.lst vs)) (hd : DpAll K H vs ds) (n : ds.length ≠ 2) : l ≠ p := fun z => by
  obtain ⟨c, s', y, _⟩ := h
  rw [z, y] at hl
  have := DpAll.length hd
  cases hl
  exact n this.symm
theorem noLAll_mem : ∀ {ds : List PyData} {d : PyData}, noLAll ds = true → d ∈ ds → noL d = true
  | d :: ds, e, h, m => by
    obtain ⟨h1, h2⟩ := Bool.and_eq_true_iff.mp (show (noL d && noLAll ds) = true from h)
    rcases List.mem_cons.mp m with rfl | m
    · exact h1
    · exact noLAll_mem h2 m
theorem noLAll_mk : ∀ {ds : List PyData}, (∀ d ∈ ds, noL d = true) → noLAll ds = true := fun {ds} h => by
  have := noLAll_map (f := id) (l := ds) h
  rwa [List.map_id] at this
theorem partDs_noL : noLAll partDs = true := by decide +kernel
/-- the rows drawn -/
def RowDrawn (ds : List PyData) : Prop := ∃ fs tl, fs.length ≤ 3 ∧ (∀ d ∈ fs, d ∈ partDs) ∧ tl ∈ tails fs ∧ ds = fs ++ tl
def spLWord (K : PySem.W.Frag) : Sp := fun vs H Q _ => ∃ p : Addr, vs = [.ref p] ∧ PoolAt H p ∧ ∀ (x : Str) H', Adv p H H' → PoolAt H' p → .str x ∈ names → Q (.str x) H'
def spLNum : Sp := fun vs H Q _ => ∃ p : Addr, vs = [.ref p] ∧ PoolAt H p ∧ ∀ (i : Int) H', Adv p H H' → PoolAt H' p → 0 ≤ i → i ≤ 10 ^ 30 → Q (.int i) H'
def spLRow (K : PySem.W.Frag) : Sp := fun vs H Q _ => ∃ p : Addr, vs = [.ref p] ∧ PoolAt H p ∧ ∀ v ds H', Adv p H H' → PoolAt H' p → Dp K H' v (.tuple ds) → RowDrawn ds → Q v H'
section
variable {P : Program} {w : World} {K : PySem.W.Frag} {mg : Str → Option Value} {base : Heap}
theorem ol_word {f fT : Addr} {fd dT : FuncData} (F : FnP K "_law_word" sLWord f fd) (N : Def P w K mg base CX0 1 "_law_take" fT dT ["_law_pool_here", "_law_many"] spTake) : FnOk P w K mg base CX0 2 f fd ["_law_pool_here"] (spLWord K) := by
  refine F.ok scwo (fun vs H Q E h => ?_) (fun cdv A outer s H vs Q E hr h => ?_)
  · obtain ⟨p, rfl, _⟩ := h
    rfl
  · obtain ⟨p, rfl, hp, q⟩ := h
    refine ⟨_, pss_one (ps_ret (pe_ix ix_list (pd_lstL (ds := names) (pd_cons pd_str (pd_cons pd_str (pd_cons pd_str (pd_cons pd_str (pd_cons pd_str (pd_cons pd_str (pd_cons pd_str pd_nil)))))))) (pe_call N.ok hr (by rfl) N.g N.k N.b .nil pass0 (pa_cons (pv 0) (pa_cons pe_int pa_nil))) (fun _ _ => rfl))), ?_⟩
    have e0 : start ["_law_pool_here"] [V.ref p] = [some (.ref p)] := rfl
    rw [e0]
    intro l vs H1 s1 hl hd
    have hp1 := hp.same s1
    have nl := hp1.off hl hd (by decide)
    refine ⟨_, rfl, p, 7, rfl, hp1, by decide, by decide, fun r H2 r0 r1 a2 hp2 => ?_⟩
    obtain ⟨v, d, hv, hm, hdv⟩ := at_pick (DpAll.kt (hp1.kt a2) hd (by decide +kernel)) r0 (show r < (names.length : Int) from r1)
    obtain ⟨x, rfl⟩ : ∃ x, d = .str x := by
      have := List.all_eq_true.mp (show (names.all fun d => match d with | .str _ => true | _ => false) = true by decide +kernel) d hm
      cases d with
      | str x => exact ⟨x, rfl⟩
      | _ => cases this
    cases strD hdv
    exact ⟨l, _, r, _, rfl, rfl, SqL.of (a2 _ _ hl nl), hv, q x H2 (Same.adv s1 a2) hp2 hm⟩
theorem ol_num {f fT : Addr} {fd dT : FuncData} (F : FnP K "_law_number" sLNum f fd) (N : Def P w K mg base CX0 1 "_law_take" fT dT ["_law_pool_here", "_law_many"] spTake) : FnOk P w K mg base CX0 2 f fd ["_law_pool_here"] spLNum := by
  refine F.ok scnu (fun vs H Q E h => ?_) (fun cdv A outer s H vs Q E hr h => ?_)
  · obtain ⟨p, rfl, _⟩ := h
    rfl
  · obtain ⟨p, rfl, hp, q⟩ := h
    refine ⟨_, pss_one (ps_ret (pe_ix ix_list (pe_lst (pa_cons (pe_call N.ok hr (by rfl) N.g N.k N.b .nil pass0 (pa_cons (pv 0) (pa_cons pe_int pa_nil))) (pa_cons (pe_call N.ok hr (by rfl) N.g N.k N.b .nil pass0 (pa_cons (pv 0) (pa_cons (pe_op op_add (pe_op op_pow pe_int pe_int) pe_int) pa_nil))) (pa_cons (pe_op op_pow pe_int pe_int) (pa_cons pe_int pa_nil))))) (pe_call N.ok hr (by rfl) N.g N.k N.b .nil pass0 (pa_cons (pv 0) (pa_cons pe_int pa_nil))) (fun _ _ => rfl))), ?_⟩
    have e0 : start ["_law_pool_here"] [V.ref p] = [some (.ref p)] := rfl
    rw [e0]
    have e30 : ((10 : Int) ^ (Int.toNat 30)) = 10 ^ 30 := by decide +kernel
    refine ⟨_, rfl, p, 12, rfl, hp, by decide, by decide, fun r1 H1 r10 r11 a1 hp1 => ?_⟩
    refine ⟨_, rfl, _, _, rfl, rfl, ⟨by decide, by decide, by decide⟩, _, _, rfl, rfl, p, _, rfl, hp1, by decide +kernel, by decide +kernel, fun r2 H2 r20 r21 a2 hp2 => ?_⟩
    refine ⟨_, _, rfl, rfl, ⟨by decide, by decide, by decide⟩, by show 4 ≤ sizeLine; decide, fun l nl => ?_⟩
    have s3 := same_upd (o := .lst [.int r1, .int r2, .int (10 ^ (Int.toNat 30)), .int 0]) nl
    have hL := upd_same (H := H2) (a := l) (o := .lst [.int r1, .int r2, .int (10 ^ (Int.toNat 30)), .int 0])
    have nep := hp2.ne nl
    have hp3 := hp2.same s3
    generalize upd H2 l (.lst [.int r1, .int r2, .int (10 ^ (Int.toNat 30)), .int 0]) = H3 at s3 hL hp3 ⊢
    refine ⟨_, rfl, p, 4, rfl, hp3, by decide, by decide, fun r H4 r40 r41 a4 hp4 => ?_⟩
    have a14 : Adv p H H4 := (a1.trans a2).trans (Same.adv s3 a4)
    have hL4 := a4 _ _ hL nep
    have i4 : r = 0 ∨ r = 1 ∨ r = 2 ∨ r = 3 := by omega
    rw [e30] at r21 hL4
    rcases i4 with rfl | rfl | rfl | rfl
    · exact ⟨l, _, 0, _, rfl, rfl, SqL.of hL4, at0, q r1 H4 a14 hp4 r10 (Int.le_trans (Int.le_of_lt r11) (by decide +kernel))⟩
    · exact ⟨l, _, 1, _, rfl, rfl, SqL.of hL4, at1, q r2 H4 a14 hp4 r20 (by omega)⟩
    · exact ⟨l, _, 2, _, rfl, rfl, SqL.of hL4, at2, q _ H4 a14 hp4 (by decide +kernel) (Int.le_refl _)⟩
    · exact ⟨l, _, 3, _, rfl, rfl, SqL.of hL4, atI_nat (j := 3) rfl, q 0 H4 a14 hp4 (Int.le_refl _) (by decide +kernel)⟩
end
end L2.L86

set_option maxHeartbeats 1000000
namespace L2.L86
open PySem PySem.Spec PyProof.Rows NumText LR L2.Lr L2.Tx TL SkE
local macro_rules | `(tactic| walk_at "nx") => `(tactic| dsimp only [gName, tNext, tSeq, tAsg, List.set_cons_zero, List.set_cons_succ])
section
variable {P : Program} {w : World} {K : PySem.W.Frag} {mg : Str → Option Value} {base : Heap}
theorem ol_row {f fT : Addr} {fd dT : FuncData} (F : FnP K "_law_row" sLRow f fd) (T : Txt K mg) (N : Def P w K mg base CX0 1 "_law_take" fT dT ["_law_pool_here", "_law_many"] spTake) : FnOk P w K mg base CX0 2 f fd ["_law_pool_here"] (spLRow K) := by
  refine F.ok scrw (fun vs H Q E h => ?_) (fun cdv A outer s H vs Q E hr h => ?_)
  · obtain ⟨p, rfl, _⟩ := h
    rfl
  · obtain ⟨p, rfl, hp, q⟩ := h
    have sz : sizeLine = 16777216 := sizeLine_eq
    refine ⟨_, PSs.nox (pss_cons (ps_set (i := 1) scrw.nd rfl (Or.inr rfl) (pd_lstL (ds := parts1) (pd_cons (pd_tup (pd_cons pd_str (pd_cons pd_str (pd_cons pd_int pd_nil)))) (pd_cons (pd_tup (pd_cons pd_str (pd_cons pd_str (pd_cons pd_int pd_nil)))) (pd_cons (pd_tup (pd_cons pd_str (pd_cons pd_int pd_nil))) (pd_cons (pd_tup (pd_cons pd_str (pd_cons (pd_tup (pd_cons pd_int (pd_cons pd_neg pd_nil))) (pd_cons (pd_tup (pd_cons (pd_tup (pd_cons pd_str (pd_cons pd_int pd_nil))) (pd_cons (pd_tup (pd_cons pd_str (pd_cons pd_str (pd_cons pd_int pd_nil)))) pd_nil))) pd_nil)))) pd_nil))))))
      (pss_cons (ps_set (i := 1) scrw.nd rfl (Or.inr rfl) (pe_op op_cat (pv 1) (pd_lstL (ds := parts2) (pd_cons (pd_tup (pd_cons pd_str (pd_cons (pd_tup (pd_cons pd_int (pd_cons (pd_ofI (i := n30) (pe_op op_pow pe_int pe_int) (fun _ _ _ q => ⟨_, _, rfl, rfl, ⟨by decide, by decide, by decide⟩, q⟩)) pd_nil))) (pd_cons (pd_tup pd_nil) pd_nil)))) (pd_cons (pd_tup (pd_cons pd_str (pd_cons (pd_tup (pd_cons pd_int (pd_cons pd_int pd_nil))) (pd_cons (pd_tup (pd_cons (pd_tup (pd_cons pd_str (pd_cons (pd_tup (pd_cons pd_int (pd_cons pd_int pd_nil))) (pd_cons (pd_tup (pd_cons (pd_tup (pd_cons pd_str (pd_cons pd_str (pd_cons pd_int pd_nil)))) pd_nil)) pd_nil)))) pd_nil)) pd_nil)))) pd_nil)))))
      (C8.pss_cut (ps_set (i := 2) scrw.nd rfl (Or.inl rfl) (pe_callTy call_tuple_of (by rfl) T.p.tuple bbT (pa_cons (pe_lc (own := [("_law_turn", 3)]) (g := gName 3) (tt := tYes) rfl scrw.nd (pi_range1 (by rfl) T.range (pa_cons (pe_call N.ok hr (by rfl) N.g N.k N.b .nil pass0 (pa_cons (pv 0) (pa_cons pe_int pa_nil))) pa_nil)) (blkOk_by (N := NRw) (sc := defScope sLRow) (by decide +kernel)) (fun _ _ _ _ _ => pg_name (i := 3) scrw.nd rfl (Or.inl rfl)) (fun _ _ _ _ _ => pts_nil)
          (fun _ _ _ _ _ => pe_ix (r := rIxL K) (by exact ix_list) (pv 1) (pe_call N.ok hr (by rfl) N.g N.k N.b .nil pass0 (pa_cons (pv 0) (pa_cons pe_int pa_nil))) (fun _ _ => rfl))) pa_nil)))
      (pss_one (ps_ret (pe_op op_catA (pv 2) (pe_ix ix_list (pe_lst (pa_cons (pe_tup pa_nil) (pa_cons (pe_tup (pa_cons (pe_tup (pa_cons pe_str (pa_cons (pv 2) pa_nil))) pa_nil)) pa_nil))) (pe_call N.ok hr (by rfl) N.g N.k N.b .nil pass0 (pa_cons (pv 0) (pa_cons pe_int pa_nil))) (fun _ _ => rfl)))))))), ?_⟩
    have e0 : start NRw [V.ref p] = [some (.ref p), none, none, none] := rfl
    rw [e0]
    refine go_seq (go_asg ?_)
    intro l1 vs1 H1 s1 hl1 hd1
    walk_at "nx"
    refine ⟨_, rfl, ?_⟩
    intro l2 vs2 H2 s2 hl2 hd2
    refine ⟨_, _, _, _, rfl, rfl, s2 _ _ hl1, hl2, ?_, fun l nl => ?_⟩
    · rw [DpAll.length hd1, DpAll.length hd2]
      decide
    have s3 := same_upd (o := .lst (vs1 ++ vs2)) nl
    have hL := upd_same (H := H2) (a := l) (o := .lst (vs1 ++ vs2))
    have hD3 : DpAll K (upd H2 l (.lst (vs1 ++ vs2))) (vs1 ++ vs2) partDs := DpAll.append (DpAll.same (s2.trans s3) hd1) (DpAll.same s3 hd2)
    generalize upd H2 l (.lst (vs1 ++ vs2)) = H3 at s3 hL hD3 ⊢
    have hp3 := hp.same (s1.trans (s2.trans s3))
    have npl : l ≠ p := hp3.off hL hD3 (by decide)
    have a03 : Adv p H H3 := Adv.refl.same (s1.trans (s2.trans s3))
    walk_at "nx"
    refine ⟨fun σ' H' => ∃ t xs fs, σ' = [some (.ref p), some (.ref l), some (.ref t), none] ∧ Adv p H H' ∧ PoolAt H' p ∧ SqT K H' t xs ∧ DpAll K H' xs fs ∧ fs.length ≤ 3 ∧ ∀ d ∈ fs, d ∈ partDs, ?_, ?_⟩
    · refine ⟨_, rfl, p, 4, rfl, hp3, by decide, by decide, fun r H4 r0 r1 a4 hp4 => ?_⟩
      refine ⟨_, rfl, by omega, by omega, fun De hD => ?_⟩
      have nDe := hp4.ne hD
      have hL4 := a4 _ _ hL npl
      have hD4 := DpAll.kt (hp3.kt a4) hD3 partDs_noL
      refine lc_range (lo := 0) (n := r.toNat) (fun i H' => ∃ vs ds, Adv p H4 H' ∧ PoolAt H' p ∧ H' De = some (.lst vs) ∧ DpAll K H' vs ds ∧ ds.length = i ∧ ∀ x ∈ ds, x ∈ partDs) ⟨[], [], Adv.refl.same (same_upd hD), hp4.same (same_upd hD), upd_same, .nil, rfl, fun x hx => by cases hx⟩ ?_ ?_
      · rintro i H' hi ⟨vs, ds, ad, po, hDe, hds, hln, hall⟩
        have hno : noLAll ds = true := noLAll_mk fun d hd => noLAll_mem partDs_noL (hall d hd)
        refine ⟨rfl, ⟨_, rfl, _, rfl, p, 6, rfl, po, by decide, by decide, fun x H5 x0 x1 a5 po5 => ?_⟩⟩
        have hL5 := a5 _ _ (ad _ _ hL4 npl) npl
        have hD5 := DpAll.kt (po.kt a5) (DpAll.kt (hp4.kt ad) hD4 partDs_noL) partDs_noL
        obtain ⟨v, d, hv, hm, hdv⟩ := at_pick hD5 x0 (show x < (partDs.length : Int) from x1)
        refine ⟨l, _, x, v, rfl, rfl, SqL.of hL5, hv, ?_⟩
        have h5 := a5 _ _ hDe nDe
        have hkt := Kt.upd (o := .lst (vs ++ [v])) h5
        have hlv := DpAll.length hds
        refine ⟨_, h5, by omega, vs ++ [v], ds ++ [d], ?_, ?_, upd_same, ?_, by rw [List.length_append, hln]; rfl, ?_⟩
        · exact fun b o hb' nb => (upd_ne (ne_of_none hb' hD)).trans (a5 _ _ (ad b o hb' nb) nb)
        · obtain ⟨c', s', z, z2⟩ := po5
          exact ⟨c', s', (upd_ne nDe.symm).trans z, z2⟩
        · exact DpAll.append (DpAll.kt hkt (DpAll.kt (po.kt a5) hds hno) hno) (.cons (Dp.kt hkt hdv (noLAll_mem partDs_noL hm)) .nil)
        · intro y hy
          rcases List.mem_append.mp hy with m | m
          · exact hall y m
          · rw [List.mem_singleton.mp m]
            exact hm
      · rintro H' ⟨vs, ds, ad, po, hDe, hds, hln, hall⟩
        refine ⟨De, vs, rfl, .inl ⟨SqL.of hDe, fun t nt => ?_⟩⟩
        have st := same_upd (o := .tup vs) nt
        exact ⟨t, vs, ds, rfl, ((a03.trans a4).trans ad).same st, po.same st, SqT.of upd_same, DpAll.same st hds, by omega, hall⟩
    rintro σ' H5 ⟨t, xs, fs, rfl, a5, hp5, hS, hfs, hlf, hall⟩
    have hlx := DpAll.length hfs
    refine ⟨_, rfl, by show 0 ≤ sizeLine; omega, fun t0 nt0 => ?_⟩
    have b0 := same_upd (o := .tup []) nt0
    have h0 : SqT K (upd H5 t0 (.tup [])) t0 [] := SqT.of upd_same
    generalize upd H5 t0 (.tup []) = H6 at b0 h0 ⊢
    refine ⟨_, rfl, by show 2 ≤ sizeLine; omega, fun t1 nt1 => ?_⟩
    have b1 := same_upd (o := .tup [.str "forever", .ref t]) nt1
    have h1 : SqT K (upd H6 t1 (.tup [.str "forever", .ref t])) t1 [.str "forever", .ref t] := SqT.of upd_same
    generalize upd H6 t1 (.tup [.str "forever", .ref t]) = H7 at b1 h1 ⊢
    refine ⟨by show 1 ≤ sizeLine; omega, fun t2 nt2 => ?_⟩
    have b2 := same_upd (o := .tup [.ref t1]) nt2
    have h2 : SqT K (upd H7 t2 (.tup [.ref t1])) t2 [.ref t1] := SqT.of upd_same
    generalize upd H7 t2 (.tup [.ref t1]) = H8 at b2 h2 ⊢
    refine ⟨by show 2 ≤ sizeLine; omega, fun lx nlx => ?_⟩
    have b3 := same_upd (o := .lst [.ref t0, .ref t2]) nlx
    have hX := upd_same (H := H8) (a := lx) (o := .lst [.ref t0, .ref t2])
    have b58 := b0.trans (b1.trans b2)
    have nep := (hp5.same b58).ne nlx
    have hp9 := hp5.same (b58.trans b3)
    generalize upd H8 lx (.lst [.ref t0, .ref t2]) = H9 at b3 hX hp9 ⊢
    refine ⟨_, rfl, p, 2, rfl, hp9, by decide, by decide, fun r Ha r0 r1 aa hpa => ?_⟩
    have kt := hp9.kt aa
    have hXa := aa _ _ hX nep
    have a9 : Adv p H Ha := (a5.same (b58.trans b3)).trans aa
    have hSa := kt.seqT (seqT (b58.trans b3) hS)
    have h0a := kt.seqT (seqT (b1.trans (b2.trans b3)) h0)
    have h1a := kt.seqT (seqT (b2.trans b3) h1)
    have h2a := kt.seqT (seqT b3 h2)
    have hno : noLAll fs = true := noLAll_mk fun d hd => noLAll_mem partDs_noL (hall d hd)
    have hfa := DpAll.kt kt (DpAll.same (b58.trans b3) hfs) hno
    have df : Dp K Ha (.ref t) (.tuple fs) := .tup hSa hfa
    have d2 : DpAll K Ha [.ref t1] [.tuple [.str "forever", .tuple fs]] := .cons (.tup h1a (.cons (.str _) (.cons df .nil))) .nil
    have fin : ∀ v ds, RowDrawn ds → Dp K Ha v (.tuple ds) → Q v Ha := fun v ds hr hd => q v ds Ha a9 hpa hd hr
    have i2 : r = 0 ∨ r = 1 := by omega
    rcases i2 with rfl | rfl
    · refine ⟨lx, _, 0, _, rfl, rfl, SqL.of hXa, at0, ?_⟩
      refine ⟨t, t0, xs, [], rfl, rfl, hSa, h0a, by simp only [List.length_nil]; omega, fun e => ?_, fun _ _ => ?_, fun _ e => absurd rfl e⟩
      · subst e
        have : fs = [] := List.eq_nil_of_length_eq_zero (by rw [← hlx]; rfl)
        subst this
        exact fin _ [] ⟨[], [], by decide, (fun d hd => by cases hd), .head _, rfl⟩ (.tup h0a .nil)
      · exact fin _ fs ⟨fs, [], hlf, hall, .head _, (List.append_nil _).symm⟩ df
    · refine ⟨lx, _, 1, _, rfl, rfl, SqL.of hXa, at1, ?_⟩
      have rd : RowDrawn (fs ++ [.tuple [.str "forever", .tuple fs]]) := ⟨fs, _, hlf, hall, .tail _ (.head _), rfl⟩
      refine ⟨t, t2, xs, _, rfl, rfl, hSa, h2a, by simp only [List.length_cons, List.length_nil]; omega, fun e => ?_, (fun _ e => by cases e), fun _ _ tv ntv => ?_⟩
      · subst e
        have : fs = [] := List.eq_nil_of_length_eq_zero (by rw [← hlx]; rfl)
        subst this
        exact fin _ _ rd (.tup h2a d2)
      · have st := same_upd (o := .tup (xs ++ [.ref t1])) ntv
        exact q _ _ _ (a9.same st) (hpa.same st) (.tup (SqT.of upd_same) (DpAll.same st (DpAll.append hfa d2))) rd
end
end L2.L86

set_option maxHeartbeats 1000000
namespace L2.L86
open PySem PySem.Spec PyProof.Rows NumText LR L2.Lr L2.Tx TL SkE
local macro_rules | `(tactic| walk_at "nx") => `(tactic| dsimp only [gName, tNext, tSeq, tAsg, List.set_cons_zero, List.set_cons_succ])
theorem scfa : FnScope [] [] (defScope sFar) := ⟨rfl, rfl, rfl, by decide +kernel, rfl, by decide +kernel, by decide +kernel⟩
abbrev NCh : List Str := ["_law_pool_here", "_law_way", "_law_name"]
theorem sclc : FnScope NCh ["_law_pool_here"] (defScope sLChange) := ⟨rfl, rfl, rfl, by decide +kernel, rfl, by decide +kernel, by decide +kernel⟩
abbrev NEv : List Str := ["_law_pool_here", "_law_way"]
theorem scle : FnScope NEv ["_law_pool_here"] (defScope sLEvent) := ⟨rfl, rfl, rfl, by decide +kernel, rfl, by decide +kernel, by decide +kernel⟩
def joins : List PyData := [.tuple [.str "c", .str "d"], .tuple [.str "d", .str "c", .str "e"], .tuple [.str "none", .str "undo"]]
inductive Chg : PyData → Prop where
  | row {n : Str} {ds : List PyData} (hn : .str n ∈ names) (h : RowDrawn ds) : Chg (.tuple [.str "row", .str n, .tuple ds])
  | first {n : Str} {k : Int} (hn : .str n ∈ names) (h0 : 0 ≤ k) (h1 : k < 100) : Chg (.tuple [.str "first", .str n, .int k])
  | join {n : Str} {j : PyData} (hn : .str n ∈ names) (h : j ∈ joins) : Chg (.tuple [.str "join", .str n, j])
  | part {n : Str} (hn : .str n ∈ names) : Chg (.tuple [.str "part", .str n])
  | relay {n a b : Str} (hn : .str n ∈ names) (ha : .str a ∈ names) (hb : .str b ∈ names) : Chg (.tuple [.str "relay", .str n, .str a, .str b])
  | kill {n : Str} {i : Int} (hn : .str n ∈ names) (h0 : 0 ≤ i) (h1 : i ≤ 10 ^ 30) : Chg (.tuple [.str "kill", .str n, .int i, .int 7])
inductive Evt : PyData → Prop where
  | undo : Evt (.tuple [.str "undo"])
  | num {i : Int} (h0 : 0 ≤ i) (h1 : i ≤ 10 ^ 30) : Evt (.tuple [.str "n", .int i])
  | room {n : Str} {d : PyData} (hn : .str n ∈ names) (h : d = .none ∨ d = .int (10 ^ 200) ∨ ∃ i : Int, d = .int i ∧ 0 ≤ i ∧ i ≤ 10 ^ 30) : Evt (.tuple [.str "room", .str n, d])
  | change {c : PyData} (h : Chg c) : Evt (.tuple [.str "change", c])
def spFar : Sp := fun vs H Q _ => vs = [] ∧ Q (.int (10 ^ 200)) H
def spLCh (K : PySem.W.Frag) : Sp := fun vs H Q _ => ∃ p : Addr, vs = [.ref p] ∧ PoolAt H p ∧ ∀ v d H', Adv p H H' → PoolAt H' p → Dp K H' v d → Chg d → Q v H'
def spLEv (K : PySem.W.Frag) : Sp := fun vs H Q _ => ∃ p : Addr, vs = [.ref p] ∧ PoolAt H p ∧ ∀ v d H', Adv p H H' → PoolAt H' p → Dp K H' v d → Evt d → Q v H'
section
variable {P : Program} {w : World} {K : PySem.W.Frag} {mg : Str → Option Value} {base : Heap}
theorem ol_far {f : Addr} {fd : FuncData} (F : FnP K "_law_far" sFar f fd) : FnOk P w K mg base CX0 1 f fd [] spFar := by
  refine F.ok scfa (fun vs H Q E h => ?_) (fun cdv A outer s H vs Q E hr h => ?_)
  · obtain ⟨rfl, _⟩ := h
    rfl
  · obtain ⟨rfl, q⟩ := h
    refine ⟨_, pss_one (ps_ret (pe_op op_mulW (pe_op op_mulW (pe_op op_mulW (pe_op op_pow pe_int pe_int) (pe_op op_pow pe_int pe_int)) (pe_op op_pow pe_int pe_int)) (pe_op op_pow pe_int pe_int))), ?_⟩
    have e0 : start [] ([] : List V) = [] := rfl
    rw [e0]
    have q : Q (.int ((10 ^ (Int.toNat 50)) * (10 ^ (Int.toNat 50)) * (10 ^ (Int.toNat 50)) * (10 ^ (Int.toNat 50)))) H := by
      rw [show (((10 : Int) ^ (Int.toNat 50)) * (10 ^ (Int.toNat 50)) * (10 ^ (Int.toNat 50)) * (10 ^ (Int.toNat 50))) = 10 ^ 200 by decide +kernel]
      exact q
    exact ⟨_, _, rfl, rfl, ⟨by decide, by decide, by decide⟩, _, _, rfl, rfl, ⟨by decide, by decide, by decide⟩, _, _, rfl, rfl, (show CMulW _ _ by unfold CMulW; decide +kernel), _, _, rfl, rfl, ⟨by decide, by decide, by decide⟩, _, _, rfl, rfl, (show CMulW _ _ by unfold CMulW; decide +kernel), _, _, rfl, rfl, ⟨by decide, by decide, by decide⟩, _, _, rfl, rfl, (show CMulW _ _ by unfold CMulW; decide +kernel), q⟩
theorem ol_change {f fT fW fN fR : Addr} {fd dT dW dN dR : FuncData} (F : FnP K "_law_change" sLChange f fd) (N : Def P w K mg base CX0 1 "_law_take" fT dT ["_law_pool_here", "_law_many"] spTake) (Wd : Def P w K mg base CX0 2 "_law_word" fW dW ["_law_pool_here"] (spLWord K))
    (Nu : Def P w K mg base CX0 2 "_law_number" fN dN ["_law_pool_here"] spLNum) (Rw : Def P w K mg base CX0 2 "_law_row" fR dR ["_law_pool_here"] (spLRow K)) : FnOk P w K mg base CX0 3 f fd ["_law_pool_here"] (spLCh K) := by
  refine F.ok sclc (fun vs H Q E h => ?_) (fun cdv A outer s H vs Q E hr h => ?_)
  · obtain ⟨p, rfl, _⟩ := h
    rfl
  · obtain ⟨p, rfl, hp, q⟩ := h
    have hr1 : Room 1 _ := hr.mono (by decide)
    have sz : sizeLine = 16777216 := sizeLine_eq
    refine ⟨_, PSs.nox (pss_cons (ps_par (i := 1) (j := 2) (by rfl) sclc.nd rfl rfl (by decide) rfl rfl (pa_cons (pe_call N.ok hr1 (by rfl) N.g N.k N.b .nil pass0 (pa_cons (pv 0) (pa_cons pe_int pa_nil))) (pa_cons (pe_call Wd.ok hr (by rfl) Wd.g Wd.k Wd.b .nil pass0 (pa_cons (pv 0) pa_nil)) pa_nil)) rfl)
      (pss_cons (ps_if (pt_cmpR op_eq (pv 1) pe_int (nomark _)) (pss_one (ps_ret (pe_tup (pa_cons pe_str (pa_cons (pv 2) (pa_cons (pe_call Rw.ok hr (by rfl) Rw.g Rw.k Rw.b .nil pass0 (pa_cons (pv 0) pa_nil)) pa_nil)))))) pss_nil)
      (pss_cons (ps_if (pt_cmpR op_eq (pv 1) pe_int (nomark _)) (pss_one (ps_ret (pe_tup (pa_cons pe_str (pa_cons (pv 2) (pa_cons (pe_call N.ok hr1 (by rfl) N.g N.k N.b .nil pass0 (pa_cons (pv 0) (pa_cons pe_int pa_nil))) pa_nil)))))) pss_nil)
      (pss_cons (ps_if (pt_cmpR op_eq (pv 1) pe_int (nomark _)) (pss_one (ps_ret (pe_tup (pa_cons pe_str (pa_cons (pv 2) (pa_cons (pe_ix ix_list (pd_lstL (ds := joins) (pd_cons (pd_tup (pd_cons pd_str (pd_cons pd_str pd_nil))) (pd_cons (pd_tup (pd_cons pd_str (pd_cons pd_str (pd_cons pd_str pd_nil)))) (pd_cons (pd_tup (pd_cons pd_str (pd_cons pd_str pd_nil))) pd_nil)))) (pe_call N.ok hr1 (by rfl) N.g N.k N.b .nil pass0 (pa_cons (pv 0) (pa_cons pe_int pa_nil))) (fun _ _ => rfl)) pa_nil)))))) pss_nil)
      (pss_cons (ps_if (pt_cmpR op_eq (pv 1) pe_int (nomark _)) (pss_one (ps_ret (pe_tup (pa_cons pe_str (pa_cons (pv 2) pa_nil))))) pss_nil)
      (pss_one (ps_ret (pe_ifExp (pt_cmpR op_eq (pv 1) pe_int (nomark _)) (pe_tup (pa_cons pe_str (pa_cons (pv 2) (pa_cons (pe_call Wd.ok hr (by rfl) Wd.g Wd.k Wd.b .nil pass0 (pa_cons (pv 0) pa_nil)) (pa_cons (pe_call Wd.ok hr (by rfl) Wd.g Wd.k Wd.b .nil pass0 (pa_cons (pv 0) pa_nil)) pa_nil))))) (pe_tup (pa_cons pe_str (pa_cons (pv 2) (pa_cons (pe_call Nu.ok hr (by rfl) Nu.g Nu.k Nu.b .nil pass0 (pa_cons (pv 0) pa_nil)) (pa_cons pe_int pa_nil)))))))))))))  , ?_⟩
    have e0 : start NCh [V.ref p] = [some (.ref p), none, none] := rfl
    rw [e0]
    refine go_seq ?_
    refine ⟨_, rfl, p, 6, rfl, hp, by decide, by decide, fun y H1 y0 y1 a1 hp1 => ?_⟩
    refine ⟨_, rfl, p, rfl, hp1, fun n H2 a2 hp2 hn => ⟨_, _, rfl, ?_⟩⟩
    have a02 := a1.trans a2
    walk_at "nx"
    refine ⟨_, rfl, rfl, _, rfl, int_if (fun h => ?_) fun h0 => ?_⟩
    · refine ⟨_, rfl, _, rfl, p, rfl, hp2, fun v ds H3 a3 hp3 hd hr => ⟨by show 3 ≤ sizeLine; omega, fun t nt => ?_⟩⟩
      have st := same_upd (o := .tup [.str "row", .str n, v]) nt
      exact q _ _ _ ((a02.trans a3).same st) (hp3.same st) (.tup (SqT.of upd_same) (.cons (.str _) (.cons (.str _) (.cons (Dp.same st hd) .nil)))) (.row hn hr)
    walk_at "nx"
    refine ⟨_, rfl, rfl, _, rfl, int_if (fun h => ?_) fun h1 => ?_⟩
    · refine ⟨_, rfl, _, rfl, p, 100, rfl, hp2, by decide, by decide, fun k H3 k0 k1 a3 hp3 => ⟨by show 3 ≤ sizeLine; omega, fun t nt => ?_⟩⟩
      have st := same_upd (o := .tup [.str "first", .str n, .int k]) nt
      exact q _ _ _ ((a02.trans a3).same st) (hp3.same st) (.tup (SqT.of upd_same) (.cons (.str _) (.cons (.str _) (.cons (.int _) .nil)))) (.first hn k0 k1)
    walk_at "nx"
    refine ⟨_, rfl, rfl, _, rfl, int_if (fun h => ?_) fun h2 => ?_⟩
    · refine ⟨_, rfl, ?_⟩
      intro l vs H3 s3 hl hd
      have hp3 := hp2.same s3
      have nl := hp3.off hl hd (by decide)
      refine ⟨_, rfl, p, 3, rfl, hp3, by decide, by decide, fun r H4 r0 r1 a4 hp4 => ?_⟩
      obtain ⟨v, j, hv, hm, hj⟩ := at_pick (DpAll.kt (hp3.kt a4) hd (by decide +kernel)) r0 (show r < (joins.length : Int) from r1)
      refine ⟨l, _, r, v, rfl, rfl, SqL.of (a4 _ _ hl nl), hv, by show 3 ≤ sizeLine; omega, fun t nt => ?_⟩
      have st := same_upd (o := .tup [.str "join", .str n, v]) nt
      exact q _ _ _ (((a02.same s3).trans a4).same st) (hp4.same st) (.tup (SqT.of upd_same) (.cons (.str _) (.cons (.str _) (.cons (Dp.same st hj) .nil)))) (.join hn hm)
    walk_at "nx"
    refine ⟨_, rfl, rfl, _, rfl, int_if (fun h => ?_) fun h3 => ?_⟩
    · refine ⟨_, rfl, by show 2 ≤ sizeLine; omega, fun t nt => ?_⟩
      have st := same_upd (o := .tup [.str "part", .str n]) nt
      exact q _ _ _ (a02.same st) (hp2.same st) (.tup (SqT.of upd_same) (.cons (.str _) (.cons (.str _) .nil))) (.part hn)
    walk_at "nx"
    refine ⟨_, rfl, rfl, _, rfl, int_if (fun h => ?_) fun h4 => ?_⟩
    · refine ⟨_, rfl, _, rfl, p, rfl, hp2, fun a H3 a3 hp3 ha => ⟨_, rfl, p, rfl, hp3, fun b H4 a4 hp4 hb => ⟨by show 4 ≤ sizeLine; omega, fun t nt => ?_⟩⟩⟩
      have st := same_upd (o := .tup [.str "relay", .str n, .str a, .str b]) nt
      exact q _ _ _ (((a02.trans a3).trans a4).same st) (hp4.same st) (.tup (SqT.of upd_same) (.cons (.str _) (.cons (.str _) (.cons (.str _) (.cons (.str _) .nil))))) (.relay hn ha hb)
    · refine ⟨_, rfl, _, rfl, p, rfl, hp2, fun i H3 a3 hp3 i0 i1 => ⟨by show 4 ≤ sizeLine; omega, fun t nt => ?_⟩⟩
      have st := same_upd (o := .tup [.str "kill", .str n, .int i, .int 7]) nt
      exact q _ _ _ ((a02.trans a3).same st) (hp3.same st) (.tup (SqT.of upd_same) (.cons (.str _) (.cons (.str _) (.cons (.int _) (.cons (.int _) .nil))))) (.kill hn i0 i1)
theorem ol_event {f fT fW fN fC fF : Addr} {fd dT dW dN dC dF : FuncData} (F : FnP K "_law_event" sLEvent f fd) (N : Def P w K mg base CX0 1 "_law_take" fT dT ["_law_pool_here", "_law_many"] spTake) (Wd : Def P w K mg base CX0 2 "_law_word" fW dW ["_law_pool_here"] (spLWord K))
    (Nu : Def P w K mg base CX0 2 "_law_number" fN dN ["_law_pool_here"] spLNum) (Ch : Def P w K mg base CX0 3 "_law_change" fC dC ["_law_pool_here"] (spLCh K)) (Fr : Def P w K mg base CX0 1 "_law_far" fF dF [] spFar) : FnOk P w K mg base CX0 4 f fd ["_law_pool_here"] (spLEv K) := by
  refine F.ok scle (fun vs H Q E h => ?_) (fun cdv A outer s H vs Q E hr h => ?_)
  · obtain ⟨p, rfl, _⟩ := h
    rfl
  · obtain ⟨p, rfl, hp, q⟩ := h
    have hr1 : Room 1 _ := hr.mono (by decide)
    have hr2 : Room 2 _ := hr.mono (by decide)
    have sz : sizeLine = 16777216 := sizeLine_eq
    refine ⟨_, PSs.nox (pss_cons (ps_set (i := 1) scle.nd rfl (Or.inl rfl) (pe_call N.ok hr1 (by rfl) N.g N.k N.b .nil pass0 (pa_cons (pv 0) (pa_cons pe_int pa_nil))))
      (pss_cons (ps_if (pt_cmpR op_eq (pv 1) pe_int (nomark _)) (pss_one (ps_ret (pe_tup (pa_cons pe_str pa_nil)))) pss_nil)
      (pss_cons (ps_if (pt_cmpR op_eq (pv 1) pe_int (nomark _)) (pss_one (ps_ret (pe_tup (pa_cons pe_str (pa_cons (pe_call Nu.ok hr2 (by rfl) Nu.g Nu.k Nu.b .nil pass0 (pa_cons (pv 0) pa_nil)) pa_nil))))) pss_nil)
      (pss_cons (ps_if (pt_cmpR op_eq (pv 1) pe_int (nomark _)) (pss_one (ps_ret (pe_tup (pa_cons pe_str (pa_cons (pe_call Wd.ok hr2 (by rfl) Wd.g Wd.k Wd.b .nil pass0 (pa_cons (pv 0) pa_nil)) (pa_cons (pe_ix ix_list (pe_lst (pa_cons pe_non (pa_cons (pe_call Nu.ok hr2 (by rfl) Nu.g Nu.k Nu.b .nil pass0 (pa_cons (pv 0) pa_nil)) (pa_cons (pe_call0 Fr.ok hr1 (by rfl) Fr.g Fr.k Fr.b .nil pass0) pa_nil)))) (pe_call N.ok hr1 (by rfl) N.g N.k N.b .nil pass0 (pa_cons (pv 0) (pa_cons pe_int pa_nil))) (fun _ _ => rfl)) pa_nil)))))) pss_nil)
      (pss_one (ps_ret (pe_tup (pa_cons pe_str (pa_cons (pe_call Ch.ok hr (by rfl) Ch.g Ch.k Ch.b .nil pass0 (pa_cons (pv 0) pa_nil)) pa_nil)))))))))  , ?_⟩
    have e0 : start NEv [V.ref p] = [some (.ref p), none] := rfl
    rw [e0]
    refine go_seq (go_asg ?_)
    refine ⟨_, rfl, p, 6, rfl, hp, by decide, by decide, fun y H1 y0 y1 a1 hp1 => ?_⟩
    walk_at "nx"
    refine ⟨_, rfl, rfl, _, rfl, int_if (fun h => ?_) fun h0 => ?_⟩
    · refine ⟨by show 1 ≤ sizeLine; omega, fun t nt => ?_⟩
      have st := same_upd (o := .tup [.str "undo"]) nt
      exact q _ _ _ (a1.same st) (hp1.same st) (.tup (SqT.of upd_same) (.cons (.str _) .nil)) .undo
    walk_at "nx"
    refine ⟨_, rfl, rfl, _, rfl, int_if (fun h => ?_) fun h1 => ?_⟩
    · refine ⟨_, rfl, p, rfl, hp1, fun i H2 a2 hp2 i0 i1 => ⟨by show 2 ≤ sizeLine; omega, fun t nt => ?_⟩⟩
      have st := same_upd (o := .tup [.str "n", .int i]) nt
      exact q _ _ _ ((a1.trans a2).same st) (hp2.same st) (.tup (SqT.of upd_same) (.cons (.str _) (.cons (.int _) .nil))) (.num i0 i1)
    walk_at "nx"
    refine ⟨_, rfl, rfl, _, rfl, int_if (fun h => ?_) fun h2 => ?_⟩
    · refine ⟨_, rfl, p, rfl, hp1, fun n H2 a2 hp2 hn => ⟨_, rfl, p, rfl, hp2, fun i H3 a3 hp3 i0 i1 => ?_⟩⟩
      refine ⟨rfl, by show 3 ≤ sizeLine; omega, fun l nl => ?_⟩
      have s4 := same_upd (o := .lst [.non, .int i, .int (10 ^ 200)]) nl
      have hL := upd_same (H := H3) (a := l) (o := .lst [.non, .int i, .int (10 ^ 200)])
      have nep := hp3.ne nl
      have hp4 := hp3.same s4
      generalize upd H3 l (.lst [.non, .int i, .int (10 ^ 200)]) = H4 at s4 hL hp4 ⊢
      refine ⟨_, rfl, p, 3, rfl, hp4, by decide, by decide, fun r H5 r0 r1 a5 hp5 => ?_⟩
      have a15 : Adv p H H5 := (((a1.trans a2).trans a3).same s4).trans a5
      have hL5 := a5 _ _ hL nep
      have i3 : r = 0 ∨ r = 1 ∨ r = 2 := by omega
      have fin : ∀ (u : V) (d : PyData), (∀ H', Dp K H' u d) → (d = .none ∨ d = .int (10 ^ 200) ∨ ∃ i : Int, d = .int i ∧ 0 ≤ i ∧ i ≤ 10 ^ 30) → ∀ t, H5 t = none → Q (.ref t) (upd H5 t (.tup [.str "room", .str n, u])) := fun u d hu hd t nt => by
        have st := same_upd (o := .tup [.str "room", .str n, u]) nt
        exact q _ _ _ (a15.same st) (hp5.same st) (.tup (SqT.of upd_same) (.cons (.str _) (.cons (.str _) (.cons (hu _) .nil)))) (.room hn hd)
      rcases i3 with rfl | rfl | rfl
      · exact ⟨l, _, 0, _, rfl, rfl, SqL.of hL5, at0, by show 3 ≤ sizeLine; omega, fin .non .none (fun _ => .non) (.inl rfl)⟩
      · exact ⟨l, _, 1, _, rfl, rfl, SqL.of hL5, at1, by show 3 ≤ sizeLine; omega, fin (.int i) (.int i) (fun _ => .int i) (.inr (.inr ⟨i, rfl, i0, i1⟩))⟩
      · exact ⟨l, _, 2, _, rfl, rfl, SqL.of hL5, at2, by show 3 ≤ sizeLine; omega, fin (.int (10 ^ 200)) (.int (10 ^ 200)) (fun _ => .int _) (.inr (.inl rfl))⟩
    walk_at "nx"
    refine ⟨_, rfl, p, rfl, hp1, fun v c H2 a2 hp2 hd hc => ⟨by show 2 ≤ sizeLine; omega, fun t nt => ?_⟩⟩
    have st := same_upd (o := .tup [.str "change", v]) nt
    exact q _ _ _ ((a1.trans a2).same st) (hp2.same st) (.tup (SqT.of upd_same) (.cons (.str _) (.cons (Dp.same st hd) .nil))) (.change hc)
end
end L2.L86

set_option maxHeartbeats 1000000
namespace L2.L86
open PySem PySem.Spec PyProof.Rows NumText LR L2.Lr L2.Tx TL SkE
mutual
def eqDt : PyData → PyData → Bool
  | .none, .none => true
  | .bool a, .bool b => decide (a = b)
  | .int a, .int b => decide (a = b)
  | .str a, .str b => decide (a = b)
  | .tuple a, .tuple b => eqDs a b
  | _, _ => false
def eqDs : List PyData → List PyData → Bool
  | [], [] => true
  | a :: as, b :: bs => eqDt a b && eqDs as bs
  | _, _ => false
end
mutual
theorem eqDt_ok : ∀ {a b : PyData}, eqDt a b = true → a = b
  | .none, b, h => by cases b <;> first | rfl | cases h
  | .bool a, b, h => by cases b <;> first | (rw [of_decide_eq_true h]) | cases h
  | .int a, b, h => by cases b <;> first | (rw [of_decide_eq_true h]) | cases h
  | .str a, b, h => by cases b <;> first | (rw [of_decide_eq_true h]) | cases h
  | .tuple a, b, h => by
    cases b with
    | tuple b =>
      unfold eqDt at h
      rw [eqDs_ok h]
    | _ => cases h
  | .list a, b, h => by cases b <;> cases h
  | .dict a, b, h => by cases b <;> cases h
theorem eqDs_ok : ∀ {a b : List PyData}, eqDs a b = true → a = b
  | [], b, h => by
    cases b with
    | nil => rfl
    | cons _ _ => unfold eqDs at h; cases h
  | a :: as, b, h => by
    cases b with
    | nil => unfold eqDs at h; cases h
    | cons b bs =>
      unfold eqDs at h
      obtain ⟨h1, h2⟩ := Bool.and_eq_true_iff.mp h
      rw [eqDt_ok h1, eqDs_ok h2]
end
mutual
def sOkB : PyData → Bool
  | .str x => decide (x.length ≤ 1000) && PyData.strOk x
  | .tuple ds => decide (ds.length ≤ 1000) && sOkAllB ds
  | _ => true
def sOkAllB : List PyData → Bool
  | [] => true
  | d :: ds => sOkB d && sOkAllB ds
end
mutual
theorem sOkB_ok : ∀ {d : PyData}, sOkB d = true → sOk d
  | .str x, h => by
    unfold sOkB at h
    obtain ⟨h1, h2⟩ := Bool.and_eq_true_iff.mp h
    unfold sOk
    exact ⟨Nat.le_trans (of_decide_eq_true h1) (by rw [sizeLine_eq]; decide), h2⟩
  | .tuple ds, h => by
    unfold sOkB at h
    obtain ⟨h1, h2⟩ := Bool.and_eq_true_iff.mp h
    unfold sOk
    exact ⟨Nat.le_trans (of_decide_eq_true h1) (by rw [sizeLine_eq]; decide), sOkAllB_ok h2⟩
  | .none, _ => by unfold sOk; trivial
  | .bool _, _ => by unfold sOk; trivial
  | .int _, _ => by unfold sOk; trivial
  | .list _, _ => by unfold sOk; trivial
  | .dict _, _ => by unfold sOk; trivial
theorem sOkAllB_ok : ∀ {ds : List PyData}, sOkAllB ds = true → sOkAll ds
  | [], _ => by unfold sOkAll; trivial
  | d :: ds, h => by
    unfold sOkAllB at h
    obtain ⟨h1, h2⟩ := Bool.and_eq_true_iff.mp h
    unfold sOkAll
    exact ⟨sOkB_ok h1, sOkAllB_ok h2⟩
end
def lists : Nat → List (List PyData)
  | 0 => [[]]
  | n + 1 => partDs.flatMap fun d => (lists n).map fun l => d :: l
theorem in_lists : ∀ {fs : List PyData}, (∀ d ∈ fs, d ∈ partDs) → fs ∈ lists fs.length
  | [], _ => .head _
  | d :: fs, h => by
    show d :: fs ∈ partDs.flatMap fun d => (lists fs.length).map fun l => d :: l
    exact List.mem_flatMap.mpr ⟨d, h d (List.mem_cons_self ..), List.mem_map.mpr ⟨fs, in_lists fun x hx => h x (List.mem_cons_of_mem _ hx), rfl⟩⟩
/-! ### what is read of joined parts -/
/-- behind l the brackets are so deep; none where a ; stands outside of brackets -/
def bal : List Nat → Int → Option Int
  | [], d => some d
  | c :: r, d => if c = 40 then bal r (d + 1) else if c = 41 then bal r (d - 1) else if c = 59 ∧ d = 0 then none else bal r d
theorem pcG_scan (T : Str) (r : List Nat) (st : Nat) : ∀ (l : List Nat) (i : Nat) (d e : Int), bal l d = some e → pcG T (l ++ r) i d st = pcG T r (i + l.length) e st
  | [], i, d, e, h => by
    cases h
    rfl
  | c :: l, i, d, e, h => by
    unfold bal at h
    have ei : i + (c :: l).length = i + 1 + l.length := by rw [List.length_cons]; omega
    rw [ei]
    show pcG T (c :: (l ++ r)) i d st = _
    conv => lhs; unfold pcG
    by_cases h1 : c = 40
    · rw [if_pos h1] at h ⊢
      exact pcG_scan T r st l _ _ _ h
    · rw [if_neg h1] at h ⊢
      by_cases h2 : c = 41
      · rw [if_pos h2] at h ⊢
        exact pcG_scan T r st l _ _ _ h
      · rw [if_neg h2] at h ⊢
        by_cases h3 : c = 59 ∧ d = 0
        · rw [if_pos h3] at h
          cases h
        · rw [if_neg h3] at h ⊢
          exact pcG_scan T r st l _ _ _ h
theorem pcG_join (T : Str) : ∀ (ps : List Str) (p : Str) (A : List Nat), (∀ x ∈ p :: ps, bal (tl x) 0 = some 0) → tl T = A ++ joinL [59, 32] ((p :: ps).map tl) → pcG T (joinL [59, 32] ((p :: ps).map tl)) A.length 0 A.length = p :: ps
  | [], p, A, hb, hT => by
    have e : joinL [59, 32] ([p].map tl) = tl p ++ [] := (List.append_nil _).symm
    rw [e, pcG_scan T [] _ (tl p) _ 0 0 (hb p (List.mem_cons_self ..))]
    show [cutS T (some ((A.length : Nat) : Int)) none] = [p]
    have : cutS T (some ((A.length : Nat) : Int)) none = p := tl_inj (by
      rw [tl_from, hT, List.drop_left]
      rfl)
    rw [this]
  | q :: ps, p, A, hb, hT => by
    have e : joinL [59, 32] ((p :: q :: ps).map tl) = tl p ++ (59 :: 32 :: joinL [59, 32] ((q :: ps).map tl)) := rfl
    rw [e] at hT ⊢
    rw [pcG_scan T _ _ (tl p) _ 0 0 (hb p (List.mem_cons_self ..))]
    have c1 : cutS T (some ((A.length : Nat) : Int)) (some ((A.length + (tl p).length : Nat) : Int)) = p := tl_inj (by
      rw [tl_cut, HT.sIx_nat, HT.sIx_nat, len_tl, hT]
      simp only [List.length_append, List.length_cons]
      rw [Nat.min_eq_left (by omega), Nat.min_eq_left (by omega), List.drop_left, show A.length + (tl p).length - A.length = (tl p).length by omega]
      exact List.take_left)
    have step : pcG T (59 :: 32 :: joinL [59, 32] ((q :: ps).map tl)) (A.length + (tl p).length) 0 A.length = p :: pcG T (joinL [59, 32] ((q :: ps).map tl)) (A.length + (tl p).length + 2) 0 (A.length + (tl p).length + 2) := by
      conv => lhs; unfold pcG
      rw [if_neg (by decide), if_neg (by decide), if_pos ⟨rfl, rfl⟩, c1]
      congr 1
    rw [step]
    have ih := pcG_join T ps q (A ++ (tl p ++ [59, 32])) (fun x hx => hb x (List.mem_cons_of_mem _ hx)) (by rw [hT]; simp only [List.append_assoc, List.cons_append, List.nil_append])
    have el : (A ++ (tl p ++ [59, 32])).length = A.length + (tl p).length + 2 := by simp only [List.length_append, List.length_cons, List.length_nil]; omega
    rw [el] at ih
    rw [ih]
theorem pcs_join {ps : List Str} (hb : ∀ x ∈ ps, bal (tl x) 0 = some 0) (hne : ∀ x ∈ ps, tl x ≠ []) : pcs (PySem.Txt.join scS ps) = ps := by
  have e : tl (PySem.Txt.join scS ps) = joinL [59, 32] (ps.map tl) := by rw [join_eq, tl_join]; rfl
  cases ps with
  | nil => exact if_pos (tl_inj (by rw [e]; rfl))
  | cons p ps =>
    have ne : PySem.Txt.join scS (p :: ps) ≠ Str.empty := fun z => by
      rw [z] at e
      have h0 : joinL [59, 32] ((p :: ps).map tl) = [] := e.symm
      cases ps with
      | nil => exact hne p (List.mem_cons_self ..) h0
      | cons q ps =>
        have h1 : tl p ++ (59 :: 32 :: joinL [59, 32] ((q :: ps).map tl)) = [] := h0
        simp at h1
    unfold pcs
    rw [if_neg ne, e]
    exact pcG_join _ ps p [] hb (by rw [e]; rfl)
def partB (n : Nat) (d : PyData) : Bool := decide (bal (tl (txF (txM n) d)) 0 = some 0) && (decide (tl (txF (txM n) d) ≠ []) && (eqDt (prt (prs n) (txF (txM n) d)) d && (tl (txF (txM n) d)).all fun c => decide (c ≠ 10)))
theorem partB4 : (partDs.all (partB 4)) = true := by decide +kernel
theorem partB3 : (partDs.all (partB 3)) = true := by decide +kernel
theorem partB_ok {n : Nat} {d : PyData} (h : partB n d = true) : bal (tl (txF (txM n) d)) 0 = some 0 ∧ tl (txF (txM n) d) ≠ [] ∧ prt (prs n) (txF (txM n) d) = d ∧ 10 ∉ tl (txF (txM n) d) := by
  obtain ⟨h1, h⟩ := Bool.and_eq_true_iff.mp h
  obtain ⟨h2, h⟩ := Bool.and_eq_true_iff.mp h
  obtain ⟨h3, h4⟩ := Bool.and_eq_true_iff.mp h
  exact ⟨of_decide_eq_true h1, of_decide_eq_true h2, eqDt_ok h3, fun m => of_decide_eq_true (List.all_eq_true.mp h4 10 m) rfl⟩
/-- the parts are read as they are -/
def PartOk (n : Nat) (d : PyData) : Prop := bal (tl (txF (txM n) d)) 0 = some 0 ∧ tl (txF (txM n) d) ≠ [] ∧ prt (prs n) (txF (txM n) d) = d ∧ 10 ∉ tl (txF (txM n) d)
theorem parts_ok {n : Nat} {ds : List PyData} (h : ∀ d ∈ ds, PartOk n d) : prs (n + 1) (txM (n + 1) ds) = .tuple ds ∧ 10 ∉ tl (txM (n + 1) ds) := by
  have hp : pcs (txM (n + 1) ds) = ds.map (txF (txM n)) := pcs_join (fun x hx => by obtain ⟨d, hd, rfl⟩ := List.mem_map.mp hx; exact (h d hd).1) fun x hx => by obtain ⟨d, hd, rfl⟩ := List.mem_map.mp hx; exact (h d hd).2.1
  refine ⟨?_, fun m => ?_⟩
  · show PyData.tuple ((pcs (txM (n + 1) ds)).map (prt (prs n))) = _
    rw [hp, List.map_map]
    congr 1
    conv => rhs; rw [← List.map_id ds]
    exact List.map_congr_left fun d hd => (h d hd).2.2.1
  · have e : tl (txM (n + 1) ds) = joinL [59, 32] ((ds.map (txF (txM n))).map tl) := by
      show tl (PySem.Txt.join scS (ds.map (txF (txM n)))) = _
      rw [join_eq, tl_join]
      rfl
    rw [e] at m
    rcases joinL_mem m with m | ⟨x, hx, m⟩
    · revert m; decide
    · obtain ⟨y, hy, rfl⟩ := List.mem_map.mp hx
      obtain ⟨d, hd, rfl⟩ := List.mem_map.mp hy
      exact (h d hd).2.2.2 m
theorem bal_app : ∀ (l r : List Nat) (d e : Int), bal l d = some e → bal (l ++ r) d = bal r e
  | [], r, d, e, h => by cases h; rfl
  | c :: l, r, d, e, h => by
    unfold bal at h
    show bal (c :: (l ++ r)) d = _
    conv => lhs; unfold bal
    by_cases h1 : c = 40
    · rw [if_pos h1] at h ⊢; exact bal_app l r _ _ h
    · rw [if_neg h1] at h ⊢
      by_cases h2 : c = 41
      · rw [if_pos h2] at h ⊢; exact bal_app l r _ _ h
      · rw [if_neg h2] at h ⊢
        by_cases h3 : c = 59 ∧ d = 0
        · rw [if_pos h3] at h; cases h
        · rw [if_neg h3] at h ⊢; exact bal_app l r _ _ h
theorem bal_join : ∀ (ps : List (List Nat)), (∀ p ∈ ps, bal p 1 = some 1) → bal (joinL [59, 32] ps) 1 = some 1
  | [], _ => rfl
  | [p], h => h p (List.mem_cons_self ..)
  | p :: q :: ps, h => by
    show bal (p ++ (59 :: 32 :: joinL [59, 32] (q :: ps))) 1 = some 1
    rw [bal_app p _ 1 1 (h p (List.mem_cons_self ..))]
    have ih := bal_join (q :: ps) fun x hx => h x (List.mem_cons_of_mem _ hx)
    conv => lhs; unfold bal
    rw [if_neg (by decide), if_neg (by decide), if_neg (by decide)]
    conv => lhs; unfold bal
    rw [if_neg (by decide), if_neg (by decide), if_neg (by decide)]
    exact ih
theorem part_in : (partDs.all fun d => decide (bal (tl (txF (txM 3) d)) 1 = some 1)) = true := by decide +kernel
theorem ever_ok {fs : List PyData} (h : ∀ d ∈ fs, d ∈ partDs) : PartOk 4 (.tuple [.str "forever", .tuple fs]) := by
  have h3 : ∀ d ∈ fs, PartOk 3 d := fun d hd => partB_ok (List.all_eq_true.mp partB3 d (h d hd))
  obtain ⟨hp, hn⟩ := parts_ok h3
  have et : txF (txM 4) (.tuple [.str "forever", .tuple fs]) = ("forever" : Str) ++ opS ++ (txM 4 fs ++ clS) := by
    show ("forever (" : Str) ++ txM 4 fs ++ clS = _
    rw [app_assoc]
    rfl
  have ei : tl (txM 4 fs) = joinL [59, 32] ((fs.map (txF (txM 3))).map tl) := by
    show tl (PySem.Txt.join scS (fs.map (txF (txM 3)))) = _
    rw [join_eq, tl_join]
    rfl
  have tt : tl (("forever" : Str) ++ opS ++ (txM 4 fs ++ clS)) = tl ("forever (" : Str) ++ (tl (txM 4 fs) ++ [41]) := by
    rw [tl_append, tl_append, tl_append]
    rfl
  unfold PartOk
  rw [et, tt]
  refine ⟨?_, ?_, ?_, ?_⟩
  · rw [bal_app _ _ 0 1 (by decide +kernel), bal_app _ _ 1 1]
    · decide +kernel
    · rw [ei]
      refine bal_join _ fun x hx => ?_
      obtain ⟨y, hy, rfl⟩ := List.mem_map.mp hx
      obtain ⟨d, hd, rfl⟩ := List.mem_map.mp hy
      exact of_decide_eq_true (List.all_eq_true.mp part_in d (h d hd))
  · intro z
    have := congrArg List.length z
    rw [List.length_append] at this
    exact absurd this (by show ¬ 9 + _ = 0; omega)
  · have pa : PySem.Txt.partition (("forever" : Str) ++ opS ++ (txM 4 fs ++ clS)) opS = (("forever" : Str), opS, txM 4 fs ++ clS) := partition_app (y := opS) (s := 32) (S := [40]) rfl (by decide +kernel)
    unfold prt
    rw [pa]
    rw [if_neg (show ¬ opS = Str.empty from fun z => by cases congrArg tl z), if_pos rfl]
    have ec : cutS (txM 4 fs ++ clS) none (some (-1)) = txM 4 fs := tl_inj (by
      rw [tl_cut, HT.sIx_none, List.drop_zero, Nat.sub_zero, tl_append]
      have : HT.sIx (txM 4 fs ++ clS).length (txM 4 fs ++ clS).length (some (-1)) = (tl (txM 4 fs)).length := by
        show (if (-1 : Int) < 0 then ((-1 : Int) + ((txM 4 fs ++ clS).length : Int)).toNat else min (-1 : Int).toNat (txM 4 fs ++ clS).length) = _
        rw [if_pos (by decide), len_app, ← len_tl]
        show ((-1 : Int) + (((txM 4 fs).length + 1 : Nat) : Int)).toNat = _
        omega
      rw [this]
      exact List.take_left)
    show PyData.tuple [.str "forever", prs 4 (cutS (txM 4 fs ++ clS) none (some (-1)))] = _
    rw [ec, hp]
  · intro m
    rcases List.mem_append.mp m with m | m
    · revert m; decide +kernel
    · rcases List.mem_append.mp m with m | m
      · exact hn m
      · revert m; decide
/-- the other facts of the rows drawn -/
def rowB (ds : List PyData) : Bool := aprD (.tuple ds) && (sOkB (.tuple ds) && (noL (.tuple ds) && (fine2 (.tuple ds) && (decide ((PyData.tuple ds).weight ≤ 2000) && decide ((PyData.tuple ds).depth ≤ 8)))))
def rowsB (n : Nat) : Bool := (lists n).all fun fs => (tails fs).all fun t => rowB (fs ++ t)
theorem rows0 : rowsB 0 = true := by decide +kernel
theorem rows1 : rowsB 1 = true := by decide +kernel
theorem rows2 : rowsB 2 = true := by decide +kernel
theorem rows3 : rowsB 3 = true := by decide +kernel
theorem rowB_of {ds : List PyData} (h : RowDrawn ds) : rowB ds = true := by
  obtain ⟨fs, t, hl, hf, ht, rfl⟩ := h
  have hi := in_lists hf
  have all : rowsB fs.length = true := by
    have : fs.length = 0 ∨ fs.length = 1 ∨ fs.length = 2 ∨ fs.length = 3 := by omega
    rcases this with e | e | e | e <;> rw [e]
    · exact rows0
    · exact rows1
    · exact rows2
    · exact rows3
  exact List.all_eq_true.mp (List.all_eq_true.mp all fs hi) t ht
/-- what is known of a drawn row -/
theorem row_drawn {ds : List PyData} (h : RowDrawn ds) : POk (txM 5 ds) ds ∧ noL (.tuple ds) = true ∧ Nice2 2000 8 (.tuple ds) ∧ 10 ∉ tl (txM 5 ds) := by
  have hb := rowB_of h
  obtain ⟨b1, hb⟩ := Bool.and_eq_true_iff.mp hb
  obtain ⟨b2, hb⟩ := Bool.and_eq_true_iff.mp hb
  obtain ⟨b3, hb⟩ := Bool.and_eq_true_iff.mp hb
  obtain ⟨b4, hb⟩ := Bool.and_eq_true_iff.mp hb
  obtain ⟨b5, b6⟩ := Bool.and_eq_true_iff.mp hb
  have so := sOkB_ok b2
  have ok := row_ok so b1
  have h4 : ∀ d ∈ ds, PartOk 4 d := by
    obtain ⟨fs, t, hl, hf, ht, rfl⟩ := h
    intro d hd
    rcases List.mem_append.mp hd with m | m
    · exact partB_ok (List.all_eq_true.mp partB4 d (hf d m))
    · cases ht with
      | head => cases m
      | tail _ ht =>
        cases ht with
        | head =>
          rw [List.mem_singleton.mp m]
          exact ever_ok hf
        | tail _ ht => cases ht
  obtain ⟨hp, hn⟩ := parts_ok h4
  exact ⟨⟨(txM_len (n := 4) (by decide) ok.h).1, hp, b1, so, rfl⟩, b3, ⟨b4, of_decide_eq_true b5, of_decide_eq_true b6⟩, hn⟩
end L2.L86

set_option maxHeartbeats 1000000
namespace L2.L86
open PySem PySem.Spec PyProof.Rows NumText LR L2.Lr L2.Tx TL SkE
/-! ### the events drawn are told and read back -/
def shCB (d : PyData) : Bool := sOkB d && (match d with
  | .tuple ds => ds.all fun e => match e with
    | .tuple es => decide (es.length ≤ 1000)
    | _ => true
  | _ => true)
def shEB (d : PyData) : Bool := sOkB d && (match d with
  | .tuple ds => ds.all shCB
  | _ => true)
theorem shCB_ok {d : PyData} (h : shCB d = true) : ShC d := by
  obtain ⟨h1, h2⟩ := Bool.and_eq_true_iff.mp h
  refine ⟨sOkB_ok h1, fun ds e x hx es ex => ?_⟩
  subst e
  have := List.all_eq_true.mp (show (ds.all _) = true from h2) x hx
  subst ex
  exact of_decide_eq_true this
theorem shEB_ok {d : PyData} (h : shEB d = true) : ShE d := by
  obtain ⟨h1, h2⟩ := Bool.and_eq_true_iff.mp h
  refine ⟨sOkB_ok h1, fun ds e x hx => ?_⟩
  subst e
  exact shCB_ok (List.all_eq_true.mp (show (ds.all _) = true from h2) x hx)
def evB (d : PyData) : Bool := toldB d && (shEB d && (decide ((PySem.Txt.split (lineD d) spS).headD Str.empty ≠ "row") && (eqDt (evD (PySem.Txt.split (lineD d) spS) (lineD d)) d && (noL d && ((tl (lineD d)).all (fun c => decide (c ≠ 10)) && (decide ((lineD d).length ≤ 12000) && (fine2 d && (decide (d.weight ≤ 6000) && decide (d.depth ≤ 10)))))))))
theorem evB_ok {d : PyData} (h : evB d = true) : EvOk d := by
  obtain ⟨b1, h⟩ := Bool.and_eq_true_iff.mp h
  obtain ⟨b2, h⟩ := Bool.and_eq_true_iff.mp h
  obtain ⟨b3, h⟩ := Bool.and_eq_true_iff.mp h
  obtain ⟨b4, h⟩ := Bool.and_eq_true_iff.mp h
  obtain ⟨b5, h⟩ := Bool.and_eq_true_iff.mp h
  obtain ⟨b6, h⟩ := Bool.and_eq_true_iff.mp h
  obtain ⟨b7, h⟩ := Bool.and_eq_true_iff.mp h
  obtain ⟨b8, h⟩ := Bool.and_eq_true_iff.mp h
  obtain ⟨b9, b10⟩ := Bool.and_eq_true_iff.mp h
  exact ⟨b1, shEB_ok b2, fun z => absurd z (of_decide_eq_true b3), eqDt_ok b4, b5, fun m => of_decide_eq_true (List.all_eq_true.mp b6 10 m) rfl, of_decide_eq_true b7, b8, of_decide_eq_true b9, of_decide_eq_true b10⟩
theorem ev_undo : EvOk (.tuple [.str "undo"]) := evB_ok (by decide +kernel)
theorem parts_ev : (names.all fun n => evB (.tuple [.str "change", .tuple [.str "part", n]])) = true := by decide +kernel
theorem joins_ev : (names.all fun n => joins.all fun j => evB (.tuple [.str "change", .tuple [.str "join", n, j]])) = true := by decide +kernel
theorem rooms_ev : (names.all fun n => evB (.tuple [.str "room", n, .none])) = true := by decide +kernel
end L2.L86

set_option maxHeartbeats 1000000
namespace L2.L86
open PySem PySem.Spec PyProof.Rows NumText LR L2.Lr L2.Tx TL SkE
/-- what is known of a drawn name -/
def nameB (d : PyData) : Bool := wordD d && (sOkB d && (noL d && (fine2 d && (decide (d.weight ≤ 20) && (decide (d.depth = 0) && match d with
  | .str x => decide (32 ∉ tl x) && decide (10 ∉ tl x)
  | _ => false)))))
theorem names_ok : names.all nameB = true := by decide +kernel
structure NameOk (n : Str) : Prop where
  w : wordD (.str n) = true
  s : sOkB (.str n) = true
  ni : Nice2 20 0 (.str n)
  sp : 32 ∉ tl n
  nl : 10 ∉ tl n
theorem name_ok {n : Str} (h : .str n ∈ names) : NameOk n := by
  have hb := List.all_eq_true.mp names_ok _ h
  obtain ⟨b1, hb⟩ := Bool.and_eq_true_iff.mp hb
  obtain ⟨b2, hb⟩ := Bool.and_eq_true_iff.mp hb
  obtain ⟨b3, hb⟩ := Bool.and_eq_true_iff.mp hb
  obtain ⟨b4, hb⟩ := Bool.and_eq_true_iff.mp hb
  obtain ⟨b5, hb⟩ := Bool.and_eq_true_iff.mp hb
  obtain ⟨b6, hb⟩ := Bool.and_eq_true_iff.mp hb
  obtain ⟨b7, b8⟩ := Bool.and_eq_true_iff.mp (show (decide (32 ∉ tl n) && decide (10 ∉ tl n)) = true from hb)
  exact ⟨b1, b2, ⟨b4, of_decide_eq_true b5, by rw [of_decide_eq_true b6]; exact Nat.le_refl _⟩, of_decide_eq_true b7, of_decide_eq_true b8⟩
theorem fig_num2 {n m : Nat} (h : n ≤ 10 ^ 30) (hm : 31 ≤ m) : figO (numL n) m = some n := by
  have ok : numOk (numL n) = true := numOk_iff.mpr ⟨n, h, rfl⟩
  obtain ⟨h1, h2⟩ := Bool.and_eq_true_iff.mp ok
  obtain ⟨h3, h4⟩ := Bool.and_eq_true_iff.mp h1
  obtain ⟨h5, h6⟩ := Bool.and_eq_true_iff.mp h4
  obtain ⟨h7, _⟩ := Bool.and_eq_true_iff.mp h2
  have l := of_decide_eq_true h5
  have l1 : 1 ≤ (numL n).length := by
    cases e : numL n with
    | nil => exact absurd e (numL_ne n)
    | cons c r => simp
  unfold figO
  rw [decide_eq_true l1, decide_eq_true (show (numL n).length ≤ m by omega), h6, h7, numL_val]
  rfl
theorem tl_nat2 {i : Int} (h : 0 ≤ i) : tl (intT i) = numL i.natAbs := by
  rw [tl_int]
  unfold sgnL
  rw [if_neg (by omega)]
theorem fig_int2 {i : Int} {m : Nat} (h : 0 ≤ i) (h1 : i ≤ 10 ^ 30) (hm : 31 ≤ m) : optD (figO (tl (intT i)) m) = .int i := by
  rw [tl_nat2 h, fig_num2 (by omega) hm]
  show PyData.int (i.natAbs : Int) = .int i
  rw [Int.natAbs_of_nonneg h]
theorem int_free {i : Int} (h : 0 ≤ i) : 32 ∉ tl (intT i) ∧ 10 ∉ tl (intT i) := by
  rw [tl_nat2 h]
  exact ⟨fun m => by have := numL_digits _ _ m; omega, fun m => by have := numL_digits _ _ m; omega⟩
theorem word_fr {w : Str} (h : ((tl w).all fun c => decide (c ≠ 32) && decide (c ≠ 10)) = true) : 32 ∉ tl w ∧ 10 ∉ tl w := by
  refine ⟨fun m => ?_, fun m => ?_⟩ <;> have z := List.all_eq_true.mp h _ m <;> simp at z
/-- a line of words -/
theorem ln_words {ws : List Str} (hne : ws ≠ []) (h : ∀ x ∈ ws, 32 ∉ tl x ∧ 10 ∉ tl x) : PySem.Txt.split (PySem.Txt.join spS ws) spS = ws ∧ 10 ∉ tl (PySem.Txt.join spS ws) := by
  refine ⟨split_join (s := 32) (S := []) rfl (by decide +kernel) hne fun x hx => (h x hx).1, fun m => ?_⟩
  have e : tl (PySem.Txt.join spS ws) = joinL [32] (ws.map tl) := by rw [join_eq, tl_join]; rfl
  rw [e] at m
  rcases joinL_mem m with m | ⟨y, hy, m⟩
  · revert m; decide
  · obtain ⟨x, hx, rfl⟩ := List.mem_map.mp hy
    exact (h x hx).2 m
theorem ln_len {ws : List Str} (h : ∀ x ∈ ws, x.length ≤ 202) (hl : ws.length ≤ 10) : (PySem.Txt.join spS ws).length ≤ 12000 := by
  have h1 := join_le spS ws
  have h2 := sum_le (m := 202) (l := ws.map (·.length)) fun x hx => by
    obtain ⟨y, hy, rfl⟩ := List.mem_map.mp hx
    exact h y hy
  rw [List.length_map] at h2
  have h3 : spS.length = 1 := rfl
  rw [h3] at h1
  omega
theorem i31 {i : Int} (h0 : 0 ≤ i) (h1 : i ≤ 10 ^ 30) : i.natAbs < 10 ^ 31 := by omega
theorem int_len {i : Int} (h0 : 0 ≤ i) (h1 : i ≤ 10 ^ 30) : (intT i).length ≤ 202 := Nat.le_trans (intT_len (k := 31) (by decide) (i31 h0 h1)) (by decide)
theorem sOkAll_of : ∀ {ds : List PyData}, (∀ d ∈ ds, sOk d) → sOkAll ds
  | [], _ => by unfold sOkAll; trivial
  | d :: ds, h => by
    unfold sOkAll
    exact ⟨h d (List.mem_cons_self ..), sOkAll_of fun x hx => h x (List.mem_cons_of_mem _ hx)⟩
theorem sOk_tup {ds : List PyData} (h : ∀ d ∈ ds, sOk d) (hl : ds.length ≤ 1000) : sOk (.tuple ds) := by
  unfold sOk
  exact ⟨Nat.le_trans hl (by rw [sizeLine_eq]; decide), sOkAll_of h⟩
theorem sOk_int (i : Int) : sOk (.int i) := by unfold sOk; trivial
theorem shE_flat {ds : List PyData} (h : ∀ d ∈ ds, sOk d) (hl : ds.length ≤ 1000) (ht : ∀ d ∈ ds, ∀ es, d ≠ .tuple es) : ShE (.tuple ds) := ⟨sOk_tup h hl, fun ds' e x hx => by
  cases e
  exact ⟨h x hx, fun es ex => absurd ex (ht x hx es)⟩⟩
theorem shE_change {ds : List PyData} (h : ∀ d ∈ ds, sOk d) (hl : ds.length ≤ 1000) (ht : ∀ d ∈ ds, ∀ es, d = .tuple es → es.length ≤ 1000) : ShE (.tuple [.str "change", .tuple ds]) := by
  have hc : sOk (.tuple ds) := sOk_tup h hl
  have h0 : sOk (.str "change") := sOkB_ok (by decide +kernel)
  refine ⟨sOk_tup (fun d hd => ?_) (by simp), fun ds' e x hx => ?_⟩
  · simp only [List.mem_cons, List.not_mem_nil, or_false] at hd
    rcases hd with rfl | rfl
    · exact h0
    · exact hc
  · cases e
    simp only [List.mem_cons, List.not_mem_nil, or_false] at hx
    rcases hx with rfl | rfl
    · exact ⟨h0, fun es z => by cases z⟩
    · exact ⟨hc, fun ds' e x hx es ex => by cases e; exact ht x hx es ex⟩
theorem ev_num {i : Int} (h0 : 0 ≤ i) (h1 : i ≤ 10 ^ 30) : EvOk (.tuple [.str "n", .int i]) := by
  have el : lineD (.tuple [.str "n", .int i]) = PySem.Txt.join spS ["n", intT i] := rfl
  have fr : ∀ x ∈ [("n" : Str), intT i], 32 ∉ tl x ∧ 10 ∉ tl x := fun x hx => by
    simp only [List.mem_cons, List.not_mem_nil, or_false] at hx
    rcases hx with rfl | rfl
    · exact word_fr (by decide +kernel)
    · exact int_free h0
  obtain ⟨s1, s2⟩ := ln_words (by simp) fr
  refine ⟨?_, shE_flat (fun d hd => ?_) (by simp) (fun d hd es z => ?_), ?_, ?_, rfl, by rw [el]; exact s2, ?_, ?_⟩
  · have e : toldB (.tuple [.str "n", .int i]) = (betw 0 (10 ^ 30) (.int i) && true) := rfl
    rw [e, Bool.and_true]
    show (decide (0 ≤ i) && decide (i ≤ 10 ^ 30)) = true
    rw [decide_eq_true h0, decide_eq_true h1]
    rfl
  · simp only [List.mem_cons, List.not_mem_nil, or_false] at hd
    rcases hd with rfl | rfl
    · exact sOkB_ok (by decide +kernel)
    · exact sOk_int _
  · simp only [List.mem_cons, List.not_mem_nil, or_false] at hd
    rcases hd with rfl | rfl <;> cases z
  · rw [el, s1]
    intro z
    exact absurd (show ("n" : Str) = "row" from z) (by decide +kernel)
  · rw [el, s1]
    unfold evD
    rw [if_neg (fun z => absurd (show ("n" : Str) = "room" from z.1) (by decide +kernel)), if_pos ⟨rfl, rfl⟩]
    show PyData.tuple [.str "n", optD (figO (tl (intT i)) 31)] = _
    rw [fig_int2 h0 h1 (by decide)]
  · rw [el]
    refine ln_len (fun x hx => ?_) (by simp)
    simp only [List.mem_cons, List.not_mem_nil, or_false] at hx
    rcases hx with rfl | rfl
    · decide +kernel
    · exact int_len h0 h1
  · have c : Nice2 20 0 (.str "n") := ⟨by decide +kernel, by decide +kernel, by decide +kernel⟩
    exact (NiceAll2.cons c (NiceAll2.cons (nice_int2 (i31 h0 h1)) (NiceAll2.nil 0 0))).tup.mono (by decide) (by decide)
theorem ev_roomI {n : Str} {i : Int} (hn : .str n ∈ names) (h0 : 0 ≤ i) (h1 : i ≤ 10 ^ 30) : EvOk (.tuple [.str "room", .str n, .int i]) := by
  have hk := name_ok hn
  have el : lineD (.tuple [.str "room", .str n, .int i]) = PySem.Txt.join spS ["room", n, intT i] := rfl
  have fr : ∀ x ∈ [("room" : Str), n, intT i], 32 ∉ tl x ∧ 10 ∉ tl x := fun x hx => by
    simp only [List.mem_cons, List.not_mem_nil, or_false] at hx
    rcases hx with rfl | rfl | rfl
    · exact word_fr (by decide +kernel)
    · exact ⟨hk.sp, hk.nl⟩
    · exact int_free h0
  obtain ⟨s1, s2⟩ := ln_words (by simp) fr
  have hw := (word_len hk.w).2
  refine ⟨?_, shE_flat (fun d hd => ?_) (by simp) (fun d hd es z => ?_), ?_, ?_, rfl, by rw [el]; exact s2, ?_, ?_⟩
  · have e : toldB (.tuple [.str "room", .str n, .int i]) = ((wordD (.str n) && betw 0 (10 ^ 200) (.int i)) && true) := rfl
    rw [e, hk.w, Bool.and_true, Bool.true_and]
    show (decide (0 ≤ i) && decide (i ≤ 10 ^ 200)) = true
    rw [decide_eq_true h0, decide_eq_true (Int.le_trans h1 (by decide +kernel))]
    rfl
  · simp only [List.mem_cons, List.not_mem_nil, or_false] at hd
    rcases hd with rfl | rfl | rfl
    · exact sOkB_ok (by decide +kernel)
    · exact sOkB_ok hk.s
    · exact sOk_int _
  · simp only [List.mem_cons, List.not_mem_nil, or_false] at hd
    rcases hd with rfl | rfl | rfl <;> cases z
  · rw [el, s1]
    intro z
    exact absurd (show ("room" : Str) = "row" from z) (by decide +kernel)
  · rw [el, s1]
    unfold evD
    rw [if_pos ⟨rfl, rfl⟩]
    show PyData.tuple [.str "room", .str n, optD (figO (tl (intT i)) 201)] = _
    rw [fig_int2 h0 h1 (by decide)]
  · rw [el]
    refine ln_len (fun x hx => ?_) (by simp)
    simp only [List.mem_cons, List.not_mem_nil, or_false] at hx
    rcases hx with rfl | rfl | rfl
    · decide +kernel
    · omega
    · exact int_len h0 h1
  · have c : Nice2 20 0 (.str "room") := ⟨by decide +kernel, by decide +kernel, by decide +kernel⟩
    exact (NiceAll2.cons c (NiceAll2.cons hk.ni (NiceAll2.cons (nice_int2 (i31 h0 h1)) (NiceAll2.nil 0 0)))).tup.mono (by decide) (by decide)
theorem ev_first {n : Str} {k : Int} (hn : .str n ∈ names) (h0 : 0 ≤ k) (h1 : k < 100) : EvOk (.tuple [.str "change", .tuple [.str "first", .str n, .int k]]) := by
  have hk := name_ok hn
  have h30 : k ≤ 10 ^ 30 := by omega
  have el : lineD (.tuple [.str "change", .tuple [.str "first", .str n, .int k]]) = PySem.Txt.join spS ["first", n, intT k] := rfl
  have fr : ∀ x ∈ [("first" : Str), n, intT k], 32 ∉ tl x ∧ 10 ∉ tl x := fun x hx => by
    simp only [List.mem_cons, List.not_mem_nil, or_false] at hx
    rcases hx with rfl | rfl | rfl
    · exact word_fr (by decide +kernel)
    · exact ⟨hk.sp, hk.nl⟩
    · exact int_free h0
  obtain ⟨s1, s2⟩ := ln_words (by simp) fr
  have hw := (word_len hk.w).2
  refine ⟨?_, shE_change (fun d hd => ?_) (by simp) (fun d hd es z => ?_), ?_, ?_, rfl, by rw [el]; exact s2, ?_, ?_⟩
  · have e : toldB (.tuple [.str "change", .tuple [.str "first", .str n, .int k]]) = (wordD (.str n) && betw 0 99 (.int k)) := rfl
    rw [e, hk.w, Bool.true_and]
    show (decide (0 ≤ k) && decide (k ≤ 99)) = true
    rw [decide_eq_true h0, decide_eq_true (show k ≤ 99 by omega)]
    rfl
  · simp only [List.mem_cons, List.not_mem_nil, or_false] at hd
    rcases hd with rfl | rfl | rfl
    · exact sOkB_ok (by decide +kernel)
    · exact sOkB_ok hk.s
    · exact sOk_int _
  · simp only [List.mem_cons, List.not_mem_nil, or_false] at hd
    rcases hd with rfl | rfl | rfl <;> cases z
  · rw [el, s1]
    intro z
    exact absurd (show ("first" : Str) = "row" from z) (by decide +kernel)
  · rw [el, s1]
    have e : evD ["first", n, intT k] (PySem.Txt.join spS ["first", n, intT k]) = .tuple [.str "change", .tuple [.str "first", .str n, optD (figO (tl (intT k)) 31)]] := rfl
    rw [e, fig_int2 h0 h30 (by decide)]
  · rw [el]
    refine ln_len (fun x hx => ?_) (by simp)
    simp only [List.mem_cons, List.not_mem_nil, or_false] at hx
    rcases hx with rfl | rfl | rfl
    · decide +kernel
    · omega
    · exact int_len h0 h30
  · have c : Nice2 20 0 (.str "first") := ⟨by decide +kernel, by decide +kernel, by decide +kernel⟩
    have c2 : Nice2 20 1 (.str "change") := ⟨by decide +kernel, by decide +kernel, by decide +kernel⟩
    have z := (NiceAll2.cons c (NiceAll2.cons hk.ni (NiceAll2.cons (nice_int2 (i31 h0 h30)) (NiceAll2.nil 0 0)))).tup
    exact (NiceAll2.cons c2 (NiceAll2.cons z (NiceAll2.nil 0 1))).tup.mono (by decide) (by decide)
theorem name_str {n : PyData} (h : n ∈ names) : ∃ x, n = .str x := by
  have hb := List.all_eq_true.mp names_ok _ h
  obtain ⟨b1, _⟩ := Bool.and_eq_true_iff.mp hb
  exact wS b1
theorem ev_relay {n1 a1 b1 : PyData} (h1 : n1 ∈ names) (h2 : a1 ∈ names) (h3 : b1 ∈ names) : EvOk (.tuple [.str "change", .tuple [.str "relay", n1, a1, b1]]) := by
  obtain ⟨n, rfl⟩ := name_str h1
  obtain ⟨a, rfl⟩ := name_str h2
  obtain ⟨b, rfl⟩ := name_str h3
  have kn := name_ok h1
  have ka := name_ok h2
  have kb := name_ok h3
  have el : lineD (.tuple [.str "change", .tuple [.str "relay", .str n, .str a, .str b]]) = PySem.Txt.join spS ["relay", n, a, b] := rfl
  have fr : ∀ x ∈ [("relay" : Str), n, a, b], 32 ∉ tl x ∧ 10 ∉ tl x := fun x hx => by
    simp only [List.mem_cons, List.not_mem_nil, or_false] at hx
    rcases hx with rfl | rfl | rfl | rfl
    · exact word_fr (by decide +kernel)
    · exact ⟨kn.sp, kn.nl⟩
    · exact ⟨ka.sp, ka.nl⟩
    · exact ⟨kb.sp, kb.nl⟩
  obtain ⟨s1, s2⟩ := ln_words (by simp) fr
  have wn := (word_len kn.w).2
  have wa := (word_len ka.w).2
  have wb := (word_len kb.w).2
  refine ⟨?_, shE_change (fun d hd => ?_) (by simp) (fun d hd es z => ?_), ?_, ?_, rfl, by rw [el]; exact s2, ?_, ?_⟩
  · have e : toldB (.tuple [.str "change", .tuple [.str "relay", .str n, .str a, .str b]]) = (wordD (.str n) && (wordD (.str a) && wordD (.str b))) := rfl
    rw [e, kn.w, ka.w, kb.w]
    rfl
  · simp only [List.mem_cons, List.not_mem_nil, or_false] at hd
    rcases hd with rfl | rfl | rfl | rfl
    · exact sOkB_ok (by decide +kernel)
    · exact sOkB_ok kn.s
    · exact sOkB_ok ka.s
    · exact sOkB_ok kb.s
  · simp only [List.mem_cons, List.not_mem_nil, or_false] at hd
    rcases hd with rfl | rfl | rfl | rfl <;> cases z
  · rw [el, s1]
    intro z
    exact absurd (show ("relay" : Str) = "row" from z) (by decide +kernel)
  · rw [el, s1]
    rfl
  · rw [el]
    refine ln_len (fun x hx => ?_) (by simp)
    simp only [List.mem_cons, List.not_mem_nil, or_false] at hx
    rcases hx with rfl | rfl | rfl | rfl
    · decide +kernel
    · omega
    · omega
    · omega
  · have c : Nice2 20 0 (.str "relay") := ⟨by decide +kernel, by decide +kernel, by decide +kernel⟩
    have c2 : Nice2 20 1 (.str "change") := ⟨by decide +kernel, by decide +kernel, by decide +kernel⟩
    have z := (NiceAll2.cons c (NiceAll2.cons kn.ni (NiceAll2.cons ka.ni (NiceAll2.cons kb.ni (NiceAll2.nil 0 0))))).tup
    exact (NiceAll2.cons c2 (NiceAll2.cons z (NiceAll2.nil 0 1))).tup.mono (by decide) (by decide)
theorem fig_200 : figO (tl (intT (10 ^ 200))) 201 = some (10 ^ 200) := by decide +kernel
theorem ev_room {n1 : PyData} (h1 : n1 ∈ names) : EvOk (.tuple [.str "room", n1, .int (10 ^ 200)]) := by
  obtain ⟨n, rfl⟩ := name_str h1
  have kn := name_ok h1
  have h0 : (0 : Int) ≤ 10 ^ 200 := by decide +kernel
  have hl : (intT (10 ^ 200)).length ≤ 202 := Nat.le_trans (intT_len (i := 10 ^ 200) (k := 201) (by decide) (by decide +kernel)) (by decide)
  generalize hg : (10 : Int) ^ 200 = g at h0 hl ⊢
  have el : lineD (.tuple [.str "room", .str n, .int g]) = PySem.Txt.join spS ["room", n, intT g] := rfl
  have fr : ∀ x ∈ [("room" : Str), n, intT g], 32 ∉ tl x ∧ 10 ∉ tl x := fun x hx => by
    simp only [List.mem_cons, List.not_mem_nil, or_false] at hx
    rcases hx with rfl | rfl | rfl
    · exact word_fr (by decide +kernel)
    · exact ⟨kn.sp, kn.nl⟩
    · exact int_free h0
  obtain ⟨s1, s2⟩ := ln_words (by simp) fr
  have wn := (word_len kn.w).2
  refine ⟨?_, shE_flat (fun d hd => ?_) (by simp) (fun d hd es z => ?_), ?_, ?_, rfl, by rw [el]; exact s2, ?_, ?_⟩
  · have e : toldB (.tuple [.str "room", .str n, .int g]) = (wordD (.str n) && betw 0 (10 ^ 200) (.int g) && true) := rfl
    rw [e, kn.w, ← hg]
    decide +kernel
  · simp only [List.mem_cons, List.not_mem_nil, or_false] at hd
    rcases hd with rfl | rfl | rfl
    · exact sOkB_ok (by decide +kernel)
    · exact sOkB_ok kn.s
    · exact sOk_int _
  · simp only [List.mem_cons, List.not_mem_nil, or_false] at hd
    rcases hd with rfl | rfl | rfl <;> cases z
  · rw [el, s1]
    intro z
    exact absurd (show ("room" : Str) = "row" from z) (by decide +kernel)
  · rw [el, s1]
    have e : evD ["room", n, intT g] (PySem.Txt.join spS ["room", n, intT g]) = .tuple [.str "room", .str n, optD (figO (tl (intT g)) 201)] := rfl
    rw [e, ← hg, fig_200]
    have e2 : optD (some (10 ^ 200)) = .int (((10 ^ 200 : Nat)) : Int) := rfl
    rw [e2, show (((10 ^ 200 : Nat)) : Int) = 10 ^ 200 by decide +kernel]
  · rw [el]
    refine ln_len (fun x hx => ?_) (by simp)
    simp only [List.mem_cons, List.not_mem_nil, or_false] at hx
    rcases hx with rfl | rfl | rfl
    · decide +kernel
    · omega
    · exact hl
  · have c : Nice2 20 0 (.str "room") := ⟨by decide +kernel, by decide +kernel, by decide +kernel⟩
    have c2 : Nice2 1000 0 (.int g) := by rw [← hg]; exact ⟨by decide +kernel, by decide +kernel, by decide +kernel⟩
    exact (NiceAll2.cons c (NiceAll2.cons kn.ni (NiceAll2.cons c2 (NiceAll2.nil 0 0)))).tup.mono (by decide) (by decide)
theorem ev_kill {n : Str} {k : Int} (hn : .str n ∈ names) (h0 : 0 ≤ k) (h1 : k ≤ 10 ^ 30) : EvOk (.tuple [.str "change", .tuple [.str "kill", .str n, .int k, .int 7]]) := by
  have hk := name_ok hn
  have el : lineD (.tuple [.str "change", .tuple [.str "kill", .str n, .int k, .int 7]]) = PySem.Txt.join spS ["kill", n, intT k, intT 7] := rfl
  have fr : ∀ x ∈ [("kill" : Str), n, intT k, intT 7], 32 ∉ tl x ∧ 10 ∉ tl x := fun x hx => by
    simp only [List.mem_cons, List.not_mem_nil, or_false] at hx
    rcases hx with rfl | rfl | rfl | rfl
    · exact word_fr (by decide +kernel)
    · exact ⟨hk.sp, hk.nl⟩
    · exact int_free h0
    · exact int_free (by decide)
  obtain ⟨s1, s2⟩ := ln_words (by simp) fr
  have hw := (word_len hk.w).2
  refine ⟨?_, shE_change (fun d hd => ?_) (by simp) (fun d hd es z => ?_), ?_, ?_, rfl, by rw [el]; exact s2, ?_, ?_⟩
  · have e : toldB (.tuple [.str "change", .tuple [.str "kill", .str n, .int k, .int 7]]) = (wordD (.str n) && (betw 0 (10 ^ 30) (.int k) && betw 0 (10 ^ 30) (.int 7))) := rfl
    rw [e, hk.w, Bool.true_and]
    show ((decide (0 ≤ k) && decide (k ≤ 10 ^ 30)) && _) = true
    rw [decide_eq_true h0, decide_eq_true h1]
    decide +kernel
  · simp only [List.mem_cons, List.not_mem_nil, or_false] at hd
    rcases hd with rfl | rfl | rfl | rfl
    · exact sOkB_ok (by decide +kernel)
    · exact sOkB_ok hk.s
    · exact sOk_int _
    · exact sOk_int _
  · simp only [List.mem_cons, List.not_mem_nil, or_false] at hd
    rcases hd with rfl | rfl | rfl | rfl <;> cases z
  · rw [el, s1]
    intro z
    exact absurd (show ("kill" : Str) = "row" from z) (by decide +kernel)
  · rw [el, s1]
    have e : evD ["kill", n, intT k, intT 7] (PySem.Txt.join spS ["kill", n, intT k, intT 7]) = .tuple [.str "change", .tuple [.str "kill", .str n, optD (figO (tl (intT k)) 31), optD (figO (tl (intT 7)) 31)]] := rfl
    rw [e, fig_int2 h0 h1 (by decide), fig_int2 (by decide) (by decide +kernel) (by decide)]
  · rw [el]
    refine ln_len (fun x hx => ?_) (by simp)
    simp only [List.mem_cons, List.not_mem_nil, or_false] at hx
    rcases hx with rfl | rfl | rfl | rfl
    · decide +kernel
    · omega
    · exact int_len h0 h1
    · exact int_len (by decide) (by decide +kernel)
  · have c : Nice2 20 0 (.str "kill") := ⟨by decide +kernel, by decide +kernel, by decide +kernel⟩
    have c2 : Nice2 20 1 (.str "change") := ⟨by decide +kernel, by decide +kernel, by decide +kernel⟩
    have z := (NiceAll2.cons c (NiceAll2.cons hk.ni (NiceAll2.cons (nice_int2 (i31 h0 h1)) (NiceAll2.cons (nice_int2 (i := 7) (by decide)) (NiceAll2.nil 0 0))))).tup
    exact (NiceAll2.cons c2 (NiceAll2.cons z (NiceAll2.nil 0 1))).tup.mono (by decide) (by decide)
/-- split behind a first word -/
theorem spl_app {S : List Nat} (hS : S = [32]) : ∀ (a acc b : List Nat), 32 ∉ a → spl S 0 acc (a ++ 32 :: b) = (acc ++ a) :: spl S 0 [] b
  | [], acc, b, _ => by
    subst hS
    have hp : pre [32] (32 :: b) = true := rfl
    rw [List.nil_append, spl_hit hp, List.append_nil]
    rfl
  | c :: a, acc, b, h => by
    have hc : c ≠ 32 := fun z => h (z ▸ List.mem_cons_self ..)
    have hp : pre S (c :: (a ++ 32 :: b)) = false := by
      subst hS
      simp [pre, hc, Ne.symm hc]
    rw [List.cons_append, spl_miss hp, spl_app hS a (acc ++ [c]) b fun m => h (List.mem_cons_of_mem _ m), List.append_assoc]
    rfl
theorem split_app {a b : Str} (h : 32 ∉ tl a) : PySem.Txt.split (a ++ spS ++ b) spS = a :: PySem.Txt.split b spS := by
  refine map_tl_inj ?_
  rw [List.map_cons, split_spl _ spS (by decide) (kind_ok (by decide +kernel)), split_spl b spS (by decide) (kind_ok (by decide +kernel)), tl_append, tl_append, List.append_assoc]
  show spl [32] 0 [] (tl a ++ (32 :: tl b)) = _
  rw [spl_app rfl _ _ _ h]
  rfl
theorem ev_row {n : Str} {ds : List PyData} (hn : .str n ∈ names) (h : RowDrawn ds) : EvOk (.tuple [.str "change", .tuple [.str "row", .str n, .tuple ds]]) := by
  have hk := name_ok hn
  obtain ⟨po, nl, ni, fr⟩ := row_drawn h
  have el : lineD (.tuple [.str "change", .tuple [.str "row", .str n, .tuple ds]]) = ("row" : Str) ++ spS ++ (n ++ spS ++ txM 5 ds) := by
    have e : lineD (.tuple [.str "change", .tuple [.str "row", .str n, .tuple ds]]) = if ("row" : Str) = "row" then ("row " : Str) ++ n ++ spS ++ txM 5 ds else PySem.Txt.join spS (("join" : Str) :: n :: wordsD ds) := rfl
    rw [e, if_pos rfl]
    refine tl_inj ?_
    simp only [tl_append, List.append_assoc]
    rfl
  have es : PySem.Txt.split (lineD (.tuple [.str "change", .tuple [.str "row", .str n, .tuple ds]])) spS = ("row" : Str) :: n :: PySem.Txt.split (txM 5 ds) spS := by
    rw [el, split_app (by decide +kernel), split_app hk.sp]
  have ec : cutS (lineD (.tuple [.str "change", .tuple [.str "row", .str n, .tuple ds]])) (some (4 + n.length + 1 : Int)) none = txM 5 ds := tl_inj (by
    have e4 : (4 + n.length + 1 : Int) = ((4 + n.length + 1 : Nat) : Int) := by push_cast; rfl
    rw [e4, tl_from, el, tl_append, tl_append, tl_append, tl_append]
    have e5 : (tl ("row" : Str) ++ tl spS ++ (tl n ++ tl spS ++ tl (txM 5 ds))) = (tl ("row" : Str) ++ tl spS ++ tl n ++ tl spS) ++ tl (txM 5 ds) := by simp only [List.append_assoc]
    rw [e5]
    refine List.drop_left' ?_
    simp only [List.length_append]
    rw [← len_tl n]
    show 3 + 1 + n.length + 1 = _
    omega)
  have hw := (word_len hk.w).2
  have hlt := po.l
  have hne := split_ne (x := txM 5 ds) (y := spS) (by decide) (by decide +kernel)
  have sod : sOk (.tuple ds) := po.s
  have hl60 : ds.length ≤ 1000 := by have := (row_ok po.s po.a); have := goL_len (sizeD_pos 4) ds 0 (by decide) this.h; omega
  refine ⟨?_, shE_change (fun d hd => ?_) (by simp) (fun d hd es z => ?_), ?_, ?_, ?_, ?_, ?_, ?_⟩
  · have e : toldB (.tuple [.str "change", .tuple [.str "row", .str n, .tuple ds]]) = (wordD (.str n) && aprD (.tuple ds)) := rfl
    rw [e, hk.w, po.a]
    rfl
  · simp only [List.mem_cons, List.not_mem_nil, or_false] at hd
    rcases hd with rfl | rfl | rfl
    · exact sOkB_ok (by decide +kernel)
    · exact sOkB_ok hk.s
    · exact sod
  · simp only [List.mem_cons, List.not_mem_nil, or_false] at hd
    rcases hd with rfl | rfl | rfl
    · cases z
    · cases z
    · cases z
      exact hl60
  · intro _ _
    rw [es]
    refine ⟨ds, ?_⟩
    show POk (cutS _ (some (4 + n.length + 1 : Int)) none) ds
    rw [ec]
    exact po
  · rw [es]
    obtain ⟨q, r, eq⟩ : ∃ q r, PySem.Txt.split (txM 5 ds) spS = q :: r := by
      cases hq : PySem.Txt.split (txM 5 ds) spS with
      | nil => exact absurd hq hne
      | cons q r => exact ⟨q, r, rfl⟩
    rw [eq]
    unfold evD
    rw [if_neg (fun z => absurd (show ("row" : Str) = "room" from z.1) (by decide +kernel)), if_neg (fun z => absurd (show ("row" : Str) = "n" from z.1) (by decide +kernel)), if_neg (show ¬ ((("row" : Str) :: n :: q :: r).headD Str.empty = "undo") from fun z => absurd (show ("row" : Str) = "undo" from z) (by decide +kernel))]
    unfold chgD
    rw [if_pos ⟨rfl, by simp only [List.length_cons]; omega⟩]
    show PyData.tuple [.str "change", .tuple [.str "row", .str n, prs 5 (cutS _ (some (4 + n.length + 1 : Int)) none)]] = _
    rw [ec, po.p]
  · have e : noL (.tuple [.str "change", .tuple [.str "row", .str n, .tuple ds]]) = noL (.tuple ds) := by simp [noL, noLAll]
    rw [e]
    exact nl
  · rw [el, tl_append, tl_append, tl_append, tl_append]
    intro m
    rcases List.mem_append.mp m with m | m
    · revert m; decide +kernel
    · rcases List.mem_append.mp m with m | m
      · rcases List.mem_append.mp m with m | m
        · exact hk.nl m
        · revert m; decide +kernel
      · exact fr m
  · rw [el, len_app, len_app, len_app, len_app]
    show 3 + 1 + (n.length + 1 + _) ≤ 12000
    omega
  · have c : Nice2 20 8 (.str "row") := ⟨by decide +kernel, by decide +kernel, by decide +kernel⟩
    have c2 : Nice2 20 9 (.str "change") := ⟨by decide +kernel, by decide +kernel, by decide +kernel⟩
    have z := (NiceAll2.cons c (NiceAll2.cons (hk.ni.mono (Nat.le_refl _) (by decide)) (NiceAll2.cons ni (NiceAll2.nil 0 8)))).tup
    exact (NiceAll2.cons c2 (NiceAll2.cons z (NiceAll2.nil 0 9))).tup.mono (by decide) (by decide)
/-- every drawn event is told and read back -/
theorem evt_ok {d : PyData} (h : Evt d) : EvOk d := by
  cases h with
  | undo => exact ev_undo
  | num h0 h1 => exact ev_num h0 h1
  | room hn hd =>
    have r1 := List.all_eq_true.mp rooms_ev _ hn
    rcases hd with rfl | rfl | ⟨i, rfl, h0, h1⟩
    · exact evB_ok r1
    · exact ev_room hn
    · exact ev_roomI hn h0 h1
  | change hc =>
    cases hc with
    | row hn hr => exact ev_row hn hr
    | first hn h0 h1 => exact ev_first hn h0 h1
    | join hn hj => exact evB_ok (List.all_eq_true.mp (List.all_eq_true.mp joins_ev _ hn) _ hj)
    | part hn => exact evB_ok (List.all_eq_true.mp parts_ev _ hn)
    | relay hn ha hb => exact ev_relay hn ha hb
    | kill hn h0 h1 => exact ev_kill hn h0 h1
end L2.L86

set_option maxHeartbeats 1000000
namespace L2.L86
open PySem PySem.Spec PyProof.Rows NumText LR L2.Lr L2.Tx TL SkE
local macro_rules | `(tactic| walk_at "nx") => `(tactic| dsimp only [gName, tNext, tSeq, tAsg, List.set_cons_zero, List.set_cons_succ])
abbrev NLl : List Str := ["_law_event_here", "_law_change_here", "_law_one"]
theorem scll : FnScope NLl ["_law_event_here"] (defScope sLLine) := ⟨rfl, rfl, rfl, by decide +kernel, rfl, by decide +kernel, by decide +kernel⟩
def spLLine (K : PySem.W.Frag) : Sp := fun vs H Q _ => ∃ x d, vs = [x] ∧ Dp K H x d ∧ Evt d ∧ ∀ H', Same H H' → Q (.str (lineD d)) H'
theorem ln_num (i : Int) : lineD (.tuple [.str "n", .int i]) = ("n " : Str) ++ intT i := tl_inj (by
  have e : lineD (.tuple [.str "n", .int i]) = PySem.Txt.join spS ["n", intT i] := rfl
  rw [e, join_eq, tl_join, tl_append]
  rfl)
theorem ln_room (n : Str) (d : PyData) (hd : ∀ ds, d ≠ .tuple ds) : lineD (.tuple [.str "room", .str n, d]) = ("room " : Str) ++ n ++ spS ++ strN d := tl_inj (by
  have e : lineD (.tuple [.str "room", .str n, d]) = PySem.Txt.join spS ["room", n, strN d] := lnT_other (w := "room") (es := [.str n, d]) (fun p ds z => by cases z; exact hd _ rfl)
  rw [e, join_eq, tl_join, tl_append, tl_append, tl_append]
  show tl ("room" : Str) ++ (tl spS ++ (tl n ++ (tl spS ++ tl (strN d)))) = _
  simp only [List.append_assoc]
  rfl)
theorem ln_row (n : Str) (ds : List PyData) : lineD (.tuple [.str "change", .tuple [.str "row", .str n, .tuple ds]]) = ("row " : Str) ++ n ++ spS ++ txM 5 ds := by
  have e : lineD (.tuple [.str "change", .tuple [.str "row", .str n, .tuple ds]]) = if ("row" : Str) = "row" then ("row " : Str) ++ n ++ spS ++ txM 5 ds else PySem.Txt.join spS (("join" : Str) :: n :: wordsD ds) := rfl
  rw [e, if_pos rfl]
theorem ln_join (n : Str) (ds : List PyData) (hne : wordsD ds ≠ []) : lineD (.tuple [.str "change", .tuple [.str "join", .str n, .tuple ds]]) = ("join " : Str) ++ n ++ spS ++ PySem.Txt.join spS (wordsD ds) := by
  have e : lineD (.tuple [.str "change", .tuple [.str "join", .str n, .tuple ds]]) = if ("join" : Str) = "row" then ("row " : Str) ++ n ++ spS ++ txM 5 ds else PySem.Txt.join spS (("join" : Str) :: n :: wordsD ds) := rfl
  rw [e, if_neg (by decide +kernel)]
  refine tl_inj ?_
  rw [join_eq, tl_join, tl_append, tl_append, tl_append, join_eq, tl_join]
  cases hw : wordsD ds with
  | nil => exact absurd hw hne
  | cons a r =>
    show tl ("join" : Str) ++ (tl spS ++ (tl n ++ (tl spS ++ joinL (tl spS) ((a :: r).map tl)))) = _
    simp only [List.append_assoc]
    rfl
def TxtI (e : PyData) : Prop := ((∃ c, e = .str c) ∨ ∃ i : Int, e = .int i ∧ i.natAbs.log2 < 1920) ∧ (L2.Lr.strOf e).length ≤ 202
theorem txt_w {x : Str} (h : x.length ≤ 202) : TxtI (.str x) := ⟨.inl ⟨x, rfl⟩, h⟩
theorem txt_i {i : Int} (h0 : 0 ≤ i) (h1 : i ≤ 10 ^ 30) : TxtI (.int i) := ⟨.inr ⟨i, rfl, log_200 (by omega)⟩, int_len h0 h1⟩
theorem txt_n {x : Str} (h : .str x ∈ names) : TxtI (.str x) := txt_w (Nat.le_trans (word_len (name_ok h).w).2 (by decide))
theorem joins_ok {ds : List PyData} (h : .tuple ds ∈ joins) : ds.all wordD = true ∧ wordsD ds ≠ [] ∧ ds.length ≤ 3 := by
  have z := List.all_eq_true.mp (show (joins.all fun d => match d with
    | .tuple ds => ds.all wordD && (decide (wordsD ds ≠ []) && decide (ds.length ≤ 3))
    | _ => false) = true by decide +kernel) _ h
  obtain ⟨h1, h2⟩ := Bool.and_eq_true_iff.mp (show (ds.all wordD && (decide (wordsD ds ≠ []) && decide (ds.length ≤ 3))) = true from z)
  obtain ⟨h2, h3⟩ := Bool.and_eq_true_iff.mp h2
  exact ⟨h1, of_decide_eq_true h2, of_decide_eq_true h3⟩
theorem chg_cases {c : PyData} (h : Chg c) : (∃ n ds, c = .tuple [.str "row", .str n, .tuple ds] ∧ .str n ∈ names ∧ RowDrawn ds) ∨ (∃ n ds, c = .tuple [.str "join", .str n, .tuple ds] ∧ .str n ∈ names ∧ .tuple ds ∈ joins) ∨
    ∃ w0 es, c = .tuple (.str w0 :: es) ∧ w0 ≠ "row" ∧ w0 ≠ "join" ∧ (PyData.str w0 :: es).length ≤ 4 ∧ (∀ e ∈ (PyData.str w0 :: es), TxtI e) ∧ lineD (.tuple [.str "change", c]) = PySem.Txt.join spS ((PyData.str w0 :: es).map L2.Lr.strOf) := by
  cases h with
  | row hn hr => exact .inl ⟨_, _, rfl, hn, hr⟩
  | @join n j hn hj =>
    obtain ⟨ds, rfl⟩ : ∃ ds, j = .tuple ds := by
      have z := List.all_eq_true.mp (show (joins.all fun d => match d with | .tuple _ => true | _ => false) = true by decide +kernel) _ hj
      cases j with
      | tuple ds => exact ⟨ds, rfl⟩
      | _ => cases z
    exact .inr (.inl ⟨_, _, rfl, hn, hj⟩)
  | first hn h0 h1 =>
    refine .inr (.inr ⟨_, _, rfl, by decide +kernel, by decide +kernel, by simp, fun e he => ?_, rfl⟩)
    simp only [List.mem_cons, List.not_mem_nil, or_false] at he
    rcases he with rfl | rfl | rfl
    · exact txt_w (by decide +kernel)
    · exact txt_n hn
    · exact txt_i h0 (by omega)
  | part hn =>
    refine .inr (.inr ⟨_, _, rfl, by decide +kernel, by decide +kernel, by simp, fun e he => ?_, rfl⟩)
    simp only [List.mem_cons, List.not_mem_nil, or_false] at he
    rcases he with rfl | rfl
    · exact txt_w (by decide +kernel)
    · exact txt_n hn
  | relay hn ha hb =>
    refine .inr (.inr ⟨_, _, rfl, by decide +kernel, by decide +kernel, by simp, fun e he => ?_, rfl⟩)
    simp only [List.mem_cons, List.not_mem_nil, or_false] at he
    rcases he with rfl | rfl | rfl | rfl
    · exact txt_w (by decide +kernel)
    · exact txt_n hn
    · exact txt_n ha
    · exact txt_n hb
  | kill hn h0 h1 =>
    refine .inr (.inr ⟨_, _, rfl, by decide +kernel, by decide +kernel, by simp, fun e he => ?_, rfl⟩)
    simp only [List.mem_cons, List.not_mem_nil, or_false] at he
    rcases he with rfl | rfl | rfl | rfl
    · exact txt_w (by decide +kernel)
    · exact txt_n hn
    · exact txt_i h0 h1
    · exact txt_i (by decide) (by decide +kernel)
section
variable {P : Program} {w : World} {K : PySem.W.Frag} {mg : Str → Option Value} {base : Heap}
theorem ol_line {f fI fS : Addr} {fd dI dS : FuncData} (F : FnP K "_law_line" sLLine f fd) (T : Txt K mg) {k : Nat} (M : RMk P w K mg base k fI dI fS dS) : FnOk P w K mg base CX0 (k + 3) f fd ["_law_event_here"] (spLLine K) := by
  refine F.ok scll (fun vs H Q E h => ?_) (fun cdv A outer s H vs Q E hr h => ?_)
  · obtain ⟨x, d, rfl, _⟩ := h
    rfl
  · obtain ⟨x, d, rfl, hd, ev, q⟩ := h
    have sz : sizeLine = 16777216 := sizeLine_eq
    have hrk1 : Room (k + 1) _ := hr.mono (by omega)
    have ix : ∀ {X : Cx} {i : Nat} {c : Int}, True := trivial
    refine ⟨_, PSs.nox (pss_cons (ps_if (pt_cmpR op_eq (pe_ix ix_tup (pv 0) pe_int (fun _ _ => rfl)) pe_str (nomark _)) (pss_one (ps_ret pe_str)) pss_nil)
      (pss_cons (ps_if (pt_cmpR op_eq (pe_ix ix_tup (pv 0) pe_int (fun _ _ => rfl)) pe_str (nomark _)) (pss_one (ps_ret (pe_op op_add_str pe_str (pe_callTy (call_strD K rfl) (by rfl) T.p.str bbS (pa_cons (pe_ix ix_tup (pv 0) pe_int (fun _ _ => rfl)) pa_nil))))) pss_nil)
      (pss_cons (ps_if (pt_cmpR op_eq (pe_ix ix_tup (pv 0) pe_int (fun _ _ => rfl)) pe_str (nomark _)) (pss_one (ps_ret (pe_op op_add_str (pe_op op_add_str (pe_op op_add_str pe_str (pe_ix ix_tup (pv 0) pe_int (fun _ _ => rfl))) pe_str) (pe_ifExp (pt_cmpR op_isN (pe_ix ix_tup (pv 0) pe_int (fun _ _ => rfl)) pe_non (nomark _)) pe_str (pe_callTy (call_strD K rfl) (by rfl) T.p.str bbS (pa_cons (pe_ix ix_tup (pv 0) pe_int (fun _ _ => rfl)) pa_nil)))))) pss_nil)
      (pss_cons (ps_set (i := 1) scll.nd rfl (Or.inl rfl) (pe_ix ix_tup (pv 0) pe_int (fun _ _ => rfl)))
      (pss_cons (ps_if (pt_cmpR op_eq (pe_ix ix_tup (pv 1) pe_int (fun _ _ => rfl)) pe_str (nomark _)) (pss_one (ps_ret (pe_op op_add_str (pe_op op_add_str (pe_op op_add_str pe_str (pe_ix ix_tup (pv 1) pe_int (fun _ _ => rfl))) pe_str) (pe_callTy (call_strO (E := E0) M.d M.sk hr M.sb pass0) (by rfl) T.p.str bbS (pa_cons (pe_make M.m M.ok hrk1 (by rfl) T.gR M.b .nil pass0 (pa_cons (pe_ix ix_tup (pv 1) pe_int (fun _ _ => rfl)) pa_nil)) pa_nil))))) pss_nil)
      (pss_cons (ps_if (pt_cmpR op_eq (pe_ix ix_tup (pv 1) pe_int (fun _ _ => rfl)) pe_str (nomark _)) (pss_one (ps_ret (pe_op op_add_str (pe_op op_add_str (pe_op op_add_str pe_str (pe_ix ix_tup (pv 1) pe_int (fun _ _ => rfl))) pe_str) (pe_join pe_str (pe_callTy call_list_of (by rfl) T.list bbL (pa_cons (pe_ix ix_tup (pv 1) pe_int (fun _ _ => rfl)) pa_nil)))))) pss_nil)
      (pss_one (ps_ret (pe_join pe_str (pe_lc (own := [("_law_one", 2)]) (g := gName 2) (tt := tYes) rfl scll.nd (pi_tup (pv 1)) (blkOk_by (N := NLl) (sc := defScope sLLine) (by decide +kernel)) (fun _ _ _ _ _ => pg_name (i := 2) scll.nd rfl (Or.inl rfl)) (fun _ _ _ _ _ => pts_nil) (fun _ _ _ _ _ => pe_callTy (call_strD K rfl) (by rfl) T.p.str bbS (pa_cons (pv 2) pa_nil)))))))))))), ?_⟩
    have e0 : start NLl [x] = [some x, none, none] := rfl
    rw [e0]
    have q0 := q H (Same.refl H)
    refine go_seq ?_
    cases ev with
    | undo =>
      obtain ⟨t, v, vs, rfl, hS, h1, ha⟩ := tupD hd
      cases strD h1
      exact ⟨_, rfl, t, _, 0, _, rfl, rfl, hS, at0, rfl, _, rfl, str_if (fun _ => q0) fun z => absurd rfl z⟩
    | @num i h0 h1 =>
      obtain ⟨t, v, vs, rfl, hS, g0, ha⟩ := tupD hd
      cases strD g0
      cases ha with
      | cons g1 ha =>
      refine ⟨_, rfl, t, _, 0, _, rfl, rfl, hS, at0, rfl, _, rfl, str_if (fun z => absurd z (by decide +kernel)) fun _ => ?_⟩
      walk_at "nx"
      refine ⟨_, rfl, t, _, 0, _, rfl, rfl, hS, at0, rfl, _, rfl, str_if (fun _ => ?_) fun z => absurd rfl z⟩
      rw [ln_num] at q0
      have := int_len h0 h1
      exact ⟨_, rfl, t, _, 1, _, rfl, rfl, hS, at1, _, _, rfl, g1, .inr ⟨i, rfl, log_200 (by omega)⟩, _, _, rfl, rfl, by show 2 + (intT i).length ≤ _; omega, q0⟩
    | @room n d hn hdd =>
      obtain ⟨t, v, vs, rfl, hS, g0, ha⟩ := tupD hd
      cases strD g0
      cases ha with
      | cons g1 ha =>
      cases ha with
      | cons g2 ha =>
      cases ha
      cases strD g1
      have hk := (word_len (name_ok hn).w).2
      refine ⟨_, rfl, t, _, 0, _, rfl, rfl, hS, at0, rfl, _, rfl, str_if (fun z => absurd z (by decide +kernel)) fun _ => ?_⟩
      walk_at "nx"
      refine ⟨_, rfl, t, _, 0, _, rfl, rfl, hS, at0, rfl, _, rfl, str_if (fun z => absurd z (by decide +kernel)) fun _ => ?_⟩
      walk_at "nx"
      refine ⟨_, rfl, t, _, 0, _, rfl, rfl, hS, at0, rfl, _, rfl, str_if (fun _ => ?_) fun z => absurd rfl z⟩
      have hnt : ∀ ds, d ≠ .tuple ds := fun ds z => by subst z; rcases hdd with z | z | ⟨_, z, _⟩ <;> cases z
      rw [ln_room n d hnt] at q0
      have l1 : (("room " : Str) ++ n).length = 5 + n.length := len_app _ _
      have l2 : (("room " : Str) ++ n ++ spS).length = 5 + n.length + 1 := by rw [len_app, l1]; rfl
      refine ⟨_, rfl, t, _, 1, _, rfl, rfl, hS, at1, _, _, rfl, rfl, by show 5 + n.length ≤ _; omega, _, _, rfl, rfl, by rw [l1]; show 5 + n.length + 1 ≤ _; omega, ?_⟩
      have kind : d = .none ∨ ∃ i : Int, d = .int i ∧ i.natAbs ≤ 10 ^ 200 := by
        rcases hdd with e | e | ⟨i, e, h0, h1⟩
        · exact .inl e
        · exact .inr ⟨_, e, by decide +kernel⟩
        · exact .inr ⟨i, e, by omega⟩
      rcases kind with rfl | ⟨i, rfl, hi⟩
      · cases nonDv g2
        exact ⟨_, rfl, t, _, 2, _, rfl, rfl, hS, at2, rfl, _, rfl, iteT ⟨_, _, rfl, rfl, by rw [l2]; show 5 + n.length + 1 + 4 ≤ _; omega, q0⟩⟩
      · cases intDv g2
        have hl : (intT i).length ≤ 202 := intT_len (k := 201) (by decide) (Nat.lt_of_le_of_lt hi (by decide +kernel))
        exact ⟨_, rfl, t, _, 2, _, rfl, rfl, hS, at2, rfl, _, rfl, iteF ⟨_, rfl, t, _, 2, _, rfl, rfl, hS, at2, _, _, rfl, .int i, .inr ⟨i, rfl, log_200 hi⟩, _, _, rfl, rfl, by rw [l2]; show 5 + n.length + 1 + (intT i).length ≤ _; omega, q0⟩⟩
    | @change c hc =>
      obtain ⟨t, v, vs, rfl, hS, g0, ha⟩ := tupD hd
      cases strD g0
      cases ha with
      | cons gc ha =>
      cases ha
      have cv := gc
      refine ⟨_, rfl, t, _, 0, _, rfl, rfl, hS, at0, rfl, _, rfl, str_if (fun z => absurd z (by decide +kernel)) fun _ => ?_⟩
      walk_at "nx"
      refine ⟨_, rfl, t, _, 0, _, rfl, rfl, hS, at0, rfl, _, rfl, str_if (fun z => absurd z (by decide +kernel)) fun _ => ?_⟩
      walk_at "nx"
      refine ⟨_, rfl, t, _, 0, _, rfl, rfl, hS, at0, rfl, _, rfl, str_if (fun z => absurd z (by decide +kernel)) fun _ => ?_⟩
      walk_at "nx"
      refine ⟨_, rfl, t, _, 1, _, rfl, rfl, hS, at1, ?_⟩
      walk_at "nx"
      rcases chg_cases hc with ⟨n, ds, rfl, hn, hr⟩ | ⟨n, ds, rfl, hn, hj⟩ | ⟨w0, es, rfl, n1, n2, hl, he, hln⟩
      · obtain ⟨t1, v1, vs1, rfl, hS1, k0, ka⟩ := tupD gc
        cases strD k0
        cases ka with
        | cons k1 ka =>
        cases ka with
        | cons k2 ka =>
        cases ka
        cases strD k1
        have hk := (word_len (name_ok hn).w).2
        obtain ⟨po, _⟩ := row_drawn hr
        have ok := row_ok po.s po.a
        rw [ln_row] at q
        have l1 : (("row " : Str) ++ n).length = 4 + n.length := len_app _ _
        have l2 : (("row " : Str) ++ n ++ spS).length = 4 + n.length + 1 := by rw [len_app, l1]; rfl
        have lt := po.l
        refine ⟨_, rfl, t1, _, 0, _, rfl, rfl, hS1, at0, rfl, _, rfl, str_if (fun _ => ?_) fun z => absurd rfl z⟩
        refine ⟨_, rfl, t1, _, 1, _, rfl, rfl, hS1, at1, _, _, rfl, rfl, by show 4 + n.length ≤ _; omega, _, _, rfl, rfl, by rw [l1]; show 4 + n.length + 1 ≤ _; omega, _, rfl, t1, _, 2, _, rfl, rfl, hS1, at2, ?_⟩
        intro r dx0 hr0 hdx hne
        have sl0 : Same H (upd (upd H dx0 (.own r)) r (.ins (CR K) dx0 [])) := fun b o hb => (upd_ne (ne_of_none hb hr0)).trans ((upd_ne (ne_of_none hb hdx)).trans hb)
        refine ⟨r, dx0, _, ds, rfl, upd_same, Dp.same sl0 k2, ok, fun H3 y keep hR hyd => ⟨rfl, ?_⟩⟩
        have s3 : Same H H3 := fun b o hb => keep b o ((upd_ne (ne_of_none hb hr0)).trans ((upd_ne (ne_of_none hb hdx)).trans hb)) (ne_of_none hb hr0)
        obtain ⟨dx, hra⟩ := hR
        refine ⟨r, dx, _, rfl, hra, r, ds, rfl, ⟨y, _, ⟨dx, hra⟩, hyd⟩, ok.h, fun H4 s4 => ⟨_, rfl, _, _, rfl, rfl, ?_, q H4 (s3.trans s4)⟩⟩
        rw [l2]
        show 4 + n.length + 1 + (txM 5 ds).length ≤ _
        omega
      · obtain ⟨t1, v1, vs1, rfl, hS1, k0, ka⟩ := tupD gc
        cases strD k0
        cases ka with
        | cons k1 ka =>
        cases ka with
        | cons k2 ka =>
        cases ka
        cases strD k1
        have hk := (word_len (name_ok hn).w).2
        obtain ⟨hw1, hw2, hw3⟩ := joins_ok hj
        obtain ⟨t2, xs, rfl, hS2, ha2⟩ := tupDv k2
        have ex := words_of ha2 hw1
        rw [ln_join n ds hw2] at q
        have l1 : (("join " : Str) ++ n).length = 5 + n.length := len_app _ _
        have l2 : (("join " : Str) ++ n ++ spS).length = 5 + n.length + 1 := by rw [len_app, l1]; rfl
        have lw : (wordsD ds).length = ds.length := by unfold wordsD; rw [List.length_map]
        have hs := sum_words hw1
        have hj2 := join_le spS (wordsD ds)
        have h3 : spS.length = 1 := rfl
        rw [h3, lw] at hj2
        refine ⟨_, rfl, t1, _, 0, _, rfl, rfl, hS1, at0, rfl, _, rfl, str_if (fun z => absurd z (by decide +kernel)) fun _ => ?_⟩
        walk_at "nx"
        refine ⟨_, rfl, t1, _, 0, _, rfl, rfl, hS1, at0, rfl, _, rfl, str_if (fun _ => ?_) fun z => absurd rfl z⟩
        refine ⟨_, rfl, t1, _, 1, _, rfl, rfl, hS1, at1, _, _, rfl, rfl, by show 5 + n.length ≤ _; omega, _, _, rfl, rfl, by rw [l1]; show 5 + n.length + 1 ≤ _; omega, ⟨_, rfl⟩, _, rfl, t1, _, 2, _, rfl, rfl, hS1, at2, t2, xs, rfl, .inr hS2, fun l nl => ?_⟩
        refine ⟨spS, l, wordsD ds, rfl, rfl, .inl (by rw [← ex]; exact SqL.of upd_same), ?_, _, _, rfl, rfl, ?_, q _ (same_upd nl)⟩
        · rw [h3, lw]
          omega
        · rw [l2]
          show 5 + n.length + 1 + (PySem.Txt.join spS (wordsD ds)).length ≤ _
          omega
      · obtain ⟨t1, xs, rfl, hS1, ka⟩ := tupDv gc
        obtain ⟨v1, vs1, rfl⟩ : ∃ v vs, xs = v :: vs := by cases ka; exact ⟨_, _, rfl⟩
        have hv : v1 = .str w0 := by cases ka with | cons h1 _ => exact strD h1
        subst hv
        refine ⟨_, rfl, t1, _, 0, _, rfl, rfl, hS1, at0, rfl, _, rfl, str_if (fun z => absurd z n1) fun _ => ?_⟩
        walk_at "nx"
        refine ⟨_, rfl, t1, _, 0, _, rfl, rfl, hS1, at0, rfl, _, rfl, str_if (fun z => absurd z n2) fun _ => ?_⟩
        walk_at "nx"
        have hlx := DpAll.length ka
        refine ⟨⟨_, rfl⟩, _, rfl, t1, rfl, ⟨_, hS1⟩, fun D hD => lc_tup (K := K) (a := t1) (xs := _) (MapI H D ((PyData.str w0 :: es).map fun d => V.str (L2.Lr.strOf d))) (MapI.zero hD) (fun i H' _ p => seqT p.1 hS1) ?_ ?_⟩
        · rintro i v H4 hv p
          obtain ⟨d, hdi, hdv⟩ := DpAll.at ka hv
          refine ⟨rfl, ⟨_, rfl, v, d, rfl, Dp.same p.1 hdv, (he d (List.mem_of_getElem? hdi)).1, ?_⟩⟩
          exact MapI.step hD p (by rw [List.getElem?_map, hdi]; rfl) (by rw [List.length_map]; omega) (Same.refl H4)
        · intro H4 pm
          obtain ⟨s4, hD4⟩ := pm.all (by rw [List.length_map, hlx]; exact Nat.le_refl _)
          refine ⟨spS, D, (PyData.str w0 :: es).map L2.Lr.strOf, rfl, rfl, .inl (SqL.of (by rw [hD4, List.map_map]; rfl)), ?_, ?_⟩
          · have hs := sum_le (m := 202) (l := ((PyData.str w0 :: es).map L2.Lr.strOf).map (·.length)) fun x hx => by
              obtain ⟨y, hy, rfl⟩ := List.mem_map.mp hx
              obtain ⟨e, me, rfl⟩ := List.mem_map.mp hy
              exact (he e me).2
            have h3 : spS.length = 1 := rfl
            rw [List.length_map, List.length_map] at hs
            rw [h3, List.length_map]
            omega
          · rw [← hln]
            exact q H4 s4
end
end L2.L86

set_option maxHeartbeats 1000000
namespace L2.L86
open PySem PySem.Spec PyProof.Rows NumText LR L2.Lr L2.Tx TL SkE
/-! the signs of the lines -/
def smallB (t : Str) : Bool := (tl t).all fun c => decide (c < 256)
theorem low_part4 : (partDs.all fun d => smallB (txF (txM 4) d)) = true := by decide +kernel
theorem low_part3 : (partDs.all fun d => smallB (txF (txM 3) d)) = true := by decide +kernel
theorem low_names : (names.all fun d => match d with | .str x => smallB x | _ => false) = true := by decide +kernel
theorem low_join {y : Str} {ps : List Str} (hy : Low y) (h : ∀ p ∈ ps, Low p) : Low (PySem.Txt.join y ps) := fun c hc => by
  have e : tl (PySem.Txt.join y ps) = joinL (tl y) (ps.map tl) := by rw [join_eq, tl_join]
  rw [e] at hc
  rcases joinL_mem hc with m | ⟨x, hx, m⟩
  · exact hy c m
  · obtain ⟨p, hp, rfl⟩ := List.mem_map.mp hx
    exact h p hp c m
theorem low_name {n : Str} (h : .str n ∈ names) : Low n := low_of (List.all_eq_true.mp low_names _ h)
theorem low_row {ds : List PyData} (h : RowDrawn ds) : Low (txM 5 ds) := by
  obtain ⟨fs, t, hl, hf, ht, rfl⟩ := h
  have hsc : Low scS := low_of (by decide +kernel)
  refine low_join hsc fun p hp => ?_
  obtain ⟨d, hd, rfl⟩ := List.mem_map.mp hp
  rcases List.mem_append.mp hd with m | m
  · exact low_of (List.all_eq_true.mp low_part4 d (hf d m))
  · cases ht with
    | head => cases m
    | tail _ ht =>
      cases ht with
      | head =>
        rw [List.mem_singleton.mp m]
        show Low (("forever (" : Str) ++ txM 4 fs ++ clS)
        refine (Low.app (low_of (by decide +kernel)) ?_).app (low_of (by decide +kernel))
        refine low_join hsc fun p hp => ?_
        obtain ⟨d, hd, rfl⟩ := List.mem_map.mp hp
        exact low_of (List.all_eq_true.mp low_part3 d (hf d hd))
      | tail _ ht => cases ht
theorem low_words {ws : List Str} (h : ∀ p ∈ ws, Low p) : Low (PySem.Txt.join spS ws) := low_join (low_of (by decide +kernel)) h
theorem low_joins : (joins.all fun d => match d with | .tuple ds => smallB (PySem.Txt.join spS (wordsD ds)) | _ => false) = true := by decide +kernel
theorem evt_low {d : PyData} (h : Evt d) : Low (lineD d) := by
  have hsp : Low spS := low_of (by decide +kernel)
  cases h with
  | undo => exact low_of (by decide +kernel)
  | @num i _ _ => rw [ln_num]; exact (low_of (by decide +kernel)).app (low_int i)
  | @room n d hn hd =>
    rw [ln_room n d (fun ds z => by subst z; rcases hd with z | z | ⟨_, z, _⟩ <;> cases z)]
    refine (((low_of (by decide +kernel)).app (low_name hn)).app hsp).app ?_
    rcases hd with rfl | rfl | ⟨i, rfl, _⟩
    · exact low_of (by decide +kernel)
    · exact low_int _
    · exact low_int i
  | change hc =>
    cases hc with
    | @row n ds hn hr => rw [ln_row]; exact (((low_of (by decide +kernel)).app (low_name hn)).app hsp).app (low_row hr)
    | @join n j hn hj =>
      have z := List.all_eq_true.mp low_joins _ hj
      cases j with
      | tuple ds =>
        rw [ln_join n ds (joins_ok hj).2.1]
        exact (((low_of (by decide +kernel)).app (low_name hn)).app hsp).app (low_of z)
      | _ => cases z
    | @first n k hn _ _ =>
      refine low_words (ws := ["first", n, intT k]) fun p hp => ?_
      simp only [List.mem_cons, List.not_mem_nil, or_false] at hp
      rcases hp with rfl | rfl | rfl
      · exact low_of (by decide +kernel)
      · exact low_name hn
      · exact low_int k
    | @part n hn =>
      refine low_words (ws := ["part", n]) fun p hp => ?_
      simp only [List.mem_cons, List.not_mem_nil, or_false] at hp
      rcases hp with rfl | rfl
      · exact low_of (by decide +kernel)
      · exact low_name hn
    | @relay n a b hn ha hb =>
      refine low_words (ws := ["relay", n, a, b]) fun p hp => ?_
      simp only [List.mem_cons, List.not_mem_nil, or_false] at hp
      rcases hp with rfl | rfl | rfl | rfl
      · exact low_of (by decide +kernel)
      · exact low_name hn
      · exact low_name ha
      · exact low_name hb
    | @kill n i hn _ _ =>
      refine low_words (ws := ["kill", n, intT i, intT 7]) fun p hp => ?_
      simp only [List.mem_cons, List.not_mem_nil, or_false] at hp
      rcases hp with rfl | rfl | rfl | rfl
      · exact low_of (by decide +kernel)
      · exact low_name hn
      · exact low_int i
      · exact low_int 7
theorem plan_low {es : List PyData} (h : ∀ x ∈ es, Evt x) : Low (planT es) := by
  unfold planT
  induction es with
  | nil => exact low_empty
  | cons e es ih =>
    show Low (lineD e ++ nlS ++ cat (es.map lineD))
    exact ((evt_low (h e (List.mem_cons_self ..))).app (low_of (by decide +kernel))).app (ih fun x hx => h x (List.mem_cons_of_mem _ hx))
theorem shaped_str {t : Str} (h : Low t) : SeqAt.shaped (.str t) = true := by
  refine Bool.and_eq_true_iff.mpr ⟨?_, decide_eq_true (by simp [PyData.depth])⟩
  simp only [PyData.canLay0]
  unfold PyData.strOk
  rw [← Array.all_toList, List.all_eq_true]
  intro c hc
  simpa using h.small c hc
end L2.L86

set_option maxHeartbeats 1000000
namespace L2.L86
open PySem PySem.Spec PyProof.Rows NumText LR L2.Lr L2.Tx TL SkE
local macro_rules | `(tactic| walk_at "nx") => `(tactic| dsimp only [gName, tNext, tSeq, tAsg, List.set_cons_zero, List.set_cons_succ])
theorem scre : FnScope ["_law_thing", "_law_kept", "e"] ["_law_thing"] (defScope sRefused) := ⟨rfl, rfl, rfl, by decide +kernel, rfl, by decide +kernel, by decide +kernel⟩
def isDict : PyData → Bool
  | .dict _ => true
  | _ => false
theorem dict_no {K : PySem.W.Frag} {H : Hp} {x : V} {d : PyData} (h : Dp K H x d) : isDict d = false := by cases h <;> rfl
def Wrong (d : PyData) : Prop := seqE d = none ∨ ∃ ds, seqE d = some ds ∧ ds.length ≤ 1000 ∧ (∀ e ∈ ds, ShE e) ∧ ds.all toldB = false
def spRef (K : PySem.W.Frag) : Sp := fun vs H Q _ => ∃ x d, vs = [x] ∧ DpE K H x d ∧ Wrong d ∧ (isDict d = false → SeqAt.shaped d = true) ∧ ∀ H', Same H H' → Q (.bl true) H'
section
variable {P : Program} {w : World} {K : PySem.W.Frag} {mg : Str → Option Value} {base : Heap}
theorem ol_ref {f fW : Addr} {fd dW : FuncData} (F : FnP K "_law_refused" sRefused f fd) (T : Txt K mg) {k : Nat} (Wt : Def P w K mg base (L2.CX P w) k "write_plan" fW dW ["events"] (spWrite K)) : FnOk P w K mg base CX0 (k + 1) f fd ["_law_thing"] (spRef K) := by
  refine F.ok scre (fun vs H Q E h => ?_) (fun cdv A outer s H vs Q E hr h => ?_)
  · obtain ⟨x, d, rfl, _⟩ := h
    rfl
  · obtain ⟨x, d, rfl, hx, hw, hsh, q⟩ := h
    have hu := hr.units
    refine ⟨_, pss_cons (ps_set (i := 1) scre.nd rfl (Or.inl rfl) pe_non)
      (pss_cons (ps_try_as (i := 2) rfl rfl scre.nd rfl rfl ⟨rfl, by decide, .inl T.xE.g⟩ takes0 (fun W pn xe tk _ => pss_one (ps_expr (pe_callS Wt.ok hr (by rfl) Wt.g Wt.k Wt.b (fun σ => passAt tk σ) (pa_cons (pv 0) pa_nil))))
        (fun a oe cls d pn hz hf => pss_one (ps_set (i := 1) scre.nd rfl (Or.inl rfl) (pe_and (pe_cmpR (op_eqSelf K rfl hu) (pe_xv hz hf (pv 2)) (pv 0) (nomark _)) (pe_one (pe_isS (c := .ty "ValueError") (cv := .type "ValueError") hz hf (pe_bltn (by rfl) T.vE bbV (by rfl)) (fun u h => h) T.p.isn (pv 2) (by rfl)))))))
      (pss_one (ps_ret (pv 1)))), ?_⟩
    have e0 : start ["_law_thing", "_law_kept", "e"] [x] = [some x, none, none] := rfl
    rw [e0]
    refine go_seq (go_asg ?_)
    refine go_next ?_
    refine ⟨_, rfl, x, d, rfl, hx, ?_⟩
    rcases hw with hw | ⟨ds, hs, hl, hse, hb⟩
    · refine .inl ⟨hw, fun dd H' s' hd => ⟨true, T.xE.e, fun _ a na => ?_, fun z => nomatch z⟩⟩
      refine ⟨_, rfl, rfl, CE K, dd, _, _, xV, rfl, rfl, T.xE.x, T.xE.nv, hd, rfl, _, rfl, rfl, d, hx.same s', fun h => hsh (dict_no h), _, rfl, iteT ?_⟩
      refine ⟨_, rfl, rfl, CE K, xV, true, rfl, fun dx u => by cases u; exact ⟨_, hd⟩, T.xE.x, T.xE.kB, ?_⟩
      exact ⟨_, rfl, q _ s'⟩
    · refine .inr ⟨ds, hs, hl, hse, .inl ⟨hb, fun dd H' s' hd => ⟨true, T.xE.e, fun _ a na => ?_, fun z => nomatch z⟩⟩⟩
      refine ⟨_, rfl, rfl, CE K, dd, _, _, xV, rfl, rfl, T.xE.x, T.xE.nv, hd, rfl, _, rfl, rfl, d, hx.same s', fun h => hsh (dict_no h), _, rfl, iteT ?_⟩
      refine ⟨_, rfl, rfl, CE K, xV, true, rfl, fun dx u => by cases u; exact ⟨_, hd⟩, T.xE.x, T.xE.kB, ?_⟩
      exact ⟨_, rfl, q _ s'⟩
end
end L2.L86

set_option maxHeartbeats 1000000
namespace L2.L86
open PySem PySem.Spec PyProof.Rows NumText LR L2.Lr L2.Tx TL SkE
local macro_rules | `(tactic| walk_at "nx") => `(tactic| dsimp only [gName, tNext, tSeq, tAsg, List.set_cons_zero, List.set_cons_succ])
abbrev NL : List Str := ["_law_script", "_law_k", "_law_pool_here", "_law_events", "_law_turn", "_law_kept", "_law_text", "_law_event_here", "_law_thing", "_law_odd", "_law_wrong", "_law_at"]
theorem scla : FnScope NL ["_law_script"] (defScope sLaw) := ⟨rfl, rfl, rfl, by decide +kernel, rfl, by decide +kernel, by decide +kernel⟩
def odd1 : List PyData := [.none, .int 5, .tuple [], .tuple [.str "undo", .int 1], .tuple [.str "n", .int (-1)], .tuple [.str "room", .str "c", .int (-1)], .tuple [.str "room", .str "C", .int 1], .tuple [.str "change", .none]]
def odd2 : List PyData := [.tuple [.str "change", .tuple [.str "first", .str "c", .int 100]], .tuple [.str "change", .tuple [.str "row", .str "ann", .list []]], .tuple [.str "change", .tuple [.str "join", .str "s", .tuple [.str "c"]]]]
def odd3 : List PyData := [.tuple [.str "room", .str "c", .int (10 ^ 200 + 1)], .tuple [.str "change", .tuple [.str "relay", .str "c", .str "d"]], .tuple [.str "n", .bool true], .list [.str "undo"], .tuple [.str "part", .str "s"]]
def odds : List PyData := odd1 ++ odd2 ++ odd3
def oddB (d : PyData) : Bool := !toldB d && (shEB d && (fine2 d && (decide (d.weight ≤ 6000) && (decide (d.depth ≤ 10) && l2 d))))
theorem odds_ok : odds.all oddB = true := by decide +kernel
def spLaw (K : PySem.W.Frag) : Sp := fun vs H Q _ => ∃ (a : Addr) (ns : List Int), vs = [.ref a] ∧ SqL K H a (ns.map V.int) ∧ ns.length ≤ 63 ∧ ∀ H', Q (.bl true) H'
structure Dfs (P : Program) (w : World) (K : PySem.W.Frag) (mg : Str → Option Value) (base : Heap) (k : Nat) (fP fT fE fL fR fW fD fF : Addr) (xP xT xE xL xR xW xD xF : FuncData) : Prop where
  dP : Def P w K mg base CX0 1 "_law_pool" fP xP ["_law_script", "_law_k"] (spPool K)
  dT : Def P w K mg base CX0 1 "_law_take" fT xT ["_law_pool_here", "_law_many"] spTake
  dE : Def P w K mg base CX0 4 "_law_event" fE xE ["_law_pool_here"] (spLEv K)
  dL : Def P w K mg base CX0 k "_law_line" fL xL ["_law_event_here"] (spLLine K)
  dR : Def P w K mg base CX0 k "_law_refused" fR xR ["_law_thing"] (spRef K)
  dW : Def P w K mg base (L2.CX P w) k "write_plan" fW xW ["events"] (spWrite K)
  dD : Def P w K mg base CX0 k "read_plan" fD xD ["text"] (spReadP K)
  dF : Def P w K mg base CX0 1 "_law_far" fF xF [] spFar
theorem PoolAt.but {H H' : Hp} {p : Addr} (h : PoolAt H p) (s : Adv p H H') : But p H H' := by
  obtain ⟨c, s', z, _⟩ := h
  exact ⟨s, _, _, z⟩
/-- a turn of the law: the pool and the entries -/
structure Tn (K : PySem.W.Frag) (H0 : Hp) (pp e : Addr) (xs : List V) (es : List PyData) (H : Hp) : Prop where
  ad : Adv pp H0 H
  po : PoolAt H pp
  he : H e = some (.lst xs)
  ne : e ≠ pp
  de : DpAll K H xs es
theorem Tn.same {K : PySem.W.Frag} {H0 H H' : Hp} {pp e : Addr} {xs : List V} {es : List PyData} (t : Tn K H0 pp e xs es H) (s : Same H H') : Tn K H0 pp e xs es H' := ⟨t.ad.same s, t.po.same s, s _ _ t.he, t.ne, DpAll.same s t.de⟩
theorem Tn.adv {K : PySem.W.Frag} {H0 H H' : Hp} {pp e : Addr} {xs : List V} {es : List PyData} (t : Tn K H0 pp e xs es H) (s : Adv pp H H') (po : PoolAt H' pp) (h : noLAll es = true) : Tn K H0 pp e xs es H' := ⟨t.ad.trans s, po, s _ _ t.he t.ne, t.ne, DpAll.kt (t.po.kt s) t.de h⟩
theorem cutV_to {xs : List V} {r : Int} (h0 : 0 ≤ r) (h1 : r ≤ xs.length) : cutV xs none (some r) = xs.take r.toNat := by
  unfold cutV HT.sIx
  dsimp only
  rw [if_neg (by omega), List.drop_zero, Nat.min_eq_left (by omega), Nat.sub_zero]
theorem cutV_from {xs : List V} {r : Int} (h0 : 0 ≤ r) (h1 : r ≤ xs.length) : cutV xs (some r) none = xs.drop r.toNat := by
  unfold cutV HT.sIx
  dsimp only
  rw [if_neg (by omega), Nat.min_eq_left (by omega)]
  exact List.take_of_length_le (by rw [List.length_drop]; exact Nat.le_refl _)
theorem dpTake {K : PySem.W.Frag} {H : Hp} : ∀ {xs : List V} {ds : List PyData} (n : Nat), DpAll K H xs ds → DpAll K H (xs.take n) (ds.take n)
  | _, _, 0, _ => .nil
  | _, _, n + 1, .nil => .nil
  | _, _, n + 1, .cons h a => .cons h (dpTake n a)
theorem dpDrop {K : PySem.W.Frag} {H : Hp} : ∀ {xs : List V} {ds : List PyData} (n : Nat), DpAll K H xs ds → DpAll K H (xs.drop n) (ds.drop n)
  | _, _, 0, a => a
  | _, _, n + 1, .nil => .nil
  | _, _, n + 1, .cons h a => dpDrop n a
theorem l2All_of {ds : List PyData} (h : ∀ d ∈ ds, l2 d = true) : l2All ds = true := by
  induction ds with
  | nil => simp [l2All]
  | cons d ds ih =>
    simp only [l2All]
    rw [h d (List.mem_cons_self ..), ih fun x hx => h x (List.mem_cons_of_mem _ hx)]
    rfl
theorem l2All_at {ds : List PyData} {i : Nat} {d : PyData} (h : l2All ds = true) (e : ds[i]? = some d) : l2 d = true := by
  induction ds generalizing i with
  | nil => simp at e
  | cons x ds ih =>
    simp only [l2All] at h
    obtain ⟨h1, h2⟩ := Bool.and_eq_true_iff.mp h
    cases i with
    | zero => simp at e; subst e; exact h1
    | succ i => exact ih h2 (by simpa using e)
section
variable {P : Program} {w : World} {K : PySem.W.Frag} {mg : Str → Option Value} {base : Heap}
theorem ok_law {f : Addr} {fd : FuncData} (F : FnP K "law" sLaw f fd) (T : Txt K mg) {k0 : Nat} (h4 : 4 ≤ k0) {fP fT fE fL fR fW fD fF : Addr} {xP xT xE xL xR xW xD xF : FuncData} (D : Dfs P w K mg base k0 fP fT fE fL fR fW fD fF xP xT xE xL xR xW xD xF) :
    FnQ P w K mg base CX0 (k0 + 1) f fd ["_law_script"] (spLaw K) := by
  refine FnQ.of F scla (fun vs H Q E h => ?_) (fun cdv A outer s H vs Q E qA hr h => ?_)
  · obtain ⟨a, ns, rfl, _⟩ := h
    rfl
  · obtain ⟨a, ns, rfl, hS, hl, q⟩ := h
    have hu := hr.units
    have sz : sizeLine = 16777216 := sizeLine_eq
    have hr4 : Room 4 _ := hr.mono h4
    have hr1 : Room 1 _ := hr4.mono (by decide)
    refine ⟨_, PSs.nox (C8.pss_cut (ps_for PassesOwn.never rfl (pi_range1 (by rfl) T.range (pa_cons (pe_callB (call_max2 rfl) (by rfl) T.max boot_max (pa_cons pe_int (pa_cons (pe_callB (call_min2 rfl) (by rfl) T.min boot_min (pa_cons (pe_callB call_len (by rfl) T.p.len boot_len (pa_cons (pv 0) pa_nil)) (pa_cons pe_int pa_nil))) pa_nil))) pa_nil)) (pg_name (i := 1) scla.nd rfl (Or.inl rfl))
        (pss_cons (ps_set (i := 2) scla.nd rfl (Or.inr rfl) (pe_call D.dP.ok hr1 (by rfl) D.dP.g D.dP.k D.dP.b .nil pass0 (pa_cons (pv 0) (pa_cons (pv 1) pa_nil))))
        (C8.pss_cut (ps_setLc (i := 3) (own := [("_law_turn", 4)]) (g := gName 4) (tt := tYes) rfl scla.nd rfl rfl (sw_true rfl rfl rfl (by decide +kernel)) (pi_range1 (by rfl) T.range (pa_cons (pe_call D.dT.ok hr1 (by rfl) D.dT.g D.dT.k D.dT.b .nil pass0 (pa_cons (pv 2) (pa_cons pe_int pa_nil))) pa_nil)) (blkOk_by (N := NL) (sc := defScope sLaw) (by decide +kernel)) (fun _ _ _ _ _ => pg_name (i := 4) scla.nd rfl (Or.inl rfl)) (fun _ _ _ _ _ => pts_nil)
          (fun _ _ _ _ _ => pe_call D.dE.ok hr4 (by rfl) D.dE.g D.dE.k D.dE.b .nil pass0 (pa_cons (pv 2) pa_nil)))
        (C8.pss_cut (ps_par (i := 5) (j := 6) (by rfl) scla.nd rfl rfl (by decide) rfl rfl (pa_cons (pe_callB (call_repr qA hu) (by rfl) T.repr boot_repr (pa_cons (pv 3) pa_nil)) (pa_cons (pe_join pe_str (pe_lc (own := [("_law_event_here", 7)]) (g := gName 7) (tt := tYes) rfl scla.nd (pi_list (pv 3)) (blkOk_by (N := NL) (sc := defScope sLaw) (by decide +kernel)) (fun _ _ _ _ _ => pg_name (i := 7) scla.nd rfl (Or.inl rfl)) (fun _ _ _ _ _ => pts_nil)
          (fun _ _ _ _ _ => pe_op op_add_str (pe_call D.dL.ok hr (by rfl) D.dL.g D.dL.k D.dL.b .nil pass0 (pa_cons (pv 7) pa_nil)) pe_str))) pa_nil)) (by rfl))
        (C8.pss_cut (ps_for PassesOwn.never rfl (pi_list (pe_lst (pa_cons (pv 3) (pa_cons (pe_callTy call_tuple_of (by rfl) T.p.tuple bbT (pa_cons (pv 3) pa_nil)) pa_nil)))) (pg_name (i := 8) scla.nd rfl (Or.inl rfl))
          (pss_one (ps_if (pt_cmpR op_ne (pe_call D.dW.ok hr (by rfl) D.dW.g D.dW.k D.dW.b .nil passL (pa_cons (pv 8) pa_nil)) (pv 6) (nomark _)) (pss_one (ps_ret pe_bl)) pss_nil)))
        (C8.pss_cut (ps_if (PW.pt (pw_or (pt_cmpR (op_neD hu) (pe_call D.dD.ok hr (by rfl) D.dD.g D.dD.k D.dD.b .nil pass0 (pa_cons (pv 6) pa_nil)) (pv 3) (nomark _)) (pw_or (pt_cmpR op_ne (pe_callB (call_repr qA hu) (by rfl) T.repr boot_repr (pa_cons (pv 3) pa_nil)) (pv 5) (nomark _)) (pw_or (pt_cmpR op_ne (pe_call D.dW.ok hr (by rfl) D.dW.g D.dW.k D.dW.b .nil passL (pa_cons (pe_lst pa_nil) pa_nil)) pe_str (nomark _)) (pw_or1 (pt_cmpR (op_neD hu) (pe_call D.dD.ok hr (by rfl) D.dD.g D.dD.k D.dD.b .nil pass0 (pa_cons pe_str pa_nil)) (pe_lst pa_nil) (nomark _))))))) (pss_one (ps_ret pe_bl)) pss_nil)
        (C8.pss_cut (ps_expr (pe_bm PySem.F.plainAttrs_list PySem.F.slot_list_append PySem.F.type_list_append mt_append (pe_call D.dD.ok hr (by rfl) D.dD.g D.dD.k D.dD.b .nil pass0 (pa_cons (pv 6) pa_nil)) (pa_cons pe_non pa_nil)))
        (C8.pss_cut (ps_if (pt_cmpR (op_neD hu) (pe_call D.dD.ok hr (by rfl) D.dD.g D.dD.k D.dD.b .nil pass0 (pa_cons (pv 6) pa_nil)) (pv 3) (nomark _)) (pss_one (ps_ret pe_bl)) pss_nil)
        (C8.pss_cut (ps_set (i := 9) scla.nd rfl (Or.inl rfl) (pd_lstL (ds := odd1) (pd_cons pd_non (pd_cons pd_int (pd_cons (pd_tup pd_nil) (pd_cons (pd_tup (pd_cons pd_str (pd_cons pd_int pd_nil))) (pd_cons (pd_tup (pd_cons pd_str (pd_cons pd_neg pd_nil))) (pd_cons (pd_tup (pd_cons pd_str (pd_cons pd_str (pd_cons pd_neg pd_nil)))) (pd_cons (pd_tup (pd_cons pd_str (pd_cons pd_str (pd_cons pd_int pd_nil)))) (pd_cons (pd_tup (pd_cons pd_str (pd_cons pd_non pd_nil))) pd_nil))))))))))
        (C8.pss_cut (ps_set (i := 9) scla.nd rfl (Or.inl rfl) (pe_op op_cat (pv 9) (pd_lstL (ds := odd2) (pd_cons (pd_tup (pd_cons pd_str (pd_cons (pd_tup (pd_cons pd_str (pd_cons pd_str (pd_cons pd_int pd_nil)))) pd_nil))) (pd_cons (pd_tup (pd_cons pd_str (pd_cons (pd_tup (pd_cons pd_str (pd_cons pd_str (pd_cons (pd_lst pd_nil) pd_nil)))) pd_nil))) (pd_cons (pd_tup (pd_cons pd_str (pd_cons (pd_tup (pd_cons pd_str (pd_cons pd_str (pd_cons (pd_tup (pd_cons pd_str pd_nil)) pd_nil)))) pd_nil))) pd_nil))))))
        (C8.pss_cut (ps_set (i := 9) scla.nd rfl (Or.inl rfl) (pe_op op_cat (pv 9) (pd_lstL (ds := odd3) (pd_cons (pd_tup (pd_cons pd_str (pd_cons pd_str (pd_cons (pd_ofI (i := 10 ^ 200 + 1) (pe_op op_add (pe_call0 D.dF.ok hr1 (by rfl) D.dF.g D.dF.k D.dF.b .nil pass0) pe_int) (fun _ _ _ q => ⟨rfl, _, _, rfl, rfl, q⟩)) pd_nil)))) (pd_cons (pd_tup (pd_cons pd_str (pd_cons (pd_tup (pd_cons pd_str (pd_cons pd_str (pd_cons pd_str pd_nil)))) pd_nil))) (pd_cons (pd_tup (pd_cons pd_str (pd_cons pd_bl pd_nil))) (pd_cons (pd_lst (pd_cons pd_str pd_nil)) (pd_cons (pd_tup (pd_cons pd_str (pd_cons pd_str pd_nil))) pd_nil))))))))
        (C8.pss_cut (ps_for PassesOwn.never rfl (pi_list (pv 9)) (pg_name (i := 10) scla.nd rfl (Or.inl rfl))
          (pss_cons (ps_set (i := 11) scla.nd rfl (Or.inl rfl) (pe_call D.dT.ok hr1 (by rfl) D.dT.g D.dT.k D.dT.b .nil pass0 (pa_cons (pv 2) (pa_cons (pe_op op_add (pe_callB call_len_seq (by rfl) T.p.len boot_len (pa_cons (pv 3) pa_nil)) pe_int) pa_nil))))
          (pss_one (ps_if (pt_cmpR op_isnot_bl (pe_call D.dR.ok hr (by rfl) D.dR.g D.dR.k D.dR.b .nil pass0 (pa_cons (pe_op op_cat (pe_op op_cat (pe_slice sl_list (pv 3) po_none (po_some (pv 11))) (pe_lst (pa_cons (pv 10) pa_nil))) (pe_slice sl_list (pv 3) (po_some (pv 11)) po_none)) pa_nil)) pe_bl (nomark _)) (pss_one (ps_ret pe_bl)) pss_nil))))
        (pss_one (ps_for PassesOwn.never rfl (pi_list (pe_lst (pa_cons pe_non (pa_cons pe_int (pa_cons pe_str (pa_cons pe_dnewK (pa_cons (pv 6) pa_nil))))))) (pg_name (i := 8) scla.nd rfl (Or.inl rfl))
          (pss_one (ps_if (pt_cmpR op_isnot_bl (pe_call D.dR.ok hr (by rfl) D.dR.g D.dR.k D.dR.b .nil pass0 (pa_cons (pv 8) pa_nil)) pe_bl (nomark _)) (pss_one (ps_ret pe_bl)) pss_nil))))))))))))))))
      (pss_one (ps_ret pe_bl))), ?_⟩
    have e0 : start NL [V.ref a] = [some (.ref a), none, none, none, none, none, none, none, none, none, none, none] := rfl
    rw [e0]
    refine ⟨fun σ' H' => True, ?_, fun σ' H' _ => q H'⟩
    refine ⟨_, rfl, _, (ns.map V.int).length, rfl, Or.inl ⟨_, hS, rfl⟩, _, _, rfl, _, _, rfl, _, rfl, ?_, ?_, ?_⟩
    · split <;> split <;> omega
    · split <;> split <;> omega
    refine for_rangeD (lo := 0) (fun i σ H' => Same H H' ∧ ∃ o2 o3 o4 o5 o6 o7 o8 o9 o10 o11, ∃ o1 : Option V, σ = [some (.ref a), o1, o2, o3, o4, o5, o6, o7, o8, o9, o10, o11]) ⟨Same.refl H, none, none, none, none, none, none, none, none, none, none, none, rfl⟩ ?_ (fun σ H' _ => trivial)
    rintro D1 k σ H1 hrt hnx - - hk ⟨e1, o2, o3, o4, o5, o6, o7, o8, o9, o10, o11, o1, rfl⟩
    have hk8 : k < 8 := by
      revert hk
      split <;> split <;> omega
    refine ⟨_, rfl, _, rfl, a, ns, 0 + (k : Int), rfl, e1.seq hS, by omega, by omega, by omega, fun pp H2 np s2 hp2 => ?_⟩
    walk_at "nx"
    -- the events
    refine ⟨fun σ' H' => ∃ e xs es o4, σ' = [some (.ref a), some (.int (0 + (k : Int))), some (.ref pp), some (.ref e), o4, o5, o6, o7, o8, o9, o10, o11] ∧ Tn K H1 pp e xs es H' ∧ (∀ x ∈ es, Evt x) ∧ es.length ≤ 8, ?_, ?_⟩
    · refine ⟨_, rfl, pp, 9, rfl, hp2, by decide, by decide, fun r H3 r0 r1 v3 hp3 => ?_⟩
      have a3 : Adv pp H1 H3 := Same.adv s2 v3
      refine ⟨_, rfl, by omega, by omega, fun De hD => ?_⟩
      have nDe := hp3.ne hD
      refine lc_range (lo := 0) (n := r.toNat) (fun i H' => ∃ vs ds, Adv pp H3 H' ∧ PoolAt H' pp ∧ H' De = some (.lst vs) ∧ DpAll K H' vs ds ∧ ds.length = i ∧ ∀ x ∈ ds, Evt x) ⟨[], [], Adv.refl.same (same_upd hD), hp3.same (same_upd hD), upd_same, .nil, rfl, fun x hx => by cases hx⟩ ?_ ?_
      · rintro i H' hi ⟨vs, ds, ad, po, hDe, hds, hln, hall⟩
        refine ⟨rfl, ⟨_, rfl, pp, rfl, po, fun v d H5 a5 po5 hd hb => ?_⟩⟩
        have h5 := a5 _ _ hDe nDe
        have hkt := Kt.upd (o := .lst (vs ++ [v])) h5
        have hlv := DpAll.length hds
        have hno : noLAll ds = true := noLAll_mk fun d hd => (evt_ok (hall d hd)).n
        refine ⟨_, h5, by omega, vs ++ [v], ds ++ [d], ?_, ?_, upd_same, ?_, by rw [List.length_append, hln]; rfl, ?_⟩
        · exact fun b o hb' nb => (upd_ne (ne_of_none hb' hD)).trans (a5 _ _ (ad b o hb' nb) nb)
        · obtain ⟨c', s', z, z2⟩ := po5
          exact ⟨c', s', (upd_ne nDe.symm).trans z, z2⟩
        · exact DpAll.append (DpAll.kt hkt (DpAll.kt (po.kt a5) hds hno) hno) (.cons (Dp.kt hkt hd (evt_ok hb).n) .nil)
        · intro x hx
          rcases List.mem_append.mp hx with m | m
          · exact hall x m
          · rw [List.mem_singleton.mp m]
            exact hb
      · rintro H' ⟨vs, ds, ad, po, hDe, hds, hln, hall⟩
        exact ⟨De, vs, ds, _, rfl, ⟨a3.trans ad, po, hDe, nDe, hds⟩, hall, by omega⟩
    clear hp2 s2
    rintro σ1 H3 ⟨e, xs, es, q4, rfl, t3, hevt, hl8⟩
    have hok : ∀ x ∈ es, EvOk x := fun x hx => evt_ok (hevt x hx)
    have hno : noLAll es = true := noLAll_mk fun d hd => (hok d hd).n
    have haE : es.all toldB = true := List.all_eq_true.mpr fun x hx => (hok x hx).t
    have hni : Nice2 70000 11 (.list es) := (niceAll_of2 fun x hx => (hok x hx).ni).lst.mono (by have := Nat.mul_le_mul_right 6001 hl8; omega) (by decide)
    have shL : SeqAt.shaped (.list es) = true := hni.shaped (by decide)
    have eqr : PyData.eqv (.list es) (.list es) = true := SeqAt.eqv_refl _ (SeqAt.canLay_of_shaped shL)
    have hshow := hni.shown (Nat.le_refl _)
    have hlt : (planT es).length ≤ 100000 := by
      have h := cat_len (m := 12000) (ls := es.map lineD) fun l hl => by
        obtain ⟨d, hd, rfl⟩ := List.mem_map.mp hl
        exact (hok d hd).l
      rw [List.length_map] at h
      unfold planT
      have := Nat.mul_le_mul_right 12001 hl8
      omega
    have hxl := DpAll.length t3.de
    -- repr and lines
    refine ⟨fun σ' H' => ∃ o7, σ' = [some (.ref a), some (.int (0 + (k : Int))), some (.ref pp), some (.ref e), q4, some (.str (PyData.list es).shown), some (.str (planT es)), o7, o8, o9, o10, o11] ∧ Tn K H1 pp e xs es H', ?_, ?_⟩
    · refine ⟨_, rfl, .ref e, .list es, rfl, .lst (SqL.of t3.he) t3.de, hshow.1, hshow.2, Nat.le_trans hni.dp (by decide), ?_⟩
      have hS3 := SqL.of (K := K) t3.he
      refine ⟨⟨_, rfl⟩, _, rfl, e, rfl, ⟨_, hS3⟩, fun De hD => lc_list (K := K) (a := e) (xs := xs) (MapI H3 De (es.map fun d => V.str (lineD d ++ nlS))) (MapI.zero hD) (fun i H' _ p => Same.seq p.1 hS3) ?_ ?_⟩
      · rintro i v H4 hv p4
        obtain ⟨d, hdi, hdv⟩ := DpAll.at t3.de hv
        have hm := List.mem_of_getElem? hdi
        have ll := (hok d hm).l
        refine ⟨rfl, ⟨_, rfl, v, d, rfl, Dp.same p4.1 hdv, hevt d hm, fun H5 s5 => ⟨_, _, rfl, rfl, by show (lineD d).length + 1 ≤ _; omega, ?_⟩⟩⟩
        exact MapI.step hD p4 (by rw [List.getElem?_map, hdi]; rfl) (by rw [List.length_map]; omega) s5
      · intro H4 pm
        obtain ⟨s4, hD4⟩ := pm.all (by rw [List.length_map, hxl]; exact Nat.le_refl _)
        refine ⟨Str.empty, De, (es.map lineD).map fun l => l ++ nlS, rfl, rfl, .inl (SqL.of (by rw [hD4, List.map_map, List.map_map]; rfl)), ?_, ?_⟩
        · have hs := sum_le (m := 12001) (l := ((es.map lineD).map fun l => l ++ nlS).map (·.length)) fun x hx => by
            obtain ⟨y, hy, rfl⟩ := List.mem_map.mp hx
            obtain ⟨z, hz, rfl⟩ := List.mem_map.mp hy
            obtain ⟨d, hd, rfl⟩ := List.mem_map.mp hz
            have := (hok d hd).l
            show (lineD d ++ nlS).length ≤ _
            rw [len_app]
            show _ + 1 ≤ _
            omega
          rw [List.length_map, List.length_map, List.length_map] at hs
          have t5 : Str.empty.length = 0 := rfl
          rw [t5]
          omega
        · rw [join_cat]
          exact ⟨_, _, rfl, _, rfl, t3.same s4⟩
    rintro σ1 H4 ⟨p7, rfl, t4⟩
    clear t3
    generalize hsw : (PyData.list es).shown = sw
    obtain ⟨tx, htx⟩ : ∃ tx, tx = planT es := ⟨_, rfl⟩
    rw [← htx] at hlt ⊢
    have txsh : SeqAt.shaped (.str tx) = true := by rw [htx]; exact shaped_str (plan_low hevt)
    -- written
    refine ⟨fun σ' H' => ∃ o8, σ' = [some (.ref a), some (.int (0 + (k : Int))), some (.ref pp), some (.ref e), q4, some (.str sw), some (.str tx), p7, o8, o9, o10, o11] ∧ Tn K H1 pp e xs es H', ?_, ?_⟩
    · refine ⟨_, rfl, _, rfl, e, xs, rfl, .inl ⟨SqL.of t4.he, fun tt ntt => ⟨by show 2 ≤ sizeLine; omega, fun l nl => ?_⟩⟩⟩
      have s5 := same_upd (o := .tup xs) ntt
      have s6 := same_upd (o := .lst [.ref e, .ref tt]) nl
      have hT := s6 _ _ (upd_same (H := H4) (a := tt) (o := .tup xs))
      have hl5 := upd_same (H := upd H4 tt (.tup xs)) (a := l) (o := .lst [.ref e, .ref tt])
      have t5 := t4.same (s5.trans s6)
      generalize upd (upd H4 tt (.tup xs)) l (.lst [.ref e, .ref tt]) = H5 at hT hl5 t5 ⊢
      clear s5 s6
      refine ⟨l, rfl, ⟨_, SqL.of hl5⟩, ?_⟩
      refine for_listD (K := K) (a := l) (xs := [.ref e, .ref tt]) (fun i σ H' => Same H5 H' ∧ ∃ o8, σ = [some (.ref a), some (.int (0 + (k : Int))), some (.ref pp), some (.ref e), q4, some (.str sw), some (.str tx), p7, o8, o9, o10, o11]) ⟨Same.refl _, _, rfl⟩ (fun i σ H' _ z => SqL.of (z.1 _ _ hl5)) ?_ (fun σ H' z => by
        obtain ⟨s6, o8, rfl⟩ := z
        exact ⟨_, rfl, t5.same s6⟩)
      rintro D2 i x σ H6 hrt2 hnx2 - - hi ⟨s6, o8, rfl⟩
      obtain ⟨d, hd, hs⟩ : ∃ d, Dp K H6 x d ∧ seqE d = some es := by
        have t6 := t5.same s6
        match i, hi with
        | 0, hi => cases hi; exact ⟨.list es, .lst (SqL.of t6.he) t6.de, rfl⟩
        | 1, hi => cases hi; exact ⟨.tuple es, .tup (SqT.of (s6 _ _ hT)) t6.de, rfl⟩
      refine ⟨_, rfl, x, d, rfl, .inl hd, .inr ⟨es, hs, by omega, fun y hy => (hok y hy).s, .inr ⟨haE, fun y hy => (hok y hy).l, fun H7 s7 => ?_⟩⟩⟩
      rw [← htx]
      refine ⟨_, rfl, rfl, _, rfl, str_ne (fun h => absurd rfl h) fun _ => ?_⟩
      exact hnx2 _ _ ⟨s6.trans s7, _, rfl⟩
    rintro σ1 H5 ⟨p8, rfl, t5⟩
    clear t4
    -- read
    refine ⟨fun σ' H' => σ' = [some (.ref a), some (.int (0 + (k : Int))), some (.ref pp), some (.ref e), q4, some (.str sw), some (.str tx), p7, p8, o9, o10, o11] ∧ Tn K H1 pp e xs es H', ?_, ?_⟩
    · refine ⟨_, rfl, es, (by show [V.str tx] = _; rw [htx]), by omega, hok, fun l ys H6 s6 nl hl hd => ?_⟩
      have t6 := t5.same s6
      refine ⟨_, rfl, .list es, .list es, .lst (SqL.of hl) hd, .lst (SqL.of t6.he) t6.de, shL, shL, _, rfl, ?_⟩
      rw [eqr]
      refine iteF ⟨_, rfl, .ref e, .list es, rfl, .lst (SqL.of t6.he) t6.de, hshow.1, hshow.2, Nat.le_trans hni.dp (by decide), ?_⟩
      rw [hsw]
      refine ⟨_, rfl, rfl, _, rfl, str_ne (fun h => absurd rfl h) fun _ => ?_⟩
      refine ⟨by show 0 ≤ sizeLine; omega, fun l8 nl8 => ?_⟩
      refine ⟨_, .list [], rfl, .inl (.lst (SqL.of upd_same) .nil), .inr ⟨[], rfl, by decide, (fun x hx => by cases hx), .inr ⟨rfl, (fun x hx => by cases hx), fun H8 s8 => ?_⟩⟩⟩
      have t8 := (t6.same (same_upd nl8)).same s8
      refine ⟨rfl, _, rfl, str_ne (fun h => absurd rfl h) fun _ => ?_⟩
      refine ⟨[], rfl, by decide, (fun x hx => by cases hx), fun l9 ys9 H9 s9 nl9 hl9 hd9 => ?_⟩
      refine ⟨by show 0 ≤ sizeLine; omega, fun lx nx => ?_⟩
      cases hd9
      refine ⟨.list [], .list [], .lst (SqL.of (same_upd nx _ _ hl9)) .nil, .lst (SqL.of upd_same) .nil, by rfl, by rfl, _, rfl, ?_⟩
      exact iteF ⟨rfl, (t8.same s9).same (same_upd nx)⟩
    rintro σ1 H6 ⟨rfl, t6⟩
    clear t5
    -- append
    refine ⟨fun σ' H' => σ' = [some (.ref a), some (.int (0 + (k : Int))), some (.ref pp), some (.ref e), q4, some (.str sw), some (.str tx), p7, p8, o9, o10, o11] ∧ Tn K H1 pp e xs es H', ?_, ?_⟩
    · refine ⟨_, rfl, es, (by show [V.str tx] = _; rw [htx]), by omega, hok, fun l ys H7 s7 nl hl hd => ?_⟩
      refine ⟨.inl ⟨rfl, _, SqL.of hl⟩, l, _, _, rfl, rfl, hl, by have : ys.length = es.length := DpAll.length hd; omega, rfl, t6.same fun b o hb => (upd_ne (ne_of_none hb nl)).trans (s7 b o hb)⟩
    rintro σ1 H7 ⟨rfl, t7⟩
    clear t6
    refine ⟨fun σ' H' => σ' = [some (.ref a), some (.int (0 + (k : Int))), some (.ref pp), some (.ref e), q4, some (.str sw), some (.str tx), p7, p8, o9, o10, o11] ∧ Tn K H1 pp e xs es H', ?_, ?_⟩
    · refine ⟨_, rfl, es, (by show [V.str tx] = _; rw [htx]), by omega, hok, fun l ys H8 s8 nl hl hd => ?_⟩
      have t8 := t7.same s8
      refine ⟨_, rfl, .list es, .list es, .lst (SqL.of hl) hd, .lst (SqL.of t8.he) t8.de, shL, shL, _, rfl, ?_⟩
      rw [eqr]
      exact iteF ⟨rfl, t8⟩
    rintro σ1 H8 ⟨rfl, t8⟩
    clear t7
    refine ⟨fun σ' H' => ∃ l vs, σ' = [some (.ref a), some (.int (0 + (k : Int))), some (.ref pp), some (.ref e), q4, some (.str sw), some (.str tx), p7, p8, some (.ref l), o10, o11] ∧ Tn K H1 pp e xs es H' ∧ H' l = some (.lst vs) ∧ DpAll K H' vs odd1, ?_, ?_⟩
    · intro l vs H9 s9 hl hd
      exact ⟨l, vs, rfl, t8.same s9, hl, hd⟩
    rintro σ1 H9 ⟨lA, vA, rfl, t9, hlA, hdA⟩
    clear t8
    refine ⟨fun σ' H' => ∃ l vs, σ' = [some (.ref a), some (.int (0 + (k : Int))), some (.ref pp), some (.ref e), q4, some (.str sw), some (.str tx), p7, p8, some (.ref l), o10, o11] ∧ Tn K H1 pp e xs es H' ∧ H' l = some (.lst vs) ∧ DpAll K H' vs (odd1 ++ odd2), ?_, ?_⟩
    · refine ⟨_, rfl, ?_⟩
      intro l2 vs2 H10 s10 hl2 hd2
      refine ⟨_, _, _, _, rfl, rfl, s10 _ _ hlA, hl2, ?_, fun l3 nl3 => ?_⟩
      · rw [DpAll.length hdA, DpAll.length hd2]
        decide
      · have st := same_upd (o := .lst (vA ++ vs2)) nl3
        exact ⟨l3, _, rfl, (t9.same s10).same st, upd_same, DpAll.append (DpAll.same (s10.trans st) hdA) (DpAll.same st hd2)⟩
    rintro σ1 H10 ⟨lB, vB, rfl, t10, hlB, hdB⟩
    clear t9
    refine ⟨fun σ' H' => ∃ l vs, σ' = [some (.ref a), some (.int (0 + (k : Int))), some (.ref pp), some (.ref e), q4, some (.str sw), some (.str tx), p7, p8, some (.ref l), o10, o11] ∧ Tn K H1 pp e xs es H' ∧ H' l = some (.lst vs) ∧ DpAll K H' vs odds, ?_, ?_⟩
    · refine ⟨_, rfl, ?_⟩
      intro l2 vs2 H11 s11 hl2 hd2
      refine ⟨_, _, _, _, rfl, rfl, s11 _ _ hlB, hl2, ?_, fun l3 nl3 => ?_⟩
      · rw [DpAll.length hdB, DpAll.length hd2]
        decide
      · have st := same_upd (o := .lst (vB ++ vs2)) nl3
        exact ⟨l3, _, rfl, (t10.same s11).same st, upd_same, DpAll.append (DpAll.same (s11.trans st) hdB) (DpAll.same st hd2)⟩
    rintro σ1 H11 ⟨lw, ys, rfl, t11, hlw, hys⟩
    clear t10
    -- the wrong ones
    refine ⟨fun σ' H' => ∃ o10 o11, σ' = [some (.ref a), some (.int (0 + (k : Int))), some (.ref pp), some (.ref e), q4, some (.str sw), some (.str tx), p7, p8, some (.ref lw), o10, o11] ∧ Tn K H1 pp e xs es H', ?_, ?_⟩
    · have nelw : lw ≠ pp := t11.po.off hlw hys (by decide)
      have hly := DpAll.length hys
      have l2ds : l2All odds = true := l2All_of fun x hx => by
        have z := List.all_eq_true.mp odds_ok x hx
        simp only [oddB, Bool.and_eq_true] at z
        exact z.2.2.2.2.2
      refine ⟨_, rfl, lw, rfl, ⟨_, SqL.of hlw⟩, ?_⟩
      refine for_listD (K := K) (a := lw) (xs := ys) (fun i σ H' => Adv pp H11 H' ∧ Tn K H1 pp e xs es H' ∧ ∃ o10 o11, σ = [some (.ref a), some (.int (0 + (k : Int))), some (.ref pp), some (.ref e), q4, some (.str sw), some (.str tx), p7, p8, some (.ref lw), o10, o11]) ⟨Adv.refl, t11, _, _, rfl⟩ (fun i σ H' _ z => SqL.of (z.1 _ _ hlw nelw)) ?_ (fun σ H' z => by
        obtain ⟨_, tz, o10, o11, rfl⟩ := z
        exact ⟨_, _, rfl, tz⟩)
      rintro D2 i x σ H12 hrt2 hnx2 - - hi ⟨a12, t12, o10, o11, rfl⟩
      obtain ⟨dw, hdi, hdw0⟩ := DpAll.at hys hi
      have wz := List.all_eq_true.mp odds_ok dw (List.mem_of_getElem? hdi)
      obtain ⟨w1, wz⟩ := Bool.and_eq_true_iff.mp wz
      obtain ⟨w2, wz⟩ := Bool.and_eq_true_iff.mp wz
      obtain ⟨w3, wz⟩ := Bool.and_eq_true_iff.mp wz
      obtain ⟨w4, wz⟩ := Bool.and_eq_true_iff.mp wz
      obtain ⟨w5, w6⟩ := Bool.and_eq_true_iff.mp wz
      have wb : toldB dw = false := by simpa using w1
      have wsh : ShE dw := shEB_ok w2
      have wni : Nice2 6000 10 dw := ⟨w3, of_decide_eq_true w4, of_decide_eq_true w5⟩
      have hdw := Dp.but (t11.po.but a12) hdw0 w6
      walk_at "nx"
      refine ⟨_, rfl, _, rfl, e, xs, rfl, .inl (SqL.of t12.he), _, _, rfl, rfl, pp, _, rfl, t12.po, by omega, by omega, fun r H13 r0 r1 a13 po13 => ?_⟩
      have t13 := t12.adv a13 po13 hno
      have hdw := Dp.but (t12.po.but a13) hdw w6
      refine ⟨_, rfl, _, rfl, r, rfl, e, xs, rfl, SqL.of t13.he, fun l1 n1 => ?_⟩
      have hxl' := DpAll.length t13.de
      rw [cutV_to r0 (by omega)]
      refine ⟨_, rfl, by show 1 ≤ sizeLine; omega, fun l2 n2 => ?_⟩
      have s1' := same_upd (o := .lst (xs.take r.toNat)) n1
      have hl1 := upd_same (H := H13) (a := l1) (o := .lst (xs.take r.toNat))
      generalize upd H13 l1 (.lst (xs.take r.toNat)) = H14 at s1' hl1 n2 ⊢
      have s2' := same_upd (o := .lst [x]) n2
      have hl2 := upd_same (H := H14) (a := l2) (o := .lst [x])
      have hl1' := s2' _ _ hl1
      generalize upd H14 l2 (.lst [x]) = H15 at s2' hl2 hl1' ⊢
      refine ⟨l1, l2, _, _, rfl, rfl, hl1', hl2, ?_, fun l3 n3 => ?_⟩
      · rw [List.length_take]
        simp only [List.length_cons, List.length_nil]
        omega
      have s3' := same_upd (o := .lst (xs.take r.toNat ++ [x])) n3
      have hl3 := upd_same (H := H15) (a := l3) (o := .lst (xs.take r.toNat ++ [x]))
      generalize upd H15 l3 (.lst (xs.take r.toNat ++ [x])) = H16 at s3' hl3 ⊢
      have s16 := s1'.trans (s2'.trans s3')
      have t16 := t13.same s16
      refine ⟨_, rfl, _, rfl, r, rfl, e, xs, rfl, SqL.of t16.he, fun l4 n4 => ?_⟩
      rw [cutV_from r0 (by omega)]
      have s4' := same_upd (o := .lst (xs.drop r.toNat)) n4
      have hl4 := upd_same (H := H16) (a := l4) (o := .lst (xs.drop r.toNat))
      have hl3' := s4' _ _ hl3
      generalize upd H16 l4 (.lst (xs.drop r.toNat)) = H17 at s4' hl4 hl3' ⊢
      refine ⟨l3, l4, _, _, rfl, rfl, hl3', hl4, ?_, fun l5 n5 => ?_⟩
      · rw [List.length_append, List.length_take, List.length_drop]
        simp only [List.length_cons, List.length_nil]
        omega
      have s5' := same_upd (o := .lst (xs.take r.toNat ++ [x] ++ xs.drop r.toNat)) n5
      have hl5 := upd_same (H := H17) (a := l5) (o := .lst (xs.take r.toNat ++ [x] ++ xs.drop r.toNat))
      generalize upd H17 l5 (.lst (xs.take r.toNat ++ [x] ++ xs.drop r.toNat)) = H18 at s5' hl5 ⊢
      have s18 := s16.trans (s4'.trans s5')
      have t18 := t13.same s18
      have hmem : ∀ y ∈ es.take r.toNat ++ [dw] ++ es.drop r.toNat, y ∈ es ∨ y = dw := fun y hy => by
        rw [List.mem_append, List.mem_append] at hy
        rcases hy with (m | m) | m
        · exact .inl (List.mem_of_mem_take m)
        · exact .inr (List.mem_singleton.mp m)
        · exact .inl (List.mem_of_mem_drop m)
      have hlen : (es.take r.toNat ++ [dw] ++ es.drop r.toNat).length ≤ 10 := by
        rw [List.length_append, List.length_append, List.length_take, List.length_drop]
        simp only [List.length_cons, List.length_nil]
        omega
      have hdl : DpAll K H18 (xs.take r.toNat ++ [x] ++ xs.drop r.toNat) (es.take r.toNat ++ [dw] ++ es.drop r.toNat) := DpAll.append (DpAll.append (dpTake _ t18.de) (.cons (Dp.same s18 hdw) .nil)) (dpDrop _ t18.de)
      have hfa : (es.take r.toNat ++ [dw] ++ es.drop r.toNat).all toldB = false := by
        rw [List.all_append, List.all_append, show [dw].all toldB = false by show (toldB dw && true) = false; rw [wb]; rfl, Bool.and_false, Bool.false_and]
      have hni2 := (niceAll_of2 (ds := es.take r.toNat ++ [dw] ++ es.drop r.toNat) (W := 6000) (D := 10) fun y hy => by
        rcases hmem y hy with m | rfl
        · exact (hok y m).ni
        · exact wni).lst
      refine ⟨_, .list (es.take r.toNat ++ [dw] ++ es.drop r.toNat), rfl, .inl (.lst (SqL.of hl5) hdl), .inr ⟨_, rfl, by omega, fun y hy => ?_, hfa⟩, fun _ => hni2.shaped (by decide), fun H19 s19 => ?_⟩
      · rcases hmem y hy with m | rfl
        · exact (hok y m).s
        · exact wsh
      refine ⟨true, true, rfl, rfl, _, rfl, iteF ?_⟩
      exact hnx2 _ _ ⟨(a12.trans a13).same (s18.trans s19), t18.same s19, _, _, rfl⟩
    rintro σ1 H12 ⟨o10', o11', rfl, t12⟩
    clear t11
    -- other things
    refine fun dd ndd => ⟨_, rfl, by show 5 ≤ sizeLine; omega, fun l nl => ?_⟩
    have sd := same_upd (o := .dK []) ndd
    have hdd := upd_same (H := H12) (a := dd) (o := .dK [])
    have t13 := t12.same sd
    generalize upd H12 dd (.dK []) = H13 at hdd nl t13 ⊢
    have sl := same_upd (o := .lst [.non, .int 5, .str "undo\n", .ref dd, .str tx]) nl
    have hll := upd_same (H := H13) (a := l) (o := .lst [.non, .int 5, .str "undo\n", .ref dd, .str tx])
    have hdd := sl _ _ hdd
    have t14 := t13.same sl
    generalize upd H13 l (.lst [.non, .int 5, .str "undo\n", .ref dd, .str tx]) = H14 at hdd hll t14 ⊢
    refine ⟨l, rfl, ⟨_, SqL.of hll⟩, ?_⟩
    refine for_listD (K := K) (a := l) (xs := [.non, .int 5, .str "undo\n", .ref dd, .str tx]) (fun i σ H' => Same H14 H' ∧ ∃ o8, σ = [some (.ref a), some (.int (0 + (k : Int))), some (.ref pp), some (.ref e), q4, some (.str sw), some (.str tx), p7, o8, some (.ref lw), o10', o11']) ⟨Same.refl _, _, rfl⟩ (fun i σ H' _ z => SqL.of (z.1 _ _ hll)) ?_ (fun σ H' z => by
      obtain ⟨s15, o8, rfl⟩ := z
      refine hnx _ _ ⟨?_, _, _, _, _, _, _, _, _, _, _, _, rfl⟩
      exact e1.trans (Adv.new np (t14.same s15).ad))
    rintro D2 i x σ H15 hrt2 hnx2 - - hi ⟨s15, o8, rfl⟩
    obtain ⟨d, hd, hs, hsh2⟩ : ∃ d, DpE K H15 x d ∧ seqE d = none ∧ (isDict d = false → SeqAt.shaped d = true) := by
      match i, hi with
      | 0, hi => cases hi; exact ⟨.none, .inl .non, rfl, fun _ => by decide +kernel⟩
      | 1, hi => cases hi; exact ⟨.int 5, .inl (.int 5), rfl, fun _ => by decide +kernel⟩
      | 2, hi => cases hi; exact ⟨.str "undo\n", .inl (.str _), rfl, fun _ => by decide +kernel⟩
      | 3, hi => cases hi; exact ⟨.dict [], .inr ⟨rfl, dd, rfl, s15 _ _ hdd⟩, rfl, fun z => by cases z⟩
      | 4, hi => cases hi; exact ⟨.str tx, .inl (.str _), rfl, fun _ => txsh⟩
    refine ⟨_, rfl, x, d, rfl, hd, .inl hs, hsh2, fun H16 s16 => ?_⟩
    refine ⟨true, true, rfl, rfl, _, rfl, iteF ?_⟩
    exact hnx2 _ _ ⟨s15.trans s16, _, rfl⟩
end
end L2.L86

set_option maxHeartbeats 0
namespace L2.L86
open PySem PySem.Spec PyProof.Rows LR L2.Lr
def insB (K : PySem.W.Frag) : Bool := He.eqO (PySem.W.findIn K (.ref (CR K)) "__class__") (some (some (.builtin "object.__class__"))) && (He.eqO (PySem.W.specialIn K (.builtin "object.__class__") "__get__") (some (some (.builtin "getset_descriptor.__get__"))) &&
  (decide (PySem.W.takesIn K (.builtin "object.__class__") = some true) && (decide (PySem.W.mroIn K (CR K) (.type "object") = some true) && decide (PySem.W.kitOne K (.ref (CR K)) (.ref (CR K)) = some true))))
def xtB (K : PySem.W.Frag) (x : Str) (C : Addr) : Bool := He.eqO (PySem.W.nsIn K mainGlobals x) (some (some (.ref C))) && (xcB K xV C && (He.eqO (PySem.W.findIn K (.ref C) "value") (some none) && (He.eqO (PySem.W.findIn K (.ref C) "__init__") (some (some (.ref (fV K)))) &&
  (decide (PySem.W.exmOne K (.ref C) (.ref C) = some true) && decide (PySem.W.kitOne K (.ref C) (.type "ValueError") = some true)))))
def dfA (K : PySem.W.Frag) : Addr := He.dflAt ("Row", some "__init__") 0 K
def fSt (K : PySem.W.Frag) : Addr := He.ma K (CR K) "__str__"
def frmB (K : PySem.W.Frag) : Bool := He.eqO (PySem.W.findIn K (.ref (CR K)) "__format__") (some (some (.builtin "object.__format__"))) && decide (PySem.W.mroIn K (CR K) (.type "object") = some true)
def chkB (K : PySem.W.Frag) : Bool := insB K && (xtB K "BadText" (CT K) && (xtB K "BadCount" (CC K) && (xtB K "BadRow" (CB K) && (xtB K "BadEvents" (CE K) && (xtB K "BadPlan" (CP K) && (dunB K (CR K) (fSt K) "__str__" && (frmB K && decide (PySem.W.typeIn K (.ref (fV K)) = some (.type "function")))))))))
def dF (x : Str) (st : Stmt) : He.DefD := ⟨(x, none), x, x, defArgs st, defBody st, defScope st, [], []⟩
def fn : List He.DefD := [⟨("RoomError", some "__init__"), "__init__", "RoomError.__init__", defArgs sRoom, defBody sRoom, defScope sRoom, [], []⟩, ⟨("Row", some "__init__"), "__init__", "Row.__init__", defArgs sIni, defBody sIni, defScope sIni, [.adr dfA], []⟩, ⟨("Row", some "__str__"), "__str__", "Row.__str__", defArgs sStr, defBody sStr, defScope sStr, [], []⟩, dF "figures_of" sFig, dF "is_word" sWord, dF "is_integer" sInt, dF "is_between" sBetw, dF "is_among" sAmong, dF "is_tuple_of" sTupOf, dF "is_count" sCount, dF "format_count" sForm, dF "_check_count" sChk, dF "_written" sWrit, dF "read_count" sRead, dF "_read_freely" sFree, dF "are_parts_of_row" sApr, dF "is_round" sRound, dF "_how_many" sHow, dF "_size_of" sSize, dF "_is_head" sHead, dF "_is_single" sSing, dF "_goes_on_last" sGoes, dF "_text_of" sTxt, dF "_text_of_part" sTxP, dF "is_room" sRoomQ, dF "is_change" sChange, dF "_are_different_words" sDiff, dF "parse_row" sParseR, dF "_parts_in" sPartsIn, dF "_pieces_of" sPieces, dF "_part_in" sPartIn, dF "_single_in" sSingIn, dF "is_event" sEvent, dF "is_told_event" sToldE, dF "line_of" sLineOf, dF "event_of" sEvOf, dF "_event_in" sEvIn, dF "_change_in" sChIn, dF "_row_in" sRowIn, dF "write_plan" sWrite, dF "read_plan" sReadP, dF "_law_pool" sPool, dF "_law_take" sTake, dF "_law_far" sFar, dF "_law_word" sLWord, dF "_law_number" sLNum, dF "_law_row" sLRow, dF "_law_change" sLChange, dF "_law_event" sLEvent, dF "_law_line" sLLine, dF "_law_refused" sRefused, dF "law" sLaw]
def fa : List He.Fa := [.glo "figures_of", .glo "is_word", .glo "is_integer", .glo "is_between", .glo "is_among", .glo "is_tuple_of", .glo "is_count", .glo "format_count", .glo "_check_count", .glo "_written", .glo "read_count", .glo "_read_freely", .glo "are_parts_of_row", .glo "is_round", .glo "_how_many", .glo "_size_of", .glo "_is_head", .glo "_is_single", .glo "_goes_on_last", .glo "_text_of", .glo "_text_of_part", .glo "is_room", .glo "is_change", .glo "_are_different_words", .glo "parse_row", .glo "_parts_in", .glo "_pieces_of", .glo "_part_in", .glo "_single_in", .glo "is_event", .glo "is_told_event", .glo "line_of", .glo "event_of", .glo "_event_in", .glo "_change_in", .glo "_row_in", .glo "write_plan", .glo "read_plan", .glo "_law_pool", .glo "_law_take", .glo "_law_far", .glo "_law_word", .glo "_law_number", .glo "_law_row", .glo "_law_change", .glo "_law_event", .glo "_law_line", .glo "_law_refused", .glo "law", .glo "Row", .cls "Row", .noat "Row" "parts", .noat "Row" "size", .mkr "Row", .int "LARGEST_NUMBER" (10 ^ 30), .int "MOST_PARTS" 60, .int "MOST_LOOPS" 4, .int "MOST_AT_ONCE" 9, .int "LONGEST_WORK" 99, .int "NO_ROW" 61, .int "LONGEST_WORD" 8, .int "LONGEST_TEXT_counts" 34, .int "LONGEST_TEXT_texts" 2640, .int "MOST_FIRST" 99, .int "LARGEST_ROOM" (10 ^ 200), .int "FIGURES_OF_NUMBER" 31, .int "FIGURES_OF_ROOM" 201, .str "FIGURES" "0123456789", .free "isinstance", .free "len", .free "int", .free "bool", .free "tuple", .free "str", .free "all", .free "list", .free "set", .free "enumerate", .free "range", .free "max", .free "min", .free "repr", .free "ValueError"]
abbrev RR : PySem.W.OpenRow := PySem.W.OpenLaw.row PySem.Challenge.rw_leastrooms_k86_plans_written
abbrev hk : PySem.W.Hook := hookE 5 chkB fa fn
def ob (s : PySem.W.SharedT) : Bool × He.AlD := obsEG 5 chkB fa fn (HandSHeadRun.getT s)
theorem ob_eq (s : PySem.W.SharedT) : ob s = hk.obs s.abs := obsEG_eq (HandSHeadRun.getT_eq s)
def looseS : List String := ["RoomError", "BadText", "BadCount", "BadRow", "BadEvents", "BadPlan", "FIGURES", "figures_of", "LONGEST_WORD", "LARGEST_NUMBER", "is_word", "is_integer", "is_between", "is_among", "is_tuple_of", "LONGEST_TEXT_counts", "is_count", "format_count", "count_of", "_check_count", "_written", "read_count", "_read_freely", "MOST_PARTS", "MOST_LOOPS", "MOST_AT_ONCE", "LONGEST_WORK", "NO_ROW", "Row", "loop", "are_parts_of_row", "check_row", "is_round", "_row_of", "_how_many", "_size_of", "_is_head", "_is_single", "_goes_on_last", "_text_of", "_text_of_part", "MOST_FIRST", "LARGEST_ROOM", "is_room", "is_change", "_are_different_words", "LONGEST_TEXT_texts", "parse_row", "_parts_in", "_pieces_of", "_part_in", "_single_in", "FIGURES_OF_NUMBER", "FIGURES_OF_ROOM", "is_event", "is_told_event", "line_of", "event_of", "_event_in", "_change_in", "_row_in", "write_plan", "read_plan", "_law_pool", "_law_take", "_law_far", "_law_word", "_law_number", "_law_row", "_law_change", "_law_event", "_law_line", "_law_refused"]
def loose : List Str := looseS.map Str.ofString
theorem run (w : World) : HandSHeadRun.RunEq RR (PySem.W.view RR.prog [84]) hk ob 16000 loose w := by
  intro os
  kernel_rfl
end L2.L86

set_option maxHeartbeats 0
namespace L2.L86
open PySem PySem.Spec PyProof.Rows LR L2.Lr
theorem ini_binds {K : PySem.W.Frag} {f DFL : Addr} {fd : FuncData} (F : FunD K "__init__" "Row.__init__" (defArgs sIni) (defBody sIni) (defScope sIni) [.ref DFL] [] f fd) : Binds K fd ["self", "parts"] [] := by
  obtain ⟨ds, v, b⟩ := F.binds1 (ps := ["self", "parts"]) 2 1 (by simp) rfl fun T kV doc pm an cdv ct us its h1 h2 => match us, its, h1, h2 with
    | [a, b], [d], _, _ => ⟨_, rfl, rfl⟩
  cases v
  exact b
theorem xtB_ok {K : PySem.W.Frag} {h : Heap} {mg : Str → Option Value} {x : Str} {C : Addr} (X : K.In h) (G : h.Ns mainGlobals mg) (q : xtB K x C = true) : Xt K mg x C := by
  obtain ⟨x1, q⟩ := He.ba q
  obtain ⟨x2, q⟩ := He.ba q
  obtain ⟨x3, q⟩ := He.ba q
  obtain ⟨x4, q⟩ := He.ba q
  obtain ⟨x5, x6⟩ := He.ba q
  exact ⟨PySem.W.mg_of X G (He.eqO_ok x1), xcB_ok x2, He.eqO_ok x3, He.eqO_ok x4, of_decide_eq_true x5, of_decide_eq_true x6⟩
theorem facts {P : Program} {w : World} {K : PySem.W.Frag} {h : Heap} {mg : Str → Option Value} {f : Addr} (X : K.In h) (G : h.Ns mainGlobals mg) (hfa : mg ("law" : Str) = some (.ref f)) (c : chkB K = true) (s : He.SaysD fa fn K) :
    ∃ fd : FuncData, (∀ (s : Shared) (v : Value), BindsTo s fd ⟨[v], []⟩ [("_law_script", v)]) ∧ ∀ base : Heap, K.In base → base.Ns mainGlobals mg → FnQ P w K mg base CX0 26 f fd ["_law_script"] (spLaw K) := by
  have g : ∀ (i : Nat) (x : Str), fa[i]? = some (.glo x) → mg x = some (.ref (He.ga K x)) := fun i x e => He.glo_ok X G (s.fact i (f := .glo x) e)
  obtain ⟨c1, c⟩ := He.ba c
  obtain ⟨c2, c⟩ := He.ba c
  obtain ⟨c3, c⟩ := He.ba c
  obtain ⟨c4, c⟩ := He.ba c
  obtain ⟨c5, c⟩ := He.ba c
  obtain ⟨c6, c⟩ := He.ba c
  obtain ⟨c7, c⟩ := He.ba c
  obtain ⟨c8, c9⟩ := He.ba c
  obtain ⟨m1, m2⟩ := He.ba c8
  obtain ⟨i1, i⟩ := He.ba c1
  obtain ⟨i2, i⟩ := He.ba i
  obtain ⟨i3, i⟩ := He.ba i
  obtain ⟨i4, i5⟩ := He.ba i
  have cl : Cls K (CR K) := He.cls_ok (s.fact 50 (f := .cls "Row") rfl)
  have T0 : Prg mg := {
    isn := He.free_ok X G (s.fact 68)
    len := He.free_ok X G (s.fact 69)
    int := He.free_ok X G (s.fact 70)
    bool := He.free_ok X G (s.fact 71)
    tuple := He.free_ok X G (s.fact 72)
    str := He.free_ok X G (s.fact 73)
    far := He.int_ok X G (s.fact 54)
    most := He.int_ok X G (s.fact 55)
    deep := He.int_ok X G (s.fact 56)
    once := He.int_ok X G (s.fact 57)
    long := He.int_ok X G (s.fact 58)
    norow := He.int_ok X G (s.fact 59)
    }
  have T : Txt K mg := {
    p := T0
    all := He.free_ok X G (s.fact 74)
    list := He.free_ok X G (s.fact 75)
    set := He.free_ok X G (s.fact 76)
    enum := He.free_ok X G (s.fact 77)
    range := He.free_ok X G (s.fact 78)
    max := He.free_ok X G (s.fact 79)
    min := He.free_ok X G (s.fact 80)
    repr := He.free_ok X G (s.fact 81)
    vE := He.free_ok X G (s.fact 82)
    word := He.int_ok X G (s.fact 60)
    lonc := He.int_ok X G (s.fact 61)
    lont := He.int_ok X G (s.fact 62)
    first := He.int_ok X G (s.fact 63)
    lroom := He.int_ok X G (s.fact 64)
    fnum := He.int_ok X G (s.fact 65)
    froom := He.int_ok X G (s.fact 66)
    figs := He.str_ok X G (s.fact 67)
    xT := xtB_ok X G c2
    xC := xtB_ok X G c3
    xB := xtB_ok X G c4
    xE := xtB_ok X G c5
    xP := xtB_ok X G c6
    tI := of_decide_eq_true c9
    gR := g 49 "Row" rfl
    cl := cl
    nP := He.noat_ok (s.fact 51 (f := .noat "Row" "parts") rfl)
    nS := He.noat_ok (s.fact 52 (f := .noat "Row" "size") rfl)
    ic := ⟨cl, He.eqO_ok i1, He.eqO_ok i2, of_decide_eq_true i3, of_decide_eq_true i4, of_decide_eq_true i5⟩ }
  have Mm : Mk K (CR K) (He.ma K (CR K) "__init__") := He.mkr_ok (s.fact 53 (f := .mkr "Row") rfl)
  obtain ⟨t2, hlw⟩ := T.word

  obtain ⟨x0, F0⟩ := s.def_ 0
  obtain ⟨x1, F1⟩ := s.def_ 1
  obtain ⟨x2, F2⟩ := s.def_ 2
  obtain ⟨x3, F3⟩ := s.def_ 3
  obtain ⟨x4, F4⟩ := s.def_ 4
  obtain ⟨x5, F5⟩ := s.def_ 5
  obtain ⟨x6, F6⟩ := s.def_ 6
  obtain ⟨x7, F7⟩ := s.def_ 7
  obtain ⟨x8, F8⟩ := s.def_ 8
  obtain ⟨x9, F9⟩ := s.def_ 9
  obtain ⟨x10, F10⟩ := s.def_ 10
  obtain ⟨x11, F11⟩ := s.def_ 11
  obtain ⟨x12, F12⟩ := s.def_ 12
  obtain ⟨x13, F13⟩ := s.def_ 13
  obtain ⟨x14, F14⟩ := s.def_ 14
  obtain ⟨x15, F15⟩ := s.def_ 15
  obtain ⟨x16, F16⟩ := s.def_ 16
  obtain ⟨x17, F17⟩ := s.def_ 17
  obtain ⟨x18, F18⟩ := s.def_ 18
  obtain ⟨x19, F19⟩ := s.def_ 19
  obtain ⟨x20, F20⟩ := s.def_ 20
  obtain ⟨x21, F21⟩ := s.def_ 21
  obtain ⟨x22, F22⟩ := s.def_ 22
  obtain ⟨x23, F23⟩ := s.def_ 23
  obtain ⟨x24, F24⟩ := s.def_ 24
  obtain ⟨x25, F25⟩ := s.def_ 25
  obtain ⟨x26, F26⟩ := s.def_ 26
  obtain ⟨x27, F27⟩ := s.def_ 27
  obtain ⟨x28, F28⟩ := s.def_ 28
  obtain ⟨x29, F29⟩ := s.def_ 29
  obtain ⟨x30, F30⟩ := s.def_ 30
  obtain ⟨x31, F31⟩ := s.def_ 31
  obtain ⟨x32, F32⟩ := s.def_ 32
  obtain ⟨x33, F33⟩ := s.def_ 33
  obtain ⟨x34, F34⟩ := s.def_ 34
  obtain ⟨x35, F35⟩ := s.def_ 35
  obtain ⟨x36, F36⟩ := s.def_ 36
  obtain ⟨x37, F37⟩ := s.def_ 37
  obtain ⟨x38, F38⟩ := s.def_ 38
  obtain ⟨x39, F39⟩ := s.def_ 39
  obtain ⟨x40, F40⟩ := s.def_ 40
  obtain ⟨x41, F41⟩ := s.def_ 41
  obtain ⟨x42, F42⟩ := s.def_ 42
  obtain ⟨x43, F43⟩ := s.def_ 43
  obtain ⟨x44, F44⟩ := s.def_ 44
  obtain ⟨x45, F45⟩ := s.def_ 45
  obtain ⟨x46, F46⟩ := s.def_ 46
  obtain ⟨x47, F47⟩ := s.def_ 47
  obtain ⟨x48, F48⟩ := s.def_ 48
  obtain ⟨x49, F49⟩ := s.def_ 49
  obtain ⟨x50, F50⟩ := s.def_ 50
  obtain ⟨x51, F51⟩ := s.def_ 51
  cases hfa.symm.trans (g 48 "law" rfl)
  have b := FunD.bindsA (ps := ["_law_script"]) F51 fun _ _ _ _ _ _ us hl => match us, hl with | [_], _ => rfl
  refine ⟨x51, fun s v => b s [v] rfl, fun base _ _ => ?_⟩
  have bI := ini_binds (DFL := dfA K) F1
  have Z : Rm P w K mg base x0 := ⟨ok_room F0, F0.bindsN fun _ _ _ _ _ _ us hl => match us, hl with | [_, _], _ => rfl⟩
  have Fg : Def P w K mg base CX0 1 "figures_of" _ x3 ["text", "most"] spFig := ⟨ok_fig F3 T, g 0 _ rfl, F3.kp, F3.bindsN fun _ _ _ _ _ _ us hl => match us, hl with | [_, _], _ => rfl⟩
  have Wd : Def P w K mg base CX0 1 "is_word" _ x4 ["thing"] (spWord K) := ⟨ok_word F4 T0 hlw, g 1 _ rfl, F4.kp, F4.bindsN fun _ _ _ _ _ _ us hl => match us, hl with | [_], _ => rfl⟩
  have In : Def P w K mg base CX0 1 "is_integer" _ x5 ["thing"] (spInt K) := ⟨ok_int F5 T0, g 2 _ rfl, F5.kp, F5.bindsN fun _ _ _ _ _ _ us hl => match us, hl with | [_], _ => rfl⟩
  have Bw : Def P w K mg base CX0 2 "is_between" _ x6 ["thing", "low", "high"] (spBetw K) := ⟨ok_betw F6 In, g 3 _ rfl, F6.kp, F6.bindsN fun _ _ _ _ _ _ us hl => match us, hl with | [_, _, _], _ => rfl⟩
  have Am : Def P w K mg base CX0 1 "is_among" _ x7 ["thing", "words"] (spAm K) := ⟨ok_among F7 T, g 4 _ rfl, F7.kp, F7.bindsN fun _ _ _ _ _ _ us hl => match us, hl with | [_, _], _ => rfl⟩
  have Tu : Def P w K mg base CX0 1 "is_tuple_of" _ x8 ["thing", "word", "many"] (spTupOf K) := ⟨ok_tupof F8 T, g 5 _ rfl, F8.kp, F8.bindsN fun _ _ _ _ _ _ us hl => match us, hl with | [_, _, _], _ => rfl⟩
  have Ct : Def P w K mg base CX0 3 "is_count" _ x9 ["thing"] (spCount K) := ⟨ok_count F9 T0 Bw, g 6 _ rfl, F9.kp, F9.bindsN fun _ _ _ _ _ _ us hl => match us, hl with | [_], _ => rfl⟩
  have Ck : Def P w K mg base CX0 4 "_check_count" _ x11 ["count"] (spCk0 K) := ⟨ok_ckc0 F11 T Ct, g 8 _ rfl, F11.kp, F11.bindsN fun _ _ _ _ _ _ us hl => match us, hl with | [_], _ => rfl⟩
  have Wt : Def P w K mg base CX0 1 "_written" _ x12 ["count"] (spWrit K) := ⟨ok_writ F12 T, g 9 _ rfl, F12.kp, F12.bindsN fun _ _ _ _ _ _ us hl => match us, hl with | [_], _ => rfl⟩
  have Fm : Def P w K mg base CX0 5 "format_count" _ x10 ["count"] (spFm0 K) := ⟨ok_fm0 F10 Ck Wt, g 7 _ rfl, F10.kp, F10.bindsN fun _ _ _ _ _ _ us hl => match us, hl with | [_], _ => rfl⟩
  have Fr : Def P w K mg base CX0 2 "_read_freely" _ x14 ["text"] (spFree K) := ⟨ok_free F14 T Fg, g 11 _ rfl, F14.kp, F14.bindsN fun _ _ _ _ _ _ us hl => match us, hl with | [_], _ => rfl⟩
  have Rd : Def P w K mg base CX0 4 "read_count" _ x13 ["text"] (spRead K) := ⟨ok_read F13 T Fr Ct Wt, g 10 _ rfl, F13.kp, F13.bindsN fun _ _ _ _ _ _ us hl => match us, hl with | [_], _ => rfl⟩
  have Rn : Def P w K mg base CX0 1 "is_round" _ x16 ["part"] (spRound K) := ⟨ok_round F16, g 13 _ rfl, F16.kp, F16.bindsN fun _ _ _ _ _ _ us hl => match us, hl with | [_], _ => rfl⟩
  have Hd : Def P w K mg base CX0 4 "_is_head" _ x19 ["part", "depth"] (spHead K) := ⟨ok_head F19 T0 Ct, g 16 _ rfl, F19.kp, F19.bindsN fun _ _ _ _ _ _ us hl => match us, hl with | [_, _], _ => rfl⟩
  have Sg : Def P w K mg base CX0 3 "_is_single" _ x20 ["part"] (spSing K) := ⟨ok_sing F20 T0 Bw Wd, g 17 _ rfl, F20.kp, F20.bindsN fun _ _ _ _ _ _ us hl => match us, hl with | [_], _ => rfl⟩
  have Gs : Def P w K mg base CX0 1 "_goes_on_last" _ x21 ["parts"] (spGoes K) := ⟨ok_goes F21 T, g 18 _ rfl, F21.kp, F21.bindsN fun _ _ _ _ _ _ us hl => match us, hl with | [_], _ => rfl⟩
  have S0 : Def P w K mg base CX0 5 "_size_of" _ x18 ["part", "depth"] (spSize K 0) := ⟨ok_size0 F18 T0 (k := 4) (by decide) Rn Hd Sg, g 15 _ rfl, F18.kp, F18.bindsN fun _ _ _ _ _ _ us hl => match us, hl with | [_, _], _ => rfl⟩
  have H0 : Def P w K mg base CX0 6 "_how_many" _ x17 ["parts", "depth"] (spHow K 0) := ⟨ok_how F17 T0 S0, g 14 _ rfl, F17.kp, F17.bindsN fun _ _ _ _ _ _ us hl => match us, hl with | [_, _], _ => rfl⟩
  have S1 : Def P w K mg base CX0 7 "_size_of" _ x18 ["part", "depth"] (spSize K 1) := ⟨ok_sizeS F18 T0 (k := 6) (by decide) Rn Hd Sg H0, g 15 _ rfl, F18.kp, F18.bindsN fun _ _ _ _ _ _ us hl => match us, hl with | [_, _], _ => rfl⟩
  have H1 : Def P w K mg base CX0 8 "_how_many" _ x17 ["parts", "depth"] (spHow K 1) := ⟨ok_how F17 T0 S1, g 14 _ rfl, F17.kp, F17.bindsN fun _ _ _ _ _ _ us hl => match us, hl with | [_, _], _ => rfl⟩
  have S2 : Def P w K mg base CX0 9 "_size_of" _ x18 ["part", "depth"] (spSize K 2) := ⟨ok_sizeS F18 T0 (k := 8) (by decide) Rn Hd Sg H1, g 15 _ rfl, F18.kp, F18.bindsN fun _ _ _ _ _ _ us hl => match us, hl with | [_, _], _ => rfl⟩
  have H2 : Def P w K mg base CX0 10 "_how_many" _ x17 ["parts", "depth"] (spHow K 2) := ⟨ok_how F17 T0 S2, g 14 _ rfl, F17.kp, F17.bindsN fun _ _ _ _ _ _ us hl => match us, hl with | [_, _], _ => rfl⟩
  have S3 : Def P w K mg base CX0 11 "_size_of" _ x18 ["part", "depth"] (spSize K 3) := ⟨ok_sizeS F18 T0 (k := 10) (by decide) Rn Hd Sg H2, g 15 _ rfl, F18.kp, F18.bindsN fun _ _ _ _ _ _ us hl => match us, hl with | [_, _], _ => rfl⟩
  have H3 : Def P w K mg base CX0 12 "_how_many" _ x17 ["parts", "depth"] (spHow K 3) := ⟨ok_how F17 T0 S3, g 14 _ rfl, F17.kp, F17.bindsN fun _ _ _ _ _ _ us hl => match us, hl with | [_, _], _ => rfl⟩
  have S4 : Def P w K mg base CX0 13 "_size_of" _ x18 ["part", "depth"] (spSize K 4) := ⟨ok_sizeS F18 T0 (k := 12) (by decide) Rn Hd Sg H3, g 15 _ rfl, F18.kp, F18.bindsN fun _ _ _ _ _ _ us hl => match us, hl with | [_, _], _ => rfl⟩
  have H4 : Def P w K mg base CX0 14 "_how_many" _ x17 ["parts", "depth"] (spHow K 4) := ⟨ok_how F17 T0 S4, g 14 _ rfl, F17.kp, F17.bindsN fun _ _ _ _ _ _ us hl => match us, hl with | [_, _], _ => rfl⟩
  have Ap : Def P w K mg base CX0 15 "are_parts_of_row" _ x15 ["thing"] (spApr K) := ⟨ok_apr F15 T (k := 14) (by decide) H4 Gs, g 12 _ rfl, F15.kp, F15.bindsN fun _ _ _ _ _ _ us hl => match us, hl with | [_], _ => rfl⟩
  have X0 : Def P w K mg base CX0 6 "_text_of_part" _ x23 ["part"] (spTxP K 0) := ⟨ok_txp0 F23 (k := 5), g 20 _ rfl, F23.kp, F23.bindsN fun _ _ _ _ _ _ us hl => match us, hl with | [_], _ => rfl⟩
  have Y0 : Def P w K mg base CX0 7 "_text_of" _ x22 ["parts"] (spTxt K 0) := ⟨ok_txt (by decide) F22 X0, g 19 _ rfl, F22.kp, F22.bindsN fun _ _ _ _ _ _ us hl => match us, hl with | [_], _ => rfl⟩
  have X1 : Def P w K mg base CX0 8 "_text_of_part" _ x23 ["part"] (spTxP K 1) := ⟨ok_txpS (n := 0) (by decide) F23 (k := 7) (by decide) Fm Y0, g 20 _ rfl, F23.kp, F23.bindsN fun _ _ _ _ _ _ us hl => match us, hl with | [_], _ => rfl⟩
  have Y1 : Def P w K mg base CX0 9 "_text_of" _ x22 ["parts"] (spTxt K 1) := ⟨ok_txt (by decide) F22 X1, g 19 _ rfl, F22.kp, F22.bindsN fun _ _ _ _ _ _ us hl => match us, hl with | [_], _ => rfl⟩
  have X2 : Def P w K mg base CX0 10 "_text_of_part" _ x23 ["part"] (spTxP K 2) := ⟨ok_txpS (n := 1) (by decide) F23 (k := 9) (by decide) Fm Y1, g 20 _ rfl, F23.kp, F23.bindsN fun _ _ _ _ _ _ us hl => match us, hl with | [_], _ => rfl⟩
  have Y2 : Def P w K mg base CX0 11 "_text_of" _ x22 ["parts"] (spTxt K 2) := ⟨ok_txt (by decide) F22 X2, g 19 _ rfl, F22.kp, F22.bindsN fun _ _ _ _ _ _ us hl => match us, hl with | [_], _ => rfl⟩
  have X3 : Def P w K mg base CX0 12 "_text_of_part" _ x23 ["part"] (spTxP K 3) := ⟨ok_txpS (n := 2) (by decide) F23 (k := 11) (by decide) Fm Y2, g 20 _ rfl, F23.kp, F23.bindsN fun _ _ _ _ _ _ us hl => match us, hl with | [_], _ => rfl⟩
  have Y3 : Def P w K mg base CX0 13 "_text_of" _ x22 ["parts"] (spTxt K 3) := ⟨ok_txt (by decide) F22 X3, g 19 _ rfl, F22.kp, F22.bindsN fun _ _ _ _ _ _ us hl => match us, hl with | [_], _ => rfl⟩
  have X4 : Def P w K mg base CX0 14 "_text_of_part" _ x23 ["part"] (spTxP K 4) := ⟨ok_txpS (n := 3) (by decide) F23 (k := 13) (by decide) Fm Y3, g 20 _ rfl, F23.kp, F23.bindsN fun _ _ _ _ _ _ us hl => match us, hl with | [_], _ => rfl⟩
  have Y4 : Def P w K mg base CX0 15 "_text_of" _ x22 ["parts"] (spTxt K 4) := ⟨ok_txt (by decide) F22 X4, g 19 _ rfl, F22.kp, F22.bindsN fun _ _ _ _ _ _ us hl => match us, hl with | [_], _ => rfl⟩
  have MR : RMk P w K mg base 16 (He.ma K (CR K) "__init__") x1 (fSt K) x2 := ⟨Mm, ok_row (DFL := dfA K) (dV := x0) F1 T (k := 14) (by decide) H4 Ap, bI, dunB_ok c7, ⟨He.eqO_ok m1, of_decide_eq_true m2⟩, ok_str F2 T Y4, F2.bindsN fun _ _ _ _ _ _ us hl => match us, hl with | [_], _ => rfl⟩
  have Rq : Def P w K mg base CX0 3 "is_room" _ x24 ["thing"] (spRoomQ K) := ⟨ok_roomq F24 T Bw, g 21 _ rfl, F24.kp, F24.bindsN fun _ _ _ _ _ _ us hl => match us, hl with | [_], _ => rfl⟩
  have Df : Def P w K mg base CX0 2 "_are_different_words" _ x26 ["thing"] (spDiff K) := ⟨ok_diff F26 T Wd, g 23 _ rfl, F26.kp, F26.bindsN fun _ _ _ _ _ _ us hl => match us, hl with | [_], _ => rfl⟩
  have Ch : Def P w K mg base CX0 16 "is_change" _ x25 ["thing"] (spChange K) := ⟨ok_change F25 T Tu Wd (k := 15) (by decide) Ap Df Bw, g 22 _ rfl, F25.kp, F25.bindsN fun _ _ _ _ _ _ us hl => match us, hl with | [_], _ => rfl⟩
  have Ev : Def P w K mg base CX0 4 "is_event" _ x32 ["thing"] (spEvent K) := ⟨ok_event F32 Tu Wd Rq Bw T, g 29 _ rfl, F32.kp, F32.bindsN fun _ _ _ _ _ _ us hl => match us, hl with | [_], _ => rfl⟩
  have Te : Def P w K mg base CX0 17 "is_told_event" _ x33 ["thing"] (spToldE K) := ⟨ok_tolde F33 (k := 16) (by decide) Ev Ch, g 30 _ rfl, F33.kp, F33.bindsN fun _ _ _ _ _ _ us hl => match us, hl with | [_], _ => rfl⟩
  have Lo : Def P w K mg base CX0 18 "line_of" _ x34 ["event"] (spLineOf K) := ⟨ok_lineof F34 T MR, g 31 _ rfl, F34.kp, F34.bindsN fun _ _ _ _ _ _ us hl => match us, hl with | [_], _ => rfl⟩
  have Pc : Def P w K mg base CX0 1 "_pieces_of" _ x29 ["text"] (spPieces K) := ⟨ok_pieces F29 T, g 26 _ rfl, F29.kp, F29.bindsN fun _ _ _ _ _ _ us hl => match us, hl with | [_], _ => rfl⟩
  have Si : Def P w K mg base CX0 2 "_single_in" _ x31 ["words"] (spSingIn K) := ⟨ok_singin F31 T Fg Am, g 28 _ rfl, F31.kp, F31.bindsN fun _ _ _ _ _ _ us hl => match us, hl with | [_], _ => rfl⟩
  have U0 : Def P w K mg base CX0 4 "_parts_in" _ x28 ["text", "depth"] (spPartsIn K 0) := ⟨ok_partsin0 F28 T (k := 3), g 25 _ rfl, F28.kp, F28.bindsN fun _ _ _ _ _ _ us hl => match us, hl with | [_, _], _ => rfl⟩
  have V0 : Def P w K mg base CX0 5 "_part_in" _ x30 ["text", "depth"] (spPartIn K 0) := ⟨ok_partin F30 (k := 4) (by decide) U0 Si Rd, g 27 _ rfl, F30.kp, F30.bindsN fun _ _ _ _ _ _ us hl => match us, hl with | [_, _], _ => rfl⟩
  have U1 : Def P w K mg base CX0 6 "_parts_in" _ x28 ["text", "depth"] (spPartsIn K 1) := ⟨ok_partsinS (n := 0) (by decide) F28 T (k := 5) (by decide) V0 Pc, g 25 _ rfl, F28.kp, F28.bindsN fun _ _ _ _ _ _ us hl => match us, hl with | [_, _], _ => rfl⟩
  have V1 : Def P w K mg base CX0 7 "_part_in" _ x30 ["text", "depth"] (spPartIn K 1) := ⟨ok_partin F30 (k := 6) (by decide) U1 Si Rd, g 27 _ rfl, F30.kp, F30.bindsN fun _ _ _ _ _ _ us hl => match us, hl with | [_, _], _ => rfl⟩
  have U2 : Def P w K mg base CX0 8 "_parts_in" _ x28 ["text", "depth"] (spPartsIn K 2) := ⟨ok_partsinS (n := 1) (by decide) F28 T (k := 7) (by decide) V1 Pc, g 25 _ rfl, F28.kp, F28.bindsN fun _ _ _ _ _ _ us hl => match us, hl with | [_, _], _ => rfl⟩
  have V2 : Def P w K mg base CX0 9 "_part_in" _ x30 ["text", "depth"] (spPartIn K 2) := ⟨ok_partin F30 (k := 8) (by decide) U2 Si Rd, g 27 _ rfl, F30.kp, F30.bindsN fun _ _ _ _ _ _ us hl => match us, hl with | [_, _], _ => rfl⟩
  have U3 : Def P w K mg base CX0 10 "_parts_in" _ x28 ["text", "depth"] (spPartsIn K 3) := ⟨ok_partsinS (n := 2) (by decide) F28 T (k := 9) (by decide) V2 Pc, g 25 _ rfl, F28.kp, F28.bindsN fun _ _ _ _ _ _ us hl => match us, hl with | [_, _], _ => rfl⟩
  have V3 : Def P w K mg base CX0 11 "_part_in" _ x30 ["text", "depth"] (spPartIn K 3) := ⟨ok_partin F30 (k := 10) (by decide) U3 Si Rd, g 27 _ rfl, F30.kp, F30.bindsN fun _ _ _ _ _ _ us hl => match us, hl with | [_, _], _ => rfl⟩
  have U4 : Def P w K mg base CX0 12 "_parts_in" _ x28 ["text", "depth"] (spPartsIn K 4) := ⟨ok_partsinS (n := 3) (by decide) F28 T (k := 11) (by decide) V3 Pc, g 25 _ rfl, F28.kp, F28.bindsN fun _ _ _ _ _ _ us hl => match us, hl with | [_, _], _ => rfl⟩
  have V4 : Def P w K mg base CX0 13 "_part_in" _ x30 ["text", "depth"] (spPartIn K 4) := ⟨ok_partin F30 (k := 12) (by decide) U4 Si Rd, g 27 _ rfl, F30.kp, F30.bindsN fun _ _ _ _ _ _ us hl => match us, hl with | [_, _], _ => rfl⟩
  have U5 : Def P w K mg base CX0 14 "_parts_in" _ x28 ["text", "depth"] (spPartsIn K 5) := ⟨ok_partsinS (n := 4) (by decide) F28 T (k := 13) (by decide) V4 Pc, g 25 _ rfl, F28.kp, F28.bindsN fun _ _ _ _ _ _ us hl => match us, hl with | [_, _], _ => rfl⟩
  have U16 : Def P w K mg base CX0 16 "_parts_in" _ x28 ["text", "depth"] (spPartsIn K 5) := ⟨U5.ok.mono (by decide), g 25 _ rfl, F28.kp, F28.bindsN fun _ _ _ _ _ _ us hl => match us, hl with | [_, _], _ => rfl⟩
  have Ap16 : Def P w K mg base CX0 16 "are_parts_of_row" _ x15 ["thing"] (spApr K) := ⟨Ap.ok.mono (by decide), g 12 _ rfl, F15.kp, F15.bindsN fun _ _ _ _ _ _ us hl => match us, hl with | [_], _ => rfl⟩
  have Pr : Def P w K mg base CX0 19 "parse_row" _ x27 ["text"] (spParseR K) := ⟨ok_parser F27 T MR U16 Ap16, g 24 _ rfl, F27.kp, F27.bindsN fun _ _ _ _ _ _ us hl => match us, hl with | [_], _ => rfl⟩
  have Ri : Def P w K mg base CX0 20 "_row_in" _ x38 ["process", "text"] (spRowIn K) := ⟨ok_rowin F38 T Pr, g 35 _ rfl, F38.kp, F38.bindsN fun _ _ _ _ _ _ us hl => match us, hl with | [_, _], _ => rfl⟩
  have Ci : Def P w K mg base CX0 21 "_change_in" _ x37 ["words", "line"] (spChIn K) := ⟨ok_chin F37 T (k := 20) (by decide) Ri Am Fg, g 34 _ rfl, F37.kp, F37.bindsN fun _ _ _ _ _ _ us hl => match us, hl with | [_, _], _ => rfl⟩
  have Ei : Def P w K mg base CX0 22 "_event_in" _ x36 ["line"] (spEvIn K) := ⟨ok_evin F36 T (k := 21) (by decide) Ci Fg, g 33 _ rfl, F36.kp, F36.bindsN fun _ _ _ _ _ _ us hl => match us, hl with | [_], _ => rfl⟩
  have Te22 : Def P w K mg base CX0 22 "is_told_event" _ x33 ["thing"] (spToldE K) := ⟨Te.ok.mono (by decide), g 30 _ rfl, F33.kp, F33.bindsN fun _ _ _ _ _ _ us hl => match us, hl with | [_], _ => rfl⟩
  have Lo22 : Def P w K mg base CX0 22 "line_of" _ x34 ["event"] (spLineOf K) := ⟨Lo.ok.mono (by decide), g 31 _ rfl, F34.kp, F34.bindsN fun _ _ _ _ _ _ us hl => match us, hl with | [_], _ => rfl⟩
  have Eo : Def P w K mg base CX0 23 "event_of" _ x35 ["line"] (spEvOf K) := ⟨ok_evof F35 Ei Te22 Lo22, g 32 _ rfl, F35.kp, F35.bindsN fun _ _ _ _ _ _ us hl => match us, hl with | [_], _ => rfl⟩
  have Te18 : Def P w K mg base CX0 18 "is_told_event" _ x33 ["thing"] (spToldE K) := ⟨Te.ok.mono (by decide), g 30 _ rfl, F33.kp, F33.bindsN fun _ _ _ _ _ _ us hl => match us, hl with | [_], _ => rfl⟩
  have Wp : Def P w K mg base (L2.CX P w) 20 "write_plan" _ x39 ["events"] (spWrite K) := ⟨ok_write F39 T (k := 18) (by decide) Te18 Lo Z, g 36 _ rfl, F39.kp, F39.bindsN fun _ _ _ _ _ _ us hl => match us, hl with | [_], _ => rfl⟩
  have Rp : Def P w K mg base CX0 25 "read_plan" _ x40 ["text"] (spReadP K) := ⟨ok_readp F40 T Eo, g 37 _ rfl, F40.kp, F40.bindsN fun _ _ _ _ _ _ us hl => match us, hl with | [_], _ => rfl⟩
  have Po : Def P w K mg base CX0 1 "_law_pool" _ x41 ["_law_script", "_law_k"] (spPool K) := ⟨ol_pool F41 T, g 38 _ rfl, F41.kp, F41.bindsN fun _ _ _ _ _ _ us hl => match us, hl with | [_, _], _ => rfl⟩
  have Ta : Def P w K mg base CX0 1 "_law_take" _ x42 ["_law_pool_here", "_law_many"] spTake := ⟨ol_take F42 T, g 39 _ rfl, F42.kp, F42.bindsN fun _ _ _ _ _ _ us hl => match us, hl with | [_, _], _ => rfl⟩
  have Fa : Def P w K mg base CX0 1 "_law_far" _ x43 [] spFar := ⟨ol_far F43, g 40 _ rfl, F43.kp, F43.bindsN fun _ _ _ _ _ _ us hl => match us, hl with | [], _ => rfl⟩
  have Lw : Def P w K mg base CX0 2 "_law_word" _ x44 ["_law_pool_here"] (spLWord K) := ⟨ol_word F44 Ta, g 41 _ rfl, F44.kp, F44.bindsN fun _ _ _ _ _ _ us hl => match us, hl with | [_], _ => rfl⟩
  have Ln : Def P w K mg base CX0 2 "_law_number" _ x45 ["_law_pool_here"] spLNum := ⟨ol_num F45 Ta, g 42 _ rfl, F45.kp, F45.bindsN fun _ _ _ _ _ _ us hl => match us, hl with | [_], _ => rfl⟩
  have Lr : Def P w K mg base CX0 2 "_law_row" _ x46 ["_law_pool_here"] (spLRow K) := ⟨ol_row F46 T Ta, g 43 _ rfl, F46.kp, F46.bindsN fun _ _ _ _ _ _ us hl => match us, hl with | [_], _ => rfl⟩
  have Lc : Def P w K mg base CX0 3 "_law_change" _ x47 ["_law_pool_here"] (spLCh K) := ⟨ol_change F47 Ta Lw Ln Lr, g 44 _ rfl, F47.kp, F47.bindsN fun _ _ _ _ _ _ us hl => match us, hl with | [_], _ => rfl⟩
  have Le : Def P w K mg base CX0 4 "_law_event" _ x48 ["_law_pool_here"] (spLEv K) := ⟨ol_event F48 Ta Lw Ln Lc Fa, g 45 _ rfl, F48.kp, F48.bindsN fun _ _ _ _ _ _ us hl => match us, hl with | [_], _ => rfl⟩
  have Ll : Def P w K mg base CX0 25 "_law_line" _ x49 ["_law_event_here"] (spLLine K) := ⟨(ol_line F49 T MR).mono (by decide), g 46 _ rfl, F49.kp, F49.bindsN fun _ _ _ _ _ _ us hl => match us, hl with | [_], _ => rfl⟩
  have Rf : Def P w K mg base CX0 25 "_law_refused" _ x50 ["_law_thing"] (spRef K) := ⟨(ol_ref F50 T Wp).mono (by decide), g 47 _ rfl, F50.kp, F50.bindsN fun _ _ _ _ _ _ us hl => match us, hl with | [_], _ => rfl⟩
  have Wp25 : Def P w K mg base (L2.CX P w) 25 "write_plan" _ x39 ["events"] (spWrite K) := ⟨Wp.ok.mono (by decide), g 36 _ rfl, F39.kp, F39.bindsN fun _ _ _ _ _ _ us hl => match us, hl with | [_], _ => rfl⟩
  exact ok_law F51 T (k0 := 25) (by decide) ⟨Po, Ta, Le, Ll, Rf, Wp25, Rp, Fa⟩
end L2.L86
open PySem PySem.W PySem.Calls PyProof.Rows
theorem PySem.Challenge.cw_leastrooms_k86_plans_written_holds : PySem.Challenge.rw_leastrooms_k86_plans_written.Holds := by
  w_on; o_law
  refine HandSHeadRun.head_any (r := OpenLaw.row PySem.Challenge.rw_leastrooms_k86_plans_written) (q := view (OpenLaw.row PySem.Challenge.rw_leastrooms_k86_plans_written).prog [84]) (H := L2.L86.hk) (ob := L2.L86.ob) (M := 16000) (loose := L2.L86.loose) (d := HandSHeadRun.topDef (OpenLaw.row PySem.Challenge.rw_leastrooms_k86_plans_written).prog 84) (kwd := []) L2.L86.ob_eq
    (by kernel_rfl) (fun s => by kernel_rfl) L2.L86.run (by kernel_rfl) (by kernel_rfl) (by kernel_rfl) (by rfl) (by first | assumption | decide +kernel) (by decide +kernel) ⟨rfl, rfl, rfl, rfl, rfl, by decide +kernel⟩ ?hw ?hc
  case hw => w_witness2
  case hc =>
    refine L2.Lr.walk_ofQ (l := PySem.Challenge.rw_leastrooms_k86_plans_written) (n := 63) (k := 26) (x := "_law_script") (CX := L2.CX0) rfl (by decide) (by kernel_rfl) ⟨rfl, by decide, by decide⟩ ?F (fun _ _ _ _ z => z)
    intro w mg fa h Y G hmg0
    obtain ⟨K, KX, c1, c2⟩ := Y
    have hmg : mg ("law" : PySem.Str) = some (.ref fa) := by
      have e : (HandSHeadRun.topDef (OpenLaw.row PySem.Challenge.rw_leastrooms_k86_plans_written).prog 84).name = ("law" : PySem.Str) := by kernel_rfl
      rw [← e]
      exact hmg0
    obtain ⟨fd, hb, hF⟩ := L2.L86.facts (P := (PySem.Challenge.rw_leastrooms_k86_plans_written).prog) (w := w) KX G hmg c1 c2
    exact ⟨K, fd, L2.L86.spLaw K, KX, hb, fun H a ns hl hS => ⟨a, ns, rfl, hS, hl, fun _ => rfl⟩, hF⟩
