import PyProof.Rows.All
import Wide.All
import OpenK.AllK
import Wide.FinOn
import KE.KExcInit
import KE.KExcIs
import KE.KIsAll
import HandS.ForMost
import HandS.ForSpec
import HandS.ExcInit
import HandS.ExcValue
import HandS.ExcIs
import HandS.Wide
import HandS.Defaults
import HandS.HeadHook2
import HandS.ExcOwn
import HandS.Words
import HandS.IsInst
import HandS.WordsExc
import HandS.Text
import HandS.Head0
import HandS.Head1
import HandS.Head2
import HandS.HeadEnd
import HandS.HeadHook1
import KE.KStateDown
import HandS.TryMany
import HandS.Ends
import PyProof.ReprRoads
import PyProof.ReprLen
import PyProof.Rows.StrIntSpec
import HandS.Star
import HandS.OwnEq
import HandS.FStr
import HandS.MakeKw
import HandS.Codes
import KE.KOpsOwn
import KE.KCallOwn
import PyProof.FString3
import HandS.TupMul
import HandS.ClsMeth
import HandS.DeepEq
import KE.KFmtOwn
import PyProof.FactsAll.object_2
import HandS.TupAny
import HandS.StrMore
import HandS.EndTab
import HandS.EndOwn
import KE.KNestM
import HandS.DictEq
import HandS.RaiseMore
import HandS.Iter
import HandS.Walk
import PyProof.MeetsStr3
import HandS.Strs
import HandS.TryOnly
import HandS.Deep
import HandS.StrSplit
import HandS.Steps
import HandS.ReplaceLit
import PySem.Challenge.RW_leastrooms_k87_plan_lines_judged
set_option Elab.async false
set_option linter.all false
set_option maxRecDepth 100000
set_option maxHeartbeats 4000000
/-! own exceptions under ValueError, KeyError, RuntimeError, as values -/
namespace LR
open PySem PySem.W PySem.Calls PyProof.Rows Builtin Builtin.ObjectAttr
/-- a family of own exceptions: the built-in class that makes them, and the end of their mro -/
structure Kd where
  B : String
  nid : String
  iid : String
  bmB : List Value
  tl : List Value
  F : ExcBaseFacts B nid iid bmB
  hB : tl.contains (.type B) = true
  hA : tl.contains (.type "AttributeError") = false
  hN : tl.contains (.type "NameError") = false
  hO : tl.contains (.type "object") = true
  hE : tl.contains (.type "BaseException") = true
  pass : ∀ self, refuseLoop self "__setattr__" tl = pure ()
def tlV : List Value := [.type "ValueError", .type "Exception", .type "BaseException", .type "object"]
def tlK : List Value := [.type "KeyError", .type "LookupError", .type "Exception", .type "BaseException", .type "object"]
def tlR : List Value := [.type "RuntimeError", .type "Exception", .type "BaseException", .type "object"]
def xV : Kd := ⟨_, _, _, _, tlV, F.excBase_ValueError, by decide +kernel, by decide +kernel, by decide +kernel, by decide +kernel, by decide +kernel, fun self => F.store_ValueError.passes self⟩
def xK : Kd := ⟨_, _, _, _, tlK, F.excBase_LookupError, by decide +kernel, by decide +kernel, by decide +kernel, by decide +kernel, by decide +kernel, fun self => by kernel_rfl⟩
def xR : Kd := ⟨_, _, _, _, tlR, F.excBase_RuntimeError, by decide +kernel, by decide +kernel, by decide +kernel, by decide +kernel, by decide +kernel, fun self => F.store_RuntimeError.passes self⟩

section
variable {M : Model} {A : Around} {E : Value → Shared → Prop} {h : Heap} {g : Array GenState} {d : Drawn} {t : Nat} {os : OsState}
variable {nm q : Str} {C N : Addr} {bs bm : List Value} {hdct : Bool} {sn : List Str} {sub : List Value} {ab : Bool} {col : Option Bool} {dd : Option Addr} {k0 k1 k2 k3 k5 : Option Value}
theorem Kd.has (k : Kd) (ht : excTail k.tl bm = true) (X : String) {b : Bool} (e : k.tl.contains (.type X) = b) : (Value.ref C :: bm).contains (.type X) = b := by
  rw [List.contains_cons, excTail_contains X bm ht, e]
  cases b <;> rfl
theorem chk_new (k : Kd) (ht : excTail k.tl bm = true) {rest : List Value} {Q : Unit → Shared → Prop}
    (hC : h.get? C = some (excClassObj nm q C N bs bm hdct sn sub ab col dd k0 k1 k2 k3 k5 k.nid)) (hq : Q () ⟨h, g, d, t, os⟩) :
    wpAny M A (checkBuiltinCall k.nid ⟨.ref C :: rest, []⟩) Q E ⟨h, g, d, t, os⟩ := by
  have c1 : (Value.ref C :: bm).contains (.type k.B) = true := k.has ht _ k.hB
  have nst := k.F.noStar
  simp only [checkBuiltinCall, k.F.newKind, k.F.newSplit, k.F.newRow]
  repeat (first
    | refine wpAny_loadPart_at hC ?_
    | (refine wpAny_isSubtype_exc hC ?_; rw [c1])
    | refine wpAny_staticBase_exc hC ?_
    | refine wpAny_madeBy_exc hC ?_
    | simp only [bne_self_eq_false, Bool.false_eq_true, if_false]
    | wp_step)
  exact hq
end
section
variable {prog : Program} {w : World} {A : Around} {E : Value → Shared → Prop} {R : Result → Shared → Prop} {h : Heap} {g : Array GenState} {d : Drawn} {t : Nat} {os : OsState}
variable {nm q : Str} {C N : Addr} {bs bm : List Value} {hdct : Bool} {sn : List Str} {sub : List Value} {ab : Bool} {col : Option Bool} {dd : Option Addr} {k0 k1 k2 k3 k5 : Option Value}
theorem run_new (k : Kd) (ht : excTail k.tl bm = true) {rest : List Value}
    (hC : h.get? C = some (excClassObj nm q C N bs bm hdct sn sub ab col dd k0 k1 k2 k3 k5 k.nid))
    (hq : R (.ok (.ret (.ref (h.objs.size + 1)))) ⟨(h.push (kdv_tup rest)).push (HandSPX.excO C h.objs.size), g, d, t, os⟩) (hr : rest.length ≤ sizeLine) :
    codeAny (model prog w) A (.builtin k.nid ⟨.ref C :: rest, []⟩) R ⟨h, g, d, t, os⟩ := by
  have en := k.F.ends
  have c1 : (Value.ref C :: bm).contains (.type k.B) = true := k.has ht _ k.hB
  have c2 : (Value.ref C :: bm).contains (.type "AttributeError") = false := k.has ht _ k.hA
  have c3 : (Value.ref C :: bm).contains (.type "NameError") = false := k.has ht _ k.hN
  refine codeAny_builtinAt k.F.entry ?_
  unfold Builtin.«BaseException.__new__»
  refine PySem.wpAt_bind ?_
  show PySem.wpAt _ _ _ (stack >>= _) _ _ _
  refine PySem.wpAt_bind (PySem.wpAt_stack fun p below => PySem.wpAt_of_wpAny ?_)
  wp_walk
  refine PySem.wpAt_of_wpAny ?_
  rw [k.F.owner]
  repeat (first
    | with_reducible refine wpAny_madeHere_exc k.F.canon hC ?_
    | with_reducible refine wpAny_loadPart_at hC ?_
    | (with_reducible refine wpAny_isSubtype_exc hC ?_; first | rw [c1] | rw [c2] | rw [c3])
    | wp_step)
  show R _ _
  rw [Heap.size_push]
  exact hq
theorem run_type (k : Kd) (ht : excTail k.tl bm = true) {rest : List Value} {fI : Addr} {Q : Fin → Shared → Prop}
    (hC : h.get? C = some (excClassObj nm q C N bs bm hdct sn sub ab col dd k0 k1 k2 k3 k5 k.nid))
    (hi : Looks (model prog w) h (typeLookup (.ref C) "__init__") (some (.ref fI))) (hb : ∀ self, Looks (model prog w) h (bindSpecial (.ref fI) self) (.ref fI, [self])) (hr : rest.length ≤ sizeLine)
    (hq : codeAny (model prog w) A (.call (.ref fI) ⟨.ref (h.objs.size + 1) :: rest, []⟩)
      (fun r s' => match r with | .ok (.ret v) => v = .none ∧ Q (.done (.ret (.ref (h.objs.size + 1)))) s' | .ok _ => False | .error e => E e s')
      ⟨(h.push (kdv_tup rest)).push (HandSPX.excO C h.objs.size), g, d, t, os⟩) :
    wpAny (model prog w) A (Builtin.«type.__call__» ⟨.ref C :: rest, []⟩) Q E ⟨h, g, d, t, os⟩ := by
  repeat (first
    | with_reducible refine wpAny_loadPart_at hC ?_
    | with_reducible refine wpAny_madeBy_exc hC ?_
    | wp_step)
  refine codeAny_call_builtin_code (Code.quiet_builtin _ k.F.quiet) (chk_new k ht hC (run_new k ht hC ?_ hr))
  show wpAny _ _ _ _ _ _
  have kp : ∀ b o, h.get? b = some o → ((h.push (kdv_tup rest)).push (HandSPX.excO C h.objs.size)).get? b = some o := fun b o e =>
    Heap.get?_push_of_some _ (Heap.get?_push_of_some _ e)
  have hC1 := kp _ _ hC
  have hnew : ((h.push (kdv_tup rest)).push (HandSPX.excO C h.objs.size)).get? (h.objs.size + 1) = some (HandSPX.excO C h.objs.size) := by heap_get
  have self1 : (Value.ref C :: bm).contains (.ref C) = true := by simp
  have i1 := hi.keeps kp
  have b1 := (hb (.ref (h.objs.size + 1))).keeps kp
  unfold isInstance
  repeat (first
    | with_reducible refine wpAny_loadPart_at hnew ?_
    | (with_reducible refine wpAny_isSubtype_exc hC1 ?_; rw [self1])
    | wp_step)
  show wpAny _ _ (typeLookup (.ref C) _) _ _ _
  refine i1.at (wpAny_holding (wpAny_bind (b1.at ?_)))
  refine wpAny_bind (wpAny_call (codeAny_mono hq fun r s' z => ?_))
  rcases r with e | (v | _ | _ | _) <;> first | exact z | exact z.elim | skip
  obtain ⟨rfl, z⟩ := z
  first
    | exact wpAny_pure (wpAny_pure z)
    | (wp_walk; exact z)
/-- C(rest), C with an own __init__ at fI -/
theorem run_class (k : Kd) (ht : excTail k.tl bm = true) {rest : List Value} {fI : Addr}
    (hC : h.get? C = some (excClassObj nm q C N bs bm hdct sn sub ab col dd k0 k1 k2 k3 k5 k.nid))
    (hi : Looks (model prog w) h (typeLookup (.ref C) "__init__") (some (.ref fI))) (hb : ∀ self, Looks (model prog w) h (bindSpecial (.ref fI) self) (.ref fI, [self])) (hr : rest.length ≤ sizeLine)
    (hq : codeAny (model prog w) (A.under (.builtin "type.__call__" ⟨.ref C :: rest, []⟩)) (.call (.ref fI) ⟨.ref (h.objs.size + 1) :: rest, []⟩) (InitBack (h.objs.size + 1) R)
      ⟨(h.push (kdv_tup rest)).push (HandSPX.excO C h.objs.size), g, d, t, os⟩) :
    codeAny (model prog w) A (.call (.ref C) ⟨rest, []⟩) R ⟨h, g, d, t, os⟩ := by
  have f1 := tc_lookup
  have f2 := tc_bind (.ref C)
  have hTy : (⟨h, g, d, t, os⟩ : Shared).TypeIs (.ref C) "type" := ⟨_, hC, rfl⟩
  refine codeAny_of_tree ?_
  show wpAny _ _ (callAny (.ref C) _) _ _ _
  repeat (any_goals (first
    | assumption
    | with_reducible refine wpAny_loadPart_at hC ?_
    | wp_step))
  refine ⟨rfl, codeAny_call_builtin_at (Code.quiet_builtin _ (by decide +kernel)) entry_typeCall (wpAny_check_type_call_sub hC (run_type k ht hC hi hb hr ?_))⟩
  refine codeAny_mono hq fun r s' z => ?_
  rcases r with e | (v | _ | _ | _) <;> exact z
end
end LR

set_option maxHeartbeats 4000000
namespace LR
open PySem PySem.W PySem.Calls PyProof.Rows Builtin Builtin.ObjectAttr
theorem sfK : StoreFacts "KeyError" tlK "object.__setattr__" "object" :=
  { F.store_object with
    mro := by kernel_rfl
    hasOwner := by decide +kernel
    passes := fun self => xK.pass self
    slot := .of (owner := "object") (n := "__setattr__")
      (by rw [typeLookup_type, builtinLookup_eq_fast]; kernel_rfl)
      (by decide +kernel) (by decide +kernel) (by decide +kernel)
      (by first
          | exact .inl (by decide +kernel)
          | exact .inr (by decide +kernel))
      (by rw [isSubtype_type]; kernel_rfl) }
/-- a store by the object's own rule is known for the family -/
def Kd.SF (k : Kd) : Prop := ∃ B, StoreFacts B k.tl "object.__setattr__" "object"
theorem sV : xV.SF := ⟨_, F.store_ValueError⟩
theorem sK : xK.SF := ⟨_, sfK⟩
theorem sR : xR.SF := ⟨_, F.store_RuntimeError⟩
/-- what the written part says of an exception class at C -/
structure XC (K : Frag) (k : Kd) (C : Addr) : Prop where
  cls : ∃ nm q N bs bm sn sub ab col dd k0 k1 k2 k3 k5, K.lookup C = some (excClassObj nm q C N bs bm true sn sub ab col dd k0 k1 k2 k3 k5 k.nid) ∧ excTail k.tl bm = true
  sa : findIn K (.ref C) "__setattr__" = some (some (.builtin "object.__setattr__"))
  ga : findIn K (.ref C) "__getattribute__" = some (some (.builtin "BaseException.__getattribute__"))
  gg : findIn K (.ref C) "__getattr__" = some none
  cl : findIn K (.ref C) "__class__" = some (some (.builtin "object.__class__"))
  kC : keepIn K (.ref C) = true
section
variable {K : Frag} {k : Kd} {C : Addr}
theorem XC.cd (T : XC K k C) : ∃ cd bm, clsIn K C = some cd ∧ cd.mro = .ref C :: bm ∧ excTail k.tl bm = true ∧ cd.hasDict = true := by
  obtain ⟨nm, q, N, bs, bm, sn, sub, ab, col, dd, k0, k1, k2, k3, k5, hC, hb⟩ := T.cls
  exact ⟨_, bm, by unfold clsIn; rw [hC], rfl, hb, rfl⟩
theorem XC.isC (T : XC K k C) : (clsIn K C).isSome = true := by
  obtain ⟨cd, bm, h, _⟩ := T.cd
  rw [h]; rfl
theorem XC.hd (T : XC K k C) : hasDictIn K C = true := by
  obtain ⟨cd, bm, h, _, _, hd⟩ := T.cd
  unfold hasDictIn; rw [h]; exact hd
theorem XC.over (T : XC K k C) : excOver K C k.tl = true := by
  obtain ⟨cd, bm, h, hm, hb, _⟩ := T.cd
  unfold excOver; rw [h]
  simp [hm, hb]
theorem XC.sub (T : XC K k C) (X : String) (e : k.tl.contains (.type X) = true) : mroIn K C (.type X) = some true := by
  obtain ⟨cd, bm, h, hm, hb, _⟩ := T.cd
  unfold mroIn
  rw [h, Option.bind_some, hm]
  show some ((Value.ref C :: bm).contains (.type X)) = some true
  rw [k.has hb X e]
theorem XC.tyC (T : XC K k C) : typeIn K (.ref C) = some (.type "type") := by
  obtain ⟨nm, q, N, bs, bm, sn, sub, ab, col, dd, k0, k1, k2, k3, k5, hC, hb⟩ := T.cls
  show Option.map (fun x => x.cls) (List.lookup C K) = _
  rw [hC]; rfl
end
theorem noTake {K : Frag} {C : Addr} {f : Str} (h : findIn K (.ref C) f = some none) : takerIn K C f = some none := by
  unfold takerIn; rw [h]; rfl
section
variable {prog : Program} {w : World} {A : Around} {E : Value → Shared → Prop} {R : Result → Shared → Prop} {hp : Heap} {g : Array GenState} {d : Drawn} {t : Nat} {os : OsState}
variable {K : Frag} {k : Kd} {C x : Addr} {name : Str} {tk : Tok} {v : Value} {fv : Array Value}
theorem osa_first (S : k.SF) (T : XC K k C) (X : K.In hp) (hx : hp.get? x = some { cls := .ref C, data := .fields fv }) (hno : findIn K (.ref C) name = some none)
    (hq : ∀ h' tk' dx, (∀ b o, b ≠ x → hp.get? b = some o → h'.get? b = some o) → hp.objs.size ≤ dx → dx ≠ x → h'.get? x = some { cls := .ref C, dict := some dx, data := .fields fv } →
      h'.Ns1 dx (fun y => if y = name then some v else none) → R (.ok (.ret .none)) ⟨h', g, d, tk', os⟩) :
    codeAny (model prog w) A (.call (.builtin "object.__setattr__") ⟨[.ref x, .str name tk, v], []⟩) R ⟨hp, g, d, t, os⟩ := by
  obtain ⟨B, SF⟩ := S
  obtain ⟨cd, bm, hcd, hm, hb, hh⟩ := T.cd
  have I : InstAt hp x { cls := .ref C, data := .fields fv } C none := ⟨hx, rfl, rfl, trivial⟩
  have nx : x ≠ hp.objs.size := Nat.ne_of_lt (Heap.lt_size hx)
  have hcls : Looks (model prog w) hp (classData C) cd := looks_clsIn X hcd
  refine osa_openX (s := ⟨hp, g, d, t, os⟩) (r := none) SF X I T.over (noTake hno) fun b => ?_
  obtain ⟨nm, bs, mro, ns, qn, hd, sn, sb, ab, col, del⟩ := cd
  dsimp only at hh
  subst hh
  dsimp only
  unfold storeInOwnDict ownDictForStores
  repeat (first
    | with_reducible refine HandSPX.store_in_new ?_ ?_
    | with_reducible refine wpAny_loadPart_at hx ?_
    | with_reducible refine hcls.at ?_
    | wp_step)
  · exact ⟨_, #[], _, (Heap.get?_update_ne _ _ _ _ nx.symm).trans (Heap.get?_push_at rfl rfl), rfl, fun e he => absurd he (by simp), fun _ => rfl⟩
  · intro h' tk' hn' hs
    have hx1 : (hp.push { cls := .type "dict", data := .dict #[] }).get? x = some { cls := .ref C, data := .fields fv } := Heap.get?_push_of_some _ hx
    refine hq h' tk' hp.objs.size (fun b o ne ho => ?_) (Nat.le_refl _) nx.symm ?_ hn'
    · have z1 := Heap.get?_push_of_some { cls := .type "dict", data := .dict #[] } ho
      have z2 := hs.2 b (Nat.ne_of_lt (Heap.lt_size ho))
      exact z2.trans ((Heap.get?_update_ne _ _ _ _ ne).trans z1)
    · exact (hs.2 x nx).trans (Heap.get?_update_self _ hx1 rfl)
theorem osa_later {dx : Addr} {m0 : Str → Option Value} {nl : List Str} (S : k.SF) (T : XC K k C) (X : K.In hp) (hx : hp.get? x = some { cls := .ref C, dict := some dx, data := .fields fv })
    (hns : hp.Ns1 dx m0) (hw : Within m0 nl) (hz : nl.length ≤ 1000) (hno : findIn K (.ref C) name = some none)
    (hq : ∀ h' tk', (∀ b o, b ≠ dx → hp.get? b = some o → h'.get? b = some o) → h'.Ns1 dx (fun y => if y = name then some v else m0 y) → R (.ok (.ret .none)) ⟨h', g, d, tk', os⟩) :
    codeAny (model prog w) A (.call (.builtin "object.__setattr__") ⟨[.ref x, .str name tk, v], []⟩) R ⟨hp, g, d, t, os⟩ := by
  obtain ⟨B, SF⟩ := S
  obtain ⟨cd, bm, hcd, hm, hb, hh⟩ := T.cd
  obtain ⟨oD, _, _, hoD, _, _⟩ := hns.count hw
  have I : InstAt hp x { cls := .ref C, dict := some dx, data := .fields fv } C (some oD) := ⟨hx, rfl, rfl, hoD⟩
  have hcls : Looks (model prog w) hp (classData C) cd := looks_clsIn X hcd
  refine osa_openX (s := ⟨hp, g, d, t, os⟩) (r := none) SF X I T.over (noTake hno) fun b => ?_
  obtain ⟨nm, bs, mro, ns, qn, hd, sn, sb, ab, col, del⟩ := cd
  dsimp only at hh
  subst hh
  dsimp only
  unfold storeInOwnDict ownDictForStores
  repeat (first
    | with_reducible refine OEX.store_in_old hns hw hz ?_
    | with_reducible refine wpAny_loadPart_at hx ?_
    | with_reducible refine hcls.at ?_
    | wp_step)
  intro h' tk' hn' hs
  exact hq h' tk' (fun b o ne ho => (hs.2 b ne).trans ho) hn'
end
end LR

set_option maxHeartbeats 4000000
namespace L2.Lr
open PySem PySem.Spec PyProof.Rows LR
/-- at a: an exception of the class at C, its dict (none as yet | at d) -/
abbrev xo (a C : Addr) (d : Option Addr) : HO := exo a C d
theorem xo_at {P : Program} {w : World} {H : Hp} {h : Heap} {a C : Addr} {d : Option Addr} (hok : HOk P w H h) (e : H a = some (xo a C d)) : ∃ t1 : Addr, h.get? a = some ({ cls := .ref C, dict := d, data := .fields #[.ref t1, .none, .none, .none, .bool false, .none] } : Obj) := exo_at hok e
theorem xo_ok {P : Program} {w : World} {H : Hp} {h : Heap} {a C t1 : Addr} {d : Option Addr} (e : h.get? a = some ({ cls := .ref C, dict := d, data := .fields #[.ref t1, .none, .none, .none, .bool false, .none] } : Obj)) : ObjOk P w H h a (xo a C d) := exo_ok e
theorem xo_ne {a C : Addr} {d : Option Addr} {o : HO} (n : ∀ φ, HO.ext φ ≠ o) : xo a C d ≠ o := n _
section
variable {X : Cx} {pins : List (Addr × Obj)} {σ : St} {H : Hp} {s : Shared} {a C dx : Addr} {f : Str} {y : V} {u : Value} {fs : List (Str × V)} {Q : Unit → Shared → Prop} {E : Value → Shared → Prop} {A : Around} {k : Kd}
/-- self.f = y, the first field -/
theorem st_first (S : k.SF) (T : XC X.K k C) (I : Inv X pins σ H s) (e : H a = some (xo a C none)) (hno : PySem.W.findIn X.K (.ref C) f = some none) (ry : RelV y u)
    (go : ∀ dx s', H dx = none → dx ≠ a → Inv X pins σ (upd (upd H dx (exd dx [(f, y)])) a (xo a C (some dx))) s' → Q () s') : wpAny (model X.prog X.w) A (setAttr (.ref a) f u) Q E s := by
  obtain ⟨fv, ho⟩ := xo_at I.hok e
  obtain ⟨hp, g, d, t, os⟩ := s
  refine PySem.W.set_plain I.kIn (ox := { cls := .ref C, dict := none, data := .fields #[.ref fv, .none, .none, .none, .bool false, .none] }) (od := none) ⟨ho, rfl, rfl, trivial⟩ T.sa (osa_first S T I.kIn ho hno fun h' tk' dx kk dn dne hx hn => ?_)
  have fresh : H dx = none := I.hok.fresh dn
  have old : ∀ {b : Addr} {o : Obj}, hp.get? b = some o → b ≠ dx := fun {b o} q => Nat.ne_of_lt (Nat.lt_of_lt_of_le (Heap.lt_size q) dn)
  have off : ∀ {b : Addr}, H b = none → b ≠ a := fun {b} n z => by
    rw [z, e] at n
    cases n
  have own : ∀ {b c : Addr}, H b = some (.own c) → b ≠ a := fun {b c} q => at_ne e q (xo_ne fun _ z => by cases z)
  have tup : ∀ {b : Addr} {xs : List V}, H b = some (.tup xs) → b ≠ a := fun {b xs} q => at_ne e q (xo_ne fun _ z => by cases z)
  have frz : ∀ {b : Addr} {o : Obj} {v : HO}, H b = some (.frz o v) → b ≠ a := fun {b o v} q => at_ne e q (xo_ne fun _ z => by cases z)
  have tbl : ∀ {b : Addr} {ps : Array Value}, H b = some (.tbl ps) → b ≠ a := fun {b ps} q => at_ne e q (xo_ne fun _ z => by cases z)
  have U : Un X.fs [] H (upd (upd H dx (exd dx [(f, y)])) a (xo a C (some dx))) hp h' :=
    ⟨fun b o q n _ _ => kk b o (off n) q, fun b o q n _ _ => ⟨o.slots, kk b o (off n) q⟩,
     fun b o q n _ => (upd_ne (off n)).trans ((upd_ne (old q)).trans n),
     fun b o q _ => (Classical.em (b = a)).elim (fun hb => hb.symm ▸ (⟨_, hx⟩ : ∃ o', h'.get? a = some o')) fun hb => ⟨o, kk b o hb q⟩,
     fun b xs q => (upd_ne (tup q)).trans ((upd_ne (ne_of_none q fresh)).trans q),
     fun b o v q => (upd_ne (frz q)).trans ((upd_ne (ne_of_none q fresh)).trans q),
     fun b ps q => ⟨#[], by rw [upd_ne (tbl q), upd_ne (ne_of_none q fresh), q]; simp⟩⟩
  refine go dx _ fresh dne (I.un (t' := tk') U fun b o q => ?_)
  by_cases hb : b = a
  · subst hb
    cases upd_same.symm.trans q
    exact xo_ok hx
  · rw [upd_ne hb] at q
    by_cases hd : b = dx
    · subst hd
      cases upd_same.symm.trans q
      exact exd_ok hn (relO_put (fs := []) ry fun g => True.intro)
    · rw [upd_ne hd] at q
      refine (I.hok b o q).stay (fun c v hc z => kk c v ?_ z) (fun c hc => (upd_ne (own hc)).trans ((upd_ne (ne_of_none hc fresh)).trans hc)) fun c xs hc => (upd_ne (tup hc)).trans ((upd_ne (ne_of_none hc fresh)).trans hc)
      rcases hc with hc | hc
      · rw [hc]; exact hb
      · exact own hc
/-- self.f = y, a later field -/
theorem st_later (S : k.SF) (T : XC X.K k C) (I : Inv X pins σ H s) (e : H a = some (xo a C (some dx))) (ed : H dx = some (exd dx fs)) (hl : fs.length ≤ 900) (hno : PySem.W.findIn X.K (.ref C) f = some none) (ry : RelV y u)
    (go : ∀ s', Inv X pins σ (upd H dx (exd dx ((f, y) :: fs))) s' → Q () s') : wpAny (model X.prog X.w) A (setAttr (.ref a) f u) Q E s := by
  obtain ⟨fv, ho⟩ := xo_at I.hok e
  obtain ⟨mA, hns, rel⟩ := exd_at I.hok ed
  have hw := within_of rel
  obtain ⟨hp, g, d, t, os⟩ := s
  obtain ⟨oD, _, _, hoD, _, _⟩ := hns.count hw
  refine PySem.W.set_plain I.kIn (ox := { cls := .ref C, dict := some dx, data := .fields #[.ref fv, .none, .none, .none, .bool false, .none] }) (od := some oD) ⟨ho, rfl, rfl, hoD⟩ T.sa (osa_later S T I.kIn ho hns hw (by rw [List.length_map]; omega) hno fun h' tk' kk hn => ?_)
  have there : ∃ o, h'.get? dx = some o := by
    obtain ⟨o, _, _, e', _⟩ := hn
    exact ⟨o, e'⟩
  exact go _ (I.write (t' := tk') (x := dx) (e := dx) (o := exd dx ((f, y) :: fs)) (by rw [ed]; exact True.intro) (.inl rfl) kk there (exd_ok hn (relO_put ry rel)))
end
/-! ### readings -/
/-- self.f = e -/
def tStX (K : PySem.W.Frag) (f : Str) (to te : TE) : TS := fun D σ H => te σ H fun y H1 => to σ H1 fun x H2 => ∃ (a C : Addr) (k : Kd), x = .ref a ∧ k.SF ∧ XC K k C ∧ PySem.W.findIn K (.ref C) f = some none ∧
  ((H2 a = some (xo a C none) ∧ ∀ dx, H2 dx = none → dx ≠ a → D.nx σ (upd (upd H2 dx (exd dx [(f, y)])) a (xo a C (some dx)))) ∨
    ∃ (dx : Addr) (fs : List (Str × V)), H2 a = some (xo a C (some dx)) ∧ H2 dx = some (exd dx fs) ∧ fs.length ≤ 900 ∧ D.nx σ (upd H2 dx (exd dx ((f, y) :: fs))))
/-- C(e, ..), C's __init__ keeping sp: the new exception as a value -/
def tMkX (C : Addr) (sp : Sp) (dvs : List V) (ta : TA) : TE := fun σ H Q => ta σ H fun vs H1 => vs.length ≤ 1000 ∧ ∀ a, H1 a = none → sp (.ref a :: (vs ++ dvs)) (upd H1 a (xo a C none)) (fun v H2 => v = .non ∧ Q (.ref a) H2) (fun _ _ _ => False)
/-- e.n of such an exception -/
def tAtX (K : PySem.W.Frag) (n : Str) (te : TE) : TE := fun σ H Q => te σ H fun x H1 => ∃ (a C dx : Addr) (fs : List (Str × V)) (v : V) (k : Kd), x = .ref a ∧ H1 a = some (xo a C (some dx)) ∧ H1 dx = some (exd dx fs) ∧ XC K k C ∧
  PySem.W.findIn K (.ref C) n = some none ∧ fs.lookup n = some v ∧ Q v H1
/-- isinstance(e, c) -/
def rIsX (K : PySem.W.Frag) : List V → Hp → VK → Prop := fun xs H Q => ∃ (a C : Addr) (d : Option Addr) (k : Kd) (c : V) (cv : Value) (b : Bool), xs = [.ref a, c] ∧ (∀ u, RelV c u → u = cv) ∧ H a = some (xo a C d) ∧
  (∀ dx, d = some dx → ∃ o, H dx = some o) ∧ XC K k C ∧ PySem.W.kitOne K (.ref C) cv = some b ∧ Q (.bl b) H
theorem oc_get {K : PySem.W.Frag} : PySem.W.specialIn K (.builtin "object.__class__") "__get__" = some (some (.builtin "getset_descriptor.__get__")) := by kernel_rfl
theorem oc_take {K : PySem.W.Frag} : PySem.W.takesIn K (.builtin "object.__class__") = some true := by kernel_rfl
section
variable {X : Cx} {o e : Expr} {es : List Expr} {to te : TE} {ta : TA} {f : Str} {p p' p1 p2 pos : Pos}
theorem inst_of {pins : List (Addr × Obj)} {σ : St} {H : Hp} {s : Shared} {a C : Addr} {d : Option Addr} (I : Inv X pins σ H s) (e : H a = some (xo a C d)) (hd : ∀ dx, d = some dx → ∃ o, H dx = some o) :
    ∃ (ox : Obj) (od : Option Obj), PySem.W.InstAt s.heap a ox C od ∧ ∀ dx, d = some dx → ∃ q, od = some q ∧ s.heap.get? dx = some q := by
  obtain ⟨fv, ho⟩ := xo_at I.hok e
  cases d with
  | none => exact ⟨_, none, ⟨ho, rfl, rfl, trivial⟩, fun dx z => by cases z⟩
  | some dx =>
    obtain ⟨q, hq⟩ := hd dx rfl
    obtain ⟨ob, hb⟩ : ∃ ob, s.heap.get? dx = some ob := by
      have z := (I.hok dx q hq).lt
      cases r : s.heap.get? dx with
      | some ob => exact ⟨ob, rfl⟩
      | none => exact absurd r (by
          have zz := I.hok dx q hq
          cases q with
          | lst xs => obtain ⟨_, _, _, _, e1⟩ := zz; rw [e1]; simp
          | tup xs => obtain ⟨_, _, _, o1, e1, _⟩ := zz; rw [e1]; simp
          | dK kvs => obtain ⟨_, _, _, _, o1, _, _, e1, _⟩ := zz; rw [e1]; simp
          | dT kvs => obtain ⟨_, _, _, _, o1, _, _, e1, _⟩ := zz; rw [e1]; simp
          | set S n => obtain ⟨o1, _, _, _, e1, _⟩ := zz; rw [e1]; simp
          | ins C1 d1 f1 => obtain ⟨_, _, _, e1, _⟩ := zz; rw [e1]; simp
          | own y => obtain ⟨_, e1⟩ := zz; rw [e1]; simp
          | xd fs => obtain ⟨_, ⟨_, _, _, e1, _⟩, _⟩ := zz; rw [e1]; simp
          | rng lo hi => obtain ⟨_, _, _, e1⟩ := zz; rw [e1]; simp
          | frz ob u => obtain ⟨e1, _⟩ := zz; rw [e1]; simp
          | tbl ps => have e1 : s.heap.get? dx = some _ := zz; rw [e1]; simp
          | met f1 y => have e1 : s.heap.get? dx = some _ := zz; rw [e1]; simp
          | ext φ => obtain ⟨_, ⟨_, e1⟩, _⟩ := zz; rw [e1]; simp)
    exact ⟨_, some ob, ⟨ho, rfl, rfl, hb⟩, fun dy z => by cases z; exact ⟨ob, rfl, hb⟩⟩
theorem ps_stX (ho : PE X o to) (he : PE X e te) (hs : swapsWith e (some (.Attribute o f p')) pos.line X.env = pure false := by rfl) : PS X (.Assign [.Attribute o f p'] e pos) (tStX X.K f to te) := by
  refine ⟨fun pins s σ H D I hh => plainObj_wpAny_Assign_Attribute (thn (he.run pins s σ H _ I hh) fun v s1 ⟨y, H1, I1, r1, q1⟩ => thn (ho.run pins s1 σ H1 _ I1 q1) fun u s2 ⟨x, H2, I2, r2, q⟩ => ?_) hs⟩
  obtain ⟨a, C, k, rfl, S, T, hno, q⟩ := q
  cases (show u = Value.ref a from r2)
  rcases q with ⟨ea, q⟩ | ⟨dx, fs, ea, ed, hl, q⟩
  · exact st_first S T I2 ea hno r1 fun dx s' n ne J => ⟨σ, _, J, q dx n ne⟩
  · exact st_later S T I2 ea ed hl hno r1 fun s' J => ⟨σ, _, J, q⟩
theorem pe_mkX {CX : CXT} {x : Str} {C fI : Addr} {j : Nat} {fd : FuncData} {ps : List Str} {sp : Sp} {ds : List Value} {dvs : List V} {k : Kd} (T : XC X.K k C) (iC : PySem.W.findIn X.K (.ref C) "__init__" = some (some (.ref fI))) (tI : PySem.W.typeIn X.K (.ref fI) = some (.type "function"))
    (F1 : FnOk X.prog X.w X.K X.mg X.base CX j fI fd ps sp) (hr : Room (j + 1) X.A) (hb : Binds X.K fd ps ds) (hd : Vals dvs ds) (hx : Passes CX X (fun _ _ _ => False)) (hg : Gl X x) (hm : X.mg x = some (.ref C)) (ha : PA X (e :: es) ta)
    (hdb : (x == ("__debug__" : Str)) = false := by decide) (he : starEach (e :: es) X.env = (false, eval e X.env) :: starEach es X.env := by rfl) (hpl : (backTo pos (starEach es X.env)).any (·.1) = false := by rfl) :
    PE X (.Call (.Name x p) (e :: es) [] pos) (tMkX C sp dvs ta) := by
  refine ⟨fun pins s σ H Q I hh => ?_⟩
  obtain ⟨nm, q, N, bs, bm, sn, sub, ab, col, dd, k0, k1, k2, k3, k5, hC, hbm⟩ := T.cls
  refine wpAny_Call_Name_kw (ld_glob I hg hm ?_ hdb)
  refine PySem.W.callWith_K (h₀ := X.base) I.ok.mod.kin T.kC (thn (ha.run pos pins s σ H _ I hh) fun us s1 ⟨vs, H1, I1, r1, hz, q1⟩ => ⟨I1.kIn, ?_⟩) he hpl
  show wpAny _ _ (call (.ref C) us) _ _ _
  obtain ⟨hp, g, dr, tk, os⟩ := s1
  obtain ⟨na, ena⟩ : ∃ na, na = hp.objs.size + 1 := ⟨_, rfl⟩
  have hsz : hp.objs.size ≤ na := by omega
  have hn : H1 na = none := I1.hok.fresh hsz
  have hq := q1 na hn
  obtain ⟨G, eG⟩ : ∃ G, G = (hp.push (PySem.W.kdv_tup us)).push (PySem.HandSPX.excO C hp.objs.size) := ⟨_, rfl⟩
  have kk : ∀ b o, hp.get? b = some o → G.get? b = some o := fun b o e1 => by rw [eG]; exact Heap.get?_push_of_some _ (Heap.get?_push_of_some _ e1)
  have there : G.get? na = some (PySem.HandSPX.excO C hp.objs.size) := by rw [eG, ena]; heap_get
  have I2 : Inv X pins σ (upd H1 na (xo na C none)) ⟨G, g, dr, tk, os⟩ := I1.laid (t' := tk) (a := na) (o := xo na C none) (h' := G) kk hsz (xo_ok there)
  have r2 : Vals (V.ref na :: (vs ++ dvs)) (Value.ref na :: (us ++ ds)) := .cons rfl (r1.append hd)
  have hl : (Value.ref na :: us ++ ds).length = ps.length := by
    have e1 := r2.length
    rw [F1.len _ _ _ _ hq] at e1
    exact e1.symm
  have hus : us.length ≤ sizeLine := by
    rw [← Paired.length r1, sizeLine_eq]
    omega
  refine wpAny_call (run_class k hbm (I1.kIn _ _ hC) (PySem.W.looks_findIn I1.kIn iC) (fun self => PySem.W.bind_fn I1.kIn self tI) hus ?_)
  rw [← eG, ← ena]
  refine codeAny_mono (F1.run _ X.stack _ _ ⟨Value.ref na :: us, []⟩ (Value.ref na :: (us ++ ds)) _ _ (fun _ _ _ => False) (hr.make C us []) (I2.env0.make C us []) (hb _ (Value.ref na :: us) I2.kIn hl) r2 hq) fun r s' hq' => ?_
  cases r with
  | error er => exact hx pins σ _ _ er s' I2 hq'
  | ok fl =>
    cases fl with
    | ret u =>
      obtain ⟨v, H2, os2, bare2, un2, hok2, rv, ev, q2⟩ := hq'
      subst ev
      exact ⟨rv, .ref na, H2, I2.call' (ch := []) os2 un2 hok2 bare2 fun b z => absurd z (by simp), rfl, q2⟩
    | next => exact False.elim hq'
    | brk => exact False.elim hq'
    | cont => exact False.elim hq'
theorem pe_atX {n : Str} (he : PE X e te) (hb : attributeBase e n X.env (eval e X.env) = eval e X.env := by rfl) : PE X (.Attribute e n pos) (tAtX X.K n te) := by
  refine ⟨fun pins s σ H Q I hh => attr_of hb (thn (he.run pins s σ H _ I hh) fun u s1 ⟨x, H1, I1, rx, q⟩ => ?_)⟩
  obtain ⟨a, C, dx, fs, v, k, rfl, ea, ed, T, hno, l, q⟩ := q
  cases (show u = Value.ref a from rx)
  obtain ⟨ox, od, J, hd⟩ := inst_of I1 ea fun d z => by cases z; exact ⟨_, ed⟩
  obtain ⟨ob, eo, ho⟩ := hd dx rfl
  obtain ⟨mA, hns, hr⟩ := exd_at I1.hok ed
  obtain ⟨o2, ho2, hl⟩ := lookIn_ns hns
  cases ho.symm.trans ho2
  subst eo
  obtain ⟨z, hz, rz⟩ := RelO.some_of (v := v) (o := mA n) (by rw [← l]; exact hr n)
  exact HandSPX.exc_get I1.kIn J T.ga T.gg (T.sub "BaseException" k.hE) (PySem.W.findObj_own T.hd hno rfl (by rw [hl, hz])) (handed_of rz) ⟨v, H1, I1.tok _, rz, q⟩
theorem call_isX : CallR X (.builtin "isinstance") (rIsX X.K) := by
  intro pins s σ H xs us Q I r q
  obtain ⟨a, C, d, k, c, cv, b, rfl, hcv, ea, hd, T, e, q⟩ := q
  cases r with
  | cons rx rr =>
    cases rr with
    | cons rt rr =>
      cases rr
      cases rx
      cases hcv _ rt
      obtain ⟨ox, od, J, _⟩ := inst_of I ea hd
      exact PySem.W.kia_one (PySem.W.kitx_exc T.isC T.ga T.gg (T.sub "BaseException" k.hE) T.cl oc_get oc_take (T.sub "object" k.hO)) I.kIn J e (fun z => nomatch z) fun tk => ⟨.bl b, H, I.kept (t' := tk) fun _ _ z => z, rfl, q⟩
end
end L2.Lr

set_option maxHeartbeats 4000000
namespace L2.Lr
open PySem PySem.Spec PyProof.Rows LR
/-! ### facts of a class, reckoned -/
def clB (K : PySem.W.Frag) (k : Kd) (C : Addr) : Bool := match K.lookup C with
  | some ⟨.type "type", _, .cls cd, sl⟩ => (match cd.mro, sl.toList with
    | .ref C' :: bm, [_, _, _, _, some (.builtin n), _] => C' == C && n == k.nid && !cd.hasDel && cd.hasDict && PySem.W.excTail k.tl bm
    | _, _ => false)
  | _ => false
theorem clB_ok {K : PySem.W.Frag} {k : Kd} {C : Addr} (q : clB K k C = true) : ∃ nm qn N bs bm sn sub ab col dd k0 k1 k2 k3 k5, K.lookup C = some (excClassObj nm qn C N bs bm true sn sub ab col dd k0 k1 k2 k3 k5 k.nid) ∧ PySem.W.excTail k.tl bm = true := by
  unfold clB at q
  split at q
  · rename_i dd cd sl ho
    split at q
    · rename_i C' bm k0 k1 k2 k3 n k5 hm hs
      simp only [Bool.and_eq_true, beq_iff_eq, Bool.not_eq_true'] at q
      obtain ⟨⟨⟨⟨rfl, rfl⟩, hdel⟩, hdict⟩, ht⟩ := q
      obtain ⟨nm, bs, mro, ns, qn, hd, sn, sub, ab, col, del⟩ := cd
      dsimp only at hm hdel hdict
      subst hm hdel hdict
      have es : sl = #[k0, k1, k2, k3, some (.builtin k.nid), k5] := by
        rw [← hs]
      subst es
      exact ⟨nm, qn, ns, bs, bm, sn, sub, ab, col, dd, k0, k1, k2, k3, k5, ho, ht⟩
    · cases q
  · cases q
def xcB (K : PySem.W.Frag) (k : Kd) (C : Addr) : Bool := clB K k C && (He.eqO (PySem.W.findIn K (.ref C) "__setattr__") (some (some (.builtin "object.__setattr__"))) && (He.eqO (PySem.W.findIn K (.ref C) "__getattribute__") (some (some (.builtin "BaseException.__getattribute__"))) &&
  (He.eqO (PySem.W.findIn K (.ref C) "__getattr__") (some none) && (He.eqO (PySem.W.findIn K (.ref C) "__class__") (some (some (.builtin "object.__class__"))) && PySem.W.keepIn K (.ref C)))))
theorem xcB_ok {K : PySem.W.Frag} {k : Kd} {C : Addr} (q : xcB K k C = true) : XC K k C := by
  obtain ⟨q1, q⟩ := He.ba q
  obtain ⟨q2, q⟩ := He.ba q
  obtain ⟨q3, q⟩ := He.ba q
  obtain ⟨q4, q⟩ := He.ba q
  obtain ⟨q5, q6⟩ := He.ba q
  exact ⟨clB_ok q1, He.eqO_ok q2, He.eqO_ok q3, He.eqO_ok q4, He.eqO_ok q5, q6⟩
/-! ### exceptions as the heap holds them -/
/-- at a: an exception of the class at C with these fields (none: no dict) -/
def ExF (H : Hp) (a C : Addr) : Option (List (Str × V)) → Prop
  | some fs => ∃ d, H a = some (xo a C (some d)) ∧ H d = some (exd d fs)
  | none => H a = some (xo a C none)
theorem ExF.same {H H' : Hp} {a C : Addr} {o : Option (List (Str × V))} (e : ExF H a C o) (s : Same H H') : ExF H' a C o := by
  cases o with
  | none => exact s _ _ e
  | some fs =>
    obtain ⟨d, e1, e2⟩ := e
    exact ⟨d, s _ _ e1, s _ _ e2⟩
theorem ExF.obj {H : Hp} {a C : Addr} {o : Option (List (Str × V))} (e : ExF H a C o) : ∃ d, H a = some (xo a C d) ∧ ∀ dx, d = some dx → ∃ u, H dx = some u := by
  cases o with
  | none => exact ⟨none, e, fun dx z => by cases z⟩
  | some fs =>
    obtain ⟨d, e1, e2⟩ := e
    exact ⟨some d, e1, fun dx z => by cases z; exact ⟨_, e2⟩⟩
theorem same_upd {H : Hp} {p : Addr} {o : HO} (n : H p = none) : Same H (upd H p o) := fun b u e => (upd_ne (ne_of_none e n)).trans e
theorem pe_weak {X : Cx} {e : Expr} {t t' : TE} (h : PE X e t) (i : ∀ σ H Q, t' σ H Q → t σ H Q) : PE X e t' := ⟨fun pins s σ H Q I q => h.run pins s σ H Q I (i σ H Q q)⟩
theorem pt_weak {X : Cx} {e : Expr} {t t' : TT} (h : PT X e t) (i : ∀ σ H Q, t' σ H Q → t σ H Q) : PT X e t' := ⟨fun pins s σ H Q I q => h.run pins s σ H Q I (i σ H Q q)⟩
theorem pa_weak {X : Cx} {es : List Expr} {t t' : TA} (h : PA X es t) (i : ∀ σ H Q, t' σ H Q → t σ H Q) : PA X es t' := ⟨fun p pins s σ H Q I q => h.run p pins s σ H Q I (i σ H Q q)⟩
/-- C(y): the new exception keeps y -/
def tNew (C : Addr) (te : TE) : TE := fun σ H Q => te σ H fun y H1 => ∀ a H', Same H1 H' → H1 a = none → ExF H' a C (some [("value", y)]) → Q (.ref a) H'
/-- C(z, y): .. keeps both -/
def tNew2 (C : Addr) (tz ty : TE) : TE := fun σ H Q => tz σ H fun z H1 => ty σ H1 fun y H2 => ∀ a H', Same H2 H' → H2 a = none → ExF H' a C (some [("value", y), ("word", z)]) → Q (.ref a) H'
/-- C() -/
def tNew0 (C : Addr) : TE := fun σ H Q => ∀ a, H a = none → Q (.ref a) (upd H a (xo a C none))
/-- isinstance(e, c): b -/
def tIsX (K : PySem.W.Frag) (te : TE) (cv : Value) : TE := fun σ H Q => te σ H fun x H1 => ∃ (a C : Addr) (o : Option (List (Str × V))) (k : Kd) (b : Bool), x = .ref a ∧ ExF H1 a C o ∧ XC K k C ∧ PySem.W.kitOne K (.ref C) cv = some b ∧ Q (.bl b) H1
/-- e.n -/
def tGetX (K : PySem.W.Frag) (n : Str) (te : TE) : TE := fun σ H Q => te σ H fun x H1 => ∃ (a C : Addr) (fs : List (Str × V)) (v : V) (k : Kd), x = .ref a ∧ ExF H1 a C (some fs) ∧ XC K k C ∧ PySem.W.findIn K (.ref C) n = some none ∧ fs.lookup n = some v ∧ Q v H1
/-! ### the promises of the __init__s -/
def spIni (K : PySem.W.Frag) : Sp := fun vs H Q _ => ∃ (a C : Addr) (k : Kd) (y : V), vs = [.ref a, y] ∧ k.SF ∧ XC K k C ∧ PySem.W.findIn K (.ref C) "value" = some none ∧ H a = some (xo a C none) ∧
  ∀ H' d, H d = none → d ≠ a → (∀ b o, H b = some o → b ≠ a → H' b = some o) → H' a = some (xo a C (some d)) → H' d = some (exd d [("value", y)]) → Q .non H'
def spIni2 (K : PySem.W.Frag) : Sp := fun vs H Q _ => ∃ (a C : Addr) (k : Kd) (z y : V), vs = [.ref a, z, y] ∧ k.SF ∧ XC K k C ∧ PySem.W.findIn K (.ref C) "value" = some none ∧ PySem.W.findIn K (.ref C) "word" = some none ∧ H a = some (xo a C none) ∧
  ∀ H' d, H d = none → d ≠ a → (∀ b o, H b = some o → b ≠ a → H' b = some o) → H' a = some (xo a C (some d)) → H' d = some (exd d [("value", y), ("word", z)]) → Q .non H'
/-- a reading with a wish that may be stronger -/
def tUp (te : TE) : TE := fun σ H Q => ∃ Q' : VK, te σ H Q' ∧ ∀ v H', Q' v H' → Q v H'
theorem pe_up {X : Cx} {e : Expr} {te : TE} (h : PE X e te) : PE X e (tUp te) := ⟨fun pins s σ H Q I ⟨Q', q, i⟩ => thn (h.run pins s σ H Q' I q) fun u s1 ⟨v, H1, I1, r, q1⟩ => ⟨v, H1, I1, r, i v H1 q1⟩⟩
section
variable {X : Cx} {e e2 : Expr} {es : List Expr} {te t2 : TE} {ta : TA} {p p' p1 p2 pos : Pos}
theorem pe_new {x : Str} {C fI : Addr} {j : Nat} {fd : FuncData} {k : Kd} (S : k.SF) (T : XC X.K k C) (nv : PySem.W.findIn X.K (.ref C) "value" = some none) (iC : PySem.W.findIn X.K (.ref C) "__init__" = some (some (.ref fI))) (tI : PySem.W.typeIn X.K (.ref fI) = some (.type "function"))
    (F1 : FnOk X.prog X.w X.K X.mg X.base CX0 j fI fd ["self", "value"] (spIni X.K)) (hr : Room (j + 1) X.A) (hb : Binds X.K fd ["self", "value"] []) (hm : X.mg x = some (.ref C)) (ha : PE X e te) (hg : Gl X x := by rfl)
    (hdb : (x == ("__debug__" : Str)) = false := by decide) (he : starEach (e :: []) X.env = (false, eval e X.env) :: starEach [] X.env := by rfl) (hpl : (backTo pos (starEach [] X.env)).any (·.1) = false := by rfl) :
    PE X (.Call (.Name x p) [e] [] pos) (tNew C te) := by
  refine pe_weak (pe_mkX (e := e) (es := []) (dvs := []) T iC tI F1 hr hb .nil pass0 hg hm (pa_cons (pe_up ha) pa_nil he) hdb he hpl) fun σ H Q q => ?_
  refine ⟨_, q, fun y H1 q1 => ⟨by show 1 ≤ 1000; decide, fun a hn => ⟨a, C, k, y, rfl, S, T, nv, upd_same, fun H2 d hd ne keep e1 e2 => ⟨rfl, q1 a H2 (fun b o z => ?_) hn ⟨d, e1, e2⟩⟩⟩⟩⟩
  have ne : b ≠ a := ne_of_none z hn
  exact keep b o ((upd_ne ne).trans z) ne
theorem pe_new2 {x : Str} {C fI : Addr} {j : Nat} {fd : FuncData} {k : Kd} (S : k.SF) (T : XC X.K k C) (nv : PySem.W.findIn X.K (.ref C) "value" = some none) (nw : PySem.W.findIn X.K (.ref C) "word" = some none) (iC : PySem.W.findIn X.K (.ref C) "__init__" = some (some (.ref fI))) (tI : PySem.W.typeIn X.K (.ref fI) = some (.type "function"))
    (F1 : FnOk X.prog X.w X.K X.mg X.base CX0 j fI fd ["self", "word", "value"] (spIni2 X.K)) (hr : Room (j + 1) X.A) (hb : Binds X.K fd ["self", "word", "value"] []) (hm : X.mg x = some (.ref C)) (ha : PE X e te) (ha2 : PE X e2 t2) (hg : Gl X x := by rfl)
    (hdb : (x == ("__debug__" : Str)) = false := by decide) (he : starEach (e :: [e2]) X.env = (false, eval e X.env) :: starEach [e2] X.env := by rfl) (he2 : starEach (e2 :: []) X.env = (false, eval e2 X.env) :: starEach [] X.env := by rfl) (hpl : (backTo pos (starEach [e2] X.env)).any (·.1) = false := by rfl) :
    PE X (.Call (.Name x p) [e, e2] [] pos) (tNew2 C te t2) := by
  refine pe_weak (pe_mkX (e := e) (es := [e2]) (dvs := []) T iC tI F1 hr hb .nil pass0 hg hm (pa_cons (pe_up ha) (pa_cons (pe_up ha2) pa_nil he2) he) hdb he hpl) fun σ H Q q => ?_
  refine ⟨_, q, fun z H1 q1 => ⟨_, q1, fun y H2 q2 => ⟨by show 2 ≤ 1000; decide, fun a hn => ⟨a, C, k, z, y, rfl, S, T, nv, nw, upd_same, fun H3 d hd ne keep e1 e2 => ⟨rfl, q2 a H3 (fun b o zz => ?_) hn ⟨d, e1, e2⟩⟩⟩⟩⟩⟩
  have ne : b ≠ a := ne_of_none zz hn
  exact keep b o ((upd_ne ne).trans zz) ne
theorem pe_new0 {x : Str} {C : Addr} {bmB : List Value} {B newId initId : String} (F : ExcBaseFacts B newId initId bmB) (q : PySem.W.excIn X.K C bmB newId = true) (kC : PySem.W.keepIn X.K (.ref C) = true) (hm : X.mg x = some (.ref C)) (hg : Gl X x := by rfl) (hdb : (x == ("__debug__" : Str)) = false := by decide) :
    PE X (.Call (.Name x p) [] [] pos) (tNew0 C) := by
  refine ⟨fun pins s σ H Q I h => ?_⟩
  refine wpAny_Call_Name_kw (ld_glob I hg hm (PySem.W.callWith_K0 I.kIn kC ?_) hdb)
  obtain ⟨bm, N, nm, qn, bs, hdct, sn, sub, ab, col, dd, k0, k1, k2, k3, k5, mN, hC, hN, hni, T⟩ := exc_obj I.kIn q
  refine wpAny_call_exc_subT F T hC hN hni (fun h' a hm' => ?_) (Nat.zero_le _)
  have hn : H a = none := I.hok.gone hm'.new
  obtain ⟨t, ht, _, _⟩ := hm'.there
  exact ⟨.ref a, _, I.laidN hm'.keeps hm'.new hn (xo_ok ht), rfl, h a hn⟩
theorem pe_isX {c : V} {cv : Value} (pe2 : PE X e2 (tC c)) (hv : ∀ u, RelV c u → u = cv) (hm : X.mg "isinstance" = none) (ha : PE X e te) (hg : Gl X "isinstance" := by rfl)
    (he : starEach (e :: [e2]) X.env = (false, eval e X.env) :: starEach [e2] X.env := by rfl) (he2 : starEach (e2 :: []) X.env = (false, eval e2 X.env) :: starEach [] X.env := by rfl) (hpl : (backTo pos (starEach [e2] X.env)).any (·.1) = false := by rfl) :
    PE X (.Call (.Name "isinstance" p) [e, e2] [] pos) (tIsX X.K te cv) := by
  refine pe_weak (pe_callB (e := e) (es := [e2]) call_isX hg hm boot_isinstance (pa_cons (pe_up ha) (pa_cons pe2 pa_nil he2) he) (by decide) (by decide) he hpl) fun σ H Q q => ?_
  refine ⟨_, q, fun x H1 q1 => ?_⟩
  obtain ⟨a, C, o, k, b, rfl, ex, T, e, q⟩ := q1
  obtain ⟨d, e1, e2⟩ := ex.obj
  exact ⟨a, C, d, k, c, cv, b, rfl, hv, e1, e2, T, e, q⟩
theorem pe_getX {n : Str} (he : PE X e te) (hb : attributeBase e n X.env (eval e X.env) = eval e X.env := by rfl) : PE X (.Attribute e n pos) (tGetX X.K n te) := by
  refine pe_weak (pe_atX (pe_up he) hb) fun σ H Q q => ⟨_, q, fun x H1 q1 => ?_⟩
  obtain ⟨a, C, fs, v, k, rfl, ⟨d, e1, e2⟩, T, hno, l, q⟩ := q1
  exact ⟨a, C, d, fs, v, k, rfl, e1, e2, T, hno, l, q⟩
end
end L2.Lr

set_option maxHeartbeats 4000000
namespace L2.Lr
open PySem PySem.Spec PyProof.Rows LR
/-! own exceptions raised and caught -/
theorem pmk_weak {X : Cx} {e : Expr} {t t' : St → Hp → XK → Prop} (h : PMk X e t) (i : ∀ σ H Q, t' σ H Q → t σ H Q) : PMk X e t' := fun pins s σ H Q I q => h pins s σ H Q I (i σ H Q q)
/-- raise C(y): d holds the fields -/
def tNewR (C : Addr) (te : TE) : St → Hp → XK → Prop := fun σ H Q => te σ H fun y H1 => ∀ d H', Same H1 H' → H1 d = none → H' d = some (.xd [("value", y)]) → Q (.ref C) (some d) H'
def tNewR2 (C : Addr) (tz ty : TE) : St → Hp → XK → Prop := fun σ H Q => tz σ H fun z H1 => ty σ H1 fun y H2 => ∀ d H', Same H2 H' → H2 d = none → H' d = some (.xd [("value", y), ("word", z)]) → Q (.ref C) (some d) H'
def tNewR0 (C : Addr) : St → Hp → XK → Prop := fun _ H Q => Q (.ref C) none H
section
variable {X : Cx} {e e2 : Expr} {es : List Expr} {te t2 : TE} {ta : TA} {p p' p1 p2 pos : Pos}
theorem xc_raises {k : Kd} {C : Addr} (T : XC X.K k C) : Raises X (.ref C) := raises_own (T.sub "BaseException" k.hE) T.tyC
theorem pmk_x {CX : CXT} {x : Str} {C fI : Addr} {j : Nat} {fd : FuncData} {ps : List Str} {sp : Sp} {ds : List Value} {dvs : List V} {k : Kd} (T : XC X.K k C) (iC : PySem.W.findIn X.K (.ref C) "__init__" = some (some (.ref fI))) (tI : PySem.W.typeIn X.K (.ref fI) = some (.type "function"))
    (F1 : FnOk X.prog X.w X.K X.mg X.base CX j fI fd ps sp) (hr : Room (j + 1) X.A) (hb : Binds X.K fd ps ds) (hd : Vals dvs ds) (hx : Passes CX X (fun _ _ _ => False)) (hg : Gl X x) (hm : X.mg x = some (.ref C)) (ha : PA X (e :: es) ta)
    (hdb : (x == ("__debug__" : Str)) = false := by decide) (he : starEach (e :: es) X.env = (false, eval e X.env) :: starEach es X.env := by rfl) (hpl : (backTo pos (starEach es X.env)).any (·.1) = false := by rfl) :
    PMk X (.Call (.Name x p) (e :: es) [] pos) (tMkO C sp dvs ta) := by
  intro pins s σ H Q I hh
  obtain ⟨nm, q, N, bs, bm, sn, sub, ab, col, dd, k0, k1, k2, k3, k5, hC, hbm⟩ := T.cls
  refine wpAny_Call_Name_kw (ld_glob I hg hm ?_ hdb)
  refine PySem.W.callWith_K (h₀ := X.base) I.ok.mod.kin T.kC (thn (ha.run pos pins s σ H _ I hh) fun us s1 ⟨vs, H1, I1, r1, hz, q1⟩ => ⟨I1.kIn, ?_⟩) he hpl
  show wpAny _ _ (call (.ref C) us) _ _ _
  obtain ⟨hp, g, dr, tk, os⟩ := s1
  obtain ⟨na, ena⟩ : ∃ na, na = hp.objs.size + 1 := ⟨_, rfl⟩
  have hsz : hp.objs.size ≤ na := by omega
  have hn : H1 na = none := I1.hok.fresh hsz
  have hq := q1 na hn
  obtain ⟨G, eG⟩ : ∃ G, G = (hp.push (PySem.W.kdv_tup us)).push (PySem.HandSPX.excO C hp.objs.size) := ⟨_, rfl⟩
  have kk : ∀ b o, hp.get? b = some o → G.get? b = some o := fun b o e1 => by rw [eG]; exact Heap.get?_push_of_some _ (Heap.get?_push_of_some _ e1)
  have there : G.get? na = some (PySem.HandSPX.excO C hp.objs.size) := by rw [eG, ena]; heap_get
  have I2 : Inv X pins σ (upd H1 na (xo na C none)) ⟨G, g, dr, tk, os⟩ := I1.laid (t' := tk) (a := na) (o := xo na C none) (h' := G) kk hsz (xo_ok there)
  have r2 : Vals (V.ref na :: (vs ++ dvs)) (Value.ref na :: (us ++ ds)) := .cons rfl (r1.append hd)
  have hl : (Value.ref na :: us ++ ds).length = ps.length := by
    have e1 := r2.length
    rw [F1.len _ _ _ _ hq] at e1
    exact e1.symm
  have hus : us.length ≤ sizeLine := by
    rw [← Paired.length r1, sizeLine_eq]
    omega
  refine wpAny_call (run_class k hbm (I1.kIn _ _ hC) (PySem.W.looks_findIn I1.kIn iC) (fun self => PySem.W.bind_fn I1.kIn self tI) hus ?_)
  rw [← eG, ← ena]
  refine codeAny_mono (F1.run _ X.stack _ _ ⟨Value.ref na :: us, []⟩ (Value.ref na :: (us ++ ds)) _ _ (fun _ _ _ => False) (hr.make C us []) (I2.env0.make C us []) (hb _ (Value.ref na :: us) I2.kIn hl) r2 hq) fun r s' hq' => ?_
  cases r with
  | error er => exact hx pins σ _ _ er s' I2 hq'
  | ok fl =>
    cases fl with
    | ret u =>
      obtain ⟨v, H2, os2, bare2, un2, hok2, rv, ev, d, fs, ea, ed, hd1, q2⟩ := hq'
      subst ev
      obtain ⟨h2, g2, d2, t2, os'⟩ := s'
      exact ⟨rv, mk_end (xc_raises T) I1 hsz kk un2 hok2 os2 bare2 ea ed hd1 q2⟩
    | next => exact False.elim hq'
    | brk => exact False.elim hq'
    | cont => exact False.elim hq'
theorem pmk_new {x : Str} {C fI : Addr} {j : Nat} {fd : FuncData} {k : Kd} (S : k.SF) (T : XC X.K k C) (nv : PySem.W.findIn X.K (.ref C) "value" = some none) (iC : PySem.W.findIn X.K (.ref C) "__init__" = some (some (.ref fI))) (tI : PySem.W.typeIn X.K (.ref fI) = some (.type "function"))
    (F1 : FnOk X.prog X.w X.K X.mg X.base CX0 j fI fd ["self", "value"] (spIni X.K)) (hr : Room (j + 1) X.A) (hb : Binds X.K fd ["self", "value"] []) (hm : X.mg x = some (.ref C)) (ha : PE X e te) (hg : Gl X x := by rfl)
    (hdb : (x == ("__debug__" : Str)) = false := by decide) (he : starEach (e :: []) X.env = (false, eval e X.env) :: starEach [] X.env := by rfl) (hpl : (backTo pos (starEach [] X.env)).any (·.1) = false := by rfl) :
    PMk X (.Call (.Name x p) [e] [] pos) (tNewR C te) := by
  refine pmk_weak (pmk_x (e := e) (es := []) (dvs := []) T iC tI F1 hr hb .nil pass0 hg hm (pa_cons (pe_up ha) pa_nil he) hdb he hpl) fun σ H Q q => ?_
  refine ⟨_, q, fun y H1 q1 => ⟨by show 1 ≤ 1000; decide, fun a hn => ⟨a, C, k, y, rfl, S, T, nv, upd_same, fun H2 d hd ne keep e1 e2 => ⟨rfl, d, _, e1, e2, ?_, ?_⟩⟩⟩⟩
  · exact (upd_ne ne).symm.trans hd
  · refine q1 d _ (fun b o z => ?_) ((upd_ne ne).symm.trans hd) upd_same
    have nb : b ≠ a := ne_of_none z hn
    have nd : b ≠ d := ne_of_none z ((upd_ne ne).symm.trans hd)
    exact (upd_ne nd).trans ((del_ne nb).trans (keep b o ((upd_ne nb).trans z) nb))
theorem pmk_new2 {x : Str} {C fI : Addr} {j : Nat} {fd : FuncData} {k : Kd} (S : k.SF) (T : XC X.K k C) (nv : PySem.W.findIn X.K (.ref C) "value" = some none) (nw : PySem.W.findIn X.K (.ref C) "word" = some none) (iC : PySem.W.findIn X.K (.ref C) "__init__" = some (some (.ref fI))) (tI : PySem.W.typeIn X.K (.ref fI) = some (.type "function"))
    (F1 : FnOk X.prog X.w X.K X.mg X.base CX0 j fI fd ["self", "word", "value"] (spIni2 X.K)) (hr : Room (j + 1) X.A) (hb : Binds X.K fd ["self", "word", "value"] []) (hm : X.mg x = some (.ref C)) (ha : PE X e te) (ha2 : PE X e2 t2) (hg : Gl X x := by rfl)
    (hdb : (x == ("__debug__" : Str)) = false := by decide) (he : starEach (e :: [e2]) X.env = (false, eval e X.env) :: starEach [e2] X.env := by rfl) (he2 : starEach (e2 :: []) X.env = (false, eval e2 X.env) :: starEach [] X.env := by rfl) (hpl : (backTo pos (starEach [e2] X.env)).any (·.1) = false := by rfl) :
    PMk X (.Call (.Name x p) [e, e2] [] pos) (tNewR2 C te t2) := by
  refine pmk_weak (pmk_x (e := e) (es := [e2]) (dvs := []) T iC tI F1 hr hb .nil pass0 hg hm (pa_cons (pe_up ha) (pa_cons (pe_up ha2) pa_nil he2) he) hdb he hpl) fun σ H Q q => ?_
  refine ⟨_, q, fun z H1 q1 => ⟨_, q1, fun y H2 q2 => ⟨by show 2 ≤ 1000; decide, fun a hn => ⟨a, C, k, z, y, rfl, S, T, nv, nw, upd_same, fun H3 d hd ne keep e1 e2 => ⟨rfl, d, _, e1, e2, ?_, ?_⟩⟩⟩⟩⟩
  · exact (upd_ne ne).symm.trans hd
  · refine q2 d _ (fun b o z => ?_) ((upd_ne ne).symm.trans hd) upd_same
    have nb : b ≠ a := ne_of_none z hn
    have nd : b ≠ d := ne_of_none z ((upd_ne ne).symm.trans hd)
    exact (upd_ne nd).trans ((del_ne nb).trans (keep b o ((upd_ne nb).trans z) nb))
theorem pmk_new0 {x : Str} {C : Addr} {bmB : List Value} {B newId initId : String} {k : Kd} (T : XC X.K k C) (F : ExcBaseFacts B newId initId bmB) (q : PySem.W.excIn X.K C bmB newId = true) (kC : PySem.W.keepIn X.K (.ref C) = true) (hm : X.mg x = some (.ref C)) (hg : Gl X x := by rfl) (hdb : (x == ("__debug__" : Str)) = false := by decide) :
    PMk X (.Call (.Name x p) [] [] pos) (tNewR0 C) := by
  intro pins s σ H Q I h
  refine wpAny_Call_Name_kw (ld_glob I hg hm (PySem.W.callWith_K0 I.kIn kC ?_) hdb)
  obtain ⟨bm, N, nm, qn, bs, hdct, sn, sub, ab, col, dd, k0, k1, k2, k3, k5, mN, hC, hN, hni, T'⟩ := exc_obj I.kIn q
  refine wpAny_call_exc_subT F T' hC hN hni (fun h' a hm' => ?_) (Nat.zero_le _)
  exact mk_of I hm' (xc_raises T) h (I.hok.gone hm'.new)
end
/-! ### in an except suite -/
theorem obj_of {P : Program} {w : World} {H : Hp} {h : Heap} {dx : Addr} {q : HO} (hok : HOk P w H h) (e : H dx = some q) : ∃ ob, h.get? dx = some ob := by
  have z := hok dx q e
  cases q with
  | lst xs => obtain ⟨_, _, _, _, e1⟩ := z; exact ⟨_, e1⟩
  | tup xs => obtain ⟨_, _, _, o1, e1, _⟩ := z; exact ⟨_, e1⟩
  | dK kvs => obtain ⟨_, _, _, _, o1, _, _, e1, _⟩ := z; exact ⟨_, e1⟩
  | dT kvs => obtain ⟨_, _, _, _, o1, _, _, e1, _⟩ := z; exact ⟨_, e1⟩
  | set S n => obtain ⟨o1, _, _, _, e1, _⟩ := z; exact ⟨_, e1⟩
  | ins C1 d1 f1 => obtain ⟨_, _, _, e1, _⟩ := z; exact ⟨_, e1⟩
  | own y => obtain ⟨_, e1⟩ := z; exact ⟨_, e1⟩
  | xd fs => obtain ⟨_, ⟨_, _, _, e1, _⟩, _⟩ := z; exact ⟨_, e1⟩
  | rng lo hi => obtain ⟨_, _, _, e1⟩ := z; exact ⟨_, e1⟩
  | frz ob u => obtain ⟨e1, _⟩ := z; exact ⟨_, e1⟩
  | tbl ps => have e1 : h.get? dx = some _ := z; exact ⟨_, e1⟩
  | met f1 y => have e1 : h.get? dx = some _ := z; exact ⟨_, e1⟩
  | ext φ => obtain ⟨_, ⟨_, e1⟩, _⟩ := z; exact ⟨_, e1⟩
/-- e.n, e the caught exception at a -/
def tXv (K : PySem.W.Frag) (a : Addr) (cls : Value) (d : Option Addr) (n : Str) (te : TE) : TE := fun σ H Q => te σ H fun x H1 => x = .ref a ∧ ∃ (C dx : Addr) (fs : List (Str × V)) (v : V) (k : Kd), cls = .ref C ∧ d = some dx ∧ XC K k C ∧
  PySem.W.findIn K (.ref C) n = some none ∧ H1 dx = some (.xd fs) ∧ fs.lookup n = some v ∧ Q v H1
/-- isinstance(e, c) -/
def rIsS (K : PySem.W.Frag) (a : Addr) (cls : Value) (d : Option Addr) : List V → Hp → VK → Prop := fun xs H Q => ∃ (C : Addr) (k : Kd) (c : V) (cv : Value) (b : Bool), xs = [.ref a, c] ∧ cls = .ref C ∧ (∀ u, RelV c u → u = cv) ∧
  (∀ dx, d = some dx → ∃ o, H dx = some o) ∧ XC K k C ∧ PySem.W.kitOne K (.ref C) cv = some b ∧ Q (.bl b) H
def tIsS (K : PySem.W.Frag) (a : Addr) (cls : Value) (d : Option Addr) (te : TE) (cv : Value) : TE := fun σ H Q => te σ H fun x H1 => x = .ref a ∧ ∃ (C : Addr) (k : Kd) (b : Bool), cls = .ref C ∧ (∀ dx, d = some dx → ∃ o, H1 dx = some o) ∧ XC K k C ∧ PySem.W.kitOne K (.ref C) cv = some b ∧ Q (.bl b) H1
section
variable {X : Cx} {a : Addr} {oe : Obj} {cls : Value} {d : Option Addr} {pn : List (Addr × Obj)} {e e2 : Expr} {te : TE} {p pos : Pos}
theorem inst_at {C : Addr} {pins : List (Addr × Obj)} {σ : St} {H : Hp} {s : Shared} (I : Inv (X.suite a ((a, oe) :: pn)) pins σ H s) (hz : Zc cls d oe) (hf : ∃ vs, oe.data = .fields vs) (ec : cls = .ref C) (hd : ∀ dx, d = some dx → ∃ o, H dx = some o) :
    ∃ od : Option Obj, PySem.W.InstAt s.heap a oe C od ∧ ∀ dx, d = some dx → ∃ q, od = some q ∧ s.heap.get? dx = some q := by
  obtain ⟨ha, _⟩ := I.pin (a, oe) (List.mem_append_left _ List.mem_cons_self)
  obtain ⟨vs, hv⟩ := hf
  obtain ⟨z1, z2⟩ := hz
  have nc : PySem.W.notCls oe := by unfold PySem.W.notCls; rw [hv] <;> rfl
  cases d with
  | none => exact ⟨none, ⟨ha, z1.trans ec, nc, by rw [z2]; trivial⟩, fun dx z => by cases z⟩
  | some dx =>
    obtain ⟨q, hq⟩ := hd dx rfl
    obtain ⟨ob, hb⟩ := obj_of I.hok hq
    exact ⟨some ob, ⟨ha, z1.trans ec, nc, by rw [z2]; exact hb⟩, fun dy z => by cases z; exact ⟨ob, rfl, hb⟩⟩
theorem pe_xv {n : Str} (hz : Zc cls d oe) (hf : ∃ vs, oe.data = .fields vs) (he : PE (X.suite a ((a, oe) :: pn)) e te) (hb : attributeBase e n X.env (eval e X.env) = eval e X.env := by rfl) :
    PE (X.suite a ((a, oe) :: pn)) (.Attribute e n pos) (tXv X.K a cls d n te) := by
  refine ⟨fun pins s σ H Q I hh => attr_of hb (thn (he.run pins s σ H _ I hh) fun u s1 ⟨x, H1, I1, rx, q⟩ => ?_)⟩
  obtain ⟨rfl, C, dx, fs, v, k, ec, ed, T, hno, hx, l, q⟩ := q
  cases (show u = Value.ref a from rx)
  obtain ⟨od, J, hd⟩ := inst_at I1 hz hf ec fun dy z => by rw [ed] at z; cases z; exact ⟨_, hx⟩
  obtain ⟨ob, eo, ho⟩ := hd dx ed
  have hx2 : ObjOk X.prog X.w H1 s1.heap dx (.xd fs) := I1.hok dx _ hx
  obtain ⟨mA, hns, hr⟩ := hx2
  obtain ⟨o2, ho2, hl⟩ := lookIn_ns hns
  cases ho.symm.trans ho2
  subst eo
  obtain ⟨z, hz', rz⟩ := RelO.some_of (v := v) (o := mA n) (by rw [← l]; exact hr n)
  exact HandSPX.exc_get I1.kIn J T.ga T.gg (T.sub "BaseException" k.hE) (PySem.W.findObj_own T.hd hno rfl (by rw [hl, hz'])) (handed_of rz) ⟨v, H1, I1.tok _, rz, q⟩
theorem call_isS (hz : Zc cls d oe) (hf : ∃ vs, oe.data = .fields vs) : CallR (X.suite a ((a, oe) :: pn)) (.builtin "isinstance") (rIsS X.K a cls d) := by
  intro pins s σ H xs us Q I r q
  obtain ⟨C, k, c, cv, b, rfl, ec, hcv, hd, T, e, q⟩ := q
  cases r with
  | cons rx rr =>
    cases rr with
    | cons rt rr =>
      cases rr
      cases rx
      cases hcv _ rt
      obtain ⟨od, J, _⟩ := inst_at I hz hf ec hd
      exact PySem.W.kia_one (PySem.W.kitx_exc T.isC T.ga T.gg (T.sub "BaseException" k.hE) T.cl oc_get oc_take (T.sub "object" k.hO)) I.kIn J e (fun z => nomatch z) fun tk => ⟨.bl b, H, I.kept (t' := tk) fun _ _ z => z, rfl, q⟩
theorem pe_isS {c : V} {cv : Value} (hz : Zc cls d oe) (hf : ∃ vs, oe.data = .fields vs) (pe2 : PE (X.suite a ((a, oe) :: pn)) e2 (tC c)) (hv : ∀ u, RelV c u → u = cv) (hm : X.mg "isinstance" = none) (ha : PE (X.suite a ((a, oe) :: pn)) e te) (hg : Gl X "isinstance" := by rfl)
    (he : starEach (e :: [e2]) X.env = (false, eval e X.env) :: starEach [e2] X.env := by rfl) (he2 : starEach (e2 :: []) X.env = (false, eval e2 X.env) :: starEach [] X.env := by rfl) (hpl : (backTo pos (starEach [e2] X.env)).any (·.1) = false := by rfl) :
    PE (X.suite a ((a, oe) :: pn)) (.Call (.Name "isinstance" p) [e, e2] [] pos) (tIsS X.K a cls d te cv) := by
  refine pe_weak (pe_callB (e := e) (es := [e2]) (call_isS hz hf) hg hm boot_isinstance (pa_cons (pe_up ha) (pa_cons pe2 pa_nil he2) he) (by decide) (by decide) he hpl) fun σ H Q q => ?_
  refine ⟨_, q, fun x H1 q1 => ?_⟩
  obtain ⟨rfl, C, k, b, ec, hd, T, e, q⟩ := q1
  exact ⟨C, k, c, cv, b, rfl, ec, hv, hd, T, e, q⟩
end
end L2.Lr

set_option maxHeartbeats 4000000
namespace L2.Lr
open PySem PySem.Spec PyProof.Rows LR
/-! words for any law -/
/-- a loop whose body's ends are a letter -/
theorem for_rangeD {lo : Int} {n : Nat} {g : TG} {tb : TS} {D : Ends} {σ : St} {H : Hp} (Pv : Nat → St → Hp → Prop) (h0 : Pv 0 σ H)
    (hs : ∀ (D' : Ends) (i : Nat) (σ : St) (H : Hp), D'.rt = D.rt → (∀ σ H, Pv (i + 1) σ H → D'.nx σ H) → (∀ σ H, Pv (i + 1) σ H → D'.ct σ H) → (∀ σ H, D.nx σ H → D'.bk σ H) → i < n → Pv i σ H → g (.int (lo + i)) σ H fun σ2 H2 => tb D' σ2 H2) (hd : ∀ σ H, Pv n σ H → D.nx σ H) :
    ∃ W : Nat → Nat → St → Hp → Prop, (∃ m, W 0 m σ H) ∧ ∀ i m σ H, W i m σ H →
      ((Itr lo n).stop i H ∧ D.nx σ H) ∨ ((Itr lo n).go i H ∧ ∃ N : St → Hp → Prop, (∀ σ' H', N σ' H' → ∃ m', m' < m ∧ W (i + 1) m' σ' H') ∧ ∀ x H', (Itr lo n).yld i H x H' → g x σ H' fun σ2 H2 => tb { D with nx := N, ct := N, bk := D.nx } σ2 H2) :=
  for_range Pv h0 (fun i σ H hi hp => hs { D with nx := Pv (i + 1), ct := Pv (i + 1), bk := D.nx } i σ H rfl (fun _ _ h => h) (fun _ _ h => h) (fun _ _ h => h) hi hp) hd
theorem for_listD {K : PySem.W.Frag} {a : Addr} {xs : List V} {g : TG} {tb : TS} {D : Ends} {σ : St} {H : Hp} (Pv : Nat → St → Hp → Prop) (h0 : Pv 0 σ H) (hl : ∀ i σ H, i ≤ xs.length → Pv i σ H → SqL K H a xs)
    (hs : ∀ (D' : Ends) (i : Nat) (x : V) (σ : St) (H : Hp), D'.rt = D.rt → (∀ σ H, Pv (i + 1) σ H → D'.nx σ H) → (∀ σ H, Pv (i + 1) σ H → D'.ct σ H) → (∀ σ H, D.nx σ H → D'.bk σ H) → xs[i]? = some x → Pv i σ H → g x σ H fun σ2 H2 => tb D' σ2 H2) (hd : ∀ σ H, Pv xs.length σ H → D.nx σ H) :
    ∃ W : Nat → Nat → St → Hp → Prop, (∃ m, W 0 m σ H) ∧ ∀ i m σ H, W i m σ H →
      ((Itl K a).stop i H ∧ D.nx σ H) ∨ ((Itl K a).go i H ∧ ∃ N : St → Hp → Prop, (∀ σ' H', N σ' H' → ∃ m', m' < m ∧ W (i + 1) m' σ' H') ∧ ∀ x H', (Itl K a).yld i H x H' → g x σ H' fun σ2 H2 => tb { D with nx := N, ct := N, bk := D.nx } σ2 H2) :=
  for_list Pv h0 hl (fun i x σ H hi hp => hs { D with nx := Pv (i + 1), ct := Pv (i + 1), bk := D.nx } i x σ H rfl (fun _ _ h => h) (fun _ _ h => h) (fun _ _ h => h) hi hp) hd
theorem for_tupD {K : PySem.W.Frag} {a : Addr} {xs : List V} {g : TG} {tb : TS} {D : Ends} {σ : St} {H : Hp} (Pv : Nat → St → Hp → Prop) (h0 : Pv 0 σ H) (hl : ∀ i σ H, i ≤ xs.length → Pv i σ H → SqT K H a xs)
    (hs : ∀ (D' : Ends) (i : Nat) (x : V) (σ : St) (H : Hp), D'.rt = D.rt → (∀ σ H, Pv (i + 1) σ H → D'.nx σ H) → (∀ σ H, Pv (i + 1) σ H → D'.ct σ H) → (∀ σ H, D.nx σ H → D'.bk σ H) → xs[i]? = some x → Pv i σ H → g x σ H fun σ2 H2 => tb D' σ2 H2) (hd : ∀ σ H, Pv xs.length σ H → D.nx σ H) :
    ∃ W : Nat → Nat → St → Hp → Prop, (∃ m, W 0 m σ H) ∧ ∀ i m σ H, W i m σ H →
      ((Itt K a).stop i H ∧ D.nx σ H) ∨ ((Itt K a).go i H ∧ ∃ N : St → Hp → Prop, (∀ σ' H', N σ' H' → ∃ m', m' < m ∧ W (i + 1) m' σ' H') ∧ ∀ x H', (Itt K a).yld i H x H' → g x σ H' fun σ2 H2 => tb { D with nx := N, ct := N, bk := D.nx } σ2 H2) :=
  for_tup Pv h0 hl (fun i x σ H hi hp => hs { D with nx := Pv (i + 1), ct := Pv (i + 1), bk := D.nx } i x σ H rfl (fun _ _ h => h) (fun _ _ h => h) (fun _ _ h => h) hi hp) hd
theorem ite_dec {p : Prop} [Decidable p] {A B : Prop} (h1 : p → A) (h2 : ¬ p → B) : if decide p = true then A else B := by
  by_cases h : p
  · rw [if_pos (decide_eq_true h)]
    exact h1 h
  · rw [if_neg (by rw [decide_eq_false h]; exact Bool.false_ne_true)]
    exact h2 h
theorem go_next {D : Ends} {σ : St} {H : Hp} (h : D.nx σ H) : tNext D σ H := h
theorem go_seq {t u : TS} {D : Ends} {σ : St} {H : Hp} (h : t { D with nx := u D } σ H) : tSeq t u D σ H := h
theorem go_asg {te : TE} {g : TG} {D : Ends} {σ : St} {H : Hp} (h : te σ H fun x H1 => g x σ H1 D.nx) : tAsg te g D σ H := h
theorem eqv_ne {d e : PyData} {A B : Prop} (h : PyData.eqv d e = true) (b : B) : if (!PyData.eqv d e) = true then A else B := by
  rw [h]
  exact iteF b
theorem all_range {n : Nat} {p : Nat → Bool} (h : (List.range n).all p = true) (i : Nat) (hi : i < n) : p i = true := List.all_eq_true.mp h i (List.mem_range.mpr hi)
/-! ### a Hook with a check of one's own -/
def obsEG (n : Nat) (chk : PySem.W.Frag → Bool) (fa : List He.Fa) (fn : List He.DefD) (g : Addr → Option Obj) : Bool × He.AlD := (fun K => (chk K, He.obsD fa fn K)) (He.frG g (He.asD g n))
def hookE (n : Nat) (chk : PySem.W.Frag → Bool) (fa : List He.Fa) (fn : List He.DefD) : PySem.W.Hook where
  α := Bool × He.AlD
  obs := fun s => obsEG n chk fa fn s.heap.get?
  val := fun _ => (true, He.valD fn)
  says := fun _ h => ∃ K : PySem.W.Frag, K.In h ∧ chk K = true ∧ He.SaysD fa fn K
  of := fun _ _ e => ⟨_, He.frG_in, congrArg (fun z : Bool × He.AlD => z.1) e, congrArg (fun z : Bool × He.AlD => z.2) e⟩
  keeps := fun _ _ _ ⟨K, hK, c⟩ k => ⟨K, PySem.W.Frag.In.keeps hK k, c⟩
theorem obsEG_eq {n : Nat} {chk : PySem.W.Frag → Bool} {fa : List He.Fa} {fn : List He.DefD} {g : Addr → Option Obj} {s : Shared} (h : ∀ a, g a = s.heap.get? a) : obsEG n chk fa fn g = (hookE n chk fa fn).obs s := by
  have e : g = s.heap.get? := funext h
  rw [e]
  rfl
/-! ### int(x) -/
def tInt (te : TE) : TE := fun σ H Q => te σ H fun x H1 => ∃ i, x = .int i ∧ Q (.int i) H1
def tIntB (te : TE) : TE := fun σ H Q => te σ H fun x H1 => ∃ k, x = .bl k ∧ Q (.int (if k then 1 else 0)) H1
section
variable {X : Cx} {e : Expr} {te : TE} {p pos : Pos}
theorem pe_toI (hm : X.mg "int" = none) (ha : PE X e te) (hg : Gl X "int" := by rfl) (he : starEach (e :: []) X.env = (false, eval e X.env) :: starEach [] X.env := by rfl) (hpl : (backTo pos (starEach [] X.env)).any (·.1) = false := by rfl) : PE X (.Call (.Name "int" p) [e] [] pos) (tInt te) :=
  pe_weak (pe_callTy (e := e) (es := []) call_int1 hg hm (by decide +kernel) (pa_cons (pe_up ha) pa_nil he) (by decide) (by decide) he hpl) fun σ H Q q => ⟨_, q, fun x H1 ⟨i, ex, q1⟩ => .inl ⟨i, by rw [ex], q1⟩⟩
theorem pe_toIB (hm : X.mg "int" = none) (ha : PE X e te) (hg : Gl X "int" := by rfl) (he : starEach (e :: []) X.env = (false, eval e X.env) :: starEach [] X.env := by rfl) (hpl : (backTo pos (starEach [] X.env)).any (·.1) = false := by rfl) : PE X (.Call (.Name "int" p) [e] [] pos) (tIntB te) :=
  pe_weak (pe_callTy (e := e) (es := []) call_int1 hg hm (by decide +kernel) (pa_cons (pe_up ha) pa_nil he) (by decide) (by decide) he hpl) fun σ H Q q => ⟨_, q, fun x H1 ⟨i, ex, q1⟩ => .inr ⟨i, by rw [ex], q1⟩⟩
end
/-! ### data -/
def tyN : PyData → String
  | .none => "NoneType"
  | .bool _ => "bool"
  | .int _ => "int"
  | .str _ => "str"
  | .list _ => "list"
  | .tuple _ => "tuple"
  | .dict _ => "dict"
theorem tyD {K : PySem.W.Frag} {H : Hp} {x : V} {d : PyData} (h : Dp K H x d) : TyX K H x (.type (tyN d)) := by
  cases h with
  | non => exact .base .non
  | bl b => exact .base (.bl b)
  | int i => exact .base (.int i)
  | str s => exact .base (.str s)
  | lst h _ =>
    rcases h with (h | ⟨o, h⟩) | ⟨o, its, n, h, c, _⟩
    · exact .base (.lst h)
    · exact .base (.frz h)
    · exact .kList h c
  | tup h _ =>
    rcases h with (h | ⟨o, h⟩) | ⟨o, its, n, h, c, _⟩
    · exact .base (.tup h)
    · exact .fTuple h
    · exact .kTuple h c
theorem seqT {K : PySem.W.Frag} {H H' : Hp} {a : Addr} {xs : List V} (s : Same H H') (h : SqT K H a xs) : SqT K H' a xs := by
  rcases h with (h | ⟨o, h⟩) | h
  · exact .inl (.inl (s _ _ h))
  · exact .inl (.inr ⟨o, s _ _ h⟩)
  · exact .inr h
mutual
theorem Dp.same {K : PySem.W.Frag} {H H' : Hp} (s : Same H H') : ∀ {v : V} {d : PyData}, Dp K H v d → Dp K H' v d
  | _, _, .non => .non
  | _, _, .bl b => .bl b
  | _, _, .int i => .int i
  | _, _, .str x => .str x
  | _, _, .lst h a => .lst (s.seq h) (DpAll.same s a)
  | _, _, .tup h a => .tup (seqT s h) (DpAll.same s a)
theorem DpAll.same {K : PySem.W.Frag} {H H' : Hp} (s : Same H H') : ∀ {vs : List V} {ds : List PyData}, DpAll K H vs ds → DpAll K H' vs ds
  | _, _, .nil => .nil
  | _, _, .cons h a => .cons (Dp.same s h) (DpAll.same s a)
end
/-- isinstance(x, t) of data -/
def tIsD (K : PySem.W.Frag) (t : String) (te : TE) : TE := fun σ H Q => te σ H fun x H1 => ∃ d b, Dp K H1 x d ∧ kitB (tyN d) t = some b ∧ Q (.bl b) H1
theorem pe_isD {X : Cx} {e e2 : Expr} {te : TE} {p pos : Pos} {t : String} (hm : X.mg "isinstance" = none) (ha : PE X e te) (pe2 : PE X e2 (tC (.ty t))) (hg : Gl X "isinstance" := by rfl)
    (he : starEach (e :: [e2]) X.env = (false, eval e X.env) :: starEach [e2] X.env := by rfl) (he2 : starEach (e2 :: []) X.env = (false, eval e2 X.env) :: starEach [] X.env := by rfl) (hpl : (backTo pos (starEach [e2] X.env)).any (·.1) = false := by rfl) :
    PE X (.Call (.Name "isinstance" p) [e, e2] [] pos) (tIsD X.K t te) :=
  pe_weak (pe_callB (e := e) (es := [e2]) call_isi hg hm boot_isinstance (pa_cons (pe_up ha) (pa_cons pe2 pa_nil he2) he) (by decide) (by decide) he hpl) fun σ H Q q => ⟨_, q, fun x H1 ⟨d, b, hd, hk, q1⟩ => ⟨x, .ty t, .type (tyN d), .type t, b, rfl, .ty t, tyD hd, kit_ty hk, q1⟩⟩
/-! ### displays of constants -/
/-- the value is this data -/
def tDat (K : PySem.W.Frag) (d : PyData) : TE := fun _ H Q => ∀ v H', Same H H' → Dp K H' v d → Q v H'
def tDats (K : PySem.W.Frag) (ds : List PyData) : TA := fun _ H Q => ∀ vs H', Same H H' → DpAll K H' vs ds → Q vs H'
/-- a new list of this data -/
def tDatL (K : PySem.W.Frag) (ds : List PyData) : TE := fun _ H Q => ∀ p vs H', Same H H' → H' p = some (.lst vs) → DpAll K H' vs ds → Q (.ref p) H'
theorem DpAll.length {K : PySem.W.Frag} {H : Hp} : ∀ {vs : List V} {ds : List PyData}, DpAll K H vs ds → vs.length = ds.length
  | _, _, .nil => rfl
  | _, _, .cons _ a => by simp [DpAll.length a]
theorem DpAll.append {K : PySem.W.Frag} {H : Hp} : ∀ {vs us : List V} {ds es : List PyData}, DpAll K H vs ds → DpAll K H us es → DpAll K H (vs ++ us) (ds ++ es)
  | _, _, _, _, .nil, b => b
  | _, _, _, _, .cons h a, b => .cons h (DpAll.append a b)
theorem DpAll.at {K : PySem.W.Frag} {H : Hp} : ∀ {vs : List V} {ds : List PyData} {i : Nat} {v : V}, DpAll K H vs ds → vs[i]? = some v → ∃ d, ds[i]? = some d ∧ Dp K H v d
  | _, _, _, _, .nil, e => by simp at e
  | _, _, 0, _, .cons h a, e => by simp at e; subst e; exact ⟨_, rfl, h⟩
  | _ :: vs, _ :: ds, i + 1, v, .cons h a, e => DpAll.at (vs := vs) (ds := ds) (i := i) a (by simpa using e)
section
variable {X : Cx} {e : Expr} {es : List Expr} {d : PyData} {ds : List PyData} {p pos : Pos}
theorem pd_int {i : Int} {k} : PE X (.Constant (.int i) k p) (tDat X.K (.int i)) := pe_weak pe_int fun σ H Q q => q _ _ (Same.refl H) (.int i)
theorem pd_str {x : Str} {k} : PE X (.Constant (.str x) k p) (tDat X.K (.str x)) := pe_weak pe_str fun σ H Q q => q _ _ (Same.refl H) (.str x)
theorem pd_bl {b : Bool} {k} : PE X (.Constant (.bool b) k p) (tDat X.K (.bool b)) := pe_weak pe_bl fun σ H Q q => q _ _ (Same.refl H) (.bl b)
theorem pd_non {k} : PE X (.Constant .none k p) (tDat X.K .none) := pe_weak pe_non fun σ H Q q => q _ _ (Same.refl H) .non
theorem pd_neg {i : Int} {k} : PE X (.UnaryOp .USub (.Constant (.int i) k p) pos) (tDat X.K (.int (-i))) := pe_weak (pe_un un_neg pe_int) fun σ H Q q => ⟨i, rfl, q _ _ (Same.refl H) (.int (-i))⟩
theorem pd_nil : PA X [] (tDats X.K []) := pa_weak pa_nil fun σ H Q q => q [] H (Same.refl H) .nil
theorem pd_cons (h1 : PE X e (tDat X.K d)) (h2 : PA X es (tDats X.K ds)) (hs : starEach (e :: es) X.env = (false, eval e X.env) :: starEach es X.env := by rfl) : PA X (e :: es) (tDats X.K (d :: ds)) :=
  pa_weak (pa_cons h1 h2 hs) fun σ H Q q v H1 s1 h1 vs H2 s2 h2 => q (v :: vs) H2 (s1.trans s2) (.cons (Dp.same s2 h1) h2)
theorem pd_tup {x1} (h : PA X es (tDats X.K ds)) (hz : ds.length ≤ sizeLine := by show _ ≤ _; decide) : PE X (.Tuple es x1 pos) (tDat X.K (.tuple ds)) :=
  pe_weak (pe_tup h) fun σ H Q q vs H1 s1 h1 => ⟨by rw [DpAll.length h1]; exact hz, fun p np => q _ _ (s1.trans (same_upd np)) (.tup (SqT.of upd_same) (DpAll.same (same_upd np) h1))⟩
theorem pd_lst {x1} (h : PA X es (tDats X.K ds)) (hz : ds.length ≤ sizeLine := by show _ ≤ _; decide) : PE X (.List es x1) (tDat X.K (.list ds)) :=
  pe_weak (pe_lst h) fun σ H Q q vs H1 s1 h1 => ⟨by rw [DpAll.length h1]; exact hz, fun p np => q _ _ (s1.trans (same_upd np)) (.lst (SqL.of upd_same) (DpAll.same (same_upd np) h1))⟩
theorem pd_lstL {x1} (h : PA X es (tDats X.K ds)) (hz : ds.length ≤ sizeLine := by show _ ≤ _; decide) : PE X (.List es x1) (tDatL X.K ds) :=
  pe_weak (pe_lst h) fun σ H Q q vs H1 s1 h1 => ⟨by rw [DpAll.length h1]; exact hz, fun p np => q p vs _ (s1.trans (same_upd np)) upd_same (DpAll.same (same_upd np) h1)⟩
end
/-! ### displays of pairs of names -/
/-- tuples of the values of two slots each -/
def tPairs (l : List (Nat × Nat)) : TA := fun σ H Q => ∃ f : Nat → V, (∀ q, q ∈ l → σ[q.1]? = some (some (f q.1)) ∧ σ[q.2]? = some (some (f q.2))) ∧
  ∀ (as : List Addr) (H' : Hp), Same H H' → as.length = l.length → (∀ (n : Nat) (a : Addr) (q : Nat × Nat), as[n]? = some a → l[n]? = some q → H' a = some (.tup [f q.1, f q.2])) → Q (as.map V.ref) H'
section
variable {X : Cx} {e1 e2 : Expr} {es : List Expr} {i j : Nat} {l : List (Nat × Nat)} {p pos : Pos}
theorem pa_pair0 : PA X [] (tPairs []) := pa_weak pa_nil fun σ H Q ⟨f, _, q⟩ => q [] H (Same.refl H) rfl fun n a r e => by simp at e
theorem pa_pair {x1} (h1 : PE X e1 (tVar i)) (h2 : PE X e2 (tVar j)) (h : PA X es (tPairs l)) (he : starEach (e1 :: [e2]) X.env = (false, eval e1 X.env) :: starEach [e2] X.env := by rfl) (he2 : starEach (e2 :: []) X.env = (false, eval e2 X.env) :: starEach [] X.env := by rfl)
    (hs : starEach (.Tuple [e1, e2] x1 pos :: es) X.env = (false, eval (.Tuple [e1, e2] x1 pos) X.env) :: starEach es X.env := by rfl) : PA X (.Tuple [e1, e2] x1 pos :: es) (tPairs ((i, j) :: l)) :=
  pa_weak (pa_cons (pe_tup (pa_cons h1 (pa_cons h2 pa_nil he2) he)) h hs) fun σ H Q ⟨f, hf, q⟩ => by
    obtain ⟨f1, f2⟩ := hf (i, j) (List.mem_cons_self ..)
    refine ⟨_, f1, _, f2, by show 2 ≤ sizeLine; decide, fun a na => ⟨f, fun q m => hf q (List.mem_cons_of_mem _ m), fun as H2 s2 hl ha => q (a :: as) H2 ((same_upd na).trans s2) (by simp [hl]) fun n b r e1 e2 => ?_⟩⟩
    cases n with
    | zero =>
      simp at e1 e2
      subst e1 e2
      exact s2 _ _ upd_same
    | succ n => exact ha n b r (by simpa using e1) (by simpa using e2)
end
end L2.Lr

set_option maxHeartbeats 4000000
namespace L2.Lr
open PySem PySem.Spec PyProof.Rows LR
/-! several except clauses, each with a name or none -/
/-- a caught exception: I is the state around it -/
structure Got (X : Cx) (pins : List (Addr × Obj)) (σ : St) (H : Hp) (B : Heap) (sI : Shared) (a : Addr) (cls : Value) (d : Option Addr) (s : Shared) : Prop where
  I : Inv X pins σ H sI
  nb : ∀ b o, sI.heap.get? b = some o → b ∉ frs X.stack → B.get? b = some o
  up : sI.heap.UpToSlots s.heap
  fl : HandSPX.FlyingZ B (X.env :: X.outer) a (Zc cls d) s.heap
  os : s.os = sI.os
  ag : AllBare s.gens
  na : H a = none
section
variable {X : Cx} {pins : List (Addr × Obj)} {σ : St} {H : Hp} {B : Heap} {sI s : Shared} {a : Addr} {cls : Value} {d : Option Addr}
theorem Got.at_ (G : Got X pins σ H B sI a cls d s) {h' : Heap} (fl : HandSPX.FlyingZ B (X.env :: X.outer) a (Zc cls d) h') (up : s.heap.UpToSlots h') : Got X pins σ H B sI a cls d { s with heap := h' } :=
  ⟨G.I, G.nb, G.up.trans up, fl, G.os, G.ag, G.na⟩
/-- the state within a suite -/
theorem Got.suite (G : Got X pins σ H B sI a cls d s) (hf : X.env.frame = some X.env.locals) : ∃ oe vs, s.heap.get? a = some oe ∧ Zc cls d oe ∧ oe.data = .fields vs ∧ Inv (X.suite a ((a, oe) :: (X.pn ++ pins))) [] σ H s := by
  obtain ⟨oe, vs, e1, e2, e3⟩ := G.fl.there
  have off : a ∉ frs (X.env :: X.outer) := fun m => by
    obtain ⟨_, o', e', n⟩ := G.fl.2.2.1.mem m
    cases e1.symm.trans e'
    exact n _ e3
  have J : Inv X pins σ H s := G.I.landed G.nb G.fl.1 G.up G.os G.ag
  refine ⟨oe, vs, e1, e2, e3, J.suite e1 e3 G.na (fun z => off ?_) fun m => off ?_⟩
  · exact List.mem_filterMap.mpr ⟨X.env, List.mem_cons_self, by rw [hf, z]⟩
  · obtain ⟨e, he, q⟩ := List.mem_filterMap.mp m
    exact List.mem_filterMap.mpr ⟨e, List.mem_cons_of_mem _ he, q⟩
end
/-- the ends of a suite whose name, at slot i, goes behind it -/
def offD (i : Nat) (D : Ends) : Ends := { nx := fun σ H => D.nx (σ.set i none) H, rt := D.rt, bk := fun σ H => D.bk (σ.set i none) H, ct := fun σ H => D.ct (σ.set i none) H }
abbrev Cl : Type := Value × Option Nat × (Addr → Value → Option Addr → TS)
/-- what the clauses wish of an exception of the body -/
def wCl (K : PySem.W.Frag) (Wout : WX) (D : Ends) : List Cl → WX
  | [] => Wout
  | (c, none, ts) :: r => fun cls d σ H => ∃ b, PySem.W.exmOne K cls c = some b ∧ (b = true → ∀ a, H a = none → ts a cls d D σ H) ∧ (b = false → wCl K Wout D r cls d σ H)
  | (c, some i, ts) :: r => fun cls d σ H => ∃ b, PySem.W.exmOne K cls c = some b ∧ (b = true → ∀ a, H a = none → ts a cls d (offD i D) (σ.set i (some (.ref a))) H) ∧ (b = false → wCl K Wout D r cls d σ H)
inductive ClOk (X : Cx) : List ExceptHandler → List Cl → Prop
  | nil : ClOk X [] []
  | plain {x : Str} {c : Value} {ts : Addr → Value → Option Addr → TS} {b₀ : Stmt} {su : List Stmt} {np pos' : Pos} {hds : List ExceptHandler} {l : List Cl} (hc : Names X x c)
      (hsu : ∀ (a : Addr) (oe : Obj) (cls : Value) (d : Option Addr) (pn : List (Addr × Obj)), Zc cls d oe → (∃ vs, oe.data = .fields vs) → PSs (X.suite a ((a, oe) :: pn)) (b₀ :: su) (ts a cls d)) (r : ClOk X hds l) :
      ClOk X (.ExceptHandler (some (.Name x np)) none (b₀ :: su) pos' :: hds) ((c, none, ts) :: l)
  | named {x n : Str} {i : Nat} {c : Value} {ts : Addr → Value → Option Addr → TS} {b₀ : Stmt} {su : List Stmt} {np pos' : Pos} {hds : List ExceptHandler} {l : List Cl} (hi : X.N[i]? = some n) (hl : X.env.kindOf n = some .local) (hc : Names X x c)
      (hsu : ∀ (a : Addr) (oe : Obj) (cls : Value) (d : Option Addr) (pn : List (Addr × Obj)), Zc cls d oe → (∃ vs, oe.data = .fields vs) → PSs (X.suite a ((a, oe) :: pn)) (b₀ :: su) (ts a cls d)) (r : ClOk X hds l) :
      ClOk X (.ExceptHandler (some (.Name x np)) (some n) (b₀ :: su) pos' :: hds) ((c, some i, ts) :: l)
section
variable {X : Cx} {pins : List (Addr × Obj)} {σ : St} {H : Hp} {B : Heap} {sI s : Shared} {a : Addr} {cls : Value} {d : Option Addr} {D : Ends} {Wout : WX}
theorem Got.out (G : Got X pins σ H B sI a cls d s) (hs : X.stack = X.env :: X.outer) (hf : X.env.frame = some X.env.locals) (tk : Takes X Wout) (w : Wout cls d σ H) :
    wpAny (model X.prog X.w) X.A (handleBy (.ref a) X.env []) (SP X pins D) X.xe s := by
  refine wpAny_handleBy_nil ?_
  obtain ⟨_, _, _, oe, vs, T, oT, ts', e1, _, e2, e3, _⟩ := id G.fl
  unfold PySem.passOn
  refine wpAny_bind (wpAny_field e1 e2 e3 ?_)
  rw [if_neg (show ¬ ((Value.ref T == Value.none) = true) by simp)]
  have last : wpAny (model X.prog X.w) X.A (setFlight (.ref a) X.env.frame) (fun _ s4 => wpAny (model X.prog X.w) X.A (throw (.ref a) : Sem Flow) (SP X pins D) X.xe s4) X.xe s := by
    rw [hf]
    refine HandSPX.setFlight_upZ G.fl fun h4 held up4 => wpAny_throw (tk _ _ ⟨a, B, sI, pins, σ, H, cls, d, rfl, G.I, G.nb, G.up.trans up4, .inr (.inr ?_), G.na, G.os, G.ag, w⟩)
    rw [hs]
    exact held
  first
    | exact wpAny_bind (wpAny_pure (wpAny_bind last))
    | exact wpAny_bind last
/-- the clauses, at a caught exception -/
theorem clauses (hs : X.stack = X.env :: X.outer) (hf : X.env.frame = some X.env.locals) (hN : X.N.Nodup) (tk : Takes X Wout) (ok : X.Ok) {hds : List ExceptHandler} {l : List Cl} (hk : ClOk X hds l) :
    ∀ {s : Shared}, Got X pins σ H B sI a cls d s → wCl X.K Wout D l cls d σ H → wpAny (model X.prog X.w) X.A (handleBy (.ref a) X.env hds) (SP X pins D) X.xe s := by
  -- the test of one clause
  have test : ∀ {x : Str} {c : Value} {np : Pos} {b : Bool} {s : Shared} {Q : Bool → Shared → Prop} {E1 E2 : Value → Shared → Prop}, Names X x c → PySem.W.exmOne X.K cls c = some b → Got X pins σ H B sI a cls d s → Q b s →
      wpAny (model X.prog X.w) (X.A.mark (some (.ref a))) (eval (.Name x np) X.env) (fun c s1 => wpAny (model X.prog X.w) (X.A.mark (some (.ref a))) (excMatches (.ref a) c) Q E1 s1) E2 s := by
    intro x c np b s Q E1 E2 hc hb G q
    obtain ⟨oe, vs, e1, e2, e3, S⟩ := G.suite hf
    have LT : PySem.W.Looks (model X.prog X.w) s.heap (typeOf (.ref a)) cls := fun A Q E s1 k q => wpAny_typeOf_ref (k _ _ e1) (by rw [e2.1]; exact q)
    have LM := PySem.W.exm_one (M := model X.prog X.w) S.kIn LT hb
    obtain ⟨hg, hdb, hm | ⟨hm, hv, hn⟩⟩ := hc
    · exact ld_glob (X := X.suite a ((a, oe) :: (X.pn ++ pins))) S hg hm (LM.here q) hdb
    · exact ld_blt (X := X.suite a ((a, oe) :: (X.pn ++ pins))) S hg hm hv (LM.here q) hn hdb
  induction hk with
  | nil => exact fun G w => G.out hs hf tk w
  | @plain x c ts b₀ su np pos' hds2 l2 hc hsu r ih =>
    intro s G w
    obtain ⟨b, hb, yes, no⟩ := w
    refine wpAny_handleBy_cons (codeAny_handlers_test (test hc hb G ?_)) (by intro q; cases q)
    cases b with
    | false => exact ih G (no rfl)
    | true =>
      refine codeAny_handlers_suite (HandSPX.lands_againZ G.fl fun h4 fl4 up4 => ?_)
      obtain ⟨oe, vs, e1, e2, e3, S⟩ := (G.at_ fl4 up4).suite hf
      refine wpAny_mono ((hsu a oe cls d (X.pn ++ pins) e2 ⟨_, e3⟩).run [] _ σ H _ S (yes rfl a G.na)) (fun f s6 q => ?_) (fun _ _ z => False.elim z)
      match f, q with
      | .next, ⟨σ6, H6, S6, q6⟩ => exact ⟨_, _, S6.unsuite ok, q6⟩
      | .brk, ⟨σ6, H6, S6, q6⟩ => exact ⟨_, _, S6.unsuite ok, q6⟩
      | .cont, ⟨σ6, H6, S6, q6⟩ => exact ⟨_, _, S6.unsuite ok, q6⟩
      | .ret u, ⟨v6, σ6, H6, S6, r6, q6⟩ => exact ⟨_, _, _, S6.unsuite ok, r6, q6⟩
  | @named x n i c ts b₀ su np pos' hds2 l2 hi hl hc hsu r ih =>
    intro s G w
    obtain ⟨b, hb, yes, no⟩ := w
    refine wpAny_handleBy_cons (codeAny_handlers_test (test hc hb G ?_)) (by intro q; cases q)
    cases b with
    | false => exact ih G (no rfl)
    | true =>
      refine codeAny_handlers_suite_as (HandSPX.lands_againZ G.fl fun h4 fl4 up4 => ?_)
      obtain ⟨oe, vs, e1, e2, e3, S⟩ := (G.at_ fl4 up4).suite hf
      refine store_ok (X := X.suite a ((a, oe) :: (X.pn ++ pins))) (v := .ref a) S hN hi (.inl hl) rfl (fun s5 S5 => ?_) (.inr hl)
      refine wpAny_mono ((hsu a oe cls d (X.pn ++ pins) e2 ⟨_, e3⟩).run [] s5 _ H _ S5 (yes rfl a G.na)) (fun f s6 q => ?_) (fun _ _ z => False.elim z)
      match f, q with
      | .next, ⟨σ6, H6, S6, q6⟩ => exact gone_ok (S6.unsuite ok) hN hi hl fun s7 J7 => ⟨_, _, J7, q6⟩
      | .brk, ⟨σ6, H6, S6, q6⟩ => exact gone_ok (S6.unsuite ok) hN hi hl fun s7 J7 => ⟨_, _, J7, q6⟩
      | .cont, ⟨σ6, H6, S6, q6⟩ => exact gone_ok (S6.unsuite ok) hN hi hl fun s7 J7 => ⟨_, _, J7, q6⟩
      | .ret u, ⟨v6, σ6, H6, S6, r6, q6⟩ => exact gone_ok (S6.unsuite ok) hN hi hl fun s7 J7 => ⟨_, _, _, J7, r6, q6⟩
/-- try: body / except x as n: .. / except y as m: .. -/
theorem ps_try_cl {body : List Stmt} {h₀ : ExceptHandler} {hds : List ExceptHandler} {l : List Cl} {pos : Pos} {tb : WX → TS} (hs : X.stack = X.env :: X.outer) (hf : X.env.frame = some X.env.locals) (hN : X.N.Nodup) (tk : Takes X Wout)
    (hb : ∀ (W : WX) (pn : List (Addr × Obj)) (xe : Value → Shared → Prop), Takes (X.tr pn xe) W → PassesOwn (model X.prog X.w) X.A X.env xe → PSs (X.tr pn xe) body (tb W))
    (hk : ClOk X (h₀ :: hds) l) : PS X (.Try body (h₀ :: hds) [] [] pos) (fun D σ H => tb (wCl X.K Wout D l) D σ H) := by
  refine ⟨fun pins s σ H D I h => wpAny_Try_except ?_⟩
  have ok := I.ok
  have fr : X.A.frames = some (X.env :: X.outer) := ok.frames.trans (congrArg some hs)
  refine wpAny_mono ((hb (wCl X.K Wout D l) (X.pn ++ pins) (fun e s₁ => wpAny (model X.prog X.w) X.A (noteFrame e X.env) (fun _ s₂ => wpAny (model X.prog X.w) X.A (setFlight e none) (fun _ s₃ =>
    wpAny (model X.prog X.w) X.A (handleBy e X.env (h₀ :: hds)) (SP X pins D) X.xe s₃) X.xe s₂) X.xe s₁) (fun u s' x => ?_) PassesOwn.looking).run [] s σ H D (I.toTry _) h) (fun f s1 q => ?_) (fun e s1 he => he)
  · obtain ⟨a, B, sI, pins', σ', H', cls, d, rfl, J', nb, up, sky, na, os, ag, w⟩ := x
    have sky' : Sky B (X.env :: X.outer) a (Zc cls d) X.env.locals s'.heap := hs ▸ sky
    show wpAny (model X.prog X.w) X.A (noteFrame (.ref a) X.env) _ _ _
    exact Sky.land Zc.steady fr hf sky' fun h3 fl3 up3 => clauses hs hf hN tk ok hk ⟨J'.ofTry ok, nb, up.trans up3, fl3, os, ag, na⟩ w
  · match f, q with
    | .next, ⟨σ', H', J', q⟩ => exact wpAny_execs_nil ⟨σ', H', J'.ofTry ok, q⟩
    | .brk, ⟨σ', H', J', q⟩ => exact ⟨σ', H', J'.ofTry ok, q⟩
    | .cont, ⟨σ', H', J', q⟩ => exact ⟨σ', H', J'.ofTry ok, q⟩
    | .ret u, ⟨v, σ', H', J', r, q⟩ => exact ⟨v, σ', H', J'.ofTry ok, r, q⟩
end
end L2.Lr

set_option maxHeartbeats 4000000
namespace L2.Lr
open PySem PySem.Spec PyProof.Rows LR
/-! defs that stand where no repr is under way -/
/-- nothing is being written -/
def Quiet (A : Around) : Prop := A.guards = some []
theorem Quiet.deeper {A : Around} (q : Quiet A) (env : Env) : Quiet (A.deeper env) := q
/-- a promise of a def, kept where nothing is being written -/
structure FnQ (P : Program) (w : World) (K : PySem.W.Frag) (mg : Str → Option Value) (base : Heap) (CX : CXT) (k : Nat) (f : Addr) (fd : FuncData) (ps : List Str) (sp : Sp) : Prop where
  len : ∀ vs H Q E, sp vs H Q E → vs.length = ps.length
  run : ∀ (A : Around) (outer : List Env) (s : Shared) (H : Hp) (args : Args) (us : List Value) (vs : List V) (Q : VK) (E : XK), Quiet A → Room k A → Env0 P w K mg base A outer s H → BindsTo s fd args (ps.zip us) → Vals vs us → sp vs H Q E →
    codeAny (model P w) A (.call (.ref f) args) (CR CX outer P w H s Q E) s
section
variable {P : Program} {w : World} {K : PySem.W.Frag} {mg : Str → Option Value} {base : Heap} {CX : CXT} {k : Nat} {f : Addr} {fd : FuncData} {ps : List Str} {sp : Sp}
theorem FnQ.all (F : FnOk P w K mg base CX k f fd ps sp) : FnQ P w K mg base CX k f fd ps sp := ⟨F.len, fun A outer s H args us vs Q E _ => F.run A outer s H args us vs Q E⟩
theorem FnQ.of {x qual : Str} {pa : Arguments} {body : List Stmt} {scope : Scope} {N : List Str} (F : FunD K x qual pa body scope [] [] f fd) (S : FnScope N ps scope) (len : ∀ vs H Q E, sp vs H Q E → vs.length = ps.length)
    (go : ∀ (cdv : Value) (A : Around) (outer : List Env) (s : Shared) (H : Hp) (vs : List V) (Q : VK) (E : XK), Quiet A → Room k (A.deeper (envOfC qual scope s.heap.objs.size f cdv)) → sp vs H Q E →
      ∃ t, PSs (cxOf CX P w K mg base N qual scope f cdv A outer s H E) body t ∧ t { nx := fun _ H' => Q .non H', rt := Q } (start N vs) H) : FnQ P w K mg base CX (k + 1) f fd ps sp := by
  obtain ⟨oc, od, dV, kV, doc, pm, an, cdv, ct, osl, rfl, lk, rec, _, _⟩ := F.ex
  refine ⟨len, fun A outer s H args us vs Q E qA room env bind rel hsp => ?_⟩
  have KX : K.In s.heap := env.mod.kin.keeps fun b o e => (env.bs b o e).1
  have NL : s.heap.NoLimit := env.mod.nolimit.keeps fun b o e => (env.bs b o e).1
  have slots : ∀ y ∈ ps.zip us, scope.names.lookup y.1 = some .local ∨ (scope.names.lookup y.1 = some .cell ∧ ((cellsFrom (s.heap.objs.size + 1) scope.names []).lookup y.1).isSome = true) := by
    rintro ⟨n, v⟩ hy
    exact (S.par n (List.of_mem_zip hy).1).imp id fun q => ⟨q, PySem.W.cellsFrom_some _ _ _ (.inl q)⟩
  refine codeAny_call_function room.depth (KX _ _ lk) rfl S.co S.gen rfl (PySem.W.codeRec_of KX rec) (bind _ _ _ _ (wpAny_newFunctionEnv_cells S.kind slots fun env' he s1 x => ?_))
  subst he
  refine ⟨NL.keeps x.toInCall.keep, codeAny_func ?_⟩
  obtain ⟨t, ht, q⟩ := go cdv A outer s H vs Q E qA (room.deeper _) hsp
  have I : Inv (cxOf CX P w K mg base N qual scope f cdv A outer s H E) [] (start N vs) H s1 := inv_start S room.hd env (len _ _ _ _ hsp) rel x
  refine wpAny_mono (ht.run [] s1 _ H _ I q) (fun fl s' z => ?_) fun _ _ z => z
  match fl, z with
  | .ret u, ⟨v, _, H', J, r, z⟩ => exact ⟨v, H', J.os, J.bare, J.base, J.hok, r, z⟩
  | .next, ⟨_, H', J, z⟩ => exact ⟨.non, H', J.os, J.bare, J.base, J.hok, rfl, z⟩
  | .brk, ⟨_, _, _, z⟩ => exact z.elim
  | .cont, ⟨_, _, _, z⟩ => exact z.elim
end
section
variable {X : Cx} {CX : CXT} {k : Nat} {f : Addr} {fd : FuncData} {ps : List Str} {sp : Sp} {ds : List Value} {dvs : List V} {E : St → XK} {x : Str} {p pos : Pos} {e : Expr} {es : List Expr} {t : TA}
/-- x(e, ..) -/
theorem pe_callQ (F : FnQ X.prog X.w X.K X.mg X.base CX k f fd ps sp) (qA : Quiet X.A) (hr : Room k X.A) (hg : Gl X x) (hm : X.mg x = some (.ref f)) (hk : PySem.W.keepIn X.K (.ref f) = true) (hb : Binds X.K fd ps ds) (hd : Vals dvs ds) (hx : ∀ σ, PassesAt CX X σ (E σ))
    (ha : PA X (e :: es) t) (hdb : (x == ("__debug__" : Str)) = false := by decide) (he : starEach (e :: es) X.env = (false, eval e X.env) :: starEach es X.env := by rfl) (hpl : (backTo pos (starEach es X.env)).any (·.1) = false := by rfl) :
    PE X (.Call (.Name x p) (e :: es) [] pos) (fun σ H Q => t σ H fun vs H1 => sp (vs ++ dvs) H1 Q (E σ)) := by
  refine ⟨fun pins s σ H Q I h => wpAny_Call_Name_kw (ld_glob I hg hm (PySem.W.callWith_K (h₀ := X.base) I.ok.mod.kin hk (thn (ha.run pos pins s σ H _ I h) fun us s1 ⟨vs, H1, I1, r, q⟩ => ⟨I1.kIn, wpAny_call ?_⟩) he hpl) hdb)⟩
  have r2 : Vals (vs ++ dvs) (us ++ ds) := r.append hd
  have n : (us ++ ds).length = ps.length := r2.length.symm.trans (F.len _ _ _ _ q)
  refine codeAny_mono (F.run X.A X.stack s1 H1 ⟨us, []⟩ (us ++ ds) _ Q (E σ) qA hr I1.env0 (hb s1 us I1.kIn n) r2 q) fun r s' z => ?_
  match r, z with
  | .error e, z => exact hx σ pins H1 s1 e s' I1 z
  | .ok (.ret u), z => exact I1.after z
  | .ok .next, z => exact z.elim
  | .ok .brk, z => exact z.elim
  | .ok .cont, z => exact z.elim
end
/-! ### the law's call -/
theorem script_env {P : Program} {w : World} {K : PySem.W.Frag} {mg mb : Str → Option Value} {a : Addr} {s₁ : Shared} {vs : List Value} {ns : List Int}
    (KX : K.In s₁.heap) (hns : s₁.heap.Ns mainGlobals mg) (hb : s₁.heap.Ns builtinsNs mb) (hbb : ∀ x : Str, x ≠ "__name__" → mb x = bootBuiltins x) (hlim : s₁.heap.NoLimit) (hg : s₁.gens = #[])
    (ha : s₁.heap.get? a = some { cls := .type "list", data := .seq vs.toArray }) (hi : IntsAre vs ns) (hl : ns.length ≤ sizeLine) :
    ∃ (H : Hp) (base : Heap), K.In base ∧ base.Ns mainGlobals mg ∧ SqL K H a (ns.map V.int) ∧ Env0 P w K mg base callerA [] s₁ H ∧ ∀ H' h', Un (frs []) [] H H' s₁.heap h' → HOk P w H' h' → OldK s₁.heap h' := by
  have rv := vals_ints hi
  obtain ⟨lo, elo⟩ : ∃ lo : Obj, lo = { cls := .type "list", data := .seq vs.toArray } := ⟨_, rfl⟩
  rw [← elo] at ha
  obtain ⟨H, only, there⟩ : ∃ H : Hp, (∀ b u, H b = some u → b = a ∧ u = .frz lo (.lst (ns.map V.int)) ∧ K.lookup a = none) ∧ (K.lookup a = none → H a = some (.frz lo (.lst (ns.map V.int)))) := by
    cases hk : K.lookup a with
    | none =>
      refine ⟨fun b => if b = a then some (.frz lo (.lst (ns.map V.int))) else none, fun b u z => ?_, fun _ => if_pos rfl⟩
      by_cases h : b = a
      · exact ⟨h, (Option.some.inj ((if_pos h).symm.trans z)).symm, rfl⟩
      · cases (if_neg h).symm.trans z
    | some o => exact ⟨fun _ => none, fun b u z => (by cases z), fun z => (by cases z)⟩
  have off : ∀ {b : Addr} {o : Obj}, s₁.heap.get? b = some o → o.data ≠ lo.data → H b = none := fun {b o} e n => by
    cases q : H b with
    | none => rfl
    | some u =>
      obtain ⟨rfl, _, _⟩ := only _ _ q
      cases ha.symm.trans e
      exact absurd rfl n
  have kb : K.In (hidT s₁.heap H) := fun b o e => hidT_get (KX b o e) (by
    cases q : H b with
    | none => rfl
    | some u =>
      obtain ⟨rfl, _, n⟩ := only _ _ q
      cases n.symm.trans e)
  have nk : ∀ {b : Addr} {m : Str → Option Value}, s₁.heap.Ns b m → (hidT s₁.heap H).Ns b m := fun ⟨o, es, ep, e, dd, r⟩ => ⟨o, es, ep, hidT_get e (off e (by rw [dd, elo]; intro z; cases z)), dd, r⟩
  have hok : HOk P w H s₁.heap := fun b u q => by
    obtain ⟨rfl, rfl, _⟩ := only _ _ q
    exact ⟨ha, by rw [List.length_map]; exact hl, vs, _, rv, by rw [ha, elo]⟩
  refine ⟨H, hidT s₁.heap H, kb, nk hns, ?_, ⟨rfl, ⟨kb, nk hns, ⟨mb, nk hb, hbb⟩, let ⟨mc, h1, h2⟩ := hlim; ⟨mc, nk h1, h2⟩⟩, fun b o e => of_hidT e, Nat.le_of_eq (hidT_size _ _), trivial, fun b z => (nomatch z), hok, .of_eq hg⟩, fun H' h' un ok' => OldK.of_keep fun b o e => ?_⟩
  · cases hk : K.lookup a with
    | none => exact .inl (.inr ⟨lo, there hk⟩)
    | some o =>
      cases ha.symm.trans (KX a o hk)
      exact .inr ⟨lo, vs.toArray, _, hk, by rw [elo], by rw [elo], by rw [elo], by rw [List.size_toArray, hi.length]; exact hl, by simpa using rv⟩
  · cases q : H b with
    | none => exact un.keep b o e q (fun z => nomatch z) (fun z => nomatch z)
    | some u =>
      obtain ⟨rfl, rfl, _⟩ := only _ _ q
      cases ha.symm.trans e
      exact (ok' b _ (un.frzs b _ _ q)).1
/-- the end of a law whose def is kept where nothing is being written -/
theorem walk_ofQ {l : PySem.W.OpenLaw} {n k : Nat} {q : Program} {loose : List Str} {XP : (Str → Option Value) → Heap → Prop} {YP : World → Heap → Prop} {d : DefRec} {CX : CXT} {x : Str} (hn : l.most = some n) (hz : n ≤ sizeLine) (hdf : d.params.defaults = []) (hr : Room k callerA)
    (F : ∀ (w : World) (mg : Str → Option Value) (fa : Addr) (h : Heap), YP w h → h.Ns mainGlobals mg → mg d.name = some (.ref fa) → ∃ (K : PySem.W.Frag) (fd : FuncData) (sp : Sp), K.In h ∧ (∀ (s : Shared) (u : Value), BindsTo s fd ⟨[u], []⟩ [(x, u)]) ∧
      (∀ (H : Hp) (a : Addr) (ns : List Int), ns.length ≤ n → SqL K H a (ns.map V.int) → sp [.ref a] H (fun v _ => v = .bl true) fun _ _ _ => False) ∧ ∀ base : Heap, K.In base → base.Ns mainGlobals mg → FnQ l.prog w K mg base CX k fa fd [x] sp)
    (hC : ∀ (H : Hp) (s : Shared) (e : Value) (s' : Shared), CX [] H s (fun _ _ _ => False) e s' → False) : PySem.W.WalkO q loose XP YP l.row.toRowW d [] (fun f vs => PySem.call f vs) := by
  refine Att.attach_call hn hdf fun w s₀ s₁ mg mb fa o pm cd doc a vs ns G Y ho hd hcd hmg hobj hi hlen hg => ?_
  obtain ⟨K, fd, sp, KX, hb, hsp, hF⟩ := F w mg fa _ Y G.T.g hmg
  obtain ⟨H, base, kb, nb, hS, env, post⟩ := script_env (P := l.prog) (w := w) KX G.T.g G.T.b G.T.builtins G.T.nolimit hg hobj hi (Nat.le_trans hlen hz)
  refine codeAny_mono ((hF base kb nb).run callerA [] s₁ H ⟨[.ref a], []⟩ [.ref a] [.ref a] _ _ rfl hr env (hb s₁ (.ref a)) (.cons rfl .nil) (hsp H a ns hlen hS)) fun r s' z => ?_
  match r, z with
  | .error e, z => exact (hC H s₁ e s' z).elim
  | .ok .next, z => exact z.elim
  | .ok .brk, z => exact z.elim
  | .ok .cont, z => exact z.elim
  | .ok (.ret u), ⟨v, H', os, bare, un, ok', r', q⟩ =>
    cases (show v = .bl true from q)
    cases (show u = Value.bool true from r')
    exact ⟨rfl, post H' _ un ok', os, bare⟩
/-! ### repr of data -/
mutual
theorem noDict {K : PySem.W.Frag} {H : Hp} : ∀ {v : V} {d : PyData}, Dp K H v d → d.hasDict = false
  | _, _, .non => by simp only [PyData.hasDict]
  | _, _, .bl b => by simp only [PyData.hasDict]
  | _, _, .int i => by simp only [PyData.hasDict]
  | _, _, .str x => by simp only [PyData.hasDict]
  | _, _, .lst h a => by simp only [PyData.hasDict]; exact noDictAll a
  | _, _, .tup h a => by simp only [PyData.hasDict]; exact noDictAll a
theorem noDictAll {K : PySem.W.Frag} {H : Hp} : ∀ {vs : List V} {ds : List PyData}, DpAll K H vs ds → PyData.hasDictAll ds = false
  | _, _, .nil => by simp only [PyData.hasDictAll]
  | _, _, .cons h a => by simp only [PyData.hasDictAll, noDict h, noDictAll a, Bool.or_self]
end
/-- repr(x), x data -/
def rRepr (K : PySem.W.Frag) : List V → Hp → VK → Prop := fun xs H Q => ∃ x d, xs = [x] ∧ Dp K H x d ∧ d.showable = true ∧ d.shown.length ≤ sizeLine ∧ d.depth ≤ 60 ∧ Q (.str d.shown) H
theorem call_repr {X : Cx} (qA : Quiet X.A) (hu : X.A.units + 64 < cLine) : CallR X (.builtin "repr") (rRepr X.K) := by
  intro pins s σ H xs us Q I r h
  obtain ⟨x, d, rfl, hd, sh, sz, dp, q⟩ := h
  obtain ⟨u, rfl, rx⟩ := vals1 r
  obtain ⟨as, rd⟩ := Dp.reads I d x u hd rx
  have big : ∀ a, u = .ref a → wpAny (model X.prog X.w) X.A (call (.builtin "repr") [u]) (EP X pins σ Q) X.xe s := fun a e => by
    subst e
    exact repr_of_reads' rd sh (fun z => by rw [noDict hd] at z; cases z) qA (by omega) (fun _ _ e => e) (fun h' u tk k => ⟨.str d.shown, H, I.kept (t' := tk) k, ⟨_, rfl⟩, q⟩) sz
  cases hd with
  | non =>
    cases rx
    simp only [PyData.shown] at q
    exact PySem.P.repr_of_none ⟨.str _, H, I.tok _, ⟨_, rfl⟩, q⟩
  | bl b =>
    cases rx
    simp only [PyData.shown] at q
    exact PySem.P.repr_of_bool ⟨.str _, H, I.tok _, ⟨_, rfl⟩, q⟩
  | int i =>
    obtain ⟨t, rfl⟩ := rx
    simp only [PyData.showable] at sh
    simp only [PyData.shown] at q
    exact PySem.P.repr_of_int (by simpa using sh) ⟨.str _, H, I.tok _, ⟨_, rfl⟩, q⟩
  | str x =>
    obtain ⟨t, rfl⟩ := rx
    simp only [PyData.shown] at q sz
    exact PySem.P.repr_of_str ⟨.str _, H, I.tok _, ⟨_, rfl⟩, q⟩ sz
  | lst h a => exact big _ rx
  | tup h a => exact big _ rx
end L2.Lr

set_option maxHeartbeats 1000000
/-! data of a size: what repr, == and the copies ask of it -/
namespace L2.Lr
open PySem PySem.Spec PyProof.Rows LR
def fine (d : PyData) : Bool := d.canLay0 && (d.leavesShort 40 && d.showable)
def fineAll (ds : List PyData) : Bool := PyData.canLayAll0 ds && (PyData.leavesShortAll 40 ds && PyData.showableAll ds)
theorem fine_tup (ds : List PyData) : fine (.tuple ds) = fineAll ds := by simp only [fine, fineAll, PyData.canLay0, PyData.leavesShort, PyData.showable]
theorem fine_lst (ds : List PyData) : fine (.list ds) = fineAll ds := by simp only [fine, fineAll, PyData.canLay0, PyData.leavesShort, PyData.showable]
theorem fineAll_cons (d : PyData) (ds : List PyData) : fineAll (d :: ds) = (fine d && fineAll ds) := by
  simp only [fine, fineAll, PyData.canLayAll0, PyData.leavesShortAll, PyData.showableAll]
  ac_rfl
theorem fineAll_nil : fineAll [] = true := rfl
theorem fineAll_append : ∀ (a b : List PyData), fineAll (a ++ b) = (fineAll a && fineAll b)
  | [], b => by rw [List.nil_append, fineAll_nil, Bool.true_and]
  | d :: a, b => by rw [List.cons_append, fineAll_cons, fineAll_cons, fineAll_append a b, Bool.and_assoc]
theorem weightAll_append : ∀ (a b : List PyData), PyData.weightAll (a ++ b) = PyData.weightAll a + PyData.weightAll b
  | [], b => by simp [PyData.weightAll]
  | d :: a, b => by
    have := weightAll_append a b
    simp only [List.cons_append, PyData.weightAll]
    omega
theorem depthAll_append : ∀ (a b : List PyData), PyData.depthAll (a ++ b) = max (PyData.depthAll a) (PyData.depthAll b)
  | [], b => by simp [PyData.depthAll]
  | d :: a, b => by
    have := depthAll_append a b
    simp only [List.cons_append, PyData.depthAll]
    omega
theorem length_le_weight : ∀ ds : List PyData, ds.length ≤ PyData.weightAll ds
  | [] => Nat.zero_le _
  | d :: ds => by
    have := length_le_weight ds
    simp only [List.length_cons, PyData.weightAll]
    omega
structure Nice (W D : Nat) (d : PyData) : Prop where
  f : fine d = true
  w : d.weight ≤ W
  dp : d.depth ≤ D
structure NiceAll (W D : Nat) (ds : List PyData) : Prop where
  f : fineAll ds = true
  w : PyData.weightAll ds ≤ W
  dp : PyData.depthAll ds ≤ D
theorem Nice.mono {W W' D D' : Nat} {d : PyData} (h : Nice W D d) (hw : W ≤ W') (hd : D ≤ D') : Nice W' D' d := ⟨h.f, Nat.le_trans h.w hw, Nat.le_trans h.dp hd⟩
theorem NiceAll.mono {W W' D D' : Nat} {ds : List PyData} (h : NiceAll W D ds) (hw : W ≤ W') (hd : D ≤ D') : NiceAll W' D' ds := ⟨h.f, Nat.le_trans h.w hw, Nat.le_trans h.dp hd⟩
theorem NiceAll.tup {W D : Nat} {ds : List PyData} (h : NiceAll W D ds) : Nice W (D + 1) (.tuple ds) := ⟨(fine_tup ds).trans h.f, by simpa only [PyData.weight] using h.w, by simp only [PyData.depth]; have := h.dp; omega⟩
theorem NiceAll.lst {W D : Nat} {ds : List PyData} (h : NiceAll W D ds) : Nice W (D + 1) (.list ds) := ⟨(fine_lst ds).trans h.f, by simpa only [PyData.weight] using h.w, by simp only [PyData.depth]; have := h.dp; omega⟩
theorem Nice.untup {W D : Nat} {ds : List PyData} (h : Nice W (D + 1) (.tuple ds)) : NiceAll W D ds := ⟨(fine_tup ds).symm.trans h.f, by simpa only [PyData.weight] using h.w, by have := h.dp; simp only [PyData.depth] at this; omega⟩
theorem Nice.unlst {W D : Nat} {ds : List PyData} (h : Nice W (D + 1) (.list ds)) : NiceAll W D ds := ⟨(fine_lst ds).symm.trans h.f, by simpa only [PyData.weight] using h.w, by have := h.dp; simp only [PyData.depth] at this; omega⟩
theorem NiceAll.nil (W D : Nat) : NiceAll W D [] := ⟨rfl, Nat.zero_le _, Nat.zero_le _⟩
theorem NiceAll.cons {W1 W2 D : Nat} {d : PyData} {ds : List PyData} (h : Nice W1 D d) (g : NiceAll W2 D ds) : NiceAll (W1 + 1 + W2) D (d :: ds) := by
  refine ⟨by rw [fineAll_cons, h.f, g.f]; rfl, ?_, ?_⟩
  · have := h.w; have := g.w; simp only [PyData.weightAll]; omega
  · have := h.dp; have := g.dp; simp only [PyData.depthAll]; omega
theorem NiceAll.append {W1 W2 D : Nat} {a b : List PyData} (h : NiceAll W1 D a) (g : NiceAll W2 D b) : NiceAll (W1 + W2) D (a ++ b) := by
  refine ⟨by rw [fineAll_append, h.f, g.f]; rfl, ?_, ?_⟩
  · have := h.w; have := g.w; rw [weightAll_append]; omega
  · have := h.dp; have := g.dp; rw [depthAll_append]; omega
theorem NiceAll.head {W D : Nat} {d : PyData} {ds : List PyData} (h : NiceAll W D (d :: ds)) : Nice W D d ∧ NiceAll W D ds ∧ d.weight + 1 + PyData.weightAll ds ≤ W := by
  obtain ⟨hf, hw, hd⟩ := h
  rw [fineAll_cons] at hf
  obtain ⟨f1, f2⟩ := Bool.and_eq_true_iff.mp hf
  simp only [PyData.weightAll] at hw
  simp only [PyData.depthAll] at hd
  exact ⟨⟨f1, by omega, by omega⟩, ⟨f2, by omega, by omega⟩, hw⟩
theorem NiceAll.at {W D : Nat} : ∀ {ds : List PyData} {i : Nat} {d : PyData}, NiceAll W D ds → ds[i]? = some d → Nice W D d
  | [], _, _, _, e => by simp at e
  | d :: ds, 0, _, h, e => by simp at e; subst e; exact h.head.1
  | d :: ds, i + 1, _, h, e => NiceAll.at (i := i) h.head.2.1 (by simpa using e)
theorem NiceAll.mem {W D : Nat} {ds : List PyData} {d : PyData} (h : NiceAll W D ds) (m : d ∈ ds) : Nice W D d := by
  obtain ⟨i, e⟩ := List.mem_iff_getElem?.mp m
  exact h.at e
theorem NiceAll.split {W D : Nat} {a b : List PyData} (h : NiceAll W D (a ++ b)) : NiceAll (PyData.weightAll a) D a ∧ NiceAll (PyData.weightAll b) D b ∧ PyData.weightAll a + PyData.weightAll b ≤ W := by
  obtain ⟨hf, hw, hd⟩ := h
  rw [fineAll_append] at hf
  rw [weightAll_append] at hw
  rw [depthAll_append] at hd
  obtain ⟨f1, f2⟩ := Bool.and_eq_true_iff.mp hf
  exact ⟨⟨f1, Nat.le_refl _, by omega⟩, ⟨f2, Nat.le_refl _, by omega⟩, hw⟩
theorem NiceAll.take {W D : Nat} {ds : List PyData} (n : Nat) (h : NiceAll W D ds) : NiceAll W D (ds.take n) := by
  rw [← List.take_append_drop n ds] at h
  obtain ⟨h1, _, h3⟩ := h.split
  exact h1.mono (by omega) (Nat.le_refl _)
theorem NiceAll.drop {W D : Nat} {ds : List PyData} (n : Nat) (h : NiceAll W D ds) : NiceAll W D (ds.drop n) := by
  rw [← List.take_append_drop n ds] at h
  obtain ⟨_, h2, h3⟩ := h.split
  exact h2.mono (by omega) (Nat.le_refl _)
theorem Nice.shaped {W D : Nat} {d : PyData} (h : Nice W D d) (hD : D ≤ 64) : SeqAt.shaped d = true := by
  obtain ⟨f1, _⟩ := Bool.and_eq_true_iff.mp h.f
  refine Bool.and_eq_true_iff.mpr ⟨f1, decide_eq_true ?_⟩
  have := h.dp
  omega
/-- what repr asks -/
theorem Nice.shown {W D : Nat} {d : PyData} (h : Nice W D d) (hW : W ≤ 390000) : d.showable = true ∧ d.shown.length ≤ sizeLine := by
  obtain ⟨_, f2⟩ := Bool.and_eq_true_iff.mp h.f
  obtain ⟨f2, f3⟩ := Bool.and_eq_true_iff.mp f2
  refine ⟨f3, ?_⟩
  have z := PyData.shown_le 40 (by decide) d f2
  have := h.w
  rw [sizeLine_eq]
  omega
theorem nice_int {i : Int} (h : i.natAbs < 10 ^ 31) : Nice 104 0 (.int i) := by
  have hb : i.natAbs < 2 ^ 103 := Nat.lt_trans h (by decide)
  have hl : i.natAbs.log2 < 103 := PySem.Flt.log2_lt_of (by decide) hb
  refine ⟨?_, ?_, by simp [PyData.depth]⟩
  · have e := int_text_length_le10 (k := 31) (by decide) h
    have e1 : PyData.leavesShort 40 (.int i) = true := by
      simp only [PyData.leavesShort]
      refine decide_eq_true ?_
      show (Str.ofString (toString i)).length ≤ 40
      rw [PySem.ofString_length]
      omega
    have e2 : PyData.showable (.int i) = true := by
      simp only [PyData.showable]
      exact decide_eq_true (by omega)
    show ((PyData.int i).canLay0 && ((PyData.int i).leavesShort 40 && (PyData.int i).showable)) = true
    rw [e1, e2]
    simp [PyData.canLay0]
  · simp only [PyData.weight]
    split <;> omega
/-! ### no lists -/
mutual
def noL : PyData → Bool
  | .tuple ds => noLAll ds
  | .list _ => false
  | .none => true
  | .bool _ => true
  | .int _ => true
  | .str _ => true
  | .dict _ => true
def noLAll : List PyData → Bool
  | [] => true
  | d :: ds => noL d && noLAll ds
end
/-- all but lists stays -/
def Kt (H H' : Hp) : Prop := ∀ b o, H b = some o → (∀ xs, o ≠ .lst xs) → H' b = some o
theorem Kt.seqT {K : PySem.W.Frag} {H H' : Hp} {a : Addr} {xs : List V} (s : Kt H H') (h : SqT K H a xs) : SqT K H' a xs := by
  rcases h with (h | ⟨o, h⟩) | h
  · exact .inl (.inl (s _ _ h fun _ z => by cases z))
  · exact .inl (.inr ⟨o, s _ _ h fun _ z => by cases z⟩)
  · exact .inr h
mutual
theorem Dp.kt {K : PySem.W.Frag} {H H' : Hp} (s : Kt H H') : ∀ {v : V} {d : PyData}, Dp K H v d → noL d = true → Dp K H' v d
  | _, _, .non, _ => .non
  | _, _, .bl b, _ => .bl b
  | _, _, .int i, _ => .int i
  | _, _, .str x, _ => .str x
  | _, _, .lst h a, n => by simp [noL] at n
  | _, _, .tup h a, n => .tup (s.seqT h) (DpAll.kt s a (by simpa only [noL] using n))
theorem DpAll.kt {K : PySem.W.Frag} {H H' : Hp} (s : Kt H H') : ∀ {vs : List V} {ds : List PyData}, DpAll K H vs ds → noLAll ds = true → DpAll K H' vs ds
  | _, _, .nil, _ => .nil
  | _, _, .cons h a, n => by
    simp only [noLAll] at n
    obtain ⟨n1, n2⟩ := Bool.and_eq_true_iff.mp n
    exact .cons (Dp.kt s h n1) (DpAll.kt s a n2)
end
theorem noLAll_append : ∀ (a b : List PyData), noLAll (a ++ b) = (noLAll a && noLAll b)
  | [], b => by simp [noLAll]
  | d :: a, b => by
    simp only [List.cons_append, noLAll, noLAll_append a b, Bool.and_assoc]
theorem Same.kt {H H' : Hp} (s : Same H H') : Kt H H' := fun b o e _ => s b o e
theorem Kt.trans {H H1 H2 : Hp} (a : Kt H H1) (b : Kt H1 H2) : Kt H H2 := fun c o h n => b c o (a c o h n) n
theorem Kt.upd {H : Hp} {D : Addr} {xs : List V} {o : HO} (h : H D = some (.lst xs)) : Kt H (upd H D o) := fun b u e n => (upd_ne fun z => by rw [z, h] at e; exact n _ (Option.some.inj e).symm).trans e
end L2.Lr


set_option maxHeartbeats 4000000
namespace L2.Tx
open PySem PySem.Spec PyProof.Rows NumText L2 TL
/-! ### ints as texts, with their sign -/
def intT (a : Int) : Str := Str.ofString (toString a)
def sgnL (a : Int) : List Nat := if a < 0 then 45 :: numL a.natAbs else numL a.natAbs
def plusL (a : Int) : List Nat := (if a < 0 then 45 else 43) :: numL a.natAbs
def plusT (a : Int) : Str := ⟨(plusL a).toArray⟩
theorem tl_inj {x y : Str} (h : tl x = tl y) : x = y := by
  cases x; cases y
  congr 1
  exact Array.toList_inj.mp h
theorem tl_int (a : Int) : tl (intT a) = sgnL a := by
  unfold intT sgnL
  cases a with
  | ofNat n =>
    rw [if_neg (by show ¬ ((n : Int) < 0); omega)]
    exact tl_num n
  | negSucc n =>
    rw [if_pos (Int.negSucc_lt_zero n)]
    rw [tl_ofString]
    show ("-" ++ toString (n + 1)).toList.map Char.toNat = 45 :: numL (n + 1)
    rw [String.toList_append, List.map_append]
    have e : (toString (n + 1)).toList.map Char.toNat = numL (n + 1) := by
      have z := tl_num (n + 1)
      rw [tl_ofString] at z
      exact z
    rw [e]
    rfl
theorem tl_plus (a : Int) : tl (plusT a) = plusL a := tl_mk _
theorem plus_pos {a : Int} (h : 0 < a) : plusT a = Str.ofString "+" ++ intT a := by
  apply tl_inj
  rw [tl_plus, tl_append, tl_int]
  unfold plusL sgnL
  rw [if_neg (by omega), if_neg (by omega)]
  rfl
theorem plus_neg {a : Int} (h : a < 0) : plusT a = intT a := by
  apply tl_inj
  rw [tl_plus, tl_int]
  unfold plusL sgnL
  rw [if_pos h, if_pos h]
theorem numL_sz {a : Int} (h : a.natAbs < 10 ^ 400) : (numL a.natAbs).length ≤ 400 := numL_len (by decide) h
/-- no m in a number -/
theorem sgn_free {a : Int} {s : Nat} (h : 57 < s) : s ∉ sgnL a := by
  unfold sgnL
  split
  · intro z
    rcases List.mem_cons.mp z with z | z
    · omega
    · exact numL_free (.inr h) z
  · exact numL_free (.inr h)
theorem intText_plus {x : Str} {cs : List Nat} (hx : x.cps.toList = 43 :: cs) (h : AllDigits cs) (h1 : cs ≠ []) (h2 : x.length ≤ 4300) : intText? x = some ((digitsVal cs : Nat) : Int) := by
  have hl : x.cps.toList.length = x.length := Array.length_toList
  rw [hx, List.length_cons] at hl
  have hs : ∀ c ∈ x.cps.toList, 33 ≤ c ∧ c < 128 := by
    rw [hx]
    intro c hc
    rcases List.mem_cons.mp hc with e | hc
    · omega
    · have := h c hc
      omega
  have e1 : numTextOf x = x.cps.toList := by
    refine if_pos ?_
    rw [← Array.all_toList, List.all_eq_true]
    exact fun c hc => decide_eq_true (hs c hc).2
  have e2 : numSeenOf x = x.cps.toList := by
    show (numTextOf x).takeWhile _ = _
    rw [e1]
    exact takeWhile_all fun c hc => bne_iff_ne.mpr (by have := hs c hc; omega)
  have es : sign ((43 :: cs).dropWhile blank) = (false, cs) := by
    rw [dropWhile_of (by decide)]
    rfl
  have ec : core (43 :: cs) = cs := by
    unfold core
    rw [es]
    show (cs.reverse.dropWhile blank).reverse = cs
    rw [dropWhile_digits h.reverse, List.reverse_reverse]
  unfold intText?
  rw [e1, e2, hx]
  refine (if_pos (beq_self_eq_true _)).trans ?_
  rw [ec, es, digits_of h h1]
  have hsz := push_size cs #[]
  have hv := push_foldl cs #[]
  show (if _ ≤ 4300 then some (worth false _) else none) = _
  rw [if_pos (by rw [hsz, Array.size_empty]; omega)]
  unfold worth digitsVal
  rw [hv]
  rfl
theorem natAbs_cast (a : Int) : ((a.natAbs : Nat) : Int) = if a < 0 then -a else a := by split <;> omega
/-- int(text) of what was written -/
theorem int_back {a : Int} (h : a.natAbs < 10 ^ 400) : intText? (intT a) = some a := by
  have hs := numL_sz h
  have hl : tl (intT a) = sgnL a := tl_int a
  have len : (intT a).length ≤ 4300 := by
    rw [len_tl, hl]
    unfold sgnL
    split
    · rw [List.length_cons]; omega
    · omega
  unfold sgnL at hl
  by_cases hn : a < 0
  · rw [if_pos hn] at hl
    have z := intText_neg (x := intT a) hl (numL_digits _) (numL_ne _) len
    rw [numL_val, natAbs_cast, if_pos hn] at z
    rw [z]
    congr 1
    omega
  · rw [if_neg hn] at hl
    have hl' : (intT a).cps.toList = numL a.natAbs := hl
    have z := intText_digits (x := intT a) (by rw [hl']; exact numL_digits _) (by rw [hl']; exact numL_ne _) len
    rw [hl', numL_val, natAbs_cast, if_neg hn] at z
    exact z
theorem plus_back {a : Int} (h : a.natAbs < 10 ^ 400) : intText? (plusT a) = some a := by
  by_cases hn : a < 0
  · rw [plus_neg hn]
    exact int_back h
  · have hs := numL_sz h
    have hl : (plusT a).cps.toList = 43 :: numL a.natAbs := by
      have z := tl_plus a
      unfold plusL at z
      rw [if_neg hn] at z
      exact z
    have z := intText_plus hl (numL_digits _) (numL_ne _) (by
      have e : (plusT a).length = (tl (plusT a)).length := len_tl _
      rw [e, show tl (plusT a) = 43 :: numL a.natAbs from hl, List.length_cons]
      omega)
    rw [numL_val, natAbs_cast, if_neg hn] at z
    exact z
/-! ### a line as text -/
def mT : Str := Str.ofString "m"
def headT (e : Int) : Str := if e = 1 then mT else if e = -1 then Str.ofString "-m" else intT e ++ mT
def tailT (z : Int) : Str := if z = 0 then Str.empty else plusT z
def lineT (z e : Int) : Str := if e = 0 then intT z else headT e ++ tailT z
/-- what stands ahead of the m -/
def preT (e : Int) : Str := if e = 1 then Str.empty else if e = -1 then Str.ofString "-" else intT e
theorem tl_m : tl mT = [109] := rfl
theorem head_pre (e : Int) : headT e = preT e ++ mT := by
  unfold headT preT
  split
  · exact tl_inj (by rw [tl_append]; rfl)
  · split
    · exact tl_inj (by rw [tl_append]; rfl)
    · rfl
theorem pre_free (e : Int) : 109 ∉ tl (preT e) := by
  unfold preT
  split
  · intro z; cases z
  · split
    · decide
    · rw [tl_int]; exact sgn_free (by decide)
theorem line_part {z e : Int} (h : e ≠ 0) : Txt.partition (lineT z e) mT = (preT e, mT, tailT z) := by
  unfold lineT
  rw [if_neg h, head_pre]
  exact partition_app (y := mT) (s := 109) (S := []) tl_m (pre_free e)
theorem int_ne (a : Int) : tl (intT a) ≠ [] := by
  rw [tl_int]
  unfold sgnL
  split
  · exact fun z => by cases z
  · exact numL_ne _
theorem empty_iff {x : Str} : x = Str.ofString "" ↔ tl x = [] := ⟨fun h => by rw [h]; rfl, fun h => tl_inj (by rw [h]; rfl)⟩
theorem pre_empty (e : Int) : preT e = Str.ofString "" ↔ e = 1 := by
  rw [empty_iff]
  unfold preT
  by_cases h1 : e = 1
  · rw [if_pos h1]; exact ⟨fun _ => h1, fun _ => rfl⟩
  · rw [if_neg h1]
    refine ⟨fun z => ?_, fun z => absurd z h1⟩
    by_cases h2 : e = -1
    · rw [if_pos h2] at z; cases z
    · rw [if_neg h2] at z; exact absurd z (int_ne e)
theorem sgn_minus {e : Int} (h : tl (intT e) = [45]) : False := by
  rw [tl_int] at h
  unfold sgnL at h
  split at h
  · have := List.cons.inj h
    exact numL_ne _ this.2
  · have d := numL_digits e.natAbs 45 (by rw [h]; exact List.mem_cons_self)
    omega
theorem pre_minus (e : Int) : preT e = Str.ofString "-" ↔ e = -1 := by
  unfold preT
  by_cases h1 : e = 1
  · rw [if_pos h1]
    exact ⟨fun z => absurd (congrArg tl z) (by intro q; cases q), fun z => by omega⟩
  · rw [if_neg h1]
    by_cases h2 : e = -1
    · rw [if_pos h2]; exact ⟨fun _ => h2, fun _ => rfl⟩
    · rw [if_neg h2]
      exact ⟨fun z => (sgn_minus (congrArg tl z)).elim, fun z => absurd z h2⟩
theorem tail_empty (z : Int) : tailT z = Str.ofString "" ↔ z = 0 := by
  rw [empty_iff]
  unfold tailT
  by_cases h1 : z = 0
  · rw [if_pos h1]; exact ⟨fun _ => h1, fun _ => rfl⟩
  · rw [if_neg h1, tl_plus]
    exact ⟨fun q => (by unfold plusL at q; cases q), fun q => absurd q h1⟩
/-- one text, one line -/
theorem line_inj {z e z' e' : Int} (hz : z.natAbs < 10 ^ 400) (he : e.natAbs < 10 ^ 400) (hz' : z'.natAbs < 10 ^ 400) (he' : e'.natAbs < 10 ^ 400) (h : lineT z e = lineT z' e') : z = z' ∧ e = e' := by
  have free : ∀ a : Int, Txt.partition (intT a) mT = (intT a, Str.empty, Str.empty) := fun a => partition_none (y := mT) (s := 109) (S := []) tl_m (by rw [tl_int]; exact sgn_free (by decide))
  have mne : mT ≠ Str.empty := fun q => by cases congrArg tl q
  by_cases h0 : e = 0
  · by_cases h1 : e' = 0
    · unfold lineT at h
      rw [if_pos h0, if_pos h1] at h
      have b := int_back hz
      rw [h, int_back hz'] at b
      exact ⟨(Option.some.inj b).symm, by omega⟩
    · have p := line_part (z := z') h1
      rw [← h] at p
      unfold lineT at p
      rw [if_pos h0, free] at p
      exact absurd (congrArg (fun q : Str × Str × Str => q.2.1) p).symm mne
  · by_cases h1 : e' = 0
    · have p := line_part (z := z) h0
      rw [h] at p
      unfold lineT at p
      rw [if_pos h1, free] at p
      exact absurd (congrArg (fun q : Str × Str × Str => q.2.1) p).symm mne
    · have p := line_part (z := z) h0
      rw [h, line_part h1] at p
      have q1 : preT e' = preT e := congrArg (fun q : Str × Str × Str => q.1) p
      have q3 : tailT z' = tailT z := congrArg (fun q : Str × Str × Str => q.2.2) p
      refine ⟨?_, ?_⟩
      · by_cases z0 : z = 0
        · have := (tail_empty z).mpr z0
          rw [← q3] at this
          rw [(tail_empty z').mp this, z0]
        · have z1 : z' ≠ 0 := fun q => z0 ((tail_empty z).mp (q3 ▸ (tail_empty z').mpr q))
          unfold tailT at q3
          rw [if_neg z0, if_neg z1] at q3
          have b := plus_back hz
          rw [← q3, plus_back hz'] at b
          exact (Option.some.inj b).symm
      · by_cases e1 : e = 1
        · have := (pre_empty e).mpr e1
          rw [← q1] at this
          rw [(pre_empty e').mp this, e1]
        · by_cases e2 : e = -1
          · have := (pre_minus e).mpr e2
            rw [← q1] at this
            rw [(pre_minus e').mp this, e2]
          · have f1 : e' ≠ 1 := fun q => e1 ((pre_empty e).mp (q1 ▸ (pre_empty e').mpr q))
            have f2 : e' ≠ -1 := fun q => e2 ((pre_minus e).mp (q1 ▸ (pre_minus e').mpr q))
            unfold preT at q1
            rw [if_neg e1, if_neg e2, if_neg f1, if_neg f2] at q1
            have b := int_back he
            rw [← q1, int_back he'] at b
            exact (Option.some.inj b).symm
end L2.Tx

set_option maxHeartbeats 400000
/-! what an own class says of +, -, *, ==, str(o), o(m); f'{x:+}' -/
namespace L2.Lr
open PySem PySem.Spec PyProof.Rows LR StX
section
variable {X : Cx} {CX : CXT} {k n : Nat} {f C : Addr} {fd : FuncData} {ps : List Str} {sp : Sp} {E : XK}
/-- a def that the machine calls, some levels deeper -/
theorem run_at {A : Around} {pins : List (Addr × Obj)} {σ : St} {H : Hp} {s : Shared} {Q : VK} {us : List Value} {vs : List V} (sb : Sub X k A) (F : FnOk X.prog X.w X.K X.mg X.base CX k f fd ps sp) (hb : Binds X.K fd ps []) (hx : Passes CX X E)
    (I : Inv X pins σ H s) (r : Vals vs us) (h : sp vs H Q E) : wpAny (model X.prog X.w) A (call (.ref f) us) (EP X pins σ Q) X.xe s := by
  have e := I.env0
  have e0 : Env0 X.prog X.w X.K X.mg X.base A X.stack s H := ⟨sb.fr.trans e.frames, e.mod, e.bs, e.bsz, e.funs, e.frf, e.hok, e.bare⟩
  have hl : us.length = ps.length := r.length.symm.trans (F.len _ _ _ _ h)
  refine wpAny_call (codeAny_mono (F.run A X.stack s H ⟨us, []⟩ us vs Q E sb.room e0 (by simpa using hb s us I.kIn (by simpa using hl)) r h) fun r s' hq => ?_)
  match r, hq with
  | .error e, hq => exact hx pins σ H s e s' I hq
  | .ok (.ret u), hq => exact I.after hq
  | .ok .next, hq => exact hq.elim
  | .ok .brk, hq => exact hq.elim
  | .ok .cont, hq => exact hq.elim
/-- what a class's own def of this name must have -/
structure Dun (K : PySem.W.Frag) (C f : Addr) (m : Str) : Prop where
  at_ : PySem.W.findIn K (.ref C) m = some (some (.ref f))
  fn : PySem.W.isFn K (.ref f) = true
/-- str(o) by the own __str__ -/
def rStrO (C : Addr) (sp : Sp) (E : XK) : List V → Hp → VK → Prop := fun xs H Q => ∃ a dx fs, xs = [.ref a] ∧ H a = some (.ins C dx fs) ∧ sp [.ref a] H (fun v H' => ∃ y, v = .str y ∧ Q (.str y) H') E
theorem call_strO (d : Dun X.K C f "__str__") (F : FnOk X.prog X.w X.K X.mg X.base CX k f fd ps sp) (hr : Room (k + 2) X.A) (hb : Binds X.K fd ps []) (hx : Passes CX X E) : CallR X (.type "str") (rStrO C sp E) := by
  intro pins s σ H xs us Q I r h
  obtain ⟨a, dx, fs, rfl, ha, h⟩ := h
  obtain ⟨u, rfl, ru⟩ := vals1 r
  cases ru
  obtain ⟨ox, od, J, _⟩ := insC_at I (.inr ⟨dx, fs, ha⟩)
  refine PySem.W.kso_call hr.in1.in1.units0 I.kIn J d.at_ d.fn (wpAny_mono (run_at (A := X.A.in1.in1) ⟨hr.in1.in1, rfl⟩ F hb hx I (vs := [.ref a]) (us := [.ref a]) (.cons rfl .nil) h) (fun v s' z => ?_) fun _ _ z => z)
  obtain ⟨x, H', I', rv, y, rfl, q⟩ := z
  obtain ⟨t, rfl⟩ := rv
  exact ⟨.str y, H', I', ⟨t, rfl⟩, q⟩
/-- .. for an operator -/
structure OwnOp (K : PySem.W.Frag) (C f : Addr) (op : Operator) : Prop where
  at_ : PySem.W.findIn K (.ref C) (PySem.dunder op.info.2) = some (some (.ref f))
  fn : PySem.W.isFn K (.ref f) = true
  first : PySem.W.selfFirst K C = true
  rc : PySem.W.findIn K (.ref C) (dunderR op.info.2) = some none
  t1 : (PySem.W.findIn K (.type "int") (PySem.dunder op.info.2)).isSome = true
  t2 : (PySem.W.findIn K (.type "int") (dunderR op.info.2)).isSome = true
  sub : PySem.W.subIn K (.type "int") (.ref C) = some false
def ownB (K : PySem.W.Frag) (C f : Addr) (op : Operator) : Bool := He.eqO (PySem.W.findIn K (.ref C) (PySem.dunder op.info.2)) (some (some (.ref f))) && (PySem.W.isFn K (.ref f) && (PySem.W.selfFirst K C && (He.eqO (PySem.W.findIn K (.ref C) (dunderR op.info.2)) (some none) &&
  ((PySem.W.findIn K (.type "int") (PySem.dunder op.info.2)).isSome && ((PySem.W.findIn K (.type "int") (dunderR op.info.2)).isSome && decide (PySem.W.subIn K (.type "int") (.ref C) = some false))))))
theorem ownB_ok {K : PySem.W.Frag} {op : Operator} (q : ownB K C f op = true) : OwnOp K C f op := by
  obtain ⟨q1, q⟩ := He.ba q
  obtain ⟨q2, q⟩ := He.ba q
  obtain ⟨q3, q⟩ := He.ba q
  obtain ⟨q4, q⟩ := He.ba q
  obtain ⟨q5, q⟩ := He.ba q
  obtain ⟨q6, q7⟩ := He.ba q
  exact ⟨He.eqO_ok q1, q2, q3, He.eqO_ok q4, q5, q6, of_decide_eq_true q7⟩
def dunB (K : PySem.W.Frag) (C f : Addr) (m : Str) : Bool := He.eqO (PySem.W.findIn K (.ref C) m) (some (some (.ref f))) && PySem.W.isFn K (.ref f)
theorem dunB_ok {K : PySem.W.Frag} {m : Str} (q : dunB K C f m = true) : Dun K C f m := by
  obtain ⟨q1, q2⟩ := He.ba q
  exact ⟨He.eqO_ok q1, q2⟩
/-- a op b, by the left one's own def -/
def rOwn (C : Addr) (sp : Sp) (E : XK) : R2 := fun x y H Q => ∃ a dx fs, x = .ref a ∧ H a = some (.ins C dx fs) ∧ ((∃ i, y = .int i) ∨ ∃ b dy gs, y = .ref b ∧ H b = some (.ins C dy gs)) ∧ sp [.ref a, y] H Q E
theorem cmp_back {pins : List (Addr × Obj)} {σ : St} {Q : VK} {v : Value} {s' : Shared} (z : EP X pins σ Q v s') : PySem.W.CmpBack (EP X pins σ Q) v s' := by
  have nz : v ≠ .notImplemented := by
    rintro rfl
    obtain ⟨x, H', I', rv, q⟩ := z
    cases x <;> first
      | (obtain ⟨t, e⟩ := rv; cases e)
      | cases rv
  cases v <;> first
    | exact absurd rfl nz
    | exact z
theorem op_own {op : Operator} (o : OwnOp X.K C f op) (F : FnOk X.prog X.w X.K X.mg X.base CX k f fd ps sp) (hr : Room k X.A) (hb : Binds X.K fd ps []) (hx : Passes CX X E) : OpR X (binaryOp op) (rOwn C sp E) := by
  intro pins s σ H x y v u Q I rx ry h
  obtain ⟨a, dx, fs, rfl, ha, hy, h⟩ := h
  cases rx
  obtain ⟨ox, od, J, _⟩ := insC_at I (.inr ⟨dx, fs, ha⟩)
  obtain ⟨m, hF⟩ := I.fr
  have run := wpAny_mono (run_at (A := X.A) ⟨hr, rfl⟩ F hb hx I (vs := [.ref a, y]) (us := [.ref a, u]) (.cons rfl (.cons ry .nil)) h) (fun v s' z => cmp_back z) fun _ _ z => z
  rcases hy with ⟨i, rfl⟩ | ⟨b, dy, gs, rfl, hb'⟩
  · obtain ⟨t, rfl⟩ := ry
    obtain ⟨fo, e1⟩ := Option.isSome_iff_exists.mp o.t1
    obtain ⟨ro, e2⟩ := Option.isSome_iff_exists.mp o.t2
    exact PySem.W.ksp_binT hF I.ok.mod.kin J rfl o.first o.at_ o.fn o.rc (.inl rfl) e1 e2 o.sub run
  · cases ry
    obtain ⟨oy, od', J', _⟩ := insC_at I (.inr ⟨dy, gs, hb'⟩)
    exact PySem.W.binop_K hF I.ok.mod.kin J J'.type o.first o.at_ o.fn run
/-- a == b, by the left one's own __eq__ -/
theorem op_eqO (d : Dun X.K C f "__eq__") (F : FnOk X.prog X.w X.K X.mg X.base CX k f fd ps sp) (hr : Room k X.A) (hb : Binds X.K fd ps []) (hx : Passes CX X E) :
    OpR X (compareOp .Eq) (fun x y H Q => ∃ a dx fs b dy gs, x = .ref a ∧ H a = some (.ins C dx fs) ∧ y = .ref b ∧ H b = some (.ins C dy gs) ∧ sp [.ref a, .ref b] H Q E) := by
  intro pins s σ H x y v u Q I rx ry h
  obtain ⟨a, dx, fs, b, dy, gs, rfl, ha, rfl, hb', h⟩ := h
  cases rx
  cases ry
  obtain ⟨ox, od, J, _⟩ := insC_at I (.inr ⟨dx, fs, ha⟩)
  obtain ⟨oy, od', J', _⟩ := insC_at I (.inr ⟨dy, gs, hb'⟩)
  obtain ⟨m, hF⟩ := I.fr
  show wpAny (model X.prog X.w) X.A (richCompare .Eq _ _) _ X.xe s
  refine PySem.W.cmp_K (op := .Eq) (tb := .ref C) hr.units0 hF I.ok.mod.kin J J'.type (by simp [PySem.W.notFirst]) d.at_ d.fn ?_
  exact wpAny_mono (run_at (A := X.A) ⟨hr, rfl⟩ F hb hx I (vs := [.ref a, .ref b]) (us := [.ref a, .ref b]) (.cons rfl (.cons rfl .nil)) h) (fun v s' z => cmp_back z) fun _ _ z => z
end
/-- C(k = v, ..): keywords alone -/
theorem pe_makeK {X : Cx} {CX : CXT} {k : Nat} {f C : Addr} {fd : FuncData} {ps ks : List Str} {sp : Sp} {E : XK} {x : Str} {p pos : Pos} {kws : List Keyword} {tk : TA} {g : List Value → List Value → List Value} {gV : List V → List V → List V}
    (M : Mk X.K C f) (F : FnOk X.prog X.w X.K X.mg X.base CX k f fd ps sp) (hr : Room (k + 1) X.A) (hg : Gl X x) (hm : X.mg x = some (.ref C)) (hb : KBn X.K fd ps 1 ks g gV) (hx : Passes CX X E) (hkw : PK X kws tk)
    (hall : (backToKw pos (keywordEach kws X.env)).all (·.1.isSome) = true := by rfl) (hks : (backToKw pos (keywordEach kws X.env)).filterMap (·.1) = ks := by rfl) (hdb : (x == ("__debug__" : Str)) = false := by decide)
    (hpl : ((backTo pos (starEach [] X.env)).any (·.1) || (backToKw pos (keywordEach kws X.env)).any (·.1.isNone)) = false := by rfl) : PE X (.Call (.Name x p) [] kws pos) (tMakeN C 0 ks.length sp gV E tNil tk) := by
  refine ⟨fun pins s σ H Q I h => ?_⟩
  refine wpAny_Call_Name_kw (ld_glob I hg hm ?_ hdb)
  refine PySem.W.callWith_KW0 (h₀ := X.base) I.ok.mod.kin M.kp hall (thn (hkw.run pos pins s σ H _ I h) fun ws s2 ⟨zs, H2, I2, rz, l1, l2, q2⟩ => ⟨I2.kIn, ?_⟩) hpl
  rw [hks]
  exact run_makeN (us := []) (vs := []) M F hr hb hx I2 .nil rz l1 l2 q2
/-! ### f'{x:+}' of an int -/
theorem plus_field (a : Int) : intField' { fill := 32, align := 62, sign := some 43 } (decide (a < 0)) [] ((Nat.toDigits 10 a.natAbs).map fun c => (if (100 : Nat) == 88 then c.toUpper else c).toNat) [] 3 = Tx.plusT a := by
  have en : ((Nat.toDigits 10 a.natAbs).map fun c => (if (100 : Nat) == 88 then c.toUpper else c).toNat) = TL.numL a.natAbs := rfl
  rw [en]
  have ne := TL.numL_ne a.natAbs
  have e1 : (TL.numL a.natAbs).isEmpty = false := by
    cases h : TL.numL a.natAbs with
    | nil => exact absurd h ne
    | cons c r => rfl
  have pad : (-1 - 1 - ((TL.numL a.natAbs).length : Int)).toNat = 0 := by omega
  unfold intField' Tx.plusT Tx.plusL
  cases hd : decide (a < 0) with
  | true =>
    rw [if_pos (of_decide_eq_true hd)]
    simp [e1]
  | false =>
    rw [if_neg (of_decide_eq_false hd)]
    simp [e1]
open Builtin Builtin.Str Builtin.Int Builtin.Float in
theorem gives_plus (a : Int) (t u : Tok) (hd : a.natAbs.log2 < 1920) : Gives (Builtin.«int.__format__» ⟨[.int a t, .str (Str.ofString "+") u], []⟩) (.str (Tx.plusT a)) := by
  intro prog w A R s hq
  obtain ⟨f, hp, ff⟩ : ∃ f, parseFormatSpec (Str.ofString "+").cps.toList "int" 62 = .ok f ∧ f = { fill := 32, align := 62, sign := some 43 } := ⟨_, rfl, rfl⟩
  unfold Builtin.«int.__format__»
  simp only [selfAndOne, noKeywords, Int.intOfSelf, asInt?, asStr?, List.isEmpty_nil, if_true, pure_bind, bind_pure, bind_assoc, Bool.false_eq_true, if_false,
    show ((Str.ofString "+").length == 0) = false from rfl, show (Value.str (Str.ofString "+") u == Value.none) = false from rfl,
    show (((Str.ofString "+").cps.toList.drop 1).any (· ≥ 128) || ((Str.ofString "+").cps.getD 0 0 ≥ 128 && !([60, 62, 61, 94] : List Nat).contains ((Str.ofString "+").cps.getD 1 0))) = false from rfl]
  refine wpAny_bind (wpAny_typeNameOf (T := "str") (typeIs_str _ _ _) (by decide) fun _ => ?_)
  refine wpAny_bind (wpAny_typeNameOfCut_int ?_)
  have hty : f.type.getD (if (Str.ofString "+").cps.back? == some 0 then 0 else 100) = 100 := by subst ff; rfl
  simp only [hp, hty]
  rw [if_pos (by decide)]
  have hpr : f.precision = none := by subst ff; rfl
  have hz : f.noNeg0 = false := by subst ff; rfl
  have hw : ¬ (f.width.getD 0 > 100000) := by subst ff; decide
  show wpAny _ _ (if _ then _ else _) _ _ _
  rw [if_neg (by simp [hpr])]
  show wpAny _ _ (if _ then _ else _) _ _ _
  rw [if_neg (by simp [hz])]
  show wpAny _ _ (if _ then _ else _) _ _ _
  rw [if_neg (by decide)]
  show wpAny _ _ (do let r ← Builtin.overDigitLimit? a; _) _ _ _
  rw [PySem.overDigitLimit_small hd]
  show wpAny _ _ (if _ then _ else _) _ _ _
  rw [if_neg (by simpa using hw)]
  subst ff
  have key : ∀ Y : Str, Y = Tx.plusT a → wpAny (model prog w) A.in1 (retStr Y) (fun fin s' => match fin with
      | .done f => R (.ok f) s'
      | .again c' => c'.quiet = true ∧ codeAny (model prog w) A c' R s') (fun e s' => R (.error e) s') s := by
    intro Y e
    subst e
    unfold retStr
    refine wpAny_bind (wpAny_mkStr (wpAny_pure ?_) ?_)
    · exact hq.2
    · exact hq.1
  refine key _ (Eq.trans ?_ (plus_field a))
  simp only [Bool.false_eq_true, if_false, show ((10 : Nat) == 10) = true by decide, if_true]
  rfl
/-- {x:+} of an int -/
def tFmtP (te : TE) : TE := fun σ H Q => te σ H fun x H1 => ∃ i : Int, x = .int i ∧ i.natAbs.log2 < 1920 ∧ (Tx.plusT i).length ≤ sizeLine ∧ Q (.str (Tx.plusT i)) H1
theorem pe_fmtP {X : Cx} {e : Expr} {te : TE} {pos p1 p2 : Pos} {k} (he : PE X e te) : PE X (.FormattedValue e (-1) (some (.JoinedStr [.Constant (.str "+") k p1] p2)) pos) (tFmtP te) := by
  refine ⟨fun pins s σ H Q I h => ?_⟩
  refine wpAny_FormattedValue_spec (thn (he.run pins s σ H _ I h) fun v s1 hv => ?_)
  obtain ⟨x, H1, I1, r1, i, rfl, hd, hz, q⟩ := hv
  obtain ⟨t, rfl⟩ := r1
  have js : PE X (.JoinedStr [.Constant (.str "+") k p1] p2) (tC (.str "+")) := pe_joined1 pe_str
  refine thn (js.run pins s1 σ H1 (fun v H2 => v = .str "+" ∧ Q (.str (Tx.plusT i)) H2) I1 ⟨rfl, q⟩) fun r s2 hr => ?_
  obtain ⟨y, H2, I2, r2, ey, q2⟩ := hr
  subst ey
  obtain ⟨t2, rfl⟩ := r2
  refine ⟨_, t2, rfl, ?_⟩
  exact wpAny_formatField_spec (T := "int") (idf := "int.__format__") (B := Builtin.«int.__format__») (by decide) (fun s' => typeIs_int s' i t) PyProof.Rows.slot_int_format PyProof.Rows.entry_int_format (fun a b => PyProof.Rows.args_int_format a b) (fun u => gives_plus i t u hd)
    ⟨.str (Tx.plusT i), H2, I2.tok _, ⟨_, rfl⟩, q2⟩ (by decide) hz
end L2.Lr

set_option maxHeartbeats 1000000
/-! data and an empty dict, displays of them, what is asked of data: words for any law -/
namespace L2.Lr
open PySem PySem.Spec PyProof.Rows LR StX
theorem pe_gI {X : Cx} {x : Str} {i : Int} {t : Tok} {p : Pos} (hm : X.mg x = some (.int i t)) (hg : Gl X x := by rfl) (hd : (x == ("__debug__" : Str)) = false := by decide) : PE X (.Name x p) (tC (.int i)) := pe_glob hg hm (show RelV (.int i) (.int i t) from ⟨t, rfl⟩) hd
theorem pe_gS {X : Cx} {x : Str} {i : Str} {t : Tok} {p : Pos} (hm : X.mg x = some (.str i t)) (hg : Gl X x := by rfl) (hd : (x == ("__debug__" : Str)) = false := by decide) : PE X (.Name x p) (tC (.str i)) := pe_glob hg hm (show RelV (.str i) (.str i t) from ⟨t, rfl⟩) hd
theorem pe_never {X : Cx} {e : Expr} : PE X e (fun _ _ _ => False) := ⟨fun _ _ _ _ _ _ h => h.elim⟩
theorem bbI : bootBuiltins "int" = some (.type "int") := by decide +kernel
theorem bbB : bootBuiltins "bool" = some (.type "bool") := by decide +kernel
theorem bbT : bootBuiltins "tuple" = some (.type "tuple") := by decide +kernel
theorem bbS : bootBuiltins "str" = some (.type "str") := by decide +kernel
theorem bbL : bootBuiltins "list" = some (.type "list") := by decide +kernel
theorem bbV : bootBuiltins "ValueError" = some (.type "ValueError") := by decide +kernel
theorem passQ {X : Cx} {σ : St} {E : XK} : PassesAt CX0 X σ E := fun _ _ _ _ _ _ h => h.elim
theorem dec_vint {i j : Int} : decide (V.int i = V.int j) = decide (i = j) := by
  by_cases h : i = j
  · rw [decide_eq_true h, decide_eq_true (by rw [h])]
  · rw [decide_eq_false h, decide_eq_false fun z => h (V.int.inj z)]
theorem dec_vs (a b : Str) : decide (V.str a = V.str b) = decide (a = b) := by
  by_cases h : a = b
  · rw [decide_eq_true h, h, decide_eq_true rfl]
  · rw [decide_eq_false h, decide_eq_false fun q => h (V.str.inj q)]
theorem len_if {m : Nat} {n : Int} {A B : Prop} (h1 : (m : Int) = n → A) (h2 : (m : Int) ≠ n → B) : if decide (V.int (m : Int) = V.int n) = true then A else B :=
  ite_dec (fun h => h1 (V.int.inj h)) fun h => h2 fun z => h (by rw [z])
theorem len_ne {m : Nat} {n : Int} {A B : Prop} (h1 : (m : Int) ≠ n → A) (h2 : (m : Int) = n → B) : if (!decide (V.int (m : Int) = V.int n)) = true then A else B := by
  by_cases h : (m : Int) = n
  · rw [decide_eq_true (by rw [h])]
    exact iteF (h2 h)
  · rw [decide_eq_false fun z => h (V.int.inj z)]
    exact iteT (h1 h)
theorem int_if {m n : Int} {A B : Prop} (h1 : m = n → A) (h2 : m ≠ n → B) : if decide (V.int m = V.int n) = true then A else B :=
  ite_dec (fun h => h1 (V.int.inj h)) fun h => h2 fun z => h (by rw [z])
theorem int_ne {m n : Int} {A B : Prop} (h1 : m ≠ n → A) (h2 : m = n → B) : if (!decide (V.int m = V.int n)) = true then A else B := by
  by_cases h : m = n
  · rw [decide_eq_true (by rw [h])]
    exact iteF (h2 h)
  · rw [decide_eq_false fun z => h (V.int.inj z)]
    exact iteT (h1 h)
theorem str_if {x y : Str} {A B : Prop} (h1 : x = y → A) (h2 : x ≠ y → B) : if decide (V.str x = V.str y) = true then A else B := by
  rw [dec_vs]
  exact ite_dec h1 h2
theorem str_ne {x y : Str} {A B : Prop} (h1 : x ≠ y → A) (h2 : x = y → B) : if (!decide (V.str x = V.str y)) = true then A else B := by
  rw [dec_vs]
  by_cases h : x = y
  · rw [decide_eq_true h]
    exact iteF (h2 h)
  · rw [decide_eq_false h]
    exact iteT (h1 h)
theorem at0 {v : V} {vs : List V} : atI (v :: vs) 0 = some v := atI_nat (j := 0) rfl
theorem at1 {v u : V} {vs : List V} : atI (v :: u :: vs) 1 = some u := atI_nat (j := 1) rfl
theorem at2 {v u y : V} {vs : List V} : atI (v :: u :: y :: vs) 2 = some y := atI_nat (j := 2) rfl
section
variable {K : PySem.W.Frag}
theorem strD {H : Hp} {x : V} {w : Str} (h : Dp K H x (.str w)) : x = .str w := by cases h; rfl
theorem intDv {H : Hp} {x : V} {i : Int} (h : Dp K H x (.int i)) : x = .int i := by cases h; rfl
theorem nonDv {H : Hp} {x : V} (h : Dp K H x .none) : x = .non := by cases h; rfl
theorem tup2D {H : Hp} {x : V} {d e : PyData} (h : Dp K H x (.tuple [d, e])) : ∃ t v u, x = .ref t ∧ SqT K H t [v, u] ∧ Dp K H v d ∧ Dp K H u e := by
  cases h with
  | tup hS ha =>
    cases ha with
    | cons h1 h2 =>
      cases h2 with
      | cons h3 h4 =>
        cases h4
        exact ⟨_, _, _, rfl, hS, h1, h3⟩
theorem lstD {H : Hp} {x : V} {ds : List PyData} (h : Dp K H x (.list ds)) : ∃ a xs, x = .ref a ∧ SqL K H a xs ∧ DpAll K H xs ds := by
  cases h with
  | lst hS ha => exact ⟨_, _, rfl, hS, ha⟩
theorem tupDv {H : Hp} {x : V} {ds : List PyData} (h : Dp K H x (.tuple ds)) : ∃ a xs, x = .ref a ∧ SqT K H a xs ∧ DpAll K H xs ds := by
  cases h with
  | tup hS ha => exact ⟨_, _, rfl, hS, ha⟩
theorem tupD {H : Hp} {x : V} {d : PyData} {ds : List PyData} (h : Dp K H x (.tuple (d :: ds))) : ∃ t v vs, x = .ref t ∧ SqT K H t (v :: vs) ∧ Dp K H v d ∧ DpAll K H vs ds := by
  cases h with
  | tup hS ha =>
    cases ha with
    | cons h1 h2 => exact ⟨_, _, _, rfl, hS, h1, h2⟩
end
/-! ### what is asked of data -/
def isI : PyData → Bool
  | .int _ => true
  | _ => false
def betw (lo hi : Int) : PyData → Bool
  | .int i => decide (lo ≤ i) && decide (i ≤ hi)
  | _ => false
def countD : PyData → Bool
  | .tuple [.int a, .int b] => (decide (0 ≤ a) && decide (a ≤ 9)) && ((decide (-(10 ^ 30) ≤ b) && decide (b ≤ 10 ^ 30)) && (decide (a > 0) || decide (b ≥ 0)))
  | _ => false
theorem betw_int {lo hi : Int} {d : PyData} (h : betw lo hi d = true) : ∃ i, d = .int i ∧ lo ≤ i ∧ i ≤ hi := by
  cases d with
  | int i =>
    obtain ⟨h1, h2⟩ := Bool.and_eq_true_iff.mp (show (decide (lo ≤ i) && decide (i ≤ hi)) = true from h)
    exact ⟨i, rfl, of_decide_eq_true h1, of_decide_eq_true h2⟩
  | _ => cases h
theorem countD_two {d e : PyData} : countD (.tuple [d, e]) = (betw 0 9 d && (betw (-(10 ^ 30)) (10 ^ 30) e && (match d, e with | .int a, .int b => decide (a > 0) || decide (b ≥ 0) | _, _ => false))) := by
  cases d <;> cases e <;> first | rfl | (simp [countD, betw])
theorem countD_ints {d : PyData} (h : countD d = true) : ∃ a b, d = .tuple [.int a, .int b] := by
  unfold countD at h
  split at h
  · exact ⟨_, _, rfl⟩
  · cases h
/-- C(z) is what is raised -/
def Bad (C : Addr) (z : V) (H : Hp) (E : XK) : Prop := ∀ (d : Addr) (H' : Hp), Same H H' → H' d = some (.xd [("value", z)]) → E (.ref C) (some d) H'
theorem Bad.same {C : Addr} {z : V} {H H1 : Hp} {E : XK} (b : Bad C z H E) (s : Same H H1) : Bad C z H1 E := fun d H' s' h => b d H' (s.trans s') h
/-! ### data, or an empty dict -/
def DpE (K : PySem.W.Frag) (H : Hp) (x : V) (d : PyData) : Prop := Dp K H x d ∨ (d = .dict [] ∧ ∃ a, x = .ref a ∧ H a = some (.dK []))
theorem DpE.same {K : PySem.W.Frag} {H H' : Hp} {x : V} {d : PyData} (h : DpE K H x d) (s : Same H H') : DpE K H' x d := by
  rcases h with h | ⟨e, a, ex, h⟩
  · exact .inl (Dp.same s h)
  · exact .inr ⟨e, a, ex, s _ _ h⟩
theorem tyE {K : PySem.W.Frag} {H : Hp} {x : V} {d : PyData} (h : DpE K H x d) : TyX K H x (.type (tyN d)) := by
  rcases h with h | ⟨rfl, a, rfl, h⟩
  · exact tyD h
  · exact .base (.dK h)
def rReprE (K : PySem.W.Frag) : List V → Hp → VK → Prop := fun xs H Q => ∃ x d, xs = [x] ∧ DpE K H x d ∧ (Dp K H x d → d.showable = true ∧ d.shown.length ≤ sizeLine ∧ d.depth ≤ 60) ∧ Q (.str d.shown) H
theorem call_reprE {X : Cx} (K : PySem.W.Frag) (hK : X.K = K) (qA : Quiet X.A) (hu : X.A.units + 64 < cLine) : CallR X (.builtin "repr") (rReprE K) := by
  subst hK
  intro pins s σ H xs us Q I r h
  obtain ⟨x, d, rfl, hd, hs, q⟩ := h
  rcases hd with hd | ⟨rfl, a, rfl, ha⟩
  · obtain ⟨h1, h2, h3⟩ := hs hd
    exact call_repr qA hu pins s σ H _ _ Q I r ⟨x, d, rfl, hd, h1, h2, h3, q⟩
  · obtain ⟨u, rfl, ru⟩ := vals1 r
    cases ru
    obtain ⟨_, hne, vs, kv, o, es, ep, ho, hx, hdt, _, hes, _⟩ := I.hok a _ ha
    have hv : vs = [] := by
      cases kv
      rfl
    subst hv
    have he : es.toList = [] := by
      cases hl : es.toList with
      | nil => rfl
      | cons e r => rw [hl] at hes; cases hes
    have rd : Reads s.heap (.ref a) (.dict []) (a :: [] ++ []) := Reads.dict ho hx.1 hdt (by rw [he]; exact .nil) (by rw [he]; exact .nil)
    refine repr_of_reads' rd rfl (fun _ m => ?_) qA (by show X.A.units + (1 + 1) < cLine; omega) (fun _ _ e => e) (fun h' u tk k => ⟨.str (PyData.dict []).shown, H, I.kept (t' := tk) k, ⟨_, rfl⟩, q⟩) (by decide +kernel)
    simp at m
    rw [← m] at hne
    simp at hne
/-! ### isinstance(x, (list, tuple)) -/
def seqD : PyData → Bool
  | .list _ => true
  | .tuple _ => true
  | _ => false
theorem any_f {K : PySem.W.Frag} {n : String} (h1 : kitB n "list" = some false) (h2 : kitB n "tuple" = some false) : PySem.W.kitAny K (.type n) [.type "list", .type "tuple"] = some false :=
  kitAny_cons (kit_ty h1) (fun _ => kitAny_cons (kit_ty h2) (fun _ => rfl) fun z => nomatch z) fun z => nomatch z
theorem seq_any {K : PySem.W.Frag} (d : PyData) : PySem.W.kitAny K (.type (tyN d)) [.type "list", .type "tuple"] = some (seqD d) := by
  cases d with
  | none => exact any_f (n := "NoneType") (by decide +kernel) (by decide +kernel)
  | bool _ => exact any_f (n := "bool") (by decide +kernel) (by decide +kernel)
  | int _ => exact any_f (n := "int") (by decide +kernel) (by decide +kernel)
  | str _ => exact any_f (n := "str") (by decide +kernel) (by decide +kernel)
  | dict _ => exact any_f (n := "dict") (by decide +kernel) (by decide +kernel)
  | list _ => exact kitAny_cons (kit_ty (by decide +kernel : kitB "list" "list" = some true)) (fun z => nomatch z) fun _ => rfl
  | tuple _ => exact kitAny_cons (kit_ty (by decide +kernel : kitB "tuple" "list" = some false)) (fun _ => kitAny_cons (kit_ty (by decide +kernel : kitB "tuple" "tuple" = some true)) (fun z => nomatch z) fun _ => rfl) fun z => nomatch z
def tIsE (K : PySem.W.Frag) (t : String) (te : TE) : TE := fun σ H Q => te σ H fun x H1 => ∃ d b, DpE K H1 x d ∧ kitB (tyN d) t = some b ∧ Q (.bl b) H1
theorem pe_isE {X : Cx} {e e2 : Expr} {te : TE} {p pos : Pos} {t : String} (hm : X.mg "isinstance" = none) (ha : PE X e te) (pe2 : PE X e2 (tC (.ty t))) (hg : Gl X "isinstance" := by rfl)
    (he : starEach (e :: [e2]) X.env = (false, eval e X.env) :: starEach [e2] X.env := by rfl) (he2 : starEach (e2 :: []) X.env = (false, eval e2 X.env) :: starEach [] X.env := by rfl) (hpl : (backTo pos (starEach [e2] X.env)).any (·.1) = false := by rfl) :
    PE X (.Call (.Name "isinstance" p) [e, e2] [] pos) (tIsE X.K t te) :=
  pe_weak (pe_callB (e := e) (es := [e2]) call_isi hg hm boot_isinstance (pa_cons (pe_up ha) (pa_cons pe2 pa_nil he2) he) (by decide) (by decide) he hpl) fun σ H Q q => ⟨_, q, fun x H1 ⟨d, b, hd, hk, q1⟩ => ⟨x, .ty t, .type (tyN d), .type t, b, rfl, .ty t, tyE hd, kit_ty hk, q1⟩⟩
theorem pe_isDK {X : Cx} {e e2 : Expr} {te : TE} {p pos : Pos} {t : String} (K : PySem.W.Frag) (hK : X.K = K) (hm : X.mg "isinstance" = none) (ha : PE X e te) (pe2 : PE X e2 (tC (.ty t))) (hg : Gl X "isinstance" := by rfl)
    (he : starEach (e :: [e2]) X.env = (false, eval e X.env) :: starEach [e2] X.env := by rfl) (he2 : starEach (e2 :: []) X.env = (false, eval e2 X.env) :: starEach [] X.env := by rfl) (hpl : (backTo pos (starEach [e2] X.env)).any (·.1) = false := by rfl) :
    PE X (.Call (.Name "isinstance" p) [e, e2] [] pos) (tIsD K t te) := by
  subst hK
  exact pe_isD hm ha pe2 hg he he2 hpl
def NiceE (d : PyData) : Prop := d = .dict [] ∨ Nice 390000 60 d
def niceB (d : PyData) : Bool := match d with
  | .dict [] => true
  | d => fine d && (decide (d.weight ≤ 390000) && decide (d.depth ≤ 60))
theorem niceB_ok {d : PyData} (h : niceB d = true) : NiceE d := by
  unfold niceB at h
  split at h
  · exact .inl rfl
  · obtain ⟨h1, h⟩ := Bool.and_eq_true_iff.mp h
    obtain ⟨h2, h3⟩ := Bool.and_eq_true_iff.mp h
    exact .inr ⟨h1, of_decide_eq_true h2, of_decide_eq_true h3⟩
theorem shown_ok {K : PySem.W.Frag} {H : Hp} {x : V} {d : PyData} (hn : NiceE d) (h : Dp K H x d) : d.showable = true ∧ d.shown.length ≤ sizeLine ∧ d.depth ≤ 60 := by
  rcases hn with rfl | hn
  · cases h
  · obtain ⟨h1, h2⟩ := hn.shown (Nat.le_refl _)
    exact ⟨h1, h2, hn.dp⟩
theorem nice_str {W : Nat} {x : Str} (h : ∀ c ∈ x.cps.toList, c < 1114112) (hl : x.length ≤ W) : Nice W 0 (.str x) := by
  refine ⟨?_, by simp only [PyData.weight]; exact hl, by simp [PyData.depth]⟩
  have e1 : PyData.canLay0 (.str x) = true := by
    simp only [PyData.canLay0]
    unfold PyData.strOk
    rw [← Array.all_toList, List.all_eq_true]
    intro c hc
    simpa using h c hc
  have e2 : PyData.leavesShort 40 (.str x) = true := by
    simp only [PyData.leavesShort, List.all_eq_true, decide_eq_true_eq]
    intro c hc
    have := h c hc
    omega
  have e3 : PyData.showable (.str x) = true := by simp [PyData.showable]
  show (PyData.canLay0 (.str x) && (PyData.leavesShort 40 (.str x) && PyData.showable (.str x))) = true
  rw [e1, e2, e3]
  rfl
/-- a == b, two lists of the very same things -/
theorem op_eqS {X : Cx} (hu : X.A.units + 64 < cLine) : OpR X (compareOp .Eq) (fun x y H Q => ∃ a b xs, x = .ref a ∧ y = .ref b ∧ SqL X.K H a xs ∧ SqL X.K H b xs ∧ (∀ v ∈ xs, flatB v = true ∨ ∃ r, v = .ref r) ∧ Q (.bl true) H) := by
  intro pins s σ H x y v u Q I rx ry h
  obtain ⟨a, b, xs, rfl, rfl, ha, hb, hi, q⟩ := h
  cases rx
  cases ry
  obtain ⟨us, r1, p1, _⟩ := I.list ha
  obtain ⟨ws, r2, p2, _⟩ := I.list hb
  have hsz : us.toArray.size = ws.toArray.size := by rw [List.size_toArray, List.size_toArray, ← r1.length, ← r2.length]
  have he : ∀ j (h1 : j < us.toArray.size) (h2 : j < ws.toArray.size), SeqAt.EqAt X.A.in1 s us.toArray[j] ws.toArray[j] true := by
    intro j h1 h2
    have l1 : j < us.length := by simpa using h1
    have l2 : j < ws.length := by simpa using h2
    have hj : j < xs.length := by rw [r1.length]; exact l1
    obtain ⟨u1, e1, q1⟩ := r1.get (List.getElem?_eq_getElem hj)
    obtain ⟨u2, e2, q2⟩ := r2.get (List.getElem?_eq_getElem hj)
    have z1 : us.toArray[j] = u1 := by
      have := List.getElem?_eq_getElem l1
      rw [e1] at this
      simpa using (Option.some.inj this).symm
    have z2 : ws.toArray[j] = u2 := by
      have := List.getElem?_eq_getElem l2
      rw [e2] at this
      simpa using (Option.some.inj this).symm
    rw [z1, z2]
    rcases hi xs[j] (List.getElem_mem hj) with f | ⟨r, er⟩
    · exact eqAt_same q1 q2 f
    · rw [er] at q1 q2
      cases q1
      cases q2
      exact SeqAt.EqAt.same _
  have z := SeqAt.RcAt.lists (e := fun _ => true) p1.isList p2.isList hsz (show X.A.units < cLine by omega) he X.prog X.w X.xe (EP X pins σ Q)
  refine z ?_
  rw [show (List.range us.toArray.size).all (fun _ => true) = true from List.all_eq_true.mpr fun _ _ => rfl]
  exact ⟨.bl true, H, I, rfl, q⟩
/-! ### displays with an empty dict among them -/
inductive EAll (K : PySem.W.Frag) (H : Hp) : List V → List PyData → Prop where
  | nil : EAll K H [] []
  | cons {v : V} {vs : List V} {d : PyData} {ds : List PyData} : DpE K H v d → EAll K H vs ds → EAll K H (v :: vs) (d :: ds)
theorem EAll.same {K : PySem.W.Frag} {H H' : Hp} (s : Same H H') : ∀ {vs : List V} {ds : List PyData}, EAll K H vs ds → EAll K H' vs ds
  | _, _, .nil => .nil
  | _, _, .cons h a => .cons (h.same s) (EAll.same s a)
theorem EAll.length {K : PySem.W.Frag} {H : Hp} : ∀ {vs : List V} {ds : List PyData}, EAll K H vs ds → vs.length = ds.length
  | _, _, .nil => rfl
  | _, _, .cons _ a => by simp [EAll.length a]
theorem EAll.append {K : PySem.W.Frag} {H : Hp} : ∀ {vs us : List V} {ds es : List PyData}, EAll K H vs ds → EAll K H us es → EAll K H (vs ++ us) (ds ++ es)
  | _, _, _, _, .nil, b => b
  | _, _, _, _, .cons h a, b => .cons h (EAll.append a b)
theorem EAll.at {K : PySem.W.Frag} {H : Hp} : ∀ {vs : List V} {ds : List PyData} {i : Nat} {v : V}, EAll K H vs ds → vs[i]? = some v → ∃ d, ds[i]? = some d ∧ DpE K H v d
  | _, _, _, _, .nil, e => by simp at e
  | _, _, 0, _, .cons h a, e => by simp at e; subst e; exact ⟨_, rfl, h⟩
  | _ :: vs, _ :: ds, i + 1, v, .cons h a, e => EAll.at (vs := vs) (ds := ds) (i := i) a (by simpa using e)
def tE (K : PySem.W.Frag) (d : PyData) : TE := fun _ H Q => ∀ v H', Same H H' → DpE K H' v d → Q v H'
def tEs (K : PySem.W.Frag) (ds : List PyData) : TA := fun _ H Q => ∀ vs H', Same H H' → EAll K H' vs ds → Q vs H'
def tEL (K : PySem.W.Frag) (ds : List PyData) : TE := fun _ H Q => ∀ p vs H', Same H H' → H' p = some (.lst vs) → EAll K H' vs ds → Q (.ref p) H'
theorem DpAll.rep {K : PySem.W.Frag} {H : Hp} {xs : List V} {ds : List PyData} (h : DpAll K H xs ds) : ∀ n : Nat, DpAll K H (List.replicate n xs).flatten (List.replicate n ds).flatten
  | 0 => .nil
  | n + 1 => by
    rw [List.replicate_succ, List.replicate_succ, List.flatten_cons, List.flatten_cons]
    exact DpAll.append h (DpAll.rep h n)
section
variable {X : Cx} {e : Expr} {es : List Expr} {d : PyData} {ds : List PyData} {p pos : Pos}
theorem pe_ofD (h : PE X e (tDat X.K d)) : PE X e (tE X.K d) := pe_weak h fun σ H Q q v H' s hd => q v H' s (.inl hd)
theorem pe_emptyD : PE X (.Dict [] [] pos) (tE X.K (.dict [])) := pe_weak pe_dnewK fun σ H Q q p np => q _ _ (same_upd np) (.inr ⟨rfl, p, rfl, upd_same⟩)
theorem pE_nil : PA X [] (tEs X.K []) := pa_weak pa_nil fun σ H Q q => q [] H (Same.refl H) .nil
theorem pE_cons (h1 : PE X e (tE X.K d)) (h2 : PA X es (tEs X.K ds)) (hs : starEach (e :: es) X.env = (false, eval e X.env) :: starEach es X.env := by rfl) : PA X (e :: es) (tEs X.K (d :: ds)) :=
  pa_weak (pa_cons h1 h2 hs) fun σ H Q q v H1 s1 h1 vs H2 s2 h2 => q (v :: vs) H2 (s1.trans s2) (.cons (h1.same s2) h2)
theorem pE_lst {x1} (h : PA X es (tEs X.K ds)) (hz : ds.length ≤ sizeLine := by show _ ≤ _; decide) : PE X (.List es x1) (tEL X.K ds) :=
  pe_weak (pe_lst h) fun σ H Q q vs H1 s1 h1 => ⟨by rw [EAll.length h1]; exact hz, fun p np => q p vs _ (s1.trans (same_upd np)) upd_same (h1.same (same_upd np))⟩
theorem pd_rep {n : Int} {k} (h : PE X e (tDat X.K (.tuple ds))) (hd : ds ≠ []) (h2 : 2 ≤ n) (h3 : n ≤ 1000) (hl : ds.length ≤ 1000) : PE X (.BinOp e .Mult (.Constant (.int n) k p) pos) (tDat X.K (.tuple (List.replicate n.toNat ds).flatten)) :=
  pe_weak (pe_op op_repT h pe_int) fun σ H Q q v H1 s1 hv => by
    cases hv with
    | @tup a xs _ hS ha =>
      have hlx := DpAll.length ha
      exact ⟨a, n, xs, rfl, rfl, hS, fun z => hd (by rw [z] at hlx; exact List.length_eq_zero_iff.mp hlx.symm), h2, h3, by rw [hlx]; exact hl, fun t nt => q _ _ (s1.trans (same_upd nt)) (.tup (SqT.of upd_same) (DpAll.same (same_upd nt) (DpAll.rep ha _)))⟩
end
def tTupOf (K : PySem.W.Frag) (te : TE) : TE := fun σ H Q => te σ H fun x H1 => ∃ d ds, Dp K H1 x d ∧ (d = .tuple ds ∨ d = .list ds) ∧ ∀ y H2, Same H1 H2 → Dp K H2 y (.tuple ds) → Q y H2
theorem pe_tupOf {X : Cx} {e : Expr} {te : TE} {p pos : Pos} (hm : X.mg "tuple" = none) (ha : PE X e te) (hg : Gl X "tuple" := by rfl) (he : starEach (e :: []) X.env = (false, eval e X.env) :: starEach [] X.env := by rfl) (hpl : (backTo pos (starEach [] X.env)).any (·.1) = false := by rfl) : PE X (.Call (.Name "tuple" p) [e] [] pos) (tTupOf X.K te) :=
  pe_weak (pe_callTy (e := e) (es := []) call_tuple_of hg hm bbT (pa_cons (pe_up ha) pa_nil he) (by decide) (by decide) he hpl) fun σ H Q q => ⟨_, q, fun x H1 ⟨d, ds, hx, hd, q1⟩ => by
    rcases hd with rfl | rfl
    · cases hx with
      | @tup a xs _ hS ha => exact ⟨a, xs, rfl, .inr ⟨hS, q1 _ _ (Same.refl _) (.tup hS ha)⟩⟩
    · cases hx with
      | @lst a xs _ hS ha => exact ⟨a, xs, rfl, .inl ⟨hS, fun l nl => q1 _ _ (same_upd nl) (.tup (SqT.of upd_same) (DpAll.same (same_upd nl) ha))⟩⟩⟩
theorem lc_strG {x : Str} {g : TG} {tt : TT} {te : TE} {vs : List Nat} {σ : St} {H1 : Hp} {D : Addr} {Qd : Hp → Prop} (Pv : Nat → Hp → Prop) (h0 : Pv 0 (upd H1 D (.lst [])))
    (hs : ∀ i c H, x.cps[i]? = some c → Pv i H → g (.str ⟨#[c]⟩) (wipe σ vs) H fun σ2 H2 => wipe σ2 vs = wipe σ vs ∧ tt σ2 H2 fun b H3 =>
      if b = true then te σ2 H3 fun y H4 => ∃ acc, H4 D = some (.lst acc) ∧ acc.length < sizeLine ∧ Pv (i + 1) (upd H4 D (.lst (acc ++ [y]))) else Pv (i + 1) H3) (hd : ∀ H, Pv x.cps.size H → Qd H) :
    ∃ W : Nat → Nat → Hp → Prop, (∃ m, W 0 m (upd H1 D (.lst []))) ∧ ∀ i m H, W i m H →
      ((Its x).stop i H ∧ Qd H) ∨ ((Its x).go i H ∧ ∃ Nx : Hp → Prop, (∀ H', Nx H' → ∃ m', m' < m ∧ W (i + 1) m' H') ∧ ∀ y H', (Its x).yld i H y H' → g y (wipe σ vs) H' fun σ2 H2 => wipe σ2 vs = wipe σ vs ∧ tt σ2 H2 fun b H3 =>
        if b = true then te σ2 H3 fun z H4 => ∃ acc, H4 D = some (.lst acc) ∧ acc.length < sizeLine ∧ Nx (upd H4 D (.lst (acc ++ [z]))) else Nx H3) := by
  refine ⟨fun i m H => m + i = x.cps.size ∧ Pv i H, ⟨x.cps.size, rfl, h0⟩, fun i m H ⟨e, p⟩ => ?_⟩
  by_cases hlt : i < x.cps.size
  · refine .inr ⟨hlt, Pv (i + 1), fun H' p' => ⟨m - 1, by omega, by omega, p'⟩, fun y H' ⟨eH, c, hc, ey⟩ => ?_⟩
    subst eH ey
    exact hs i c _ hc p
  · have ei : i = x.cps.size := by omega
    subst ei
    exact .inl ⟨Nat.le_refl _, hd H p⟩

end L2.Lr

set_option maxHeartbeats 400000
/-! the same where something may be raised: C(..), a op b, o(..), C.f(..); a != b, a == b of unlike kinds -/
namespace L2.Lr
open PySem PySem.Spec PyProof.Rows LR StX
section
variable {X : Cx} {CX : CXT} {k n : Nat} {f C : Addr} {fd : FuncData} {ps : List Str} {sp : Sp}
theorem run_atS {A : Around} {pins : List (Addr × Obj)} {σ : St} {H : Hp} {s : Shared} {Q : VK} {E : XK} {us : List Value} {vs : List V} (sb : Sub X k A) (F : FnOk X.prog X.w X.K X.mg X.base CX k f fd ps sp) (hb : Binds X.K fd ps []) (hx : PassesAt CX X σ E)
    (I : Inv X pins σ H s) (r : Vals vs us) (h : sp vs H Q E) : wpAny (model X.prog X.w) A (call (.ref f) us) (EP X pins σ Q) X.xe s := by
  have e := I.env0
  have e0 : Env0 X.prog X.w X.K X.mg X.base A X.stack s H := ⟨sb.fr.trans e.frames, e.mod, e.bs, e.bsz, e.funs, e.frf, e.hok, e.bare⟩
  have hl : us.length = ps.length := r.length.symm.trans (F.len _ _ _ _ h)
  refine wpAny_call (codeAny_mono (F.run A X.stack s H ⟨us, []⟩ us vs Q E sb.room e0 (by simpa using hb s us I.kIn (by simpa using hl)) r h) fun r s' hq => ?_)
  match r, hq with
  | .error e, hq => exact hx pins H s e s' I hq
  | .ok (.ret u), hq => exact I.after hq
  | .ok .next, hq => exact hq.elim
  | .ok .brk, hq => exact hq.elim
  | .ok .cont, hq => exact hq.elim
/-- C(..) in a try -/
def tMakeS (C : Addr) (sp : Sp) (E : St → XK) (t : TA) : TE := fun σ H Q => t σ H fun vs H1 => ∀ x dx, H1 x = none → H1 dx = none → dx ≠ x → sp (.ref x :: vs) (upd (upd H1 dx (.own x)) x (.ins C dx [])) (fun v H2 => v = .non ∧ Q (.ref x) H2) (E σ)
theorem pe_makeS {E : St → XK} {x : Str} {p pos : Pos} {e : Expr} {es : List Expr} {t : TA} (M : Mk X.K C f) (F : FnOk X.prog X.w X.K X.mg X.base CX k f fd ps sp) (hr : Room (k + 1) X.A) (hg : Gl X x) (hm : X.mg x = some (.ref C)) (hb : Binds X.K fd ps []) (hx : ∀ σ, PassesAt CX X σ (E σ)) (ha : PA X (e :: es) t)
    (hdb : (x == ("__debug__" : Str)) = false := by decide) (he : starEach (e :: es) X.env = (false, eval e X.env) :: starEach es X.env := by rfl) (hpl : (backTo pos (starEach es X.env)).any (·.1) = false := by rfl) :
    PE X (.Call (.Name x p) (e :: es) [] pos) (tMakeS C sp E t) := by
  refine ⟨fun pins s0 σ H Q I0 h => wpAny_Call_Name_kw (ld_glob I0 hg hm (PySem.W.callWith_K (h₀ := X.base) I0.ok.mod.kin M.kp (thn (ha.run pos pins s0 σ H _ I0 h) fun us s ⟨vs, H1, I, r, q⟩ => ⟨I.kIn, ?_⟩) he hpl) hdb)⟩
  have hq := q (s.heap.objs.size + 1) s.heap.objs.size (I.hok.fresh (Nat.le_succ _)) (I.hok.fresh (Nat.le_refl _)) (Nat.ne_of_lt (Nat.lt_succ_self _))
  have I2 := Inv.made (C := C) I
  have r2 : Vals (V.ref (s.heap.objs.size + 1) :: vs) (Value.ref (s.heap.objs.size + 1) :: us) := .cons rfl r
  have hl : (Value.ref (s.heap.objs.size + 1) :: us).length = ps.length := r2.length.symm.trans (F.len _ _ _ _ hq)
  have bb : ∀ s2 : Shared, X.K.In s2.heap → BindsTo s2 fd ⟨Value.ref (s.heap.objs.size + 1) :: us, []⟩ (ps.zip (Value.ref (s.heap.objs.size + 1) :: us)) := fun s2 h2 => by simpa using hb s2 (Value.ref (s.heap.objs.size + 1) :: us) h2 (by simpa using hl)
  refine wpAny_call (make_map (f := f) I.kIn M.makes M.init (beq_iff_eq.mp M.fn) (codeAny_mono (F.run _ X.stack _ _ ⟨Value.ref (s.heap.objs.size + 1) :: us, []⟩ _ _ _ (E σ) (hr.make C us []) (I2.env0.make C us []) (bb _ I2.kIn) r2 hq) fun z s' hz => ?_))
  match z, hz with
  | .error e, hz => exact hx σ pins _ _ e s' I2 hz
  | .ok (.ret u), hz =>
    obtain ⟨v, H', I3, rv, ev, q3⟩ := I2.after hz
    subst ev
    exact ⟨rv, ⟨.ref (s.heap.objs.size + 1), H', I3, rfl, q3⟩⟩
  | .ok .next, hz => exact hz.elim
  | .ok .brk, hz => exact hz.elim
  | .ok .cont, hz => exact hz.elim
/-! ### operators -/
/-- a two-place operation at these slots -/
def OpA (X : Cx) (σ : St) (g : Value → Value → Sem Value) (r : R2) : Prop := ∀ (pins : List (Addr × Obj)) (s : Shared) (H : Hp) (x y : V) (v u : Value) (Q : VK), Inv X pins σ H s → RelV x v → RelV y u → r x y H Q → wpAny (model X.prog X.w) X.A (g v u) (EP X pins σ Q) X.xe s
def tOpA (r : St → R2) (ta tb : TE) : TE := fun σ H Q => ta σ H fun x H1 => tb σ H1 fun y H2 => r σ x y H2 Q
theorem pe_opA {a b : Expr} {ta tb : TE} {pos : Pos} {op : Operator} {r : St → R2} (ho : ∀ σ, OpA X σ (binaryOp op) (r σ)) (ha : PE X a ta) (hb : PE X b tb) : PE X (.BinOp a op b pos) (tOpA r ta tb) :=
  ⟨fun pins s σ H Q I h => wpAny_BinOp (binT ha hb (R := fun x y H2 => r σ x y H2 Q) I h fun v u s2 x y H2 I2 rx ry q => ho σ pins s2 H2 x y v u Q I2 rx ry q)⟩
/-- the kind of a value that is no own instance -/
inductive KindV (K : PySem.W.Frag) (H : Hp) : V → String → Prop where
  | non : KindV K H .non "NoneType"
  | bl (b : Bool) : KindV K H (.bl b) "bool"
  | int (i : Int) : KindV K H (.int i) "int"
  | str (x : Str) : KindV K H (.str x) "str"
  | lst {a : Addr} {xs : List V} (h : SqL K H a xs) : KindV K H (.ref a) "list"
  | tup {a : Addr} {xs : List V} (h : SqT K H a xs) : KindV K H (.ref a) "tuple"
theorem looks_ref {M : Model} {h : Heap} {a : Addr} {o : Obj} (e : h.get? a = some o) : PySem.W.Looks M h (typeOf (.ref a)) o.cls := fun A Q E s kp q => wpAny_typeOf_ref (kp _ _ e) q
theorem kind_looks {pins : List (Addr × Obj)} {σ : St} {H : Hp} {s : Shared} {x : V} {u : Value} {t : String} (I : Inv X pins σ H s) (h : KindV X.K H x t) (r : RelV x u) {M : Model} : PySem.W.Looks M s.heap (typeOf u) (.type t) := by
  cases h with
  | non => cases r; exact PySem.W.Looks.of_pure rfl
  | bl b => cases r; exact PySem.W.Looks.of_pure rfl
  | int i => obtain ⟨k, rfl⟩ := r; exact PySem.W.Looks.of_pure rfl
  | str i => obtain ⟨k, rfl⟩ := r; exact PySem.W.Looks.of_pure rfl
  | lst h =>
    cases r
    obtain ⟨its, rv, hl, _⟩ := I.list h
    obtain ⟨o, n, e, c, _⟩ := hl
    have z := looks_ref (M := M) e
    rw [c] at z
    exact z
  | tup h =>
    cases r
    obtain ⟨its, rv, hl, _⟩ := I.tuple h
    obtain ⟨o, e, c, _⟩ := hl
    have z := looks_ref (M := M) e
    rw [c] at z
    exact z
/-- the names of the kinds -/
def kinds : List String := ["NoneType", "bool", "int", "str", "list", "tuple"]
theorem KindV.mem {K : PySem.W.Frag} {H : Hp} {x : V} {t : String} (h : KindV K H x t) : t ∈ kinds := by
  cases h <;> decide
/-- what a class's own def for an operator must have, beside all kinds -/
structure OwnOps (K : PySem.W.Frag) (C f : Addr) (op : Operator) : Prop where
  at_ : PySem.W.findIn K (.ref C) (PySem.dunder op.info.2) = some (some (.ref f))
  fn : PySem.W.isFn K (.ref f) = true
  first : PySem.W.selfFirst K C = true
  rc : PySem.W.findIn K (.ref C) (dunderR op.info.2) = some none
  ks : ∀ t ∈ kinds, (PySem.W.findIn K (.type t) (PySem.dunder op.info.2)).isSome = true ∧ (PySem.W.findIn K (.type t) (dunderR op.info.2)).isSome = true ∧ PySem.W.subIn K (.type t) (.ref C) = some false
def kindB (K : PySem.W.Frag) (C : Addr) (op : Operator) (t : String) : Bool := (PySem.W.findIn K (.type t) (PySem.dunder op.info.2)).isSome && ((PySem.W.findIn K (.type t) (dunderR op.info.2)).isSome && decide (PySem.W.subIn K (.type t) (.ref C) = some false))
def ownsB (K : PySem.W.Frag) (C f : Addr) (op : Operator) : Bool := He.eqO (PySem.W.findIn K (.ref C) (PySem.dunder op.info.2)) (some (some (.ref f))) && (PySem.W.isFn K (.ref f) && (PySem.W.selfFirst K C && (He.eqO (PySem.W.findIn K (.ref C) (dunderR op.info.2)) (some none) && kinds.all (kindB K C op))))
theorem ownsB_ok {K : PySem.W.Frag} {op : Operator} (q : ownsB K C f op = true) : OwnOps K C f op := by
  obtain ⟨q1, q⟩ := He.ba q
  obtain ⟨q2, q⟩ := He.ba q
  obtain ⟨q3, q⟩ := He.ba q
  obtain ⟨q4, q5⟩ := He.ba q
  refine ⟨He.eqO_ok q1, q2, q3, He.eqO_ok q4, fun t ht => ?_⟩
  obtain ⟨a1, a⟩ := He.ba (List.all_eq_true.mp q5 t ht)
  obtain ⟨a2, a3⟩ := He.ba a
  exact ⟨a1, a2, of_decide_eq_true a3⟩
open PySem.W in
/-- a op b where b is of a built-in kind, told by a look -/
theorem bin_kind {prog : Program} {w : World} {A : Around} {W : Value → Shared → Prop} {s : Shared} {K : Frag} {x : Addr} {h₀ : Heap} {L : Addr} {m : Str → Option Value} {ox : Obj} {od : Option Obj} {op : Operator} {b : Value} {t : String} {Q : Value → Shared → Prop}
    (F : Fr h₀ L s.heap m) (X0 : K.In h₀) (I : InstAt s.heap x ox C od) (hb : Looks (model prog w) s.heap (typeOf b) (.type t)) (o : OwnOps K C f op) (ht : t ∈ kinds)
    (h : wpAny (model prog w) A (call (.ref f) [.ref x, b]) (PySem.W.CmpBack Q) W s) : wpAny (model prog w) A (binaryOp op (.ref x) b) Q W s := by
  have X := X0.keeps F.keep
  obtain ⟨cd, rest, hcd, hm⟩ := ksp_first o.first
  obtain ⟨k1, k2, k3⟩ := o.ks t ht
  obtain ⟨fo, h1⟩ := Option.isSome_iff_exists.mp k1
  obtain ⟨ro, h2⟩ := Option.isSome_iff_exists.mp k2
  have hs := o.at_
  have hr := o.rc
  rcases hi : op.info with ⟨sym, nm⟩
  rw [hi] at hs hr h1 h2
  dsimp only at hs hr h1 h2
  have one := ksp_try X I hs o.fn h
  obtain ⟨hh, g, d, tt, os⟩ := s
  have l1 : Looks (model prog w) hh (typeOf (.ref x)) (.ref C) := I.type
  have l2 : Looks (model prog w) hh (typeOf b) (.type t) := hb
  have l3 : Looks (model prog w) hh (fillsNumberSlot (.ref C) nm) true := fills_K X hcd hm hs
  have l4 : Looks (model prog w) hh (fillsNumberSlot (.type t) nm) ((fo.isSome && !isSeqSlot fo) || (ro.isSome && !isSeqSlot ro)) := ksp_fillsT X h1 h2
  have l5 : Looks (model prog w) hh (isSubtype (.type t) (.ref C)) false := looks_subIn X k3
  have l6 : Looks (model prog w) hh (numberSlotInPython (.ref C) nm) true := ksp_inPy X hs hr (.inl rfl)
  have l7 : Looks (model prog w) hh (numberSlotInPython (.type t) nm) false := Looks.of_pure rfl
  have l8 : Looks (model prog w) hh (typeLookup (.type t) (dunderR nm)) ro := looks_findIn X h2
  generalize ((fo.isSome && !isSeqSlot fo) || (ro.isSome && !isSeqSlot ro)) = right at l4
  have ne : (Value.ref C == Value.type t) = false := Bool.eq_false_iff.mpr fun q => by cases beq_iff_eq.mp q
  simp only [binaryOp, hi]
  refine wpAny_holding (wpAny_bind ?_)
  unfold binaryOp1
  refine wpAny_bind (l1.at (wpAny_bind (l2.at (wpAny_bind (l3.at ?_)))))
  simp only [ne, Bool.false_eq_true, if_false]
  cases right <;>
  · ksp_lk
    refine wpAny_mono one (fun r s' z => ?_) fun _ _ z => z
    obtain ⟨v, rfl, q⟩ := z
    ksp_lk
    exact q
/-- a op b, by the left one's own def, in a try -/
theorem op_ownA {op : Operator} {E : St → XK} (o : OwnOps X.K C f op) (F : FnOk X.prog X.w X.K X.mg X.base CX k f fd ps sp) (hr : Room k X.A) (hb : Binds X.K fd ps []) (hx : ∀ σ, PassesAt CX X σ (E σ)) (σ : St) :
    OpA X σ (binaryOp op) (fun x y H Q => ∃ a dx fs, x = .ref a ∧ H a = some (.ins C dx fs) ∧ ((∃ t, KindV X.K H y t) ∨ ∃ b dy gs, y = .ref b ∧ H b = some (.ins C dy gs)) ∧ sp [.ref a, y] H Q (E σ)) := by
  intro pins s H x y v u Q I rx ry h
  obtain ⟨a, dx, fs, rfl, ha, hy, h⟩ := h
  cases rx
  obtain ⟨ox, od, J, _⟩ := insC_at I (.inr ⟨dx, fs, ha⟩)
  obtain ⟨m, hF⟩ := I.fr
  have run := wpAny_mono (run_atS (A := X.A) ⟨hr, rfl⟩ F hb (hx σ) I (vs := [.ref a, y]) (us := [.ref a, u]) (.cons rfl (.cons ry .nil)) h) (fun v s' z => cmp_back z) fun _ _ z => z
  rcases hy with ⟨t, hk⟩ | ⟨b, dy, gs, rfl, hb'⟩
  · exact bin_kind hF I.ok.mod.kin J (kind_looks I hk ry) o hk.mem run
  · cases ry
    obtain ⟨oy, od', J', _⟩ := insC_at I (.inr ⟨dy, gs, hb'⟩)
    exact PySem.W.binop_K hF I.ok.mod.kin J J'.type o.first o.at_ o.fn run
/-- o(..) in a try -/
def tCallOS (X : Cx) (C : Addr) (sp : Sp) (E : St → XK) (tf : TE) (t : TA) : TE := fun σ H Q => tf σ H fun y H1 => ∃ a, y = V.ref a ∧ t σ H1 fun vs H2 => InsC X H2 a C ∧ sp (V.ref a :: vs) H2 Q (E σ)
theorem pe_callOS {E : St → XK} {fe e : Expr} {es : List Expr} {tf : TE} {t : TA} {pos : Pos} (hf : PE X fe tf) (c : CallO X.K C f) (F : FnOk X.prog X.w X.K X.mg X.base CX k f fd ps sp) (hr : Room k X.A) (hb : Binds X.K fd ps []) (hx : ∀ σ, PassesAt CX X σ (E σ)) (ha : PA X (e :: es) t)
    (ht : eval (.Call fe (e :: es) [] pos) X.env = (do callWith pos (← eval fe X.env) [] (backTo pos (starEach (e :: es) X.env)) (backToKw pos (keywordEach [] X.env))) := by rfl)
    (he : starEach (e :: es) X.env = (false, eval e X.env) :: starEach es X.env := by rfl) (hpl : (backTo pos (starEach es X.env)).any (·.1) = false := by rfl) : PE X (.Call fe (e :: es) [] pos) (tCallOS X C sp E tf t) := by
  refine ⟨fun pins s σ H Q I h => Call_ (thn (hf.run pins s σ H _ I h) fun u s1 ⟨y, H1, I1, ry, a, ey, q⟩ => ?_) ht⟩
  subst ey
  cases ry
  refine callO_with (thn (ha.run pos pins s1 σ H1 _ I1 q) fun us s2 ⟨vs, H2, I2, r, hi, q2⟩ => ?_) he hpl
  obtain ⟨ox, od, J, hd⟩ := insC_at I2 hi
  refine ⟨⟨_, _, _, J, hd⟩, ?_⟩
  have r2 : Vals (V.ref a :: vs) (Value.ref a :: us) := .cons rfl r
  have hl : (Value.ref a :: us).length = ps.length := r2.length.symm.trans (F.len _ _ _ _ q2)
  have bb : BindsTo s2 fd ⟨Value.ref a :: us, []⟩ (ps.zip (Value.ref a :: us)) := by simpa using hb s2 (Value.ref a :: us) I2.kIn (by simpa using hl)
  refine wpAny_call (PySem.W.kco_code I2.kIn J hd c.at_ c.fn c.fi (codeAny_mono (F.run X.A X.stack s2 H2 ⟨Value.ref a :: us, []⟩ _ _ Q (E σ) hr I2.env0 bb r2 q2) fun z s' hz => ?_))
  match z, hz with
  | .error e, hz => exact hx σ pins _ _ e s' I2 hz
  | .ok (.ret u), hz => exact I2.after hz
  | .ok .next, hz => exact hz.elim
  | .ok .brk, hz => exact hz.elim
  | .ok .cont, hz => exact hz.elim
/-- what a static method must have: its record at p, its def at g -/
structure Stat (K : PySem.W.Frag) (C p g : Addr) (m : Str) : Prop where
  rd : PySem.W.readsIn K C (.type "type") = true
  ga : PySem.W.specialIn K (.ref C) "__getattribute__" = some (some (.builtin "type.__getattribute__"))
  at_ : PySem.W.findCls K (.ref C) (.type "type") m = some (.get (.builtin "staticmethod.__get__") (.ref p) .none (.ref C))
  rc : ∃ rest, PySem.W.recIn K p "staticmethod" = some (.ref g :: rest)
  kp : PySem.W.keepIn K (.ref g) = true
/-- C.m(..), m a static method, in a try -/
theorem pe_statS {E : St → XK} {x m : Str} {p0 pos apos : Pos} {pr : Addr} {e : Expr} {es : List Expr} {t : TA} {pl : Sem Bool} (c : Stat X.K C pr f m) (F : FnOk X.prog X.w X.K X.mg X.base CX k f fd ps sp) (hr : Room k X.A) (hg : Gl X x) (hm : X.mg x = some (.ref C)) (hb : Binds X.K fd ps []) (hx : ∀ σ, PassesAt CX X σ (E σ))
    (ha : PA X (e :: es) t) (hdb : (x == ("__debug__" : Str)) = false := by decide) (hst : starEach (e :: es) X.env = (false, eval e X.env) :: starEach es X.env := by rfl) (hpl : (backTo pos (starEach es X.env)).any (·.1) = false := by rfl)
    (ht : eval (.Call (.Attribute (.Name x p0) m apos) (e :: es) [] pos) X.env = (do
      let ov ← eval (.Name x p0) X.env
      standAt apos.atName
      let (f, first) ← holding [ov] (getMethod ov m pl)
      callWith pos f first (backTo pos (starEach (e :: es) X.env)) (backToKw pos (keywordEach [] X.env))) := by rfl) :
    PE X (.Call (.Attribute (.Name x p0) m apos) (e :: es) [] pos) (tCallS sp E t) := by
  have hn : PE X (.Name x p0) (tC (.ref C)) := pe_glob hg hm rfl hdb
  refine ⟨fun pins s σ H Q I h => PySem.W.methodCall_KW (pl := pl) (thn (hn.run pins s σ H (fun v H1 => v = .ref C ∧ t σ H1 fun vs H2 => sp vs H2 Q (E σ)) I ⟨rfl, h⟩) fun u s1 ⟨v, H1, I1, rv, ev, q⟩ => ?_) ht⟩
  subst ev
  cases rv
  obtain ⟨rest, rc⟩ := c.rc
  refine PySem.W.method_cls I1.kIn c.ga (PySem.W.cls_bind I1.kIn c.rd c.at_ (wpAny_call (PySem.W.sm_get (s := { s1 with toks := s1.toks + 1 }) I1.kIn rc (PySem.W.handed_on rfl ?_))))
  have I2 := I1.tok (s1.toks + 1)
  refine PySem.W.callWith_K (first := []) (h₀ := X.base) I2.ok.mod.kin c.kp (thn (ha.run pos pins _ σ H1 _ I2 q) fun us s2 ⟨vs, H2, I3, r, q2⟩ => ⟨I3.kIn, ?_⟩) hst hpl
  exact run_atS (A := X.A) ⟨hr, rfl⟩ F hb (hx σ) I3 r q2
/-- a == b, b of a built-in kind: the left one's own __eq__ -/
theorem op_eqK {E : XK} (d : Dun X.K C f "__eq__") (F : FnOk X.prog X.w X.K X.mg X.base CX k f fd ps sp) (hr : Room k X.A) (hb : Binds X.K fd ps []) (hx : Passes CX X E) :
    OpR X (compareOp .Eq) (fun x y H Q => ∃ a dx fs t, x = .ref a ∧ H a = some (.ins C dx fs) ∧ KindV X.K H y t ∧ PySem.W.subIn X.K (.type t) (.ref C) = some false ∧ sp [.ref a, y] H Q E) := by
  intro pins s σ H x y v u Q I rx ry h
  obtain ⟨a, dx, fs, t, rfl, ha, hk, hs, h⟩ := h
  cases rx
  obtain ⟨ox, od, J, _⟩ := insC_at I (.inr ⟨dx, fs, ha⟩)
  obtain ⟨m, hF⟩ := I.fr
  show wpAny (model X.prog X.w) X.A (richCompare .Eq _ _) _ X.xe s
  refine PySem.W.cmp_K (op := .Eq) (tb := .type t) hr.units0 hF I.ok.mod.kin J (kind_looks I hk ry) (by simp [PySem.W.notFirst, hs]) d.at_ d.fn ?_
  exact wpAny_mono (run_at (A := X.A) ⟨hr, rfl⟩ F hb hx I (vs := [.ref a, y]) (us := [.ref a, u]) (.cons rfl (.cons ry .nil)) h) (fun v s' z => cmp_back z) fun _ _ z => z
end
open PySem.W Builtin in
theorem bound_bi {M : Model} {A : Around} {W : Value → Shared → Prop} {s : Shared} {K : Frag} {x C : Addr} {ox : Obj} {od : Option Obj} {name : Str} {id : String} {args : List Value} {Q : Option Value → Shared → Prop} (X : K.In s.heap) (I : InstAt s.heap x ox C od) (hs : findIn K (.ref C) name = some (some (.builtin id)))
    (hb : ∀ self, bindSpecial (.builtin id) self = pure (.builtin id, [self])) (h : wpAny M A (call (.builtin id) (.ref x :: args)) (fun v => Q (some v)) W s) : wpAny M A (callSpecialIfBound? (.ref x) name args) Q W s := by
  simp only [callSpecialIfBound?, bindSpecialIfBound?]
  refine wpAny_holding (wpAny_bind (wpAny_bind (wpAny_bind (I.type.here ((looks_findIn X hs).here ?_)))))
  refine wpAny_bind (wpAny_askSetting (wpAny_ite ?_))
  have fin : wpAny M A (call (.builtin id) ([.ref x] ++ args) >>= fun v => pure (some v)) Q W s := wpAny_bind (wpAny_mono h (fun v s' z => wpAny_pure z) fun _ _ z => z)
  split
  · exact wpAny_bind ((Looks.of_pure (hb _)).here (wpAny_pure (by exact fin)))
  · exact wpAny_tryCatch (wpAny_bind ((Looks.of_pure (hb _)).here (wpAny_pure (by exact fin))))
open PySem.W Builtin in
/-- a != b by the own __eq__ -/
theorem ne_own {prog : Program} {w : World} {A : Around} {W : Value → Shared → Prop} {s : Shared} {K : Frag} {x y C f : Addr} {h₀ : Heap} {L : Addr} {m : Str → Option Value} {ox oy : Obj} {od od' : Option Obj} {Q : Value → Shared → Prop} (hu : A.units < cLine) (hu1 : A.in1.units < cLine)
    (F : Fr h₀ L s.heap m) (X0 : K.In h₀) (I : InstAt s.heap x ox C od) (J : InstAt s.heap y oy C od') (hn : findIn K (.ref C) "__ne__" = some (some (.builtin "object.__ne__"))) (hm : mroIn K C (.type "object") = some true) (hs : findIn K (.ref C) "__eq__" = some (some (.ref f))) (hf : isFn K (.ref f) = true)
    (h : wpAny (model prog w) A.in1 (call (.ref f) [.ref x, .ref y]) (fun v s' => ∃ b, v = .bool b ∧ Q (.bool (!b)) s') W s) : wpAny (model prog w) A (richCompare .NotEq (.ref x) (.ref y)) Q W s := by
  have X := X0.keeps F.keep
  have inner : wpAny (model prog w) A (call (.builtin "object.__ne__") [.ref x, .ref y]) (fun v s' => ∃ b, v = .bool b ∧ Q (.bool b) s') W s := by
    refine wpAny_call (codeAny_call_builtin PySem.F.slot_object_ne.plain PySem.F.entry_object_ne (check_slot (i := "object.__ne__") (owner := "object") (n := "__ne__") (by decide +kernel) (by decide +kernel) (I.type.andThen (looks_mroIn X hm)) (PySem.F.args_object_ne_2 _ _) ?_))
    unfold Builtin.«object.__ne__»
    refine wpAny_bind (m := slotArgs "__ne__" 1 _) (wpAny_pure ?_)
    refine wpAny_bind (m := cRoomFor _ _) (wpAny_cRoomFor hu1 ?_)
    refine wpAny_bind (m := callSpecialIfBound? (.ref x) (Str.ofString "__eq__") _) (ifBound_K X I hs hf (wpAny_mono h (fun v s' z => ?_) fun _ _ z => z))
    obtain ⟨b, rfl, q⟩ := z
    refine wpAny_bind (m := truthy (.bool b)) (wpAny_truthy_bool ?_)
    exact wpAny_pure ⟨!b, rfl, q⟩
  have one : wpAny (model prog w) A (tryCompare (.ref x) (cmpInfo .NotEq).2.1 (.ref y)) (fun r s' => ∃ v, r = some v ∧ Q v s') W s := by
    unfold tryCompare
    refine wpAny_bind (bound_bi X I hn PySem.F.slot_object_ne.bind (wpAny_mono inner (fun v s' z => ?_) fun _ _ z => z))
    obtain ⟨b, rfl, q⟩ := z
    exact wpAny_pure ⟨_, rfl, q⟩
  unfold richCompare
  simp only [oneThing_ref]
  refine wpAny_holding (wpAny_bind (wpAny_cRoomFor hu ?_))
  refine wpAny_bind (I.type.here (wpAny_bind (J.type.here ?_)))
  split
  · rename_i q
    simp at q
  · refine wpAny_bind (wpAny_pure ?_)
    simp only [Bool.false_eq_true, if_false]
    refine wpAny_bind (wpAny_mono one (fun r s' z => ?_) fun _ _ z => z)
    obtain ⟨v, rfl, q⟩ := z
    exact wpAny_pure q
section
variable {X : Cx} {CX : CXT} {k n : Nat} {f C : Addr} {fd : FuncData} {ps : List Str} {sp : Sp}
/-- a != b of two of the class -/
theorem op_neO {E : XK} (d : Dun X.K C f "__eq__") (hn : PySem.W.findIn X.K (.ref C) "__ne__" = some (some (.builtin "object.__ne__"))) (hm : PySem.W.mroIn X.K C (.type "object") = some true) (F : FnOk X.prog X.w X.K X.mg X.base CX k f fd ps sp) (hr : Room (k + 1) X.A) (hb : Binds X.K fd ps []) (hx : Passes CX X E) :
    OpR X (compareOp .NotEq) (fun x y H Q => ∃ a dx fs b dy gs, x = .ref a ∧ H a = some (.ins C dx fs) ∧ y = .ref b ∧ H b = some (.ins C dy gs) ∧ sp [.ref a, .ref b] H (fun v H' => ∃ b, v = .bl b ∧ Q (.bl (!b)) H') E) := by
  intro pins s σ H x y v u Q I rx ry h
  obtain ⟨a, dx, fs, b, dy, gs, rfl, ha, rfl, hb', h⟩ := h
  cases rx
  cases ry
  obtain ⟨ox, od, J, _⟩ := insC_at I (.inr ⟨dx, fs, ha⟩)
  obtain ⟨oy, od', J', _⟩ := insC_at I (.inr ⟨dy, gs, hb'⟩)
  obtain ⟨m, hF⟩ := I.fr
  show wpAny (model X.prog X.w) X.A (richCompare .NotEq _ _) _ X.xe s
  refine ne_own hr.units0 hr.in1.units0 hF I.ok.mod.kin J J' hn hm d.at_ d.fn ?_
  refine wpAny_mono (run_at (A := X.A.in1) ⟨hr.in1, rfl⟩ F hb hx I (vs := [.ref a, .ref b]) (us := [.ref a, .ref b]) (.cons rfl (.cons rfl .nil)) h) (fun v s' z => ?_) fun _ _ z => z
  obtain ⟨x, H', I', rv, c, rfl, q⟩ := z
  cases rv
  exact ⟨c, rfl, .bl (!c), H', I', rfl, q⟩
/-- a != b, two lists of the very same things -/
theorem op_neS (hu : X.A.units + 64 < cLine) : OpR X (compareOp .NotEq) (fun x y H Q => ∃ a b xs, x = .ref a ∧ y = .ref b ∧ SqL X.K H a xs ∧ SqL X.K H b xs ∧ (∀ v ∈ xs, flatB v = true ∨ ∃ r, v = .ref r) ∧ Q (.bl false) H) := by
  intro pins s σ H x y v u Q I rx ry h
  obtain ⟨a, b, xs, rfl, rfl, ha, hb, hi, q⟩ := h
  cases rx
  cases ry
  obtain ⟨us, r1, p1, _⟩ := I.list ha
  obtain ⟨ws, r2, p2, _⟩ := I.list hb
  have hsz : us.toArray.size = ws.toArray.size := by rw [List.size_toArray, List.size_toArray, ← r1.length, ← r2.length]
  have he : ∀ j (h1 : j < us.toArray.size) (h2 : j < ws.toArray.size), SeqAt.EqAt X.A.in1 s us.toArray[j] ws.toArray[j] true := by
    intro j h1 h2
    have l1 : j < us.length := by simpa using h1
    have l2 : j < ws.length := by simpa using h2
    have hj : j < xs.length := by rw [r1.length]; exact l1
    obtain ⟨u1, e1, q1⟩ := r1.get (List.getElem?_eq_getElem hj)
    obtain ⟨u2, e2, q2⟩ := r2.get (List.getElem?_eq_getElem hj)
    have z1 : us.toArray[j] = u1 := by
      have := List.getElem?_eq_getElem l1
      rw [e1] at this
      simpa using (Option.some.inj this).symm
    have z2 : ws.toArray[j] = u2 := by
      have := List.getElem?_eq_getElem l2
      rw [e2] at this
      simpa using (Option.some.inj this).symm
    rw [z1, z2]
    rcases hi xs[j] (List.getElem_mem hj) with f | ⟨r, er⟩
    · exact eqAt_same q1 q2 f
    · rw [er] at q1 q2
      cases q1
      cases q2
      exact SeqAt.EqAt.same _
  have z := SeqAt.RcNeAt.lists (e := fun _ => true) p1.isList p2.isList hsz (show X.A.units < cLine by omega) he X.prog X.w X.xe (EP X pins σ Q)
  refine z ?_
  rw [show (List.range us.toArray.size).all (fun _ => true) = true from List.all_eq_true.mpr fun _ _ => rfl]
  exact ⟨.bl false, H, I, rfl, q⟩
/-- isinstance(x, C): an instance, or data -/
theorem call_isCD (c : C8.InsC X.K C) : CallR X (.builtin "isinstance") (fun xs H Q => ∃ x, xs = [x, .ref C] ∧ ((∃ d, Dp X.K H x d ∧ PySem.W.kitOne X.K (.type (tyN d)) (.ref C) = some false ∧ Q (.bl false) H) ∨ ∃ a dx fs, x = .ref a ∧ H a = some (.ins C dx fs) ∧ Q (.bl true) H)) := by
  intro pins s σ H xs us Q I r h
  obtain ⟨x, rfl, h⟩ := h
  rcases h with ⟨d, hd, hk, q⟩ | ⟨a, dx, fs, rfl, ha, q⟩
  · exact call_isi pins s σ H _ _ Q I r ⟨x, .ref C, .type (tyN d), .ref C, false, rfl, .own C, tyD hd, hk, q⟩
  · exact C8.call_isC c pins s σ H _ _ Q I r ⟨a, dx, fs, rfl, ha, q⟩
/-- isinstance(x, t), t built-in: data, or an instance of C -/
theorem call_isDT {t : String} (c : C8.InsC X.K C) (kf : PySem.W.kitOne X.K (.ref C) (.type t) = some false) : CallR X (.builtin "isinstance") (fun xs H Q => ∃ x, xs = [x, .ty t] ∧ ((∃ d b, Dp X.K H x d ∧ kitB (tyN d) t = some b ∧ Q (.bl b) H) ∨ ∃ a dx fs, x = .ref a ∧ H a = some (.ins C dx fs) ∧ Q (.bl false) H)) := by
  intro pins s σ H xs us Q I r h
  obtain ⟨x, rfl, h⟩ := h
  rcases h with ⟨d, b, hd, hk, q⟩ | ⟨a, dx, fs, rfl, ha, q⟩
  · exact call_isi pins s σ H _ _ Q I r ⟨x, .ty t, .type (tyN d), .type t, b, rfl, .ty t, tyD hd, kit_ty hk, q⟩
  · obtain ⟨u, w', rfl, ru, rw'⟩ := vals2 r
    cases rw'
    exact isinst_ok I ru (TyOf.ins ha c.cl c.ha c.hn c.htk c.hm) kf fun tk => ⟨.bl false, H, I.tok _, rfl, q⟩
end
end L2.Lr

set_option maxHeartbeats 1000000
/-! texts of counts (n, 3n-2, 7), and the texts of numbers written without a needless nought -/
namespace L2.Tx
open PySem PySem.Spec PyProof.Rows NumText L2 TL
def dig (c : Nat) : Bool := decide (48 ≤ c) && decide (c ≤ 57)
theorem dig_all {cs : List Nat} : cs.all dig = true ↔ AllDigits cs := by
  rw [List.all_eq_true]
  constructor
  · intro h c hc
    obtain ⟨h1, h2⟩ := Bool.and_eq_true_iff.mp (h c hc)
    exact ⟨of_decide_eq_true h1, of_decide_eq_true h2⟩
  · intro h c hc
    exact Bool.and_eq_true_iff.mpr ⟨decide_eq_true (h c hc).1, decide_eq_true (h c hc).2⟩
/-- figures without a needless nought ahead, up to 10 ** 30 -/
def numOk (cs : List Nat) : Bool := (!cs.isEmpty && (decide (cs.length ≤ 31) && cs.all dig)) && ((decide (cs = [48]) || decide (cs.head? ≠ some 48)) && decide (digitsVal cs ≤ 10 ^ 30))
theorem char_dig {c : Nat} (h1 : 48 ≤ c) (h2 : c ≤ 57) : (Char.ofNat c).toNat = c := by
  have h : c = 48 ∨ c = 49 ∨ c = 50 ∨ c = 51 ∨ c = 52 ∨ c = 53 ∨ c = 54 ∨ c = 55 ∨ c = 56 ∨ c = 57 := by omega
  rcases h with rfl | rfl | rfl | rfl | rfl | rfl | rfl | rfl | rfl | rfl <;> rfl
theorem canon {cs : List Nat} (h : AllDigits cs) (hne : cs ≠ []) (hz : cs = [48] ∨ cs.head? ≠ some 48) : numL (digitsVal cs) = cs := by
  cases cs with
  | nil => exact absurd rfl hne
  | cons c r =>
    have hc := h c List.mem_cons_self
    have z := toDigits_digitsVal r.length (c :: r) rfl h (by
      rcases hz with hz | hz
      · injection hz with _ h2
        exact .inl (by rw [h2]; rfl)
      · exact .inr ⟨c, r, rfl, by
          have : c ≠ 48 := fun e => hz (by rw [e]; rfl)
          omega⟩)
    unfold numL
    rw [z, List.map_map]
    have e : ∀ l : List Nat, AllDigits l → l.map (Char.toNat ∘ Char.ofNat) = l := by
      intro l
      induction l with
      | nil => intro _; rfl
      | cons d l ih =>
        intro hl
        rw [List.map_cons, ih fun x hx => hl x (List.mem_cons_of_mem _ hx)]
        have hd := hl d List.mem_cons_self
        show (Char.ofNat d).toNat :: l = d :: l
        rw [char_dig hd.1 hd.2]
    exact e _ h
theorem numOk_iff {cs : List Nat} : numOk cs = true ↔ ∃ n : Nat, n ≤ 10 ^ 30 ∧ cs = numL n := by
  constructor
  · intro h
    obtain ⟨h1, h2⟩ := Bool.and_eq_true_iff.mp h
    obtain ⟨h3, h4⟩ := Bool.and_eq_true_iff.mp h1
    obtain ⟨_, h5⟩ := Bool.and_eq_true_iff.mp h4
    obtain ⟨h6, h7⟩ := Bool.and_eq_true_iff.mp h2
    have hne : cs ≠ [] := fun z => by rw [z] at h3; cases h3
    have hz : cs = [48] ∨ cs.head? ≠ some 48 := (Bool.or_eq_true_iff.mp h6).imp of_decide_eq_true of_decide_eq_true
    exact ⟨digitsVal cs, of_decide_eq_true h7, (canon (dig_all.mp h5) hne hz).symm⟩
  · rintro ⟨n, hn, rfl⟩
    have hl : (numL n).length ≤ 31 := numL_len (by decide) (Nat.lt_of_le_of_lt hn (by decide))
    have head : ∀ n : Nat, 0 < n → ∃ c r, numL n = c :: r ∧ 49 ≤ c := by
      intro n
      induction n using Nat.strongRecOn with
      | _ n ih =>
        intro h0
        by_cases h : n < 10
        · exact ⟨48 + n, [], numL_lt h, by omega⟩
        · obtain ⟨c, r, e, hc⟩ := ih (n / 10) (by omega) (by omega)
          exact ⟨c, r ++ [48 + n % 10], by rw [numL_step (by omega), e]; rfl, hc⟩
    refine Bool.and_eq_true_iff.mpr ⟨Bool.and_eq_true_iff.mpr ⟨?_, Bool.and_eq_true_iff.mpr ⟨decide_eq_true hl, dig_all.mpr (numL_digits n)⟩⟩, Bool.and_eq_true_iff.mpr ⟨?_, decide_eq_true (by rw [numL_val]; exact hn)⟩⟩
    · cases h : numL n with
      | nil => exact absurd h (numL_ne n)
      | cons c r => rfl
    · by_cases h0 : n = 0
      · subst h0
        exact Bool.or_eq_true_iff.mpr (.inl (decide_eq_true (numL_lt (by decide))))
      · obtain ⟨c, r, e, hc⟩ := head n (by omega)
        refine Bool.or_eq_true_iff.mpr (.inr (decide_eq_true fun z => ?_))
        rw [e] at z
        injection z with z
        omega
/-! ### counts -/
def nT : Str := Str.ofString "n"
theorem tl_n : tl nT = [110] := rfl
def preC (a : Int) : Str := if a = 1 then Str.empty else intT a
def cntT (a b : Int) : Str := if a = 0 then intT b else preC a ++ nT ++ tailT b
def validC (a b : Int) : Bool := (decide (0 ≤ a) && decide (a ≤ 9)) && ((decide (-(10 ^ 30) ≤ b) && decide (b ≤ 10 ^ 30)) && (decide (a > 0) || decide (b ≥ 0)))
def IsCnt (t : Str) (a b : Int) : Prop := validC a b = true ∧ cntT a b = t
theorem preC_free (a : Int) : 110 ∉ tl (preC a) := by
  unfold preC
  split
  · intro z; cases z
  · rw [tl_int]; exact sgn_free (by decide)
theorem cnt_part {a b : Int} (h : a ≠ 0) : Txt.partition (cntT a b) nT = (preC a, nT, tailT b) := by
  unfold cntT
  rw [if_neg h]
  exact partition_app (y := nT) (s := 110) (S := []) tl_n (preC_free a)
theorem int_part (b : Int) : Txt.partition (intT b) nT = (intT b, Str.empty, Str.empty) := partition_none (y := nT) (s := 110) (S := []) tl_n (by rw [tl_int]; exact sgn_free (by decide))
theorem part_cases (t : Str) : (110 ∉ tl t ∧ Txt.partition t nT = (t, Str.empty, Str.empty)) ∨ ∃ A S : Str, 110 ∉ tl A ∧ t = A ++ nT ++ S ∧ Txt.partition t nT = (A, nT, S) := by
  by_cases h : 110 ∈ tl t
  · obtain ⟨as, bs, e, hn⟩ := List.eq_append_cons_of_mem h
    have ha : tl (⟨as.toArray⟩ : Str) = as := tl_mk _
    have hb : tl (⟨bs.toArray⟩ : Str) = bs := tl_mk _
    have et : t = (⟨as.toArray⟩ : Str) ++ nT ++ (⟨bs.toArray⟩ : Str) := by
      apply tl_inj
      rw [tl_append, tl_append, ha, hb, tl_n, e, List.append_assoc]
      rfl
    refine .inr ⟨⟨as.toArray⟩, ⟨bs.toArray⟩, by rw [ha]; exact hn, et, ?_⟩
    rw [et]
    exact partition_app (y := nT) (s := 110) (S := []) tl_n (by rw [ha]; exact hn)
  · exact .inl ⟨h, partition_none (y := nT) (s := 110) (S := []) tl_n h⟩
theorem nT_ne : nT ≠ Str.empty := fun q => by cases congrArg tl q
theorem tl_empty {x : Str} : x = Str.empty ↔ tl x = [] := ⟨fun h => by rw [h]; rfl, fun h => tl_inj (by rw [h]; rfl)⟩
/-- what stands ahead of the n -/
def headV (A : List Nat) : Option Int := if A = [] then some 1 else if numOk A = true ∧ 2 ≤ digitsVal A ∧ digitsVal A ≤ 9 then some (digitsVal A : Nat) else none
/-- what stands behind it -/
def tailV : List Nat → Option Int
  | [] => some 0
  | c :: cs => if (c = 43 ∨ c = 45) ∧ numOk cs = true ∧ digitsVal cs ≠ 0 then some (if c = 43 then ((digitsVal cs : Nat) : Int) else -((digitsVal cs : Nat) : Int)) else none
theorem headV_iff {A : Str} {a : Int} : headV (tl A) = some a ↔ (1 ≤ a ∧ a ≤ 9) ∧ preC a = A := by
  unfold headV
  by_cases h : tl A = []
  · rw [if_pos h]
    have eA := tl_empty.mpr h
    constructor
    · intro e
      cases e
      exact ⟨by omega, by unfold preC; rw [if_pos rfl, eA]⟩
    · rintro ⟨⟨h1, h2⟩, e⟩
      by_cases ha : a = 1
      · rw [ha]
      · unfold preC at e
        rw [if_neg ha, eA] at e
        exact absurd (tl_empty.mp e) (int_ne a)
  · rw [if_neg h]
    constructor
    · intro e
      split at e
      · rename_i hh
        obtain ⟨h1, h2, h3⟩ := hh
        cases e
        obtain ⟨n, hn, en⟩ := numOk_iff.mp h1
        rw [en, numL_val] at h2 h3 ⊢
        refine ⟨by omega, ?_⟩
        unfold preC
        rw [if_neg (by omega)]
        apply tl_inj
        rw [tl_int, en]
        unfold sgnL
        rw [if_neg (by omega), Int.natAbs_natCast]
      · cases e
    · rintro ⟨⟨h1, h2⟩, e⟩
      have ha : a ≠ 1 := fun z => h (by rw [← e, z]; rfl)
      have et : tl A = numL a.natAbs := by
        rw [← e]
        unfold preC
        rw [if_neg ha, tl_int]
        unfold sgnL
        rw [if_neg (by omega)]
      rw [et, numL_val, if_pos ⟨numOk_iff.mpr ⟨a.natAbs, by omega, rfl⟩, by omega, by omega⟩]
      congr 1
      omega
theorem tailV_iff {S : Str} {b : Int} : tailV (tl S) = some b ↔ (-(10 ^ 30) ≤ b ∧ b ≤ 10 ^ 30) ∧ tailT b = S := by
  have e30 : (10 : Int) ^ 30 = ((10 ^ 30 : Nat) : Int) := by decide +kernel
  cases hS : tl S with
  | nil =>
    have eS := tl_empty.mpr hS
    constructor
    · intro e
      cases e
      exact ⟨by decide, by unfold tailT; rw [if_pos rfl, eS]⟩
    · rintro ⟨_, e⟩
      by_cases hb : b = 0
      · rw [hb]; rfl
      · unfold tailT at e
        rw [if_neg hb, eS] at e
        have z := tl_empty.mp e
        rw [tl_plus] at z
        unfold plusL at z
        cases z
  | cons c cs =>
    constructor
    · intro e
      have e2 : (if (c = 43 ∨ c = 45) ∧ numOk cs = true ∧ digitsVal cs ≠ 0 then some (if c = 43 then ((digitsVal cs : Nat) : Int) else -((digitsVal cs : Nat) : Int)) else none) = some b := e
      split at e2
      · rename_i hh
        obtain ⟨h1, h2, h3⟩ := hh
        obtain ⟨n, hn, en⟩ := numOk_iff.mp h2
        rw [en, numL_val] at h3 e2
        have hnI : ((n : Nat) : Int) ≤ 10 ^ 30 := by rw [e30]; omega
        rcases h1 with rfl | rfl
        · rw [if_pos rfl] at e2
          cases e2
          refine ⟨by omega, ?_⟩
          unfold tailT
          rw [if_neg (by omega)]
          apply tl_inj
          rw [tl_plus, hS, en]
          unfold plusL
          rw [if_neg (by omega), Int.natAbs_natCast]
        · rw [if_neg (by decide)] at e2
          cases e2
          refine ⟨by omega, ?_⟩
          unfold tailT
          rw [if_neg (by omega)]
          apply tl_inj
          rw [tl_plus, hS, en]
          unfold plusL
          rw [if_pos (by omega), Int.natAbs_neg, Int.natAbs_natCast]
      · cases e2
    · rintro ⟨⟨h1, h2⟩, e⟩
      have hb : b ≠ 0 := fun z => by
        rw [z] at e
        rw [← e] at hS
        cases hS
      have et : c :: cs = plusL b := by
        rw [← hS, ← e]
        unfold tailT
        rw [if_neg hb, tl_plus]
      unfold plusL at et
      injection et with e1 e2
      show (if (c = 43 ∨ c = 45) ∧ numOk cs = true ∧ digitsVal cs ≠ 0 then some (if c = 43 then ((digitsVal cs : Nat) : Int) else -((digitsVal cs : Nat) : Int)) else none) = some b
      have hk : numOk cs = true := numOk_iff.mpr ⟨b.natAbs, by rw [e30] at h1 h2; omega, e2⟩
      have hv : digitsVal cs = b.natAbs := by rw [e2, numL_val]
      rw [hv]
      by_cases hn : b < 0
      · rw [if_pos hn] at e1
        rw [if_pos ⟨.inr e1, hk, by omega⟩, if_neg (by omega)]
        congr 1
        omega
      · rw [if_neg hn] at e1
        rw [if_pos ⟨.inl e1, hk, by omega⟩, if_pos e1]
        congr 1
        omega
/-- what a text tells -/
def cntV (t : Str) : Option (Int × Int) :=
  if (Txt.partition t nT).2.1 = Str.empty then (if numOk (tl t) = true then some (0, ((digitsVal (tl t) : Nat) : Int)) else none)
  else match headV (tl (Txt.partition t nT).1), tailV (tl (Txt.partition t nT).2.2) with
    | some a, some b => some (a, b)
    | _, _ => none
theorem valid_iff {a b : Int} : validC a b = true ↔ (0 ≤ a ∧ a ≤ 9) ∧ (-(10 ^ 30) ≤ b ∧ b ≤ 10 ^ 30) ∧ (a > 0 ∨ b ≥ 0) := by
  unfold validC
  simp only [Bool.and_eq_true, Bool.or_eq_true, decide_eq_true_eq]
theorem cntV_iff {t : Str} {a b : Int} : cntV t = some (a, b) ↔ IsCnt t a b := by
  have e30 : (10 : Int) ^ 30 = ((10 ^ 30 : Nat) : Int) := by decide +kernel
  unfold cntV IsCnt
  rw [valid_iff]
  rcases part_cases t with ⟨hn, hp⟩ | ⟨A, S, hA, et, hp⟩
  · rw [hp]
    dsimp only
    rw [if_pos rfl]
    constructor
    · intro e
      split at e
      · rename_i h
        cases e
        obtain ⟨n, hn', en⟩ := numOk_iff.mp h
        have hnI : ((n : Nat) : Int) ≤ 10 ^ 30 := by rw [e30]; omega
        rw [en, numL_val]
        refine ⟨⟨by omega, by omega, .inr (by omega)⟩, ?_⟩
        unfold cntT
        rw [if_pos rfl]
        apply tl_inj
        rw [tl_int, en]
        unfold sgnL
        rw [if_neg (by omega), Int.natAbs_natCast]
      · cases e
    · rintro ⟨⟨h1, h2, h3⟩, e⟩
      have ha : a = 0 := by
        by_cases z : a = 0
        · exact z
        · exfalso
          unfold cntT at e
          rw [if_neg z] at e
          apply hn
          rw [← e, tl_append, tl_append, tl_n]
          exact List.mem_append_left _ (List.mem_append_right _ List.mem_cons_self)
      subst ha
      have hb : 0 ≤ b := by omega
      unfold cntT at e
      rw [if_pos rfl] at e
      have el : tl t = numL b.natAbs := by
        rw [← e, tl_int]
        unfold sgnL
        rw [if_neg (by omega)]
      rw [el, numL_val, if_pos (numOk_iff.mpr ⟨b.natAbs, by rw [e30] at h2; omega, rfl⟩)]
      congr 2
      omega
  · rw [hp]
    dsimp only
    rw [if_neg nT_ne]
    constructor
    · intro e
      cases hh : headV (tl A) with
      | none => rw [hh] at e; cases e
      | some a' =>
        cases ht : tailV (tl S) with
        | none => rw [hh, ht] at e; cases e
        | some b' =>
          rw [hh, ht] at e
          cases e
          obtain ⟨h1, h2⟩ := headV_iff.mp hh
          obtain ⟨h3, h4⟩ := tailV_iff.mp ht
          refine ⟨⟨by omega, h3, .inl (by omega)⟩, ?_⟩
          unfold cntT
          rw [if_neg (by omega), h2, h4, et]
    · rintro ⟨⟨h1, h2, h3⟩, e⟩
      have ha : a ≠ 0 := fun z => by
        subst z
        unfold cntT at e
        rw [if_pos rfl] at e
        have p := int_part b
        rw [e, hp] at p
        exact nT_ne (congrArg (fun q : Str × Str × Str => q.2.1) p)
      have p := cnt_part (a := a) (b := b) ha
      rw [e, hp] at p
      have q1 : A = preC a := congrArg (fun q : Str × Str × Str => q.1) p
      have q3 : S = tailT b := congrArg (fun q : Str × Str × Str => q.2.2) p
      rw [headV_iff.mpr ⟨by omega, q1.symm⟩, tailV_iff.mpr ⟨h2, q3.symm⟩]
theorem cnt_len {t : Str} {a b : Int} (h : IsCnt t a b) : t.length ≤ 34 := by
  have e30 : (10 : Int) ^ 30 = ((10 ^ 30 : Nat) : Int) := by decide +kernel
  obtain ⟨hv, e⟩ := h
  obtain ⟨h1, h2, h3⟩ := valid_iff.mp hv
  have hb : (numL b.natAbs).length ≤ 31 := numL_len (by decide) (Nat.lt_of_le_of_lt (show b.natAbs ≤ 10 ^ 30 by rw [e30] at h2; omega) (by decide))
  rw [← e, len_tl]
  unfold cntT
  split
  · rw [tl_int]
    unfold sgnL
    split
    · omega
    · omega
  · rw [tl_append, tl_append, tl_n, List.length_append, List.length_append]
    have l1 : (tl (preC a)).length ≤ 1 := by
      unfold preC
      split
      · exact Nat.zero_le _
      · rw [tl_int]
        unfold sgnL
        rw [if_neg (by omega), numL_lt (by omega)]
        exact Nat.le_refl _
    have l3 : (tl (tailT b)).length ≤ 32 := by
      unfold tailT
      split
      · exact Nat.zero_le _
      · rw [tl_plus]
        unfold plusL
        rw [List.length_cons]
        omega
    simp only [List.length_cons, List.length_nil]
    omega
end L2.Tx

set_option maxHeartbeats 1000000
/-! pieces of texts and of lists; texts of low signs -/
namespace L2.Tx
open PySem PySem.Spec PyProof.Rows NumText L2 TL
theorem len_app (x y : Str) : (x ++ y).length = x.length + y.length := by
  rw [len_tl, len_tl, len_tl, tl_append, List.length_append]
theorem empty_app (x : Str) : Str.empty ++ x = x := tl_inj (by rw [tl_append]; rfl)
theorem app_empty (x : Str) : x ++ Str.empty = x := tl_inj (by rw [tl_append]; exact List.append_nil _)
theorem app_assoc (x y z : Str) : x ++ y ++ z = x ++ (y ++ z) := tl_inj (by rw [tl_append, tl_append, tl_append, tl_append, List.append_assoc])
theorem tl_cut (t : Str) (lo hi : Option Int) : tl (cutS t lo hi) = ((tl t).drop (HT.sIx t.length 0 lo)).take (HT.sIx t.length t.length hi - HT.sIx t.length 0 lo) := rfl
theorem tl_from (t : Str) (k : Nat) : tl (cutS t (some (k : Int)) none) = (tl t).drop k := by
  rw [tl_cut, HT.sIx_nat, HT.sIx_none, len_tl]
  by_cases h : k ≤ (tl t).length
  · rw [Nat.min_eq_left h, List.take_of_length_le (by rw [List.length_drop]; omega)]
  · rw [Nat.min_eq_right (by omega), List.drop_of_length_le (l := tl t) (Nat.le_refl _), List.drop_of_length_le (l := tl t) (i := k) (by omega)]
    simp
theorem tl_to (t : Str) (k : Nat) : tl (cutS t none (some (k : Int))) = (tl t).take k := by
  rw [tl_cut, HT.sIx_nat, HT.sIx_none, len_tl, List.drop_zero, Nat.sub_zero]
  by_cases h : k ≤ (tl t).length
  · rw [Nat.min_eq_left h]
  · rw [Nat.min_eq_right (by omega), List.take_length, List.take_of_length_le (by omega)]
theorem cut_le (t : Str) (lo hi : Option Int) : (cutS t lo hi).length ≤ t.length := cutS_length t lo hi
/-- signs below 256 -/
def Low (t : Str) : Prop := ∀ c ∈ tl t, c < 256
theorem Low.app {x y : Str} (h : Low x) (g : Low y) : Low (x ++ y) := fun c hc => by
  rw [tl_append] at hc
  exact (List.mem_append.mp hc).elim (h c) (g c)
theorem Low.cut {t : Str} (h : Low t) (lo hi : Option Int) : Low (cutS t lo hi) := fun c hc => h c (List.mem_of_mem_drop (List.mem_of_mem_take (by rw [tl_cut] at hc; exact hc)))
theorem low_num (n : Nat) : ∀ c ∈ numL n, c < 256 := fun c hc => by
  have := numL_digits n c hc
  omega
theorem low_int (a : Int) : Low (intT a) := fun c hc => by
  rw [tl_int] at hc
  unfold sgnL at hc
  split at hc
  · rcases List.mem_cons.mp hc with rfl | hc
    · decide
    · exact low_num _ c hc
  · exact low_num _ c hc
theorem low_plus (a : Int) : Low (plusT a) := fun c hc => by
  rw [tl_plus] at hc
  unfold plusL at hc
  rcases List.mem_cons.mp hc with rfl | hc
  · split <;> decide
  · exact low_num _ c hc
theorem low_empty : Low Str.empty := fun c hc => by cases hc
theorem low_of {t : Str} (h : (tl t).all (fun c => decide (c < 256)) = true) : Low t := fun c hc => of_decide_eq_true (List.all_eq_true.mp h c hc)
theorem Low.small {t : Str} (h : Low t) : ∀ c ∈ t.cps.toList, c < 1114112 := fun c hc => Nat.lt_trans (h c hc) (by decide)
end L2.Tx

set_option maxHeartbeats 4000000
namespace L2.L87
open PySem PySem.Spec PyProof.Rows NumText LR L2.Lr L2.Tx TL
local macro_rules | `(tactic| walk_at "nx") => `(tactic| dsimp only [gName, tNext, tSeq, tAsg, List.set_cons_zero, List.set_cons_succ])
def top (i : Nat) : Stmt := PySem.Challenge.pw_leastrooms_k87_plan_lines_judged.main.body.getD i (.Pass ⟨0, 0, 0, 0⟩)
abbrev sWord : Stmt := top 12
abbrev sInt : Stmt := top 13
abbrev sBetw : Stmt := top 14
abbrev sCount : Stmt := top 19
abbrev sRound : Stmt := top 36
abbrev sHow : Stmt := top 38
abbrev sSize : Stmt := top 39
abbrev sHead : Stmt := top 40
abbrev sSing : Stmt := top 41
abbrev sFig : Stmt := top 8
abbrev sForm : Stmt := top 20
abbrev sCntOf : Stmt := top 21
abbrev sChk : Stmt := top 22
abbrev sWrit : Stmt := top 23
abbrev sRead : Stmt := top 24
abbrev sFree : Stmt := top 25
abbrev sLoop : Stmt := top 33
abbrev sApr : Stmt := top 34
abbrev sCkR : Stmt := top 35
abbrev sRowOf : Stmt := top 37
abbrev sGoes : Stmt := top 42
abbrev sTxt : Stmt := top 43
abbrev sTxP : Stmt := top 44
abbrev sAmong : Stmt := top 15
abbrev sTupOf : Stmt := top 16
abbrev sRoomQ : Stmt := top 48
abbrev sChange : Stmt := top 50
abbrev sDiff : Stmt := top 51
abbrev sParseR : Stmt := top 54
abbrev sPartsIn : Stmt := top 55
abbrev sPieces : Stmt := top 56
abbrev sPartIn : Stmt := top 57
abbrev sSingIn : Stmt := top 58
abbrev sEvent : Stmt := top 62
abbrev sToldE : Stmt := top 63
abbrev sLineOf : Stmt := top 64
abbrev sEvOf : Stmt := top 65
abbrev sEvIn : Stmt := top 66
abbrev sChIn : Stmt := top 67
abbrev sRowIn : Stmt := top 68
abbrev sReadP : Stmt := top 70
abbrev sPool : Stmt := top 72
abbrev sTake : Stmt := top 73
abbrev sLWord : Stmt := top 74
abbrev sLNum : Stmt := top 75
abbrev sLRow : Stmt := top 76
abbrev sLNums : Stmt := top 77
abbrev sLNamed : Stmt := top 78
abbrev sLEvent : Stmt := top 79
abbrev sLDue : Stmt := top 80
abbrev sLRead : Stmt := top 81
abbrev sLLines : Stmt := top 82
abbrev sLWrong : Stmt := top 83
abbrev sLTexts : Stmt := top 84
abbrev sLaw : Stmt := top 85
abbrev sRoom : Stmt := inClass (top 1) 0
abbrev sIni : Stmt := inClass (top 32) 0
abbrev sStr : Stmt := inClass (top 32) 4
abbrev FnP (K : PySem.W.Frag) (x : Str) (st : Stmt) (f : Addr) (fd : FuncData) : Prop := FunD K x x (defArgs st) (defBody st) (defScope st) [] [] f fd
abbrev FnM (K : PySem.W.Frag) (x q : Str) (st : Stmt) (f : Addr) (fd : FuncData) : Prop := FunD K x q (defArgs st) (defBody st) (defScope st) [] [] f fd
theorem scN : FnScope ["thing"] ["thing"] (defScope sInt) := ⟨rfl, rfl, rfl, by decide +kernel, rfl, by decide +kernel, by decide +kernel⟩
theorem scB : FnScope ["thing", "low", "high"] ["thing", "low", "high"] (defScope sBetw) := ⟨rfl, rfl, rfl, by decide +kernel, rfl, by decide +kernel, by decide +kernel⟩
theorem scC : FnScope ["thing", "a", "b"] ["thing"] (defScope sCount) := ⟨rfl, rfl, rfl, by decide +kernel, rfl, by decide +kernel, by decide +kernel⟩
theorem scR : FnScope ["part"] ["part"] (defScope sRound) := ⟨rfl, rfl, rfl, by decide +kernel, rfl, by decide +kernel, by decide +kernel⟩
theorem scH : FnScope ["part", "depth"] ["part", "depth"] (defScope sHead) := ⟨rfl, rfl, rfl, by decide +kernel, rfl, by decide +kernel, by decide +kernel⟩
theorem scG : FnScope ["part"] ["part"] (defScope sSing) := ⟨rfl, rfl, rfl, by decide +kernel, rfl, by decide +kernel, by decide +kernel⟩
theorem scW : FnScope ["parts", "depth", "many", "part"] ["parts", "depth"] (defScope sHow) := ⟨rfl, rfl, rfl, by decide +kernel, rfl, by decide +kernel, by decide +kernel⟩
theorem scZ : FnScope ["part", "depth"] ["part", "depth"] (defScope sSize) := ⟨rfl, rfl, rfl, by decide +kernel, rfl, by decide +kernel, by decide +kernel⟩
/-- a def as its callers need it -/
structure Def (P : Program) (w : World) (K : PySem.W.Frag) (mg : Str → Option Value) (base : Heap) (CX : CXT) (k : Nat) (x : Str) (f : Addr) (fd : FuncData) (ps : List Str) (sp : Sp) : Prop where
  ok : FnOk P w K mg base CX k f fd ps sp
  g : mg x = some (.ref f)
  k : PySem.W.keepIn K (.ref f) = true
  b : Binds K fd ps []
/-- the built-in names, and the constants -/
structure Prg (mg : Str → Option Value) : Prop where
  isn : mg "isinstance" = none
  len : mg "len" = none
  int : mg "int" = none
  bool : mg "bool" = none
  tuple : mg "tuple" = none
  str : mg "str" = none
  far : ∃ t, mg "LARGEST_NUMBER" = some (.int (10 ^ 30) t)
  most : ∃ t, mg "MOST_PARTS" = some (.int 60 t)
  deep : ∃ t, mg "MOST_LOOPS" = some (.int 4 t)
  once : ∃ t, mg "MOST_AT_ONCE" = some (.int 9 t)
  long : ∃ t, mg "LONGEST_WORK" = some (.int 99 t)
  norow : ∃ t, mg "NO_ROW" = some (.int 61 t)
def spInt (K : PySem.W.Frag) : Sp := fun vs H Q _ => ∃ x d, vs = [x] ∧ Dp K H x d ∧ Q (.bl (isI d)) H
def spBetw (K : PySem.W.Frag) : Sp := fun vs H Q _ => ∃ x lo hi d, vs = [x, .int lo, .int hi] ∧ Dp K H x d ∧ Q (.bl (betw lo hi d)) H
def spCount (K : PySem.W.Frag) : Sp := fun vs H Q _ => ∃ x d, vs = [x] ∧ Dp K H x d ∧ Q (.bl (countD d)) H
def letters : List Nat := ("abcdefghijklmnopqrstuvwxyz" : Str).cps.toList
def wordD : PyData → Bool
  | .str x => (decide (1 ≤ x.length) && decide (x.length ≤ 8)) && x.cps.toList.all fun c => decide (c ∈ letters)
  | _ => false
def roundW (w : Str) : Bool := decide (w = "loop") || decide (w = "forever")
def headD (dep : Int) (w : Str) : List PyData → Bool
  | [_] => decide (w = "forever") && decide (dep = 0)
  | [c, _] => !decide (w = "forever") && (countD c && decide (dep < 4))
  | _ => false
def singD (w : Str) : List PyData → Bool
  | [t] => decide (w = "work") && betw 1 99 t
  | [c, k] => !decide (w = "work") && ((decide (w = "send") || decide (w = "take")) && (wordD c && betw 1 9 k))
  | _ => false
mutual
/-- its texts are not too long -/
def sOk : PyData → Prop
  | .str x => x.length ≤ sizeLine ∧ PyData.strOk x = true
  | .tuple ds => ds.length ≤ sizeLine ∧ sOkAll ds
  | .none => True
  | .bool _ => True
  | .int _ => True
  | .list _ => True
  | .dict _ => True
def sOkAll : List PyData → Prop
  | [] => True
  | d :: ds => sOk d ∧ sOkAll ds
end
theorem sOkAll.at : ∀ {ds : List PyData} {i : Nat} {d : PyData}, sOkAll ds → ds[i]? = some d → sOk d
  | [], _, _, _, e => by simp at e
  | d :: ds, 0, _, h, e => by simp at e; subst e; unfold sOkAll at h; exact h.1
  | d :: ds, i + 1, _, h, e => by unfold sOkAll at h; exact sOkAll.at (ds := ds) (i := i) h.2 (by simpa using e)
def spWord (K : PySem.W.Frag) : Sp := fun vs H Q _ => ∃ x d, vs = [x] ∧ Dp K H x d ∧ sOk d ∧ ∀ H', Same H H' → Q (.bl (wordD d)) H'
def spRound (K : PySem.W.Frag) : Sp := fun vs H Q _ => ∃ x w ds, vs = [x] ∧ Dp K H x (.tuple (.str w :: ds)) ∧ ∀ H', Same H H' → Q (.bl (roundW w)) H'
def spHead (K : PySem.W.Frag) : Sp := fun vs H Q _ => ∃ x dep w ds, vs = [x, .int dep] ∧ Dp K H x (.tuple (.str w :: ds)) ∧ Q (.bl (headD dep w ds)) H
def spSing (K : PySem.W.Frag) : Sp := fun vs H Q _ => ∃ x w ds, vs = [x] ∧ Dp K H x (.tuple (.str w :: ds)) ∧ sOkAll ds ∧ ∀ H', Same H H' → Q (.bl (singD w ds)) H'
/-- the parts one by one; 61 where they are more than 60 -/
def goL (sz : PyData → Int) : Int → List PyData → Int
  | m, [] => m
  | m, d :: ds => if 60 < m + sz d then 61 else goL sz (m + sz d) ds
def howF (sz : PyData → Int) : PyData → Int
  | .tuple ds => goL sz 0 ds
  | _ => 61
def lastD (ds : List PyData) : PyData := ds.getLast?.getD .none
/-- a part that may hold n loops more in each other -/
def sizeD : Nat → PyData → Int
  | 0, .tuple (.str w :: ds) => if roundW w then 61 else if singD w ds then 1 else 61
  | n + 1, .tuple (.str w :: ds) => if roundW w then (if headD (3 - n) w ds then 1 + howF (sizeD n) (lastD ds) else 61) else if singD w ds then 1 else 61
  | _, _ => 61
def spSize (K : PySem.W.Frag) (n : Nat) : Sp := fun vs H Q _ => ∃ x d, vs = [x, .int (4 - n)] ∧ Dp K H x d ∧ sOk d ∧ ∀ H', Same H H' → Q (.int (sizeD n d)) H'
def spHow (K : PySem.W.Frag) (n : Nat) : Sp := fun vs H Q _ => ∃ x d, vs = [x, .int (4 - n)] ∧ Dp K H x d ∧ sOk d ∧ ∀ H', Same H H' → Q (.int (howF (sizeD n) d)) H'
section
variable {P : Program} {w : World} {K : PySem.W.Frag} {mg : Str → Option Value} {base : Heap}
theorem ok_int {f : Addr} {fd : FuncData} (F : FnP K "is_integer" sInt f fd) (T : Prg mg) : FnOk P w K mg base CX0 1 f fd ["thing"] (spInt K) := by
  refine F.ok scN (fun vs H Q E h => ?_) (fun cdv A outer s H vs Q E hr h => ?_)
  · obtain ⟨x, d, rfl, _⟩ := h
    rfl
  · obtain ⟨x, d, rfl, hd, q⟩ := h
    refine ⟨_, pss_one (ps_ret (pe_and (pe_isD T.isn (pv 0) (pe_bltn (by rfl) T.int bbI (by rfl)) (by rfl)) (pe_one (pe_not (pe_isD T.isn (pv 0) (pe_bltn (by rfl) T.bool bbB (by rfl)) (by rfl)))))), ?_⟩
    cases d with
    | int i => exact ⟨_, rfl, _, _, hd, (by decide +kernel : kitB "int" "int" = some true), _, rfl, iteT ⟨_, rfl, _, _, hd, (by decide +kernel : kitB "int" "bool" = some false), _, rfl, q⟩⟩
    | bool b => exact ⟨_, rfl, _, _, hd, (by decide +kernel : kitB "bool" "int" = some true), _, rfl, iteT ⟨_, rfl, _, _, hd, (by decide +kernel : kitB "bool" "bool" = some true), _, rfl, q⟩⟩
    | none => exact ⟨_, rfl, _, _, hd, (by decide +kernel : kitB "NoneType" "int" = some false), _, rfl, iteF q⟩
    | str x => exact ⟨_, rfl, _, _, hd, (by decide +kernel : kitB "str" "int" = some false), _, rfl, iteF q⟩
    | list x => exact ⟨_, rfl, _, _, hd, (by decide +kernel : kitB "list" "int" = some false), _, rfl, iteF q⟩
    | tuple x => exact ⟨_, rfl, _, _, hd, (by decide +kernel : kitB "tuple" "int" = some false), _, rfl, iteF q⟩
    | dict x => cases hd
theorem ok_betw {f fN : Addr} {fd dN : FuncData} (F : FnP K "is_between" sBetw f fd) (N : Def P w K mg base CX0 1 "is_integer" fN dN ["thing"] (spInt K)) : FnOk P w K mg base CX0 2 f fd ["thing", "low", "high"] (spBetw K) := by
  refine F.ok scB (fun vs H Q E h => ?_) (fun cdv A outer s H vs Q E hr h => ?_)
  · obtain ⟨x, lo, hi, d, rfl, _⟩ := h
    rfl
  · obtain ⟨x, lo, hi, d, rfl, hd, q⟩ := h
    refine ⟨_, pss_one (ps_ret (pe_and (pe_call N.ok hr (by rfl) N.g N.k N.b .nil pass0 (pa_cons (pv 0) pa_nil)) (pe_one (pe_chain op_le op_le (pv 1) (pv 0) (pv 2))))), ?_⟩
    have e0 : start ["thing", "low", "high"] [x, .int lo, .int hi] = [some x, some (.int lo), some (.int hi)] := rfl
    rw [e0]
    refine ⟨_, rfl, x, d, rfl, hd, _, rfl, ?_⟩
    cases hd with
    | int i =>
      refine iteT ⟨_, rfl, _, rfl, _, _, rfl, rfl, _, rfl, ite_dec (fun h => ?_) fun h => ?_⟩
      · refine ⟨_, rfl, _, _, rfl, rfl, ?_⟩
        have e : betw lo hi (.int i) = decide (i ≤ hi) := by
          show (decide (lo ≤ i) && decide (i ≤ hi)) = _
          rw [decide_eq_true h, Bool.true_and]
        rw [e] at q
        exact q
      · have e : betw lo hi (.int i) = false := by
          show (decide (lo ≤ i) && decide (i ≤ hi)) = _
          rw [decide_eq_false h, Bool.false_and]
        rw [e] at q
        exact q
    | _ => exact iteF q
theorem ok_count {f fB : Addr} {fd dB : FuncData} (F : FnP K "is_count" sCount f fd) (T : Prg mg) (N : Def P w K mg base CX0 2 "is_between" fB dB ["thing", "low", "high"] (spBetw K)) : FnOk P w K mg base CX0 3 f fd ["thing"] (spCount K) := by
  refine F.ok scC (fun vs H Q E h => ?_) (fun cdv A outer s H vs Q E hr h => ?_)
  · obtain ⟨x, d, rfl, _⟩ := h
    rfl
  · obtain ⟨x, d, rfl, hd, q⟩ := h
    obtain ⟨tf, hfar⟩ := T.far
    refine ⟨_, pss_cons (ps_if (PW.pt (pw_or (pt_not (pt_val (pe_isD T.isn (pv 0) (pe_bltn (by rfl) T.tuple bbT (by rfl)) (by rfl)))) (pw_or1 (pt_cmpR op_ne (pe_callB call_len_seq (by rfl) T.len boot_len (pa_cons (pv 0) pa_nil)) pe_int (nomark _))))) (pss_one (ps_ret pe_bl)) pss_nil)
      (pss_cons (ps_asg (pv 0) (pg_tup rfl (pgs_cons (pg_name (i := 1) scC.nd rfl (Or.inl rfl)) (pgs_cons (pg_name (i := 2) scC.nd rfl (Or.inl rfl)) pgs_nil))))
      (pss_cons (ps_if (PW.pt (pw_or (pt_not (pt_val (pe_call N.ok hr (by rfl) N.g N.k N.b .nil pass0 (pa_cons (pv 1) (pa_cons pe_int (pa_cons pe_int pa_nil))))))
          (pw_or1 (pt_not (pt_val (pe_call N.ok hr (by rfl) N.g N.k N.b .nil pass0 (pa_cons (pv 2) (pa_cons (pe_un un_neg (pe_gI hfar (by rfl))) (pa_cons (pe_gI hfar (by rfl)) pa_nil))))))))) (pss_one (ps_ret pe_bl)) pss_nil)
      (pss_one (ps_ret (pe_or (pe_cmpR op_gt (pv 1) pe_int (nomark _)) (pe_one (pe_cmpR op_ge (pv 2) pe_int (nomark _)))))))), ?_⟩
    have e0 : start ["thing", "a", "b"] [x] = [some x, none, none] := rfl
    rw [e0]
    have qf : countD d = false → Q (.bl false) H := fun e => by rw [e] at q; exact q
    refine go_seq ?_
    cases hd with
    | non => exact ⟨_, rfl, _, _, .non, (by decide +kernel : kitB "NoneType" "tuple" = some false), _, rfl, iteT (iteT (qf rfl))⟩
    | bl b => exact ⟨_, rfl, _, _, .bl b, (by decide +kernel : kitB "bool" "tuple" = some false), _, rfl, iteT (iteT (qf rfl))⟩
    | int i => exact ⟨_, rfl, _, _, .int i, (by decide +kernel : kitB "int" "tuple" = some false), _, rfl, iteT (iteT (qf rfl))⟩
    | str i => exact ⟨_, rfl, _, _, .str i, (by decide +kernel : kitB "str" "tuple" = some false), _, rfl, iteT (iteT (qf rfl))⟩
    | lst hS ha => exact ⟨_, rfl, _, _, .lst hS ha, (by decide +kernel : kitB "list" "tuple" = some false), _, rfl, iteT (iteT (qf rfl))⟩
    | @tup t xs ds hS ha =>
      refine ⟨_, rfl, _, _, .tup hS ha, (by decide +kernel : kitB "tuple" "tuple" = some true), _, rfl, iteF ⟨_, rfl, t, xs, rfl, .inr hS, rfl, _, rfl, ?_⟩⟩
      have short : ∀ {A B : Prop}, xs.length ≠ 2 → (countD (.tuple ds) = false → A) → countD (.tuple ds) = false → (if (!decide (V.int (xs.length : Int) = V.int 2)) = true then A else B) := fun n h e => by
        rw [decide_eq_false (fun z => n (by have z1 := V.int.inj z; omega))]
        exact iteT (h e)
      cases ha with
      | nil => exact short (fun z => by cases z) (fun e => qf e) rfl
      | @cons v1 vs d1 ds1 h1 ha1 =>
        cases ha1 with
        | nil => exact short (fun z => by cases z) (fun e => qf e) (by cases h1 <;> rfl)
        | @cons v2 vs2 d2 ds2 h2 ha2 =>
          cases ha2 with
          | cons h3 ha3 => exact short (by simp only [List.length_cons]; omega) (fun e => qf e) (by cases h1 <;> first | rfl | (cases h2 <;> rfl))
          | nil =>
            refine iteNS rfl ?_
            walk_at "nx"
            refine ⟨_, rfl, t, _, rfl, hS, rfl, v1, _, rfl, v2, _, rfl, rfl, ?_⟩
            refine ⟨_, rfl, v1, 0, 9, d1, rfl, h1, _, rfl, ?_⟩
            have q' := q
            rw [countD_two] at q'
            cases b1 : betw 0 9 d1 with
            | false =>
              rw [b1] at q'
              exact q'
            | true =>
              rw [b1, Bool.true_and] at q'
              refine iteF ⟨_, rfl, _, rfl, v2, -(10 ^ 30), 10 ^ 30, d2, rfl, h2, _, rfl, ?_⟩
              cases b2 : betw (-(10 ^ 30)) (10 ^ 30) d2 with
              | false =>
                rw [b2] at q'
                exact q'
              | true =>
                rw [b2, Bool.true_and] at q'
                obtain ⟨i, rfl, _, _⟩ := betw_int b1
                obtain ⟨j, rfl, _, _⟩ := betw_int b2
                cases h1
                cases h2
                walk_at "nx"
                refine ⟨_, rfl, _, _, rfl, rfl, _, rfl, ite_dec (fun g => ?_) fun g => ⟨_, rfl, _, _, rfl, rfl, ?_⟩⟩
                · dsimp only at q'
                  rw [decide_eq_true g, Bool.true_or] at q'
                  exact q'
                · dsimp only at q'
                  rw [decide_eq_false g, Bool.false_or] at q'
                  exact q'
theorem ok_round {f : Addr} {fd : FuncData} (F : FnP K "is_round" sRound f fd) : FnOk P w K mg base CX0 1 f fd ["part"] (spRound K) := by
  refine F.ok scR (fun vs H Q E h => ?_) (fun cdv A outer s H vs Q E hr h => ?_)
  · obtain ⟨x, w, ds, rfl, _⟩ := h
    rfl
  · obtain ⟨x, w, ds, rfl, hd, q⟩ := h
    obtain ⟨t, v, vs, rfl, hS, h1, h2⟩ := tupD hd
    cases strD h1
    refine ⟨_, pss_one (ps_ret (pe_cmpR op_in_seq (pe_ix ix_tup (pv 0) pe_int (fun _ _ => rfl)) (pe_tup (pa_cons pe_str (pa_cons pe_str pa_nil))) (by rfl))), ?_⟩
    have e0 : start ["part"] [V.ref t] = [some (.ref t)] := rfl
    rw [e0]
    refine ⟨_, rfl, t, _, 0, .str w, rfl, rfl, hS, at0, by show 2 ≤ sizeLine; decide, fun p np => ?_⟩
    refine ⟨p, _, rfl, .inr (SqT.of upd_same), rfl, rfl, ?_⟩
    have z := q _ (same_upd (o := .tup [.str "loop", .str "forever"]) np)
    have e : inV (V.str w) [V.str "loop", V.str "forever"] = roundW w := by
      have c : ∀ y : Str, ((y : Str) == w) = decide (w = y) := fun y => by
        by_cases h : w = y
        · subst h; simp
        · have h' : ¬ y = w := fun z => h z.symm
          simp [h, h']
      show (((("loop" : Str) == w) || ((("forever" : Str) == w) || false))) = _
      rw [c, c, Bool.or_false]
      rfl
    rw [← e] at z
    exact z
theorem ok_head {f fC : Addr} {fd dC : FuncData} (F : FnP K "_is_head" sHead f fd) (T : Prg mg) (N : Def P w K mg base CX0 3 "is_count" fC dC ["thing"] (spCount K)) : FnOk P w K mg base CX0 4 f fd ["part", "depth"] (spHead K) := by
  refine F.ok scH (fun vs H Q E h => ?_) (fun cdv A outer s H vs Q E hr h => ?_)
  · obtain ⟨x, dep, w, ds, rfl, _⟩ := h
    rfl
  · obtain ⟨x, dep, w, ds, rfl, hd, q⟩ := h
    obtain ⟨t, v, vs, rfl, hS, h1, h2⟩ := tupD hd
    cases strD h1
    obtain ⟨td, hdeep⟩ := T.deep
    refine ⟨_, pss_cons (ps_if (pt_cmpR op_eq (pe_ix ix_tup (pv 0) pe_int (fun _ _ => rfl)) pe_str (nomark _)) (pss_one (ps_ret (pe_and (pe_cmpR op_eq (pe_callB call_len_seq (by rfl) T.len boot_len (pa_cons (pv 0) pa_nil)) pe_int (nomark _)) (pe_one (pe_cmpR op_eq (pv 1) pe_int (nomark _)))))) pss_nil)
      (pss_one (ps_ret (pe_and (pe_cmpR op_eq (pe_callB call_len_seq (by rfl) T.len boot_len (pa_cons (pv 0) pa_nil)) pe_int (nomark _)) (pe_and (pe_call N.ok hr (by rfl) N.g N.k N.b .nil pass0 (pa_cons (pe_ix ix_tup (pv 0) pe_int (fun _ _ => rfl)) pa_nil)) (pe_one (pe_cmpR op_lt (pv 1) (pe_gI hdeep (by rfl)) (nomark _))))))), ?_⟩
    have e0 : start ["part", "depth"] [V.ref t, .int dep] = [some (.ref t), some (.int dep)] := rfl
    rw [e0]
    have hq : ∀ b, headD dep w ds = b → Q (.bl b) H := fun b e => by rw [e] at q; exact q
    refine go_seq ?_
    refine ⟨_, rfl, t, _, 0, .str w, rfl, rfl, hS, at0, rfl, _, rfl, ite_dec (fun hw => ?_) fun hw => ?_⟩
    · have hw := V.str.inj hw
      refine ⟨_, rfl, t, _, rfl, .inr hS, rfl, _, rfl, ?_⟩
      cases h2 with
      | nil => exact len_if (fun z => absurd z (by simp)) fun _ => hq _ rfl
      | cons g1 h3 =>
        cases h3 with
        | nil =>
          refine len_if (fun _ => ⟨_, rfl, rfl, hq _ ?_⟩) (fun z => absurd rfl z)
          show (decide (w = "forever") && decide (dep = 0)) = _
          rw [decide_eq_true hw, Bool.true_and, dec_vint]
        | cons g2 h4 =>
          refine len_if (fun z => absurd z ?_) fun _ => hq _ ?_
          · simp only [List.length_cons]; omega
          · cases h4 with
            | nil =>
              show (!decide (w = "forever") && _) = _
              rw [decide_eq_true hw]
              rfl
            | cons _ _ => rfl
    · have hw : ¬ w = "forever" := fun z => hw (by rw [z])
      refine ⟨_, rfl, t, _, rfl, .inr hS, rfl, _, rfl, ?_⟩
      cases h2 with
      | nil => exact len_if (fun z => absurd z (by simp)) fun _ => hq _ rfl
      | cons g1 h3 =>
        cases h3 with
        | nil =>
          refine len_if (fun z => absurd z (by simp)) fun _ => hq _ ?_
          show (decide (w = "forever") && _) = _
          rw [decide_eq_false hw]
          rfl
        | cons g2 h4 =>
          cases h4 with
          | cons _ _ => exact len_if (fun z => absurd z (by simp only [List.length_cons]; omega)) fun _ => hq _ rfl
          | nil =>
            refine len_if (fun _ => ⟨_, rfl, t, _, 1, _, rfl, rfl, hS, at1, _, _, rfl, g1, _, rfl, ?_⟩) (fun z => absurd rfl z)
            have e : ∀ c k, headD dep w [c, k] = (countD c && decide (dep < 4)) := fun c k => by
              show (!decide (w = "forever") && _) = _
              rw [decide_eq_false hw, Bool.not_false, Bool.true_and]
            simp only [e] at hq
            refine ite2 (fun h => ⟨_, rfl, _, _, rfl, rfl, hq _ ?_⟩) fun h => hq _ ?_
            · rw [h, Bool.true_and]
            · rw [Bool.not_eq_true _ |>.mp h, Bool.false_and]
theorem ok_sing {f fB fW : Addr} {fd dB dW : FuncData} (F : FnP K "_is_single" sSing f fd) (T : Prg mg) (N : Def P w K mg base CX0 2 "is_between" fB dB ["thing", "low", "high"] (spBetw K)) (W : Def P w K mg base CX0 1 "is_word" fW dW ["thing"] (spWord K)) : FnOk P w K mg base CX0 3 f fd ["part"] (spSing K) := by
  refine F.ok scG (fun vs H Q E h => ?_) (fun cdv A outer s H vs Q E hr h => ?_)
  · obtain ⟨x, w, ds, rfl, _⟩ := h
    rfl
  · obtain ⟨x, w, ds, rfl, hd, hso, q⟩ := h
    obtain ⟨t, v, vs, rfl, hS, h1, h2⟩ := tupD hd
    cases strD h1
    obtain ⟨tl, hlong⟩ := T.long
    obtain ⟨to, honce⟩ := T.once
    have hr1 : Room 1 _ := hr.mono (by decide)
    refine ⟨_, pss_cons (ps_if (pt_cmpR op_eq (pe_ix ix_tup (pv 0) pe_int (fun _ _ => rfl)) pe_str (nomark _)) (pss_one (ps_ret (pe_and (pe_cmpR op_eq (pe_callB call_len_seq (by rfl) T.len boot_len (pa_cons (pv 0) pa_nil)) pe_int (nomark _)) (pe_one (pe_call N.ok hr (by rfl) N.g N.k N.b .nil pass0 (pa_cons (pe_ix ix_tup (pv 0) pe_int (fun _ _ => rfl)) (pa_cons pe_int (pa_cons (pe_gI hlong (by rfl)) pa_nil)))))))) pss_nil)
      (pss_cons (ps_if (PW.pt (pw_or (pt_cmpR op_notIn_seq (pe_ix ix_tup (pv 0) pe_int (fun _ _ => rfl)) (pe_tup (pa_cons pe_str (pa_cons pe_str pa_nil))) (by rfl)) (pw_or1 (pt_cmpR op_ne (pe_callB call_len_seq (by rfl) T.len boot_len (pa_cons (pv 0) pa_nil)) pe_int (nomark _))))) (pss_one (ps_ret pe_bl)) pss_nil)
      (pss_one (ps_ret (pe_and (pe_call W.ok hr1 (by rfl) W.g W.k W.b .nil pass0 (pa_cons (pe_ix ix_tup (pv 0) pe_int (fun _ _ => rfl)) pa_nil)) (pe_one (pe_call N.ok hr (by rfl) N.g N.k N.b .nil pass0 (pa_cons (pe_ix ix_tup (pv 0) pe_int (fun _ _ => rfl)) (pa_cons pe_int (pa_cons (pe_gI honce (by rfl)) pa_nil))))))))), ?_⟩
    have e0 : start ["part"] [V.ref t] = [some (.ref t)] := rfl
    rw [e0]
    have hq : ∀ b H', Same H H' → singD w ds = b → Q (.bl b) H' := fun b H' s' e => by
      have z := q H' s'
      rw [e] at z
      exact z
    refine go_seq ?_
    refine ⟨_, rfl, t, _, 0, .str w, rfl, rfl, hS, at0, rfl, _, rfl, ite_dec (fun hw => ?_) fun hw => ?_⟩
    · have hw := V.str.inj hw
      refine ⟨_, rfl, t, _, rfl, .inr hS, rfl, _, rfl, ?_⟩
      cases h2 with
      | nil => exact len_if (fun z => absurd z (by simp)) fun _ => hq _ H (Same.refl H) rfl
      | cons g1 h3 =>
        cases h3 with
        | nil =>
          refine len_if (fun _ => ⟨_, rfl, t, _, 1, _, rfl, rfl, hS, at1, _, 1, 99, _, rfl, g1, hq _ H (Same.refl H) ?_⟩) (fun z => absurd rfl z)
          show (decide (w = "work") && _) = _
          rw [decide_eq_true hw, Bool.true_and]
        | cons g2 h4 =>
          refine len_if (fun z => absurd z ?_) fun _ => hq _ H (Same.refl H) ?_
          · simp only [List.length_cons]; omega
          · cases h4 with
            | nil =>
              show (!decide (w = "work") && _) = _
              rw [decide_eq_true hw]
              rfl
            | cons _ _ => rfl
    · have hw : ¬ w = "work" := fun z => hw (by rw [z])
      walk_at "nx"
      refine ⟨_, rfl, t, _, 0, .str w, rfl, rfl, hS, at0, by show 2 ≤ sizeLine; decide, fun p np => ?_⟩
      have sp := same_upd (o := .tup [.str "send", .str "take"]) np
      refine ⟨p, _, rfl, .inr (SqT.of upd_same), rfl, rfl, _, rfl, ?_⟩
      have e : inV (V.str w) [V.str "send", V.str "take"] = (decide (w = "send") || decide (w = "take")) := by
        have c : ∀ y : Str, ((y : Str) == w) = decide (w = y) := fun y => by
          by_cases h : w = y
          · subst h; simp
          · have h' : ¬ y = w := fun z => h z.symm
            simp [h, h']
        show (((("send" : Str) == w) || ((("take" : Str) == w) || false))) = _
        rw [c, c, Bool.or_false]
      have e2 : ∀ c k, singD w [c, k] = ((decide (w = "send") || decide (w = "take")) && (wordD c && betw 1 9 k)) := fun c k => by
        show (!decide (w = "work") && _) = _
        rw [decide_eq_false hw, Bool.not_false, Bool.true_and]
      have e3 : ∀ c, singD w [c] = false := fun c => by
        show (decide (w = "work") && _) = _
        rw [decide_eq_false hw]
        rfl
      rw [if_pos rfl, e]
      have no : (singD w ds = false) → Q (.bl false) (upd H p (.tup [.str "send", .str "take"])) := fun z => hq _ _ sp z
      cases hst : (decide (w = "send") || decide (w = "take")) with
      | false =>
        simp only [hst, Bool.false_and] at e2
        refine no ?_
        cases h2 with
        | nil => rfl
        | cons g1 h3 =>
          cases h3 with
          | nil => exact e3 _
          | cons g2 h4 =>
            cases h4 with
            | nil => exact e2 _ _
            | cons _ _ => rfl
      | true =>
        simp only [hst, Bool.true_and] at e2
        refine ⟨_, rfl, t, _, rfl, .inr (seqT sp hS), rfl, _, rfl, ?_⟩
        cases h2 with
        | nil => exact len_ne (fun _ => no rfl) fun z => absurd z (by simp)
        | cons g1 h3 =>
          cases h3 with
          | nil => exact len_ne (fun _ => no (e3 _)) fun z => absurd z (by simp)
          | cons g2 h4 =>
            cases h4 with
            | cons _ _ => exact len_ne (fun _ => no rfl) fun z => absurd z (by simp only [List.length_cons]; omega)
            | nil =>
              refine len_ne (fun z => absurd rfl z) fun _ => ?_
              walk_at "nx"
              refine ⟨_, rfl, t, _, 1, _, rfl, rfl, seqT sp hS, at1, _, _, rfl, Dp.same sp g1, sOkAll.at (i := 0) hso rfl, fun H2 s2 => ⟨_, rfl, ite2 (fun h => ?_) fun h => hq _ H2 (sp.trans s2) ?_⟩⟩
              · refine ⟨_, rfl, t, _, 2, _, rfl, rfl, seqT (sp.trans s2) hS, at2, _, 1, 9, _, rfl, Dp.same (sp.trans s2) g2, hq _ H2 (sp.trans s2) ?_⟩
                rw [e2, h, Bool.true_and]
              · rw [e2, Bool.not_eq_true _ |>.mp h, Bool.false_and]
theorem ok_how {n : Nat} {f fS : Addr} {fd dS : FuncData} (F : FnP K "_how_many" sHow f fd) (T : Prg mg) {k : Nat} (N : Def P w K mg base CX0 k "_size_of" fS dS ["part", "depth"] (spSize K n)) : FnOk P w K mg base CX0 (k + 1) f fd ["parts", "depth"] (spHow K n) := by
  refine F.ok scW (fun vs H Q E h => ?_) (fun cdv A outer s H vs Q E hr h => ?_)
  · obtain ⟨x, d, rfl, _⟩ := h
    rfl
  · obtain ⟨x, d, rfl, hd, hso, q⟩ := h
    obtain ⟨tm, hmost⟩ := T.most
    obtain ⟨tn, hno⟩ := T.norow
    refine ⟨_, PSs.nox (pss_cons (ps_if (pt_not (pt_val (pe_isD T.isn (pv 0) (pe_bltn (by rfl) T.tuple bbT (by rfl)) (by rfl)))) (pss_one (ps_ret (pe_gI hno (by rfl)))) pss_nil)
      (pss_cons (ps_set (i := 2) scW.nd rfl (Or.inl rfl) pe_int)
      (pss_cons (ps_for PassesOwn.never rfl (pi_tup (pv 0)) (pg_name (i := 3) scW.nd rfl (Or.inl rfl))
        (pss_cons (ps_set (i := 2) scW.nd rfl (Or.inl rfl) (pe_op op_add (pv 2) (pe_call N.ok hr (by rfl) N.g N.k N.b .nil pass0 (pa_cons (pv 3) (pa_cons (pv 1) pa_nil)))))
        (pss_one (ps_if (pt_cmpR op_gt (pv 2) (pe_gI hmost (by rfl)) (nomark _)) (pss_one (ps_ret (pe_gI hno (by rfl)))) pss_nil))))
      (pss_one (ps_ret (pv 2)))))), ?_⟩
    have e0 : start ["parts", "depth", "many", "part"] [x, .int (4 - n)] = [some x, some (.int (4 - n)), none, none] := rfl
    rw [e0]
    have qf : howF (sizeD n) d = 61 → Q (.int 61) H := fun e => by
      have z := q H (Same.refl H)
      rw [e] at z
      exact z
    refine go_seq ?_
    cases hd with
    | non => exact ⟨_, rfl, _, _, .non, (by decide +kernel : kitB "NoneType" "tuple" = some false), _, rfl, iteT (qf rfl)⟩
    | bl b => exact ⟨_, rfl, _, _, .bl b, (by decide +kernel : kitB "bool" "tuple" = some false), _, rfl, iteT (qf rfl)⟩
    | int i => exact ⟨_, rfl, _, _, .int i, (by decide +kernel : kitB "int" "tuple" = some false), _, rfl, iteT (qf rfl)⟩
    | str i => exact ⟨_, rfl, _, _, .str i, (by decide +kernel : kitB "str" "tuple" = some false), _, rfl, iteT (qf rfl)⟩
    | lst hS ha => exact ⟨_, rfl, _, _, .lst hS ha, (by decide +kernel : kitB "list" "tuple" = some false), _, rfl, iteT (qf rfl)⟩
    | @tup t xs ds hS ha =>
      refine ⟨_, rfl, _, _, .tup hS ha, (by decide +kernel : kitB "tuple" "tuple" = some true), _, rfl, ?_⟩
      walk_at "nx"
      refine iteF ?_
      refine ⟨_, rfl, t, rfl, ⟨_, hS⟩, for_tupD (K := K) (a := t) (xs := xs) (fun i σ H' => Same H H' ∧ ∃ m o, σ = [some (.ref t), some (.int (4 - n)), some (.int m), o] ∧ goL (sizeD n) m (ds.drop i) = goL (sizeD n) 0 ds)
        ⟨Same.refl H, _, _, rfl, rfl⟩ (fun i σ H' _ q => seqT q.1 hS) ?_ ?_⟩
      · rintro D' i v σ H2 hrt hnx - - hi ⟨s2, m, o, rfl, eg⟩
        obtain ⟨dv, hdi, hdv⟩ := DpAll.at ha hi
        have edrop : ds.drop i = dv :: ds.drop (i + 1) := by
          obtain ⟨hlt, e⟩ := List.getElem?_eq_some_iff.mp hdi
          rw [← e]
          exact List.drop_eq_getElem_cons hlt
        rw [edrop] at eg
        walk_at "nx"
        refine ⟨_, rfl, _, rfl, _, rfl, v, dv, rfl, Dp.same s2 hdv, sOkAll.at (by unfold sOk at hso; exact hso.2) hdi, fun H3 s3 => ⟨_, _, rfl, rfl, ?_⟩⟩
        have s0 := s2.trans s3
        refine ⟨_, rfl, _, _, rfl, rfl, _, rfl, ite_dec (fun g => ?_) fun g => hnx _ _ ⟨s0, _, _, rfl, ?_⟩⟩
        · have e : goL (sizeD n) m (dv :: ds.drop (i + 1)) = 61 := if_pos g
          show D'.rt (.int 61) H3
          rw [hrt]
          have z := q H3 s0
          rw [show howF (sizeD n) (.tuple ds) = 61 from eg.symm.trans e] at z
          exact z
        · rw [← eg]
          exact (if_neg g).symm
      · rintro σ H2 ⟨s2, m, o, rfl, eg⟩
        have len : ds.drop xs.length = [] := by
          rw [DpAll.length ha]
          exact List.drop_length
        rw [len] at eg
        have z := q H2 s2
        rw [show howF (sizeD n) (.tuple ds) = m from eg.symm] at z
        exact ⟨_, rfl, z⟩
theorem head4 {w : Str} {ds : List PyData} : headD (4 - ((0 : Nat) : Int)) w ds = false := by
  match ds with
  | [] => rfl
  | [d] => show (decide (w = "forever") && decide ((4 : Int) - ((0 : Nat) : Int) = 0)) = false; rw [decide_eq_false (p := (4 : Int) - ((0 : Nat) : Int) = 0) (by omega), Bool.and_false]
  | [c, d] => show (!decide (w = "forever") && (countD c && decide ((4 : Int) - ((0 : Nat) : Int) < 4))) = false; rw [decide_eq_false (p := (4 : Int) - ((0 : Nat) : Int) < 4) (by omega), Bool.and_false, Bool.and_false]
  | _ :: _ :: _ :: _ => rfl
theorem head_ne {dep : Int} {w : Str} {ds : List PyData} (h : headD dep w ds = true) : ds ≠ [] := fun z => by
  subst z
  cases h
theorem last_of {H : Hp} {v : V} {vs : List V} {ds : List PyData} (h : DpAll K H vs ds) (n : ds ≠ []) : ∃ u, atI (v :: vs) (-1) = some u ∧ Dp K H u (lastD ds) := by
  have hl := DpAll.length h
  have nv : vs ≠ [] := fun z => n (by rw [z] at hl; exact List.length_eq_zero_iff.mp hl.symm)
  have e := List.dropLast_concat_getLast nv
  have hlast : vs[vs.length - 1]? = some (vs.getLast nv) := by rw [← List.getLast?_eq_getElem?, List.getLast?_eq_some_getLast nv]
  obtain ⟨d, hd, hu⟩ := DpAll.at h hlast
  refine ⟨vs.getLast nv, ?_, ?_⟩
  · have z := atI_last (v :: vs.dropLast) (vs.getLast nv)
    rw [List.cons_append, e] at z
    exact z
  · have : lastD ds = d := by
      unfold lastD
      rw [List.getLast?_eq_getElem?, ← hl, hd]
      rfl
    rw [this]
    exact hu
theorem last_ok {ds : List PyData} (h : sOkAll ds) (n : ds ≠ []) : sOk (lastD ds) := by
  have e : ds[ds.length - 1]? = some (lastD ds) := by
    unfold lastD
    rw [← List.getLast?_eq_getElem?]
    cases hl : ds.getLast? with
    | none => exact absurd (List.getLast?_eq_none_iff.mp hl) n
    | some d => rfl
  exact sOkAll.at h e
theorem ok_size0 {f fR fH fG : Addr} {fd dR dH dG : FuncData} (F : FnP K "_size_of" sSize f fd) (T : Prg mg) {k : Nat} (h4 : 4 ≤ k) (R : Def P w K mg base CX0 1 "is_round" fR dR ["part"] (spRound K)) (Hd : Def P w K mg base CX0 4 "_is_head" fH dH ["part", "depth"] (spHead K)) (G : Def P w K mg base CX0 3 "_is_single" fG dG ["part"] (spSing K)) : FnOk P w K mg base CX0 (k + 1) f fd ["part", "depth"] (spSize K 0) := by
  refine F.ok scZ (fun vs H Q E h => ?_) (fun cdv A outer s H vs Q E hr h => ?_)
  · obtain ⟨x, d, rfl, _⟩ := h
    rfl
  · obtain ⟨x, d, rfl, hd, hso, q⟩ := h
    obtain ⟨tn, hno⟩ := T.norow
    have hr1 : Room 1 _ := hr.mono (by omega)
    have hr3 : Room 3 _ := hr.mono (by omega)
    have hr4 : Room 4 _ := hr.mono h4
    refine ⟨_, pss_cons (ps_if (PW.pt (pw_or (pt_not (pt_val (pe_isD T.isn (pv 0) (pe_bltn (by rfl) T.tuple bbT (by rfl)) (by rfl)))) (pw_or (pt_not (pt_truth (pv 0) (fun _ => rfl))) (pw_or1 (pt_not (pt_val (pe_isD T.isn (pe_ix ix_tup (pv 0) pe_int (fun _ _ => rfl)) (pe_bltn (by rfl) T.str bbS (by rfl)) (by rfl)))))))) (pss_one (ps_ret (pe_gI hno (by rfl)))) pss_nil)
      (pss_cons (ps_if (pt_val (pe_call R.ok hr1 (by rfl) R.g R.k R.b .nil pass0 (pa_cons (pv 0) pa_nil))) (pss_one (ps_ret (pe_ifExp (pt_val (pe_call Hd.ok hr4 (by rfl) Hd.g Hd.k Hd.b .nil pass0 (pa_cons (pv 0) (pa_cons (pv 1) pa_nil)))) (pe_op op_add pe_int pe_never) (pe_gI hno (by rfl))))) pss_nil)
      (pss_one (ps_ret (pe_ifExp (pt_val (pe_call G.ok hr3 (by rfl) G.g G.k G.b .nil pass0 (pa_cons (pv 0) pa_nil))) pe_int (pe_gI hno (by rfl)))))), ?_⟩
    have e0 : start ["part", "depth"] [x, .int (4 - ((0 : Nat) : Int))] = [some x, some (.int (4 - ((0 : Nat) : Int)))] := rfl
    rw [e0]
    have qf : ∀ H', Same H H' → sizeD (0) d = 61 → Q (.int 61) H' := fun H' s' e => by
      have z := q H' s'
      rw [e] at z
      exact z
    refine go_seq ?_
    cases hd with
    | non => exact ⟨_, rfl, _, _, .non, (by decide +kernel : kitB "NoneType" "tuple" = some false), _, rfl, iteT (iteT (qf H (Same.refl H) rfl))⟩
    | bl b => exact ⟨_, rfl, _, _, .bl b, (by decide +kernel : kitB "bool" "tuple" = some false), _, rfl, iteT (iteT (qf H (Same.refl H) rfl))⟩
    | int i => exact ⟨_, rfl, _, _, .int i, (by decide +kernel : kitB "int" "tuple" = some false), _, rfl, iteT (iteT (qf H (Same.refl H) rfl))⟩
    | str i => exact ⟨_, rfl, _, _, .str i, (by decide +kernel : kitB "str" "tuple" = some false), _, rfl, iteT (iteT (qf H (Same.refl H) rfl))⟩
    | lst hS ha => exact ⟨_, rfl, _, _, .lst hS ha, (by decide +kernel : kitB "list" "tuple" = some false), _, rfl, iteT (iteT (qf H (Same.refl H) rfl))⟩
    | @tup t xs ds hS ha =>
      refine ⟨_, rfl, _, _, .tup hS ha, (by decide +kernel : kitB "tuple" "tuple" = some true), _, rfl, iteF ⟨_, rfl, _, .inr (.inl ⟨xs, hS, rfl⟩), ?_⟩⟩
      have hd : Dp K H (.ref t) (.tuple ds) := .tup hS ha
      cases ha with
      | nil => exact iteT (qf H (Same.refl H) rfl)
      | @cons v vs d1 rest h1 h2 =>
        refine iteF ⟨_, rfl, t, _, 0, v, rfl, rfl, hS, at0, ?_⟩
        cases h1 with
        | non => exact ⟨_, _, .non, (by decide +kernel : kitB "NoneType" "str" = some false), _, rfl, qf H (Same.refl H) rfl⟩
        | bl b => exact ⟨_, _, .bl b, (by decide +kernel : kitB "bool" "str" = some false), _, rfl, qf H (Same.refl H) rfl⟩
        | int i => exact ⟨_, _, .int i, (by decide +kernel : kitB "int" "str" = some false), _, rfl, qf H (Same.refl H) rfl⟩
        | lst hS2 ha2 => exact ⟨_, _, .lst hS2 ha2, (by decide +kernel : kitB "list" "str" = some false), _, rfl, qf H (Same.refl H) rfl⟩
        | tup hS2 ha2 => exact ⟨_, _, .tup hS2 ha2, (by decide +kernel : kitB "tuple" "str" = some false), _, rfl, qf H (Same.refl H) rfl⟩
        | str w =>
          have hsr : sOkAll rest := by unfold sOk sOkAll at hso; exact hso.2.2
          refine ⟨_, _, .str w, (by decide +kernel : kitB "str" "str" = some true), _, rfl, ?_⟩
          walk_at "nx"
          refine ⟨_, rfl, _, w, rest, rfl, hd, fun H1 s1 => ⟨_, rfl, ?_⟩⟩
          cases hw : roundW w with
          | false =>
            have e : sizeD (0) (.tuple (.str w :: rest)) = if singD w rest then 1 else 61 := by
              show (if roundW w then _ else _) = _
              rw [hw]
              rfl
            walk_at "nx"
            refine ⟨_, rfl, _, w, rest, rfl, Dp.same s1 hd, hsr, fun H2 s2 => ⟨_, rfl, ?_⟩⟩
            have z := q H2 (s1.trans s2)
            rw [e] at z
            cases hs : singD w rest with
            | false => rw [hs] at z; exact z
            | true => rw [hs] at z; exact z
          | true =>
            refine ⟨_, rfl, _, rfl, _, _, w, rest, rfl, Dp.same s1 hd, _, rfl, ?_⟩
            rw [show headD (4 - ((0 : Nat) : Int)) w rest = false from head4]
            refine qf H1 s1 ?_
            show (if roundW w then (61 : Int) else _) = 61
            rw [hw]
            rfl
theorem ok_sizeS {m : Nat} {f fR fH fG : Addr} {fd dR dH dG : FuncData} (F : FnP K "_size_of" sSize f fd) (T : Prg mg) {k : Nat} (h4 : 4 ≤ k) (R : Def P w K mg base CX0 1 "is_round" fR dR ["part"] (spRound K)) (Hd : Def P w K mg base CX0 4 "_is_head" fH dH ["part", "depth"] (spHead K)) (G : Def P w K mg base CX0 3 "_is_single" fG dG ["part"] (spSing K)) {fW : Addr} {dW : FuncData} (N : Def P w K mg base CX0 k "_how_many" fW dW ["parts", "depth"] (spHow K m)) : FnOk P w K mg base CX0 (k + 1) f fd ["part", "depth"] (spSize K (m + 1)) := by
  refine F.ok scZ (fun vs H Q E h => ?_) (fun cdv A outer s H vs Q E hr h => ?_)
  · obtain ⟨x, d, rfl, _⟩ := h
    rfl
  · obtain ⟨x, d, rfl, hd, hso, q⟩ := h
    obtain ⟨tn, hno⟩ := T.norow
    have hr1 : Room 1 _ := hr.mono (by omega)
    have hr3 : Room 3 _ := hr.mono (by omega)
    have hr4 : Room 4 _ := hr.mono h4
    refine ⟨_, pss_cons (ps_if (PW.pt (pw_or (pt_not (pt_val (pe_isD T.isn (pv 0) (pe_bltn (by rfl) T.tuple bbT (by rfl)) (by rfl)))) (pw_or (pt_not (pt_truth (pv 0) (fun _ => rfl))) (pw_or1 (pt_not (pt_val (pe_isD T.isn (pe_ix ix_tup (pv 0) pe_int (fun _ _ => rfl)) (pe_bltn (by rfl) T.str bbS (by rfl)) (by rfl)))))))) (pss_one (ps_ret (pe_gI hno (by rfl)))) pss_nil)
      (pss_cons (ps_if (pt_val (pe_call R.ok hr1 (by rfl) R.g R.k R.b .nil pass0 (pa_cons (pv 0) pa_nil))) (pss_one (ps_ret (pe_ifExp (pt_val (pe_call Hd.ok hr4 (by rfl) Hd.g Hd.k Hd.b .nil pass0 (pa_cons (pv 0) (pa_cons (pv 1) pa_nil)))) (pe_op op_add pe_int (pe_call N.ok hr (by rfl) N.g N.k N.b .nil pass0 (pa_cons (pe_ix ix_tup (pv 0) (pe_un un_neg pe_int) (fun _ _ => rfl)) (pa_cons (pe_op op_add (pv 1) pe_int) pa_nil)))) (pe_gI hno (by rfl))))) pss_nil)
      (pss_one (ps_ret (pe_ifExp (pt_val (pe_call G.ok hr3 (by rfl) G.g G.k G.b .nil pass0 (pa_cons (pv 0) pa_nil))) pe_int (pe_gI hno (by rfl)))))), ?_⟩
    have e0 : start ["part", "depth"] [x, .int (4 - (((m + 1) : Nat) : Int))] = [some x, some (.int (4 - (((m + 1) : Nat) : Int)))] := rfl
    rw [e0]
    have qf : ∀ H', Same H H' → sizeD ((m + 1)) d = 61 → Q (.int 61) H' := fun H' s' e => by
      have z := q H' s'
      rw [e] at z
      exact z
    refine go_seq ?_
    cases hd with
    | non => exact ⟨_, rfl, _, _, .non, (by decide +kernel : kitB "NoneType" "tuple" = some false), _, rfl, iteT (iteT (qf H (Same.refl H) rfl))⟩
    | bl b => exact ⟨_, rfl, _, _, .bl b, (by decide +kernel : kitB "bool" "tuple" = some false), _, rfl, iteT (iteT (qf H (Same.refl H) rfl))⟩
    | int i => exact ⟨_, rfl, _, _, .int i, (by decide +kernel : kitB "int" "tuple" = some false), _, rfl, iteT (iteT (qf H (Same.refl H) rfl))⟩
    | str i => exact ⟨_, rfl, _, _, .str i, (by decide +kernel : kitB "str" "tuple" = some false), _, rfl, iteT (iteT (qf H (Same.refl H) rfl))⟩
    | lst hS ha => exact ⟨_, rfl, _, _, .lst hS ha, (by decide +kernel : kitB "list" "tuple" = some false), _, rfl, iteT (iteT (qf H (Same.refl H) rfl))⟩
    | @tup t xs ds hS ha =>
      refine ⟨_, rfl, _, _, .tup hS ha, (by decide +kernel : kitB "tuple" "tuple" = some true), _, rfl, iteF ⟨_, rfl, _, .inr (.inl ⟨xs, hS, rfl⟩), ?_⟩⟩
      have hd : Dp K H (.ref t) (.tuple ds) := .tup hS ha
      cases ha with
      | nil => exact iteT (qf H (Same.refl H) rfl)
      | @cons v vs d1 rest h1 h2 =>
        refine iteF ⟨_, rfl, t, _, 0, v, rfl, rfl, hS, at0, ?_⟩
        cases h1 with
        | non => exact ⟨_, _, .non, (by decide +kernel : kitB "NoneType" "str" = some false), _, rfl, qf H (Same.refl H) rfl⟩
        | bl b => exact ⟨_, _, .bl b, (by decide +kernel : kitB "bool" "str" = some false), _, rfl, qf H (Same.refl H) rfl⟩
        | int i => exact ⟨_, _, .int i, (by decide +kernel : kitB "int" "str" = some false), _, rfl, qf H (Same.refl H) rfl⟩
        | lst hS2 ha2 => exact ⟨_, _, .lst hS2 ha2, (by decide +kernel : kitB "list" "str" = some false), _, rfl, qf H (Same.refl H) rfl⟩
        | tup hS2 ha2 => exact ⟨_, _, .tup hS2 ha2, (by decide +kernel : kitB "tuple" "str" = some false), _, rfl, qf H (Same.refl H) rfl⟩
        | str w =>
          have hsr : sOkAll rest := by unfold sOk sOkAll at hso; exact hso.2.2
          refine ⟨_, _, .str w, (by decide +kernel : kitB "str" "str" = some true), _, rfl, ?_⟩
          walk_at "nx"
          refine ⟨_, rfl, _, w, rest, rfl, hd, fun H1 s1 => ⟨_, rfl, ?_⟩⟩
          cases hw : roundW w with
          | false =>
            have e : sizeD ((m + 1)) (.tuple (.str w :: rest)) = if singD w rest then 1 else 61 := by
              show (if roundW w then _ else _) = _
              rw [hw]
              rfl
            walk_at "nx"
            refine ⟨_, rfl, _, w, rest, rfl, Dp.same s1 hd, hsr, fun H2 s2 => ⟨_, rfl, ?_⟩⟩
            have z := q H2 (s1.trans s2)
            rw [e] at z
            cases hs : singD w rest with
            | false => rw [hs] at z; exact z
            | true => rw [hs] at z; exact z
          | true =>
            refine ⟨_, rfl, _, rfl, _, _, w, rest, rfl, Dp.same s1 hd, _, rfl, ?_⟩
            have e : sizeD (m + 1) (.tuple (.str w :: rest)) = if headD (4 - ((m + 1 : Nat) : Int)) w rest then 1 + howF (sizeD m) (lastD rest) else 61 := by
              show (if roundW w then (if headD (3 - (m : Int)) w rest then 1 + howF (sizeD m) (lastD rest) else 61) else _) = _
              rw [hw, if_pos rfl, show (3 : Int) - m = 4 - ((m + 1 : Nat) : Int) by omega]
            cases hh : headD (4 - ((m + 1 : Nat) : Int)) w rest with
            | false =>
              refine qf H1 s1 ?_
              rw [e, hh]
              rfl
            | true =>
              obtain ⟨vl, hvl, hdl⟩ := last_of (v := .str w) (DpAll.same s1 h2) (head_ne hh)
              refine ⟨_, rfl, 1, rfl, t, _, -1, vl, rfl, rfl, seqT s1 hS, hvl, _, rfl, _, _, rfl, rfl, vl, lastD rest, ?_, hdl, last_ok hsr (head_ne hh), fun H2 s2 => ⟨_, _, rfl, rfl, ?_⟩⟩
              · have e9 : (4 : Int) - ((m + 1 : Nat) : Int) + 1 = 4 - m := by omega
                show [vl, V.int (4 - ((m + 1 : Nat) : Int) + 1)] = _
                rw [e9]
              · have z := q H2 (s1.trans s2)
                rw [e, hh] at z
                exact z
end
end L2.L87

set_option maxHeartbeats 1000000
namespace L2.Tx
open PySem TL
/-! ### isascii, isalpha, islower: small letters -/
def lettersL : List Nat := ("abcdefghijklmnopqrstuvwxyz" : Str).cps.toList
theorem low_signs : ((List.range 128).all fun c => (decide (c ∈ lettersL) == (Unicode.isAlpha c && !(Unicode.isUpper c || Unicode.isTitle c))) && (!decide (c ∈ lettersL) || Unicode.isLower c)) = true := by decide +kernel
theorem low_sign {c : Nat} (h : c < 128) : decide (c ∈ lettersL) = (Unicode.isAlpha c && !(Unicode.isUpper c || Unicode.isTitle c)) ∧ (c ∈ lettersL → Unicode.isLower c = true) := by
  have z := List.all_eq_true.mp low_signs c (List.mem_range.mpr h)
  obtain ⟨z1, z2⟩ := Bool.and_eq_true_iff.mp z
  refine ⟨eq_of_beq z1, fun m => ?_⟩
  rw [decide_eq_true m] at z2
  exact z2
theorem letter_low : (lettersL.all fun c => decide (c < 128)) = true := by decide +kernel
theorem all_L (t : Str) (p : Nat → Bool) : t.cps.all p = (tl t).all p := by
  rw [← Array.all_toList]
theorem any_L (t : Str) (p : Nat → Bool) : t.cps.any p = (tl t).any p := by
  rw [← Array.any_toList]
theorem word_letters {t : Str} (h1 : 1 ≤ t.length) : (PySem.Txt.isascii t && (PySem.Txt.isalpha t && PySem.Txt.islower t)) = (tl t).all fun c => decide (c ∈ lettersL) := by
  unfold PySem.Txt.isascii PySem.Txt.isalpha PySem.Txt.islower
  rw [all_L, all_L, any_L, any_L, decide_eq_true (show t.length > 0 by omega), Bool.true_and]
  rw [len_tl] at h1
  generalize tl t = l at h1
  rw [Bool.eq_iff_iff]
  constructor
  · intro h
    obtain ⟨ha, h⟩ := Bool.and_eq_true_iff.mp h
    obtain ⟨hb, h⟩ := Bool.and_eq_true_iff.mp h
    obtain ⟨hc, hd⟩ := Bool.and_eq_true_iff.mp h
    refine List.all_eq_true.mpr fun c m => ?_
    rw [(low_sign (of_decide_eq_true (List.all_eq_true.mp ha c m))).1, List.all_eq_true.mp hb c m, Bool.true_and]
    cases hu : (Unicode.isUpper c || Unicode.isTitle c) with
    | false => rfl
    | true => rw [List.any_eq_true.mpr ⟨c, m, hu⟩] at hd; cases hd
  · intro h
    have h := List.all_eq_true.mp h
    have lo : ∀ c ∈ l, c < 128 := fun c m => of_decide_eq_true (List.all_eq_true.mp letter_low c (of_decide_eq_true (h c m)))
    have al : ∀ c ∈ l, Unicode.isAlpha c = true ∧ (Unicode.isUpper c || Unicode.isTitle c) = false := fun c m => by
      have z := (low_sign (lo c m)).1
      rw [h c m] at z
      obtain ⟨z1, z2⟩ := Bool.and_eq_true_iff.mp z.symm
      refine ⟨z1, ?_⟩
      cases hu : (Unicode.isUpper c || Unicode.isTitle c) with
      | false => rfl
      | true => rw [hu] at z2; cases z2
    refine Bool.and_eq_true_iff.mpr ⟨List.all_eq_true.mpr fun c m => decide_eq_true (lo c m), Bool.and_eq_true_iff.mpr ⟨List.all_eq_true.mpr fun c m => (al c m).1, Bool.and_eq_true_iff.mpr ⟨?_, ?_⟩⟩⟩
    · cases l with
      | nil => simp at h1
      | cons c l => exact List.any_eq_true.mpr ⟨c, List.mem_cons_self .., (low_sign (lo c (List.mem_cons_self ..))).2 (of_decide_eq_true (h c (List.mem_cons_self ..)))⟩
    · cases hu : l.any (fun c => Unicode.isUpper c || Unicode.isTitle c) with
      | false => rfl
      | true =>
        obtain ⟨c, m, z⟩ := List.any_eq_true.mp hu
        rw [(al c m).2] at z
        cases z
end L2.Tx

set_option maxHeartbeats 4000000
namespace L2.L87
open PySem PySem.Spec PyProof.Rows NumText LR L2.Lr L2.Tx TL
local macro_rules | `(tactic| walk_at "nx") => `(tactic| dsimp only [gName, tNext, tSeq, tAsg, List.set_cons_zero, List.set_cons_succ])
theorem scO : FnScope ["thing"] ["thing"] (defScope sWord) := ⟨rfl, rfl, rfl, by decide +kernel, rfl, by decide +kernel, by decide +kernel⟩
section
variable {P : Program} {w : World} {K : PySem.W.Frag} {mg : Str → Option Value} {base : Heap}
theorem ok_word {f : Addr} {fd : FuncData} (F : FnP K "is_word" sWord f fd) (T : Prg mg) {t2 : Tok} (hlw : mg "LONGEST_WORD" = some (.int 8 t2)) : FnOk P w K mg base CX0 1 f fd ["thing"] (spWord K) := by
  refine F.ok scO (fun vs H Q E h => ?_) (fun cdv A outer s H vs Q E hr h => ?_)
  · obtain ⟨x, d, rfl, _⟩ := h
    rfl
  · obtain ⟨x, d, rfl, hd, hso, q⟩ := h
    have q := q H (Same.refl H)
    refine ⟨_, pss_cons (ps_if (PW.pt (pw_or (pt_not (pt_val (pe_isD T.isn (pv 0) (pe_bltn (by rfl) T.str bbS (by rfl)) (by rfl)))) (pw_or1 (pt_not (pt_chain op_le op_le pe_int (pe_callB call_len_str (by rfl) T.len boot_len (pa_cons (pv 0) pa_nil)) (pe_gI hlw (by rfl))))))) (pss_one (ps_ret pe_bl)) pss_nil)
      (pss_one (ps_ret (pe_and (pe_m0 PySem.F.slot_str_isascii PySem.F.type_str_isascii mt_isascii (pv 0)) (pe_and (pe_m0 PySem.F.slot_str_isalpha PySem.F.type_str_isalpha mt_isalpha (pv 0)) (pe_one (pe_m0 PySem.F.slot_str_islower PySem.F.type_str_islower mt_islower (pv 0))))))), ?_⟩
    have e0 : start ["thing"] [x] = [some x] := rfl
    rw [e0]
    refine go_seq ?_
    have no : ∀ {t : String} (b : kitB t "str" = some false), TyX K H x (.type t) → wordD d = false → True := fun _ _ _ => trivial
    cases hd with
    | non => exact ⟨_, rfl, _, _, .non, (by decide +kernel : kitB "NoneType" "str" = some false), _, rfl, iteT (iteT q)⟩
    | bl b => exact ⟨_, rfl, _, _, .bl b, (by decide +kernel : kitB "bool" "str" = some false), _, rfl, iteT (iteT q)⟩
    | int i => exact ⟨_, rfl, _, _, .int i, (by decide +kernel : kitB "int" "str" = some false), _, rfl, iteT (iteT q)⟩
    | lst hS ha => exact ⟨_, rfl, _, _, .lst hS ha, (by decide +kernel : kitB "list" "str" = some false), _, rfl, iteT (iteT q)⟩
    | tup hS ha => exact ⟨_, rfl, _, _, .tup hS ha, (by decide +kernel : kitB "tuple" "str" = some false), _, rfl, iteT (iteT q)⟩
    | str t =>
      have hs : t.length ≤ sizeLine := by unfold sOk at hso; exact hso.1
      have wd : wordD (.str t) = ((decide (1 ≤ t.length) && decide (t.length ≤ 8)) && (PySem.Txt.isascii t && (PySem.Txt.isalpha t && PySem.Txt.islower t))) := by
        show ((decide (1 ≤ t.length) && decide (t.length ≤ 8)) && (TL.tl t).all fun c => decide (c ∈ letters)) = _
        by_cases h1 : 1 ≤ t.length
        · rw [L2.Tx.word_letters h1]
          rfl
        · rw [decide_eq_false h1]
          rfl
      rw [wd] at q
      refine ⟨_, rfl, _, _, .str t, (by decide +kernel : kitB "str" "str" = some true), _, rfl, iteF ?_⟩
      refine ⟨_, rfl, t, rfl, hs, _, _, rfl, rfl, _, rfl, ite_dec (fun g1 => ?_) fun g1 => ?_⟩
      · refine ⟨_, _, rfl, rfl, _, rfl, ?_⟩
        by_cases g2 : (t.length : Int) ≤ 8
        · rw [decide_eq_true g2]
          rw [decide_eq_true (show 1 ≤ t.length by omega), decide_eq_true (show t.length ≤ 8 by omega), Bool.and_self, Bool.true_and] at q
          refine iteF ?_
          refine ⟨_, rfl, ⟨_, rfl⟩, t, rfl, rfl, trivial, _, rfl, ?_⟩
          cases h1 : PySem.Txt.isascii t with
          | false => rw [h1] at q; exact iteF q
          | true =>
            rw [h1] at q
            refine iteT ⟨_, rfl, ⟨_, rfl⟩, t, rfl, rfl, trivial, _, rfl, ?_⟩
            cases h2 : PySem.Txt.isalpha t with
            | false => rw [h2] at q; exact iteF q
            | true => rw [h2] at q; exact iteT ⟨_, rfl, ⟨_, rfl⟩, t, rfl, rfl, trivial, q⟩
        · rw [decide_eq_false g2]
          rw [decide_eq_false (show ¬ t.length ≤ 8 by omega), Bool.and_false, Bool.false_and] at q
          exact iteT q
      · rw [decide_eq_false (show ¬ 1 ≤ t.length by omega), Bool.false_and, Bool.false_and] at q
        exact ⟨_, rfl, iteT q⟩
end
end L2.L87

set_option maxHeartbeats 4000000
namespace L2.L87
open PySem PySem.Spec PyProof.Rows NumText LR L2.Lr L2.Tx TL
local macro_rules | `(tactic| walk_at "nx") => `(tactic| dsimp only [gName, tNext, tSeq, tAsg, List.set_cons_zero, List.set_cons_succ])
theorem scRo : FnScope ["self", "value"] ["self", "value"] (defScope sRoom) := ⟨rfl, rfl, rfl, by decide +kernel, rfl, by decide +kernel, by decide +kernel⟩
theorem scFi : FnScope ["text", "most", "sign"] ["text", "most"] (defScope sFig) := ⟨rfl, rfl, rfl, by decide +kernel, rfl, by decide +kernel, by decide +kernel⟩
theorem scFo : FnScope ["count"] ["count"] (defScope sForm) := ⟨rfl, rfl, rfl, by decide +kernel, rfl, by decide +kernel, by decide +kernel⟩
theorem scCh : FnScope ["count"] ["count"] (defScope sChk) := ⟨rfl, rfl, rfl, by decide +kernel, rfl, by decide +kernel, by decide +kernel⟩
theorem scWr : FnScope ["count", "a", "b", "head"] ["count"] (defScope sWrit) := ⟨rfl, rfl, rfl, by decide +kernel, rfl, by decide +kernel, by decide +kernel⟩
theorem scRe : FnScope ["text", "count"] ["text"] (defScope sRead) := ⟨rfl, rfl, rfl, by decide +kernel, rfl, by decide +kernel, by decide +kernel⟩
theorem scFr : FnScope ["text", "head", "letter", "tail", "a", "b"] ["text"] (defScope sFree) := ⟨rfl, rfl, rfl, by decide +kernel, rfl, by decide +kernel, by decide +kernel⟩
def CT (K : PySem.W.Frag) : Addr := He.ga K "BadText"
def CC (K : PySem.W.Frag) : Addr := He.ga K "BadCount"
def CB (K : PySem.W.Frag) : Addr := He.ga K "BadRow"
def CP (K : PySem.W.Frag) : Addr := He.ga K "BadPlan"
def CR (K : PySem.W.Frag) : Addr := He.ga K "Row"
def fV (K : PySem.W.Frag) : Addr := He.ma K (He.ga K "RoomError") "__init__"
structure Xt (K : PySem.W.Frag) (mg : Str → Option Value) (x : Str) (C : Addr) : Prop where
  g : mg x = some (.ref C)
  x : XC K xV C
  nv : PySem.W.findIn K (.ref C) "value" = some none
  iC : PySem.W.findIn K (.ref C) "__init__" = some (some (.ref (fV K)))
  e : PySem.W.exmOne K (.ref C) (.ref C) = some true
  kB : PySem.W.kitOne K (.ref C) (.type "ValueError") = some true
structure Txt (K : PySem.W.Frag) (mg : Str → Option Value) : Prop where
  p : Prg mg
  all : mg "all" = none
  list : mg "list" = none
  set : mg "set" = none
  enum : mg "enumerate" = none
  range : mg "range" = none
  max : mg "max" = none
  min : mg "min" = none
  repr : mg "repr" = none
  vE : mg "ValueError" = none
  word : ∃ t, mg "LONGEST_WORD" = some (.int 8 t)
  lonc : ∃ t, mg "LONGEST_TEXT_counts" = some (.int 34 t)
  lont : ∃ t, mg "LONGEST_TEXT_texts" = some (.int 2640 t)
  figs : ∃ t, mg "FIGURES" = some (.str "0123456789" t)
  first : ∃ t, mg "MOST_FIRST" = some (.int 99 t)
  lroom : ∃ t, mg "LARGEST_ROOM" = some (.int (10 ^ 200) t)
  fnum : ∃ t, mg "FIGURES_OF_NUMBER" = some (.int 31 t)
  froom : ∃ t, mg "FIGURES_OF_ROOM" = some (.int 201 t)
  xT : Xt K mg "BadText" (CT K)
  xC : Xt K mg "BadCount" (CC K)
  xB : Xt K mg "BadRow" (CB K)
  xP : Xt K mg "BadPlan" (CP K)
  tI : PySem.W.typeIn K (.ref (fV K)) = some (.type "function")
  gR : mg "Row" = some (.ref (CR K))
  cl : Cls K (CR K)
  nP : NoAttr K (CR K) "parts"
  nS : NoAttr K (CR K) "size"
  ic : C8.InsC K (CR K)
structure Rm (P : Program) (w : World) (K : PySem.W.Frag) (mg : Str → Option Value) (base : Heap) (dV : FuncData) : Prop where
  ok : FnOk P w K mg base CX0 1 (fV K) dV ["self", "value"] (L2.Lr.spIni K)
  b : Binds K dV ["self", "value"] []
def figO (cs : List Nat) (m : Nat) : Option Nat := if ((decide (1 ≤ cs.length) && decide (cs.length ≤ m)) && cs.all dig) && (decide (cs = [48]) || decide (cs.head? ≠ some 48)) then some (digitsVal cs) else none
def optV : Option Nat → V
  | none => .non
  | some n => .int (n : Int)
def optD : Option Nat → PyData
  | none => .none
  | some n => .int (n : Int)
theorem optVD {K : PySem.W.Frag} {H : Hp} (o : Option Nat) : Dp K H (optV o) (optD o) := by
  cases o with
  | none => exact .non
  | some n => exact .int _
def tailD (S : List Nat) : PyData := if S = [] then .int 0 else match figO S.tail 34 with
  | none => .none
  | some n => .int (if S.head? = some 45 then -(n : Int) else n)
def freeD (t : Str) : PyData :=
  if (Txt.partition t nT).2.1 = Str.empty then .tuple [.int 0, optD (figO (tl t) 34)]
  else .tuple [if (Txt.partition t nT).1 = Str.empty then .int 1 else optD (figO (tl (Txt.partition t nT).1) 34), tailD (tl (Txt.partition t nT).2.2)]
def cntD (t : Str) : PyData := match cntV t with
  | some (a, b) => .tuple [.int a, .int b]
  | none => .none
def readD : PyData → PyData
  | .str t => cntD t
  | _ => .none
theorem numOk_fig {cs : List Nat} (h : numOk cs = true) : figO cs 34 = some (digitsVal cs) := by
  obtain ⟨h1, h2⟩ := Bool.and_eq_true_iff.mp h
  obtain ⟨h3, h4⟩ := Bool.and_eq_true_iff.mp h1
  obtain ⟨h5, h6⟩ := Bool.and_eq_true_iff.mp h4
  obtain ⟨h7, _⟩ := Bool.and_eq_true_iff.mp h2
  have h5 := of_decide_eq_true h5
  have hne : 1 ≤ cs.length := by
    cases cs with
    | nil => cases h3
    | cons c r => simp
  unfold figO
  rw [decide_eq_true hne, decide_eq_true (by omega), h6, h7]
  rfl
theorem valid_count {a b : Int} : countD (.tuple [.int a, .int b]) = validC a b := rfl
theorem free_of {t : Str} {a b : Int} (h : cntV t = some (a, b)) : freeD t = .tuple [.int a, .int b] := by
  unfold cntV at h
  unfold freeD
  split at h
  · rename_i hm
    rw [if_pos hm]
    split at h
    · rename_i hn
      cases h
      rw [numOk_fig hn]
      rfl
    · cases h
  · rename_i hm
    rw [if_neg hm]
    generalize (Txt.partition t nT).1 = A at h ⊢
    generalize (Txt.partition t nT).2.2 = S at h ⊢
    cases hh : headV (tl A) with
    | none => rw [hh] at h; cases h
    | some a' =>
      cases ht : tailV (tl S) with
      | none => rw [hh, ht] at h; cases h
      | some b' =>
        rw [hh, ht] at h
        cases h
        have e1 : (if A = Str.empty then PyData.int 1 else optD (figO (tl A) 34)) = .int a := by
          unfold headV at hh
          split at hh
          · rename_i e
            cases hh
            rw [if_pos (tl_empty.mpr e)]
          · rename_i e
            rw [if_neg fun z => e (tl_empty.mp z)]
            split at hh
            · rename_i hk
              cases hh
              rw [numOk_fig hk.1]
              rfl
            · cases hh
        have e2 : tailD (tl S) = .int b := by
          unfold tailD
          cases hS : tl S with
          | nil =>
            rw [hS] at ht
            cases ht
            rfl
          | cons c cs =>
            rw [hS] at ht
            have e3 : (if (c = 43 ∨ c = 45) ∧ numOk cs = true ∧ digitsVal cs ≠ 0 then some (if c = 43 then ((digitsVal cs : Nat) : Int) else -((digitsVal cs : Nat) : Int)) else none) = some b := ht
            split at e3
            · rename_i hk
              obtain ⟨k1, k2, _⟩ := hk
              rw [if_neg (List.cons_ne_nil _ _), List.tail_cons, numOk_fig k2]
              rcases k1 with rfl | rfl
              · cases e3
                rfl
              · cases e3
                rfl
            · cases e3
        rw [e1, e2]
theorem read_no {t : Str} (h : countD (freeD t) = false) : cntD t = .none := by
  unfold cntD
  cases hc : cntV t with
  | none => rfl
  | some p =>
    obtain ⟨a, b⟩ := p
    have e := free_of hc
    have hv := (cntV_iff.mp hc).1
    rw [e, valid_count, hv] at h
    cases h
theorem read_yes {t : Str} {a b : Int} (h : countD (freeD t) = true) (e : freeD t = .tuple [.int a, .int b]) (ec : cntT a b = t) : cntD t = .tuple [.int a, .int b] := by
  have hc : cntV t = some (a, b) := cntV_iff.mpr ⟨by rw [← valid_count, ← e]; exact h, ec⟩
  unfold cntD
  rw [hc]
theorem read_other {t : Str} {a b : Int} (e : freeD t = .tuple [.int a, .int b]) (ec : cntT a b ≠ t) : cntD t = .none := by
  unfold cntD
  cases hc : cntV t with
  | none => rfl
  | some p =>
    obtain ⟨a', b'⟩ := p
    have e2 := free_of hc
    rw [e] at e2
    cases e2
    exact absurd (cntV_iff.mp hc).2 ec
theorem read_long {t : Str} (h : 34 < t.length) : cntD t = .none := by
  unfold cntD
  cases hc : cntV t with
  | none => rfl
  | some p =>
    obtain ⟨a', b'⟩ := p
    have := cnt_len (cntV_iff.mp hc)
    omega
theorem cntD_cases (t : Str) : cntD t = .none ∨ ∃ a b, cntD t = .tuple [.int a, .int b] ∧ cntV t = some (a, b) := by
  unfold cntD
  cases hc : cntV t with
  | none => exact .inl rfl
  | some p => exact .inr ⟨p.1, p.2, rfl, rfl⟩
theorem readD_cases (d : PyData) : readD d = .none ∨ ∃ a b, readD d = .tuple [.int a, .int b] := by
  cases d with
  | str t =>
    rcases cntD_cases t with h | ⟨a, b, h, _⟩
    · exact .inl h
    · exact .inr ⟨a, b, h⟩
  | _ => exact .inl rfl
theorem dig_mem (c : Nat) : decide (c ∈ ("0123456789" : Str).cps.toList) = dig c := by
  have e : ("0123456789" : Str).cps.toList = [48, 49, 50, 51, 52, 53, 54, 55, 56, 57] := by decide +kernel
  rw [e]
  by_cases h : 48 ≤ c ∧ c ≤ 57
  · have : c = 48 ∨ c = 49 ∨ c = 50 ∨ c = 51 ∨ c = 52 ∨ c = 53 ∨ c = 54 ∨ c = 55 ∨ c = 56 ∨ c = 57 := by omega
    rcases this with rfl | rfl | rfl | rfl | rfl | rfl | rfl | rfl | rfl | rfl <;> rfl
  · have hd : dig c = false := by
      unfold dig
      by_cases h1 : 48 ≤ c
      · rw [decide_eq_false (show ¬ c ≤ 57 by omega), Bool.and_false]
      · rw [decide_eq_false h1, Bool.false_and]
    rw [hd]
    refine decide_eq_false fun m => ?_
    simp only [List.mem_cons, List.not_mem_nil, or_false] at m
    omega
theorem preC_pos {a : Int} (h : 1 ≤ a) (h9 : a ≤ 9) : (preC a).length ≤ 1 := by
  rw [len_tl]
  unfold preC
  split
  · exact Nat.zero_le _
  · rw [tl_int]
    unfold sgnL
    rw [if_neg (by omega), numL_lt (by omega)]
    exact Nat.le_refl _
def spWrit (K : PySem.W.Frag) : Sp := fun vs H Q _ => ∃ x a b, vs = [x] ∧ Dp K H x (.tuple [.int a, .int b]) ∧ validC a b = true ∧ Q (.str (cntT a b)) H
def spFig : Sp := fun vs H Q _ => ∃ (t : Str) (m : Nat), vs = [.str t, .int m] ∧ t.length ≤ sizeLine ∧ m ≤ 600 ∧ ∀ H', Same H H' → Q (optV (figO (tl t) m)) H'
def spFree (K : PySem.W.Frag) : Sp := fun vs H Q _ => ∃ t : Str, vs = [.str t] ∧ t.length ≤ 34 ∧ ∀ v H', Same H H' → Dp K H' v (freeD t) → Q v H'
def spRead (K : PySem.W.Frag) : Sp := fun vs H Q _ => ∃ x d, vs = [x] ∧ Dp K H x d ∧ (∀ t, d = .str t → t.length ≤ sizeLine) ∧ ∀ v H', Same H H' → Dp K H' v (readD d) → Q v H'
def spChk (K : PySem.W.Frag) : Sp := fun vs H Q E => ∃ x d, vs = [x] ∧ Dp K H x d ∧ ((countD d = true ∧ Q .non H) ∨ (countD d = false ∧ Bad (CC K) x H E))
def spForm (K : PySem.W.Frag) : Sp := fun vs H Q E => ∃ x d, vs = [x] ∧ Dp K H x d ∧ ((countD d = false ∧ Bad (CC K) x H E) ∨ ∃ a b : Int, d = .tuple [.int a, .int b] ∧ countD d = true ∧ Q (.str (cntT a b)) H)
theorem log_lt {a : Int} (h : a.natAbs ≤ 10 ^ 30) : a.natAbs.log2 < 1920 := by
  have h2 : a.natAbs < 2 ^ 1920 := Nat.lt_of_le_of_lt h (by decide +kernel)
  by_cases h0 : a.natAbs = 0
  · rw [h0]; decide
  · exact (Nat.log2_lt h0).mpr h2
theorem len_int {a : Int} (h : a.natAbs ≤ 10 ^ 30) : (intT a).length ≤ 32 := by
  have hb : (numL a.natAbs).length ≤ 31 := numL_len (by decide) (Nat.lt_of_le_of_lt h (by decide))
  rw [len_tl, tl_int]
  unfold sgnL
  split
  · rw [List.length_cons]; omega
  · omega
theorem len_plus {a : Int} (h : a.natAbs ≤ 10 ^ 30) : (plusT a).length ≤ 32 := by
  have hb : (numL a.natAbs).length ≤ 31 := numL_len (by decide) (Nat.lt_of_le_of_lt h (by decide))
  rw [len_tl, tl_plus]
  unfold plusL
  rw [List.length_cons]; omega
theorem valid_nat {a b : Int} (h : validC a b = true) : (0 ≤ a ∧ a ≤ 9) ∧ b.natAbs ≤ 10 ^ 30 ∧ (a > 0 ∨ b ≥ 0) := by
  have e30 : (10 : Int) ^ 30 = ((10 ^ 30 : Nat) : Int) := by decide +kernel
  obtain ⟨h1, h2, h3⟩ := valid_iff.mp h
  exact ⟨h1, by rw [e30] at h2; omega, h3⟩
theorem intText_dig {t : Str} (h : (tl t).all dig = true) (h1 : 1 ≤ (tl t).length) (h2 : (tl t).length ≤ 600) : intText? t = some ((digitsVal (tl t) : Nat) : Int) := by
  have z := intText_digits (x := t) (dig_all.mp h) (fun e => by rw [show tl t = [] from e] at h1; cases h1) (by rw [len_tl]; omega)
  exact z
section
variable {P : Program} {w : World} {K : PySem.W.Frag} {mg : Str → Option Value} {base : Heap}
theorem ok_room {f : Addr} {fd : FuncData} (F : FnM K "__init__" "RoomError.__init__" sRoom f fd) : FnOk P w K mg base CX0 1 f fd ["self", "value"] (L2.Lr.spIni K) := by
  refine F.ok scRo (fun vs H Q E h => ?_) (fun cdv A outer s H vs Q E hr h => ?_)
  · obtain ⟨a, C, k, y, rfl, _⟩ := h
    rfl
  · obtain ⟨a, C, k, y, rfl, Sf, T, nv, ha, go⟩ := h
    refine ⟨_, pss_one (ps_stX (pv 0) (pv 1)), _, rfl, _, rfl, a, C, k, rfl, Sf, T, nv, .inl ⟨ha, fun dx hd ne => go _ dx hd ne (fun b o z nb => ?_) upd_same ((upd_ne ne).trans upd_same)⟩⟩
    exact (upd_ne nb).trans ((upd_ne (ne_of_none z hd)).trans z)
theorem ok_chk {f fB : Addr} {fd dB dV : FuncData} (F : FnP K "_check_count" sChk f fd) (T : Txt K mg) (N : Def P w K mg base CX0 3 "is_count" fB dB ["thing"] (spCount K)) (Z : Rm P w K mg base dV) : FnOk P w K mg base (L2.CX P w) 4 f fd ["count"] (spChk K) := by
  refine F.ok scCh (fun vs H Q E h => ?_) (fun cdv A outer s H vs Q E hr h => ?_)
  · obtain ⟨x, d, rfl, _⟩ := h
    rfl
  · obtain ⟨x, d, rfl, hd, h⟩ := h
    refine ⟨_, pss_one (ps_if (pt_not (pt_val (pe_call N.ok hr (by rfl) N.g N.k N.b .nil pass0 (pa_cons (pv 0) pa_nil)))) (pss_one (ps_raise rfl (takes_of rfl rfl rfl rfl) (pmk_new sV T.xC.x T.xC.nv T.xC.iC T.tI Z.ok (hr.mono (by decide)) Z.b T.xC.g (pv 0) (by rfl)))) pss_nil), ?_⟩
    have e0 : start ["count"] [x] = [some x] := rfl
    rw [e0]
    refine ⟨_, rfl, x, d, rfl, hd, _, rfl, ?_⟩
    rcases h with ⟨hb, q⟩ | ⟨hb, b⟩
    · rw [hb]
      exact iteF q
    · rw [hb]
      exact iteT ⟨_, rfl, fun dd H' s' n hx => b dd H' s' hx⟩
theorem passC {X : Cx} {E : XK} {W : WX} (tk : Takes X W) (h : W = fun cls d _ H => E cls d H) : Passes (L2.CX X.prog X.w) X E := passes_call tk fun cls d σ H q => by rw [h]; exact q
theorem head0 {t : Str} (h : 1 ≤ (tl t).length) : ∃ c, tl t = c :: (tl t).tail := by
  cases e : tl t with
  | nil => rw [e] at h; cases h
  | cons c r => exact ⟨c, rfl⟩
theorem ok_fig {f : Addr} {fd : FuncData} (F : FnP K "figures_of" sFig f fd) (T : Txt K mg) : FnOk P w K mg base CX0 1 f fd ["text", "most"] spFig := by
  refine F.ok scFi (fun vs H Q E h => ?_) (fun cdv A outer s H vs Q E hr h => ?_)
  · obtain ⟨t, m, rfl, _⟩ := h
    rfl
  · obtain ⟨t, m, rfl, hl, hm, q⟩ := h
    obtain ⟨tf, hfig⟩ := T.figs
    refine ⟨_, PSs.nox (C8.pss_cut (ps_if (PW.pt (pw_or (pt_not (pt_chain op_le op_le pe_int (pe_callB call_len_str (by rfl) T.p.len boot_len (pa_cons (pv 0) pa_nil)) (pv 1)))
        (pw_or1 (pt_not (pt_val (pe_callB (cr_all rfl) (by rfl) T.all boot_all (pa_cons (pe_lc (own := [("sign", 2)]) (g := gName 2) (tt := tYes) rfl scFi.nd (pi_str (pv 0)) (blkOk_by (N := ["text", "most", "sign"]) (sc := defScope sFig) (by decide +kernel)) (fun _ _ _ _ _ => pg_name (i := 2) scFi.nd rfl (Or.inl rfl)) (fun _ _ _ _ _ => pts_nil) (fun _ _ _ _ _ => pe_cmpR op_in_sign (pv 2) (pe_gS hfig (by rfl)) (by rfl))) pa_nil))))))) (pss_one (ps_ret pe_non)) pss_nil)
      (pss_one (ps_ret (pe_ifExp (PW.pt (pw_or (pt_cmpR op_eq (pv 0) pe_str (nomark _)) (pw_or1 (pt_cmpR op_ne (pe_ix ix_str (pv 0) pe_int (fun _ _ => rfl)) pe_str (nomark _))))) (pe_callTy call_int_str (by rfl) T.p.int bbI (pa_cons (pv 0) pa_nil)) pe_non)))), ?_⟩
    have e0 : start ["text", "most", "sign"] [V.str t, .int m] = [some (.str t), some (.int m), none] := rfl
    rw [e0]
    have qn : ∀ H', Same H H' → figO (tl t) m = none → Q .non H' := fun H' s' e => by
      have z := q H' s'
      rw [e] at z
      exact z
    have elen : (tl t).length = t.length := (len_tl t).symm
    refine ⟨fun σ' H' => σ' = [some (.str t), some (.int m), none] ∧ Same H H' ∧ ((1 ≤ (tl t).length ∧ (tl t).length ≤ m) ∧ (tl t).all dig = true), ?_, ?_⟩
    · refine ⟨_, rfl, t, rfl, hl, _, _, rfl, rfl, _, rfl, ite_dec (fun g1 => ?_) fun g1 => ?_⟩
      · refine ⟨_, rfl, _, _, rfl, rfl, _, rfl, ?_⟩
        by_cases g2 : (t.length : Int) ≤ m
        · rw [decide_eq_true g2]
          refine iteF ?_
          have sz : t.cps.size = t.length := rfl
          have l600 : t.length ≤ 600 := by omega
          refine ⟨_, rfl, t, rfl, fun D hD => lc_strG (fun i H' => Same H H' ∧ H' D = some (.lst ((t.cps.toList.take i).map fun c => V.bl (dig c)))) ⟨same_upd hD, upd_same⟩ ?_ ?_⟩
          · rintro i c H' hc ⟨s', hD'⟩
            have hc' : t.cps.toList[i]? = some c := by rw [Array.getElem?_toList]; exact hc
            refine ⟨rfl, ⟨_, rfl, c, _, rfl, rfl, _, hD', ?_, ?_, ?_⟩⟩
            · have : (List.take i t.cps.toList).length ≤ t.length := by
                rw [List.length_take, Array.length_toList]; omega
              rw [List.length_map, sizeLine_eq]
              omega
            · intro b o e
              by_cases hb : b = D
              · rw [hb, hD] at e
                cases e
              · exact (upd_ne hb).trans (s' b o e)
            · rw [upd_same, List.take_add_one, hc', List.map_append, dig_mem]
              rfl
          · rintro H' ⟨s', hD'⟩
            have e : (t.cps.toList.take t.cps.size) = t.cps.toList := by
              rw [← Array.length_toList]; exact List.take_length
            rw [e] at hD'
            refine ⟨D, t.cps.toList.map dig, rfl, SqL.of (by rw [hD', List.map_map]; rfl), _, rfl, ?_⟩
            have ea : (List.map dig t.cps.toList).all id = (tl t).all dig := by
              rw [List.all_map]
              rfl
            rw [ea]
            cases hd : (tl t).all dig with
            | true => exact iteF ⟨rfl, s', ⟨by omega, by omega⟩, rfl⟩
            | false => exact iteT (qn _ s' (by unfold figO; rw [hd, Bool.and_false, Bool.false_and]; rfl))
        · rw [decide_eq_false g2]
          exact iteT (qn _ (Same.refl H) (by unfold figO; rw [decide_eq_false (show ¬ (tl t).length ≤ m by omega), Bool.and_false, Bool.false_and, Bool.false_and]; rfl))
      · exact ⟨_, rfl, iteT (qn _ (Same.refl H) (by unfold figO; rw [decide_eq_false (show ¬ 1 ≤ (tl t).length by omega), Bool.false_and, Bool.false_and, Bool.false_and]; rfl))⟩
    rintro σ' H' ⟨rfl, s', ⟨l1, l2⟩, hd⟩
    have e1 : figO (tl t) m = if (decide (tl t = [48]) || decide ((tl t).head? ≠ some 48)) = true then some (digitsVal (tl t)) else none := by
      unfold figO
      rw [decide_eq_true l1, decide_eq_true l2, hd]
      simp only [Bool.true_and, Bool.and_self]
    have int : (decide (tl t = [48]) || decide ((tl t).head? ≠ some 48)) = true → ∃ n : Int, intText? t = some n ∧ Q (.int n) H' := fun h => by
      refine ⟨_, intText_dig hd l1 (by omega), ?_⟩
      have z := q H' s'
      rw [e1, if_pos h] at z
      exact z
    have e48 : t = "0" ↔ tl t = [48] := ⟨fun h => by rw [h]; rfl, fun h => tl_inj (by rw [h]; rfl)⟩
    obtain ⟨c, ec⟩ := head0 l1
    refine ⟨_, rfl, rfl, _, rfl, str_if (fun h => ?_) fun h => ?_⟩
    · obtain ⟨n, hn, qn'⟩ := int (by rw [decide_eq_true (e48.mp h)]; rfl)
      exact iteT ⟨_, rfl, t, n, rfl, hn, by rw [len_tl]; omega, qn'⟩
    · refine ⟨_, rfl, t, 0, c, rfl, rfl, by rw [sizeLine_eq]; omega, ?_, rfl, _, rfl, str_ne (fun h2 => ?_) fun h2 => ?_⟩
      · show atI t.cps.toList 0 = some c
        rw [show t.cps.toList = c :: (tl t).tail from ec]
        exact atI_nat (j := 0) rfl
      · obtain ⟨n, hn, qn'⟩ := int (by
          rw [decide_eq_true (show (tl t).head? ≠ some 48 from fun z => h2 ?_), Bool.or_true]
          rw [ec] at z
          cases z
          rfl)
        exact ⟨_, rfl, t, n, rfl, hn, by rw [len_tl]; omega, qn'⟩
      · refine qn _ s' ?_
        have e : [c] = [48] := congrArg tl (show (⟨#[c]⟩ : Str) = "0" from h2)
        cases e
        have hh : (tl t).head? = some 48 := by rw [ec]; rfl
        have f1 : ¬ (tl t = [48]) := fun z => h (e48.mpr z)
        rw [e1, if_neg]
        rw [decide_eq_false f1, decide_eq_false (fun z => z hh)]
        decide
theorem ok_writ {f : Addr} {fd : FuncData} (F : FnP K "_written" sWrit f fd) (T : Txt K mg) : FnOk P w K mg base CX0 1 f fd ["count"] (spWrit K) := by
  refine F.ok scWr (fun vs H Q E h => ?_) (fun cdv A outer s H vs Q E hr h => ?_)
  · obtain ⟨x, a, b, rfl, _⟩ := h
    rfl
  · obtain ⟨x, a, b, rfl, hd, hv, q⟩ := h
    obtain ⟨t, v, u, rfl, hS, h1, h2⟩ := tup2D hd
    cases intDv h1
    cases intDv h2
    obtain ⟨⟨a0, a9⟩, hb, _⟩ := valid_nat hv
    have ha : a.natAbs ≤ 10 ^ 30 := by
      have : (9 : Nat) ≤ 10 ^ 30 := by decide
      omega
    refine ⟨_, pss_cons (ps_asg (pv 0) (pg_tup rfl (pgs_cons (pg_name (i := 1) scWr.nd rfl (Or.inl rfl)) (pgs_cons (pg_name (i := 2) scWr.nd rfl (Or.inl rfl)) pgs_nil))))
      (pss_cons (ps_if (pt_cmpR op_eq (pv 1) pe_int (nomark _)) (pss_one (ps_ret (pe_callTy call_str_int (by rfl) T.p.str bbS (pa_cons (pv 2) pa_nil)))) pss_nil)
      (C8.pss_cut (ps_set (i := 3) scWr.nd rfl (Or.inl rfl) (pe_ifExp (pt_cmpR op_eq (pv 1) pe_int (nomark _)) pe_str (pe_joined (.cons (pe_fmt (pv 1)) (.cons pe_str .nil)))))
      (pss_one (ps_ret (pe_ifExp (pt_cmpR op_ne (pv 2) pe_int (nomark _)) (pe_joined (.cons (pe_fmt (pv 3)) (.cons (pe_fmtP (pv 2)) .nil))) (pv 3)))))), ?_⟩
    have e0 : start ["count", "a", "b", "head"] [V.ref t] = [some (.ref t), none, none, none] := rfl
    rw [e0]
    have l1 := len_int ha
    have l2 := len_plus hb
    have l3 : (preC a).length ≤ 32 := by unfold preC; split; · exact Nat.zero_le _
                                         · exact l1
    unfold cntT at q
    refine go_seq (go_asg ?_)
    refine ⟨_, rfl, t, _, rfl, hS, rfl, _, _, rfl, _, _, rfl, rfl, ?_⟩
    walk_at "nx"
    refine ⟨_, rfl, rfl, _, rfl, int_if (fun h => ?_) fun h => ?_⟩
    · rw [if_pos h] at q
      exact ⟨_, rfl, b, rfl, log_lt hb, q⟩
    · rw [if_neg h] at q
      refine ⟨fun σ' H' => σ' = [some (.ref t), some (.int a), some (.int b), some (.str (preC a ++ nT))] ∧ H' = H, ?_, ?_⟩
      · refine ⟨_, rfl, rfl, _, rfl, int_if (fun h1 => ?_) fun h1 => ?_⟩
        · have e : preC a ++ nT = nT := by unfold preC; rw [if_pos h1, empty_app]
          rw [e]
          exact ⟨rfl, rfl⟩
        · have e : preC a = intT a := by unfold preC; rw [if_neg h1]
          rw [e]
          refine ⟨_, rfl, .inr ⟨a, rfl, log_lt ha, intT a, rfl, ?_, nT, rfl, ?_, ?_⟩⟩
          · rw [empty_app, sizeLine_eq]; omega
          · rw [empty_app, len_app, sizeLine_eq]
            show _ + 1 ≤ _
            omega
          · rw [empty_app]
            exact ⟨rfl, rfl⟩
      · rintro σ' H' ⟨rfl, rfl⟩
        refine ⟨_, rfl, rfl, _, rfl, int_ne (fun h1 => ?_) fun h1 => ?_⟩
        · have e : tailT b = plusT b := by unfold tailT; rw [if_neg h1]
          rw [e] at q
          have l4 : (preC a ++ nT).length ≤ 33 := by
            rw [len_app]
            show _ + 1 ≤ _
            omega
          refine ⟨_, rfl, .inl ⟨_, rfl, by rw [sizeLine_eq]; omega, _, rfl, by rw [empty_app, sizeLine_eq]; omega, _, rfl, b, rfl, log_lt hb, by rw [sizeLine_eq]; omega, plusT b, rfl, by rw [empty_app, len_app, sizeLine_eq]; omega, ?_⟩⟩
          rw [empty_app]
          exact q
        · have e : tailT b = Str.empty := by unfold tailT; rw [if_pos h1]
          rw [e, app_empty] at q
          exact ⟨_, rfl, q⟩
theorem ok_form {f fC fW : Addr} {fd dC dW : FuncData} (F : FnP K "format_count" sForm f fd) (C : Def P w K mg base (L2.CX P w) 4 "_check_count" fC dC ["count"] (spChk K)) (W : Def P w K mg base CX0 1 "_written" fW dW ["count"] (spWrit K)) : FnOk P w K mg base (L2.CX P w) 5 f fd ["count"] (spForm K) := by
  refine F.ok scFo (fun vs H Q E h => ?_) (fun cdv A outer s H vs Q E hr h => ?_)
  · obtain ⟨x, d, rfl, _⟩ := h
    rfl
  · obtain ⟨x, d, rfl, hd, h⟩ := h
    refine ⟨_, pss_cons (ps_expr (pe_call C.ok hr (by rfl) C.g C.k C.b .nil (passC (takes_of rfl rfl rfl rfl) rfl) (pa_cons (pv 0) pa_nil)))
      (pss_one (ps_ret (pe_call W.ok (hr.mono (by decide)) (by rfl) W.g W.k W.b .nil pass0 (pa_cons (pv 0) pa_nil)))), ?_⟩
    have e0 : start ["count"] [x] = [some x] := rfl
    rw [e0]
    refine go_seq ?_
    rcases h with ⟨hc, b⟩ | ⟨a, b, rfl, hc, q⟩
    · exact ⟨_, rfl, x, d, rfl, hd, .inr ⟨hc, b⟩⟩
    · refine ⟨_, rfl, x, _, rfl, hd, .inl ⟨hc, ?_⟩⟩
      exact ⟨_, rfl, x, a, b, rfl, hd, hc, q⟩
theorem part_len (t : Str) : (Txt.partition t nT).1.length ≤ t.length ∧ (Txt.partition t nT).2.2.length ≤ t.length := by
  rcases part_cases t with ⟨_, h⟩ | ⟨A, S, _, e, h⟩
  · rw [h]; exact ⟨Nat.le_refl _, Nat.zero_le _⟩
  · rw [h, e, len_app, len_app]; dsimp only; exact ⟨by omega, by omega⟩
theorem ok_free {f fF : Addr} {fd dF : FuncData} (F : FnP K "_read_freely" sFree f fd) (T : Txt K mg) (N : Def P w K mg base CX0 1 "figures_of" fF dF ["text", "most"] spFig) : FnOk P w K mg base CX0 2 f fd ["text"] (spFree K) := by
  refine F.ok scFr (fun vs H Q E h => ?_) (fun cdv A outer s H vs Q E hr h => ?_)
  · obtain ⟨t, rfl, _⟩ := h
    rfl
  · obtain ⟨t, rfl, hl, q⟩ := h
    obtain ⟨tl', hlong⟩ := T.lonc
    refine ⟨_, pss_cons (ps_asg (pe_partition (pv 0) pe_str) (pg_tup rfl (pgs_cons (pg_name (i := 1) scFr.nd rfl (Or.inl rfl)) (pgs_cons (pg_name (i := 2) scFr.nd rfl (Or.inl rfl)) (pgs_cons (pg_name (i := 3) scFr.nd rfl (Or.inl rfl)) pgs_nil)))))
      (pss_cons (ps_if (pt_cmpR op_eq (pv 2) pe_str (nomark _)) (pss_one (ps_ret (pe_tup (pa_cons pe_int (pa_cons (pe_call N.ok hr (by rfl) N.g N.k N.b .nil pass0 (pa_cons (pv 0) (pa_cons (pe_gI hlong (by rfl)) pa_nil))) pa_nil))))) pss_nil)
      (C8.pss_cut (ps_set (i := 4) scFr.nd rfl (Or.inl rfl) (pe_ifExp (pt_cmpR op_eq (pv 1) pe_str (nomark _)) pe_int (pe_call N.ok hr (by rfl) N.g N.k N.b .nil pass0 (pa_cons (pv 1) (pa_cons (pe_gI hlong (by rfl)) pa_nil)))))
      (pss_cons (ps_if (pt_cmpR op_eq (pv 3) pe_str (nomark _)) (pss_one (ps_ret (pe_tup (pa_cons (pv 4) (pa_cons pe_int pa_nil))))) pss_nil)
      (pss_cons (ps_set (i := 5) scFr.nd rfl (Or.inl rfl) (pe_call N.ok hr (by rfl) N.g N.k N.b .nil pass0 (pa_cons (pe_slice sl_str (pv 3) (po_some pe_int) po_none) (pa_cons (pe_gI hlong (by rfl)) pa_nil))))
      (pss_one (ps_ret (pe_tup (pa_cons (pv 4) (pa_cons (pe_ifExp (PW.pt (pw_and (pt_cmpR op_eq (pe_ix ix_str (pv 3) pe_int (fun _ _ => rfl)) pe_str (nomark _)) (pw_and1 (pt_cmpR op_notN (pv 5) pe_non (nomark _))))) (pe_un un_neg (pv 5)) (pv 5)) pa_nil))))))))), ?_⟩
    have e0 : start ["text", "head", "letter", "tail", "a", "b"] [V.str t] = [some (.str t), none, none, none, none, none] := rfl
    rw [e0]
    have sz : sizeLine = 16777216 := sizeLine_eq
    obtain ⟨l1, l2⟩ := part_len t
    unfold freeD at q
    refine go_seq (go_asg ?_)
    refine ⟨_, rfl, ⟨_, rfl⟩, t, nT, rfl, rfl, rfl, by omega, fun p np => ?_⟩
    have sp := same_upd (o := .tup [.str (Txt.partition t nT).1, .str (Txt.partition t nT).2.1, .str (Txt.partition t nT).2.2]) np
    refine ⟨p, _, rfl, SqT.of upd_same, rfl, _, _, rfl, _, _, rfl, _, _, rfl, rfl, ?_⟩
    generalize upd H p (.tup [.str (Txt.partition t nT).1, .str (Txt.partition t nT).2.1, .str (Txt.partition t nT).2.2]) = H1 at sp ⊢
    generalize (Txt.partition t nT).1 = A at *
    generalize (Txt.partition t nT).2.1 = M at *
    generalize (Txt.partition t nT).2.2 = S at *
    walk_at "nx"
    refine ⟨_, rfl, rfl, _, rfl, str_if (fun h => ?_) fun h => ?_⟩
    · rw [if_pos (show M = Str.empty from h)] at q
      refine ⟨_, rfl, t, 34, rfl, by omega, by decide, fun H2 s2 => ⟨by show 2 ≤ sizeLine; decide, fun p2 n2 => ?_⟩⟩
      exact q _ _ (sp.trans (s2.trans (same_upd n2))) (.tup (SqT.of upd_same) (.cons (.int 0) (.cons (optVD _) .nil)))
    · rw [if_neg (show ¬ M = Str.empty from h)] at q
      walk_at "nx"
      refine ⟨fun σ' H' => ∃ v, σ' = [some (.str t), some (.str A), some (.str M), some (.str S), some v, none] ∧ Same H H' ∧ ∀ H2, Dp K H2 v (if A = Str.empty then .int 1 else optD (figO (tl A) 34)), ?_, ?_⟩
      · refine ⟨_, rfl, rfl, _, rfl, str_if (fun h => ?_) fun h => ?_⟩
        · rw [if_pos (show A = Str.empty from h)]
          exact ⟨_, rfl, sp, fun _ => .int 1⟩
        · rw [if_neg (show ¬ A = Str.empty from h)]
          exact ⟨_, rfl, A, 34, rfl, by omega, by decide, fun H2 s2 => ⟨_, rfl, sp.trans s2, fun _ => optVD _⟩⟩
      rintro σ' H' ⟨v, rfl, s', hv⟩
      refine ⟨_, rfl, rfl, _, rfl, str_if (fun h => ?_) fun h => ?_⟩
      · have e : tailD (tl S) = .int 0 := by
          have : tl S = [] := tl_empty.mp h
          rw [this]
          rfl
        rw [e] at q
        refine ⟨_, rfl, by show 2 ≤ sizeLine; decide, fun p2 n2 => ?_⟩
        exact q _ _ (s'.trans (same_upd n2)) (.tup (SqT.of upd_same) (.cons (hv _) (.cons (.int 0) .nil)))
      · walk_at "nx"
        have hne : tl S ≠ [] := fun z => h (tl_empty.mpr z)
        refine ⟨_, rfl, 1, rfl, S, rfl, by omega, cutS S (some 1) none, 34, rfl, by have := cut_le S (some 1) none; omega, by decide, fun H2 s2 => ?_⟩
        have ec : tl (cutS S (some 1) none) = (tl S).tail := by
          have z := tl_from S 1
          rw [List.drop_one] at z
          exact z
        rw [ec]
        obtain ⟨c, hc⟩ := head0 (t := S) (by cases hS : tl S with | nil => exact absurd hS hne | cons c r => simp)
        refine ⟨_, rfl, _, rfl, S, 0, c, rfl, rfl, by omega, ?_, rfl, _, rfl, ?_⟩
        · show atI S.cps.toList 0 = some c
          rw [show S.cps.toList = c :: (tl S).tail from hc]
          exact atI_nat (j := 0) rfl
        have fin : ∀ y : PyData, tailD (tl S) = y → ∀ u, (∀ H3, Dp K H3 u y) → ∀ p2, H2 p2 = none → Q (.ref p2) (upd H2 p2 (.tup [v, u])) := fun y e u hu p2 n2 => by
          rw [e] at q
          exact q _ _ (s'.trans (s2.trans (same_upd n2))) (.tup (SqT.of upd_same) (.cons (hv _) (.cons (hu _) .nil)))
        have et : tailD (tl S) = (match figO (tl S).tail 34 with | none => .none | some n => .int (if c = 45 then -(n : Int) else n)) := by
          unfold tailD
          rw [if_neg hne]
          have hh : (tl S).head? = some c := by rw [hc]; rfl
          cases figO (tl S).tail 34 with
          | none => rfl
          | some n =>
            show PyData.int _ = PyData.int _
            rw [hh]
            by_cases h5 : c = 45
            · rw [if_pos (by rw [h5]), if_pos h5]
            · rw [if_neg (fun z => h5 (Option.some.inj z)), if_neg h5]
        have c45 : (⟨#[c]⟩ : Str) = "-" ↔ c = 45 := ⟨fun z => by have z2 : [c] = [45] := congrArg tl z; cases z2; rfl, fun z => by rw [z]; rfl⟩
        refine str_if (fun h5 => ?_) fun h5 => ?_
        · have h5 := c45.mp h5
          cases hf : figO (tl S).tail 34 with
          | none =>
            rw [hf] at et
            refine ⟨_, rfl, rfl, _, rfl, ?_⟩
            refine iteF ?_
            exact ⟨_, rfl, by show 2 ≤ sizeLine; decide, fun p2 n2 => fin _ et .non (fun _ => .non) p2 n2⟩
          | some n =>
            rw [hf] at et
            dsimp only at et
            rw [if_pos h5] at et
            refine ⟨_, rfl, rfl, _, rfl, ?_⟩
            refine iteT ?_
            exact ⟨_, rfl, _, rfl, by show 2 ≤ sizeLine; decide, fun p2 n2 => fin _ et (.int _) (fun _ => .int _) p2 n2⟩
        · have h5 : ¬ c = 45 := fun z => h5 (c45.mpr z)
          cases hf : figO (tl S).tail 34 with
          | none =>
            rw [hf] at et
            exact iteF ⟨_, rfl, by show 2 ≤ sizeLine; decide, fun p2 n2 => fin _ et .non (fun _ => .non) p2 n2⟩
          | some n =>
            rw [hf] at et
            dsimp only at et
            rw [if_neg h5] at et
            exact iteF ⟨_, rfl, by show 2 ≤ sizeLine; decide, fun p2 n2 => fin _ et (.int _) (fun _ => .int _) p2 n2⟩
theorem ok_read {f fF fC fW : Addr} {fd dF dC dW : FuncData} (F : FnP K "read_count" sRead f fd) (T : Txt K mg) (N : Def P w K mg base CX0 2 "_read_freely" fF dF ["text"] (spFree K)) (C : Def P w K mg base CX0 3 "is_count" fC dC ["thing"] (spCount K)) (W : Def P w K mg base CX0 1 "_written" fW dW ["count"] (spWrit K)) : FnOk P w K mg base CX0 4 f fd ["text"] (spRead K) := by
  refine F.ok scRe (fun vs H Q E h => ?_) (fun cdv A outer s H vs Q E hr h => ?_)
  · obtain ⟨x, d, rfl, _⟩ := h
    rfl
  · obtain ⟨x, d, rfl, hd, hl, q⟩ := h
    obtain ⟨tl', hlong⟩ := T.lonc
    refine ⟨_, pss_cons (ps_if (PW.pt (pw_or (pt_not (pt_val (pe_isD T.p.isn (pv 0) (pe_bltn (by rfl) T.p.str bbS (by rfl)) (by rfl)))) (pw_or1 (pt_cmpR op_gt (pe_callB call_len_str (by rfl) T.p.len boot_len (pa_cons (pv 0) pa_nil)) (pe_gI hlong (by rfl)) (nomark _))))) (pss_one (ps_ret pe_non)) pss_nil)
      (pss_cons (ps_set (i := 1) scRe.nd rfl (Or.inl rfl) (pe_call N.ok (hr.mono (by decide)) (by rfl) N.g N.k N.b .nil pass0 (pa_cons (pv 0) pa_nil)))
      (pss_cons (ps_if (PW.pt (pw_or (pt_not (pt_val (pe_call C.ok hr (by rfl) C.g C.k C.b .nil pass0 (pa_cons (pv 1) pa_nil)))) (pw_or1 (pt_cmpR op_ne (pe_call W.ok (hr.mono (by decide)) (by rfl) W.g W.k W.b .nil pass0 (pa_cons (pv 1) pa_nil)) (pv 0) (nomark _))))) (pss_one (ps_ret pe_non)) pss_nil)
      (pss_one (ps_ret (pv 1))))), ?_⟩
    have e0 : start ["text", "count"] [x] = [some x, none] := rfl
    rw [e0]
    have qn : ∀ H', Same H H' → readD d = .none → Q .non H' := fun H' s' e => q .non H' s' (by rw [e]; exact .non)
    refine go_seq ?_
    cases hd with
    | non => exact ⟨_, rfl, _, _, .non, (by decide +kernel : kitB "NoneType" "str" = some false), _, rfl, iteT (iteT (qn H (Same.refl H) rfl))⟩
    | bl b => exact ⟨_, rfl, _, _, .bl b, (by decide +kernel : kitB "bool" "str" = some false), _, rfl, iteT (iteT (qn H (Same.refl H) rfl))⟩
    | int i => exact ⟨_, rfl, _, _, .int i, (by decide +kernel : kitB "int" "str" = some false), _, rfl, iteT (iteT (qn H (Same.refl H) rfl))⟩
    | lst hS ha => exact ⟨_, rfl, _, _, .lst hS ha, (by decide +kernel : kitB "list" "str" = some false), _, rfl, iteT (iteT (qn H (Same.refl H) rfl))⟩
    | tup hS ha => exact ⟨_, rfl, _, _, .tup hS ha, (by decide +kernel : kitB "tuple" "str" = some false), _, rfl, iteT (iteT (qn H (Same.refl H) rfl))⟩
    | str t =>
      have hl := hl t rfl
      refine ⟨_, rfl, _, _, .str t, (by decide +kernel : kitB "str" "str" = some true), _, rfl, iteF ?_⟩
      refine ⟨_, rfl, t, rfl, hl, _, _, rfl, rfl, _, rfl, ite_dec (fun g => ?_) fun g => ?_⟩
      · exact qn H (Same.refl H) (read_long (by omega))
      · walk_at "nx"
        refine ⟨_, rfl, t, rfl, by omega, fun v H1 s1 hv => ?_⟩
        walk_at "nx"
        refine ⟨_, rfl, v, freeD t, rfl, hv, _, rfl, ?_⟩
        cases hc : countD (freeD t) with
        | false => exact iteT (iteT (qn H1 s1 (read_no hc)))
        | true =>
          obtain ⟨a, b, e⟩ := countD_ints hc
          rw [e] at hv
          have hva : validC a b = true := by
            rw [e] at hc
            exact hc
          refine iteF ?_
          refine ⟨_, rfl, v, a, b, rfl, hv, hva, _, rfl, rfl, _, rfl, str_ne (fun h => ?_) fun h => ?_⟩
          · exact qn H1 s1 (read_other e h)
          · have er : readD (.str t) = .tuple [.int a, .int b] := read_yes hc e h
            exact ⟨_, rfl, q v H1 s1 (by rw [er]; exact hv)⟩
end
end L2.L87

set_option maxHeartbeats 1000000
/-! the end of a law with lambdas, where nothing is being written -/
namespace L2.Lr
open PySem PySem.Spec PyProof.Rows LR LamX
/-- the state in which the law is called: the script, and the tables of its code objects, empty -/
theorem script_envT {P : Program} {w : World} {K : PySem.W.Frag} {mg mb : Str → Option Value} {a : Addr} {s₁ : Shared} {vs : List Value} {ns : List Int} {cs : List (Addr × Addr)}
    (KX : K.In s₁.heap) (hns : s₁.heap.Ns mainGlobals mg) (hb : s₁.heap.Ns builtinsNs mb) (hbb : ∀ x : Str, x ≠ "__name__" → mb x = bootBuiltins x) (hlim : s₁.heap.NoLimit) (hg : s₁.gens = #[])
    (hT : ∀ p ∈ cs, s₁.heap.get? p.2 = some { cls := .none, data := .fields #[] }) (nT : ∀ p ∈ cs, K.lookup p.2 = none) (C : ∀ p ∈ cs, PySem.W.CodeHd s₁.heap p.1 p.2)
    (hbm : ∃ (bm : Addr) (ob : Obj), mg "__builtins__" = some (.ref bm) ∧ bm ≠ builtinsNs ∧ s₁.heap.get? bm = some ob ∧ ob.cls = .type "module" ∧ ob.dict = some builtinsNs ∧ ob.data = .plain)
    (ha : s₁.heap.get? a = some { cls := .type "list", data := .seq vs.toArray }) (hi : IntsAre vs ns) (hl : ns.length ≤ sizeLine) :
    ∃ (H : Hp) (base : Heap), K.In base ∧ base.Ns mainGlobals mg ∧ (∀ p ∈ cs, TabB base mg p.1 p.2) ∧ (∀ p ∈ cs, H p.2 = some (.tbl #[])) ∧ SqL K H a (ns.map V.int) ∧ Env0 P w K mg base callerA [] s₁ H ∧ ∀ H' h', Un (frs []) [] H H' s₁.heap h' → HOk P w H' h' → OldK s₁.heap h' := by
  have rv := vals_ints hi
  obtain ⟨lo, elo⟩ : ∃ lo : Obj, lo = { cls := .type "list", data := .seq vs.toArray } := ⟨_, rfl⟩
  obtain ⟨Ts, eTs⟩ : ∃ Ts : List Addr, Ts = cs.map (·.2) := ⟨_, rfl⟩
  have tab : ∀ b ∈ Ts, ∃ p ∈ cs, p.2 = b := fun b hb => by
    rw [eTs] at hb
    exact List.mem_map.mp hb
  have inT : ∀ p ∈ cs, p.2 ∈ Ts := fun p hp => by rw [eTs]; exact List.mem_map.mpr ⟨p, hp, rfl⟩
  have at_ : ∀ b ∈ Ts, s₁.heap.get? b = some { cls := .none, data := .fields #[] } := fun b hb => by
    obtain ⟨p, hp, e⟩ := tab b hb
    rw [← e]
    exact hT p hp
  rw [← elo] at ha
  have aT : a ∉ Ts := fun z => by
    have e := ha.symm.trans (at_ a z)
    rw [elo] at e
    have e2 := congrArg Obj.data (Option.some.inj e)
    cases e2
  obtain ⟨H, only, there, tbls⟩ : ∃ H : Hp, (∀ b u, H b = some u → (b ∈ Ts ∧ u = .tbl #[]) ∨ (b = a ∧ u = .frz lo (.lst (ns.map V.int)) ∧ K.lookup a = none)) ∧ (K.lookup a = none → H a = some (.frz lo (.lst (ns.map V.int)))) ∧ (∀ b ∈ Ts, H b = some (.tbl #[])) := by
    cases hk : K.lookup a with
    | none =>
      refine ⟨fun b => if b ∈ Ts then some (.tbl #[]) else if b = a then some (.frz lo (.lst (ns.map V.int))) else none, fun b u z => ?_, fun _ => (if_neg aT).trans (if_pos rfl), fun b hb => if_pos hb⟩
      by_cases h : b ∈ Ts
      · exact .inl ⟨h, (Option.some.inj ((if_pos h).symm.trans z)).symm⟩
      · have z2 := (if_neg h).symm.trans z
        by_cases h2 : b = a
        · exact .inr ⟨h2, (Option.some.inj ((if_pos h2).symm.trans z2)).symm, rfl⟩
        · cases (if_neg h2).symm.trans z2
    | some o =>
      refine ⟨fun b => if b ∈ Ts then some (.tbl #[]) else none, fun b u z => ?_, fun z => (by cases z), fun b hb => if_pos hb⟩
      by_cases h : b ∈ Ts
      · exact .inl ⟨h, (Option.some.inj ((if_pos h).symm.trans z)).symm⟩
      · cases (if_neg h).symm.trans z
  have off : ∀ {b : Addr} {o : Obj}, s₁.heap.get? b = some o → o.data ≠ lo.data → o.data ≠ .fields #[] → H b = none := fun {b o} e n1 n2 => by
    cases q : H b with
    | none => rfl
    | some u =>
      rcases only _ _ q with ⟨h, _⟩ | ⟨rfl, _⟩
      · cases (at_ b h).symm.trans e
        exact absurd rfl n2
      · cases ha.symm.trans e
        exact absurd rfl n1
  have kb : K.In (hidT s₁.heap H) := fun b o e => hidT_get (KX b o e) (by
    cases q : H b with
    | none => rfl
    | some u =>
      rcases only _ _ q with ⟨h, _⟩ | ⟨rfl, _, n⟩
      · obtain ⟨p, hp, ep⟩ := tab b h
        rw [← ep, nT p hp] at e
        cases e
      · cases n.symm.trans e)
  have dict_ne : ∀ {o : Obj} {es : Array DictEntry} {ep : Nat}, o.data = .dict es ep → o.data ≠ lo.data ∧ o.data ≠ .fields #[] := fun {o es ep} d => ⟨(by rw [d, elo]; intro z; cases z), (by rw [d]; intro z; cases z)⟩
  have nk : ∀ {b : Addr} {m : Str → Option Value}, s₁.heap.Ns b m → (hidT s₁.heap H).Ns b m := fun ⟨o, es, ep, e, dd, r⟩ => ⟨o, es, ep, hidT_get e (off e (dict_ne dd).1 (dict_ne dd).2), dd, r⟩
  have hok : HOk P w H s₁.heap := fun b u q => by
    rcases only _ _ q with ⟨h, rfl⟩ | ⟨rfl, rfl, _⟩
    · exact at_ b h
    · exact ⟨ha, by rw [List.length_map]; exact hl, vs, _, rv, by rw [ha, elo]⟩
  have TB : ∀ p ∈ cs, TabB (hidT s₁.heap H) mg p.1 p.2 := fun p hp => by
    refine ⟨?_, ?_, fun z => ?_⟩
    · obtain ⟨o, us, file, tf, flags, tg, inF, text, tt, e1, r1, r2, r3, r⟩ := C p hp
      refine ⟨o, us, file, tf, flags, tg, inF, text, tt, hidT_get e1 (off e1 (by rw [r2, elo]; intro z; cases z) ?_), r1, r2, r3, r⟩
      rw [r2]
      intro z
      cases z
      simp at r3
    · obtain ⟨bm, ob, b1, b2, b3, b4, b5, b6⟩ := hbm
      refine ⟨bm, ob, b1, b2, fun z => ?_, fun z => ?_, hidT_get b3 (off b3 (by rw [b6, elo]; intro z; cases z) (by rw [b6]; intro z; cases z)), b4, b5, b6⟩
      · obtain ⟨o, es, ep, e, dd, _⟩ := hns
        rw [z] at b3
        cases b3.symm.trans e
        cases b6.symm.trans dd
      · rw [z] at b3
        cases b3.symm.trans (hT p hp)
        cases b6
    · obtain ⟨o, es, ep, e, dd, _⟩ := hns
      rw [z] at e
      cases (hT p hp).symm.trans e
      cases dd
  refine ⟨H, hidT s₁.heap H, kb, nk hns, TB, fun p hp => tbls _ (inT p hp), ?_, ⟨rfl, ⟨kb, nk hns, ⟨mb, nk hb, hbb⟩, let ⟨mc, h1, h2⟩ := hlim; ⟨mc, nk h1, h2⟩⟩, fun b o e => of_hidT e, Nat.le_of_eq (hidT_size _ _), trivial, fun b z => (nomatch z), hok, .of_eq hg⟩, fun H' h' un ok' => ?_⟩
  · cases hk : K.lookup a with
    | none => exact .inl (.inr ⟨lo, there hk⟩)
    | some o =>
      cases ha.symm.trans (KX a o hk)
      exact .inr ⟨lo, vs.toArray, _, hk, by rw [elo], by rw [elo], by rw [elo], by rw [List.size_toArray, hi.length]; exact hl, by simpa using rv⟩
  · have keep : ∀ b o, b ∉ Ts → s₁.heap.get? b = some o → h'.get? b = some o := fun b o nb e => by
      cases q : H b with
      | none => exact un.keep b o e q (fun z => nomatch z) (fun z => nomatch z)
      | some u =>
        rcases only _ _ q with ⟨h, _⟩ | ⟨rfl, rfl, _⟩
        · exact absurd h nb
        · cases ha.symm.trans e
          exact (ok' b _ (un.frzs b _ _ q)).1
    have grown : ∀ b ∈ Ts, ∃ more : Array Value, h'.get? b = some { cls := .none, data := .fields more } := fun b hb => by
      obtain ⟨more, z⟩ := un.tbls b #[] (tbls b hb)
      exact ⟨_, ok' b _ z⟩
    refine ⟨fun b o e => ?_, fun b o e => ?_⟩
    · by_cases hb : b ∈ Ts
      · obtain ⟨p, hp, ep⟩ := tab b hb
        obtain ⟨more, hm⟩ := grown b hb
        cases (at_ b hb).symm.trans e
        subst ep
        exact .inr (.inl ⟨((C p hp).tab (hT p hp)).isCodeTable, rfl, #[], more, rfl, by rw [Array.empty_append]; exact hm⟩)
      · exact .inl (keep b o hb e)
    · by_cases hb : b ∈ Ts
      · obtain ⟨more, hm⟩ := grown b hb
        exact ⟨_, hm⟩
      · exact ⟨o, keep b o hb e⟩
/-- the end: a law with lambdas whose def is kept where nothing is being written -/
theorem walk_ofQT {l : PySem.W.OpenLaw} {n k : Nat} {q : Program} {loose : List Str} {XP : (Str → Option Value) → Heap → Prop} {YP : World → Heap → Prop} {d : DefRec} {CX : CXT} {x : Str} (hn : l.most = some n) (hz : n ≤ sizeLine) (hdf : d.params.defaults = []) (hr : Room k callerA)
    (F : ∀ (w : World) (mg : Str → Option Value) (fa : Addr) (h : Heap), YP w h → h.Ns mainGlobals mg → mg d.name = some (.ref fa) → ∃ (K : PySem.W.Frag) (fd : FuncData) (cs : List (Addr × Addr)) (sp : Sp), K.In h ∧ (∀ p ∈ cs, h.get? p.2 = some { cls := .none, data := .fields #[] }) ∧ (∀ p ∈ cs, K.lookup p.2 = none) ∧ (∀ p ∈ cs, PySem.W.CodeHd h p.1 p.2) ∧
      (∀ (s : Shared) (u : Value), BindsTo s fd ⟨[u], []⟩ [(x, u)]) ∧ (∀ (H : Hp) (a : Addr) (ns : List Int), ns.length ≤ n → (∀ p ∈ cs, H p.2 = some (.tbl #[])) → SqL K H a (ns.map V.int) → sp [.ref a] H (fun v _ => v = .bl true) fun _ _ _ => False) ∧
      ∀ base : Heap, K.In base → base.Ns mainGlobals mg → (∀ p ∈ cs, TabB base mg p.1 p.2) → FnQ l.prog w K mg base CX k fa fd [x] sp)
    (hC : ∀ (H : Hp) (s : Shared) (e : Value) (s' : Shared), CX [] H s (fun _ _ _ => False) e s' → False) : PySem.W.WalkO q loose XP YP l.row.toRowW d [] (fun f vs => PySem.call f vs) := by
  refine Att.attach_callB hn hdf fun w s₀ s₁ mg mb fa o pm cd doc a vs ns G Y ho hd hcd hmg hobj hi hlen hbits hg => ?_
  obtain ⟨K, fd, cs, sp, KX, hT, nT, C, hb, hsp, hF⟩ := F w mg fa _ Y G.T.g hmg
  obtain ⟨H, base, kb, nb, TB, tb, hS, env, post⟩ := script_envT (P := l.prog) (w := w) KX G.T.g G.T.b G.T.builtins G.T.nolimit hg hT nT C G.T.bmain hobj hi (Nat.le_trans hlen hz)
  refine codeAny_mono ((hF base kb nb TB).run callerA [] s₁ H ⟨[.ref a], []⟩ [.ref a] [.ref a] _ _ rfl hr env (hb s₁ (.ref a)) (.cons rfl .nil) (hsp H a ns hlen tb hS)) fun r s' z => ?_
  match r, z with
  | .error e, z => exact (hC H s₁ e s' z).elim
  | .ok .next, z => exact z.elim
  | .ok .brk, z => exact z.elim
  | .ok .cont, z => exact z.elim
  | .ok (.ret u), ⟨v, H', os, bare, un, ok', r', q⟩ =>
    cases (show v = .bl true from q)
    cases (show u = Value.bool true from r')
    exact ⟨rfl, post H' _ un ok', os, bare⟩
end L2.Lr

set_option maxHeartbeats 1000000
/-! a law whose def makes lambdas: its code's table by the head, what stays when a lambda is made -/
namespace L2.Lr
open PySem PySem.Spec PyProof.Rows LR LamX
theorem FnQ.ofC {P : Program} {w : World} {K : PySem.W.Frag} {mg : Str → Option Value} {base : Heap} {CX : CXT} {k : Nat} {f : Addr} {sp : Sp} {x qual : Str} {pa : Arguments} {body : List Stmt} {scope : Scope} {N ps : List Str} {dV kV doc pm cdv ct oc : Value} {an od : Option Addr} {osl : Array (Option Value)}
    (lk : K.lookup f = some ⟨oc, od, .func (PySem.W.fnOf x qual pa body scope dV kV doc pm an cdv ct), osl⟩) (rec : PySem.W.codeIn K cdv qual = true) (S : FnScope N ps scope) (len : ∀ vs H Q E, sp vs H Q E → vs.length = ps.length)
    (go : ∀ (A : Around) (outer : List Env) (s : Shared) (H : Hp) (vs : List V) (Q : VK) (E : XK), Quiet A → Room k (A.deeper (envOfC qual scope s.heap.objs.size f cdv)) → sp vs H Q E →
      ∃ t, PSs (cxOf CX P w K mg base N qual scope f cdv A outer s H E) body t ∧ t { nx := fun _ H' => Q .non H', rt := Q } (start N vs) H) : FnQ P w K mg base CX (k + 1) f (PySem.W.fnOf x qual pa body scope dV kV doc pm an cdv ct) ps sp := by
  refine ⟨len, fun A outer s H args us vs Q E qA room env bind rel hsp => ?_⟩
  have KX : K.In s.heap := env.mod.kin.keeps fun b o e => (env.bs b o e).1
  have NL : s.heap.NoLimit := env.mod.nolimit.keeps fun b o e => (env.bs b o e).1
  have slots : ∀ y ∈ ps.zip us, scope.names.lookup y.1 = some .local ∨ (scope.names.lookup y.1 = some .cell ∧ ((cellsFrom (s.heap.objs.size + 1) scope.names []).lookup y.1).isSome = true) := by
    rintro ⟨n, v⟩ hy
    exact (S.par n (List.of_mem_zip hy).1).imp id fun q => ⟨q, PySem.W.cellsFrom_some _ _ _ (.inl q)⟩
  refine codeAny_call_function room.depth (KX _ _ lk) rfl S.co S.gen rfl (PySem.W.codeRec_of KX rec) (bind _ _ _ _ (wpAny_newFunctionEnv_cells S.kind slots fun env' he s1 x => ?_))
  subst he
  refine ⟨NL.keeps x.toInCall.keep, codeAny_func ?_⟩
  obtain ⟨t, ht, q⟩ := go A outer s H vs Q E qA (room.deeper _) hsp
  have I : Inv (cxOf CX P w K mg base N qual scope f cdv A outer s H E) [] (start N vs) H s1 := inv_start S room.hd env (len _ _ _ _ hsp) rel x
  refine wpAny_mono (ht.run [] s1 _ H _ I q) (fun fl s' z => ?_) fun _ _ z => z
  match fl, z with
  | .ret u, ⟨v, _, H', J, r, z⟩ => exact ⟨v, H', J.os, J.bare, J.base, J.hok, r, z⟩
  | .next, ⟨_, H', J, z⟩ => exact ⟨.non, H', J.os, J.bare, J.base, J.hok, rfl, z⟩
  | .brk, ⟨_, _, _, z⟩ => exact z.elim
  | .cont, ⟨_, _, _, z⟩ => exact z.elim
/-! ### the code object of a def, and its table -/
def cOf (K : PySem.W.Frag) (fa : Addr) : Addr := match K.lookup fa with
  | some ⟨_, _, .func fd, _⟩ => (match fd.code with
    | .ref c => c
    | _ => 0)
  | _ => 0
def pOf (K : PySem.W.Frag) (fa : Addr) : Addr := match K.lookup (cOf K fa) with
  | some ⟨_, _, .fields vs, _⟩ => (match (vs[11]? : Option Value) with
    | some (.ref P) => P
    | _ => 0)
  | _ => 0
def isRefB : Value → Bool
  | .ref _ => true
  | _ => false
def cdB (K : PySem.W.Frag) (fa : Addr) : Bool := match K.lookup fa with
  | some ⟨_, _, .func fd, _⟩ => isRefB fd.code
  | _ => false
def tabB (K : PySem.W.Frag) (fa : Addr) : Bool := cdB K fa && ((K.lookup (pOf K fa)).isNone && PySem.W.codeHdIn K (cOf K fa) (pOf K fa))
theorem tabB_ok {K : PySem.W.Frag} {fa : Addr} {oc : Value} {od : Option Addr} {fd : FuncData} {osl : Array (Option Value)} (q : tabB K fa = true) (lk : K.lookup fa = some ⟨oc, od, .func fd, osl⟩) :
    fd.code = .ref (cOf K fa) ∧ K.lookup (pOf K fa) = none ∧ PySem.W.codeHdIn K (cOf K fa) (pOf K fa) = true ∧ ∃ e dd vs sl, K.lookup (cOf K fa) = some ⟨e, dd, .fields vs, sl⟩ ∧ vs[11]? = some (.ref (pOf K fa)) := by
  obtain ⟨q1, q⟩ := He.ba q
  obtain ⟨q2, q3⟩ := He.ba q
  have hc : fd.code = .ref (cOf K fa) := by
    unfold cdB at q1
    unfold cOf
    rw [lk] at q1 ⊢
    dsimp only at q1 ⊢
    cases h : fd.code with
    | ref c => rfl
    | _ => rw [h] at q1; cases q1
  refine ⟨hc, Option.isNone_iff_eq_none.mp q2, q3, ?_⟩
  have q4 := q3
  unfold PySem.W.codeHdIn at q4
  split at q4
  · rename_i dd vs sl hk
    refine ⟨_, _, vs, _, hk, ?_⟩
    simp only [Bool.and_eq_true] at q4
    obtain ⟨⟨⟨⟨⟨e1, _⟩, _⟩, _⟩, _⟩, _⟩ := q4
    split at e1
    · rename_i P' h11
      rw [h11, beq_iff_eq.mp e1]
    · cases e1
  · cases q4
/-- the end: a law whose own def makes lambdas -/
theorem walk_ofQO {l : PySem.W.OpenLaw} {n k : Nat} {q : Program} {loose : List Str} {XP : (Str → Option Value) → Heap → Prop} {YP : World → Heap → Prop} {d : DefRec} {CX : CXT} {x : Str} (hn : l.most = some n) (hz : n ≤ sizeLine) (hdf : d.params.defaults = []) (hr : Room k callerA)
    (hrec : ((recsOf q).any fun e => e.name == d.name) = true)
    (F : ∀ (w : World) (mg : Str → Option Value) (fa : Addr) (h : Heap), YP w h → h.Ns mainGlobals mg → mg d.name = some (.ref fa) → ∃ (K : PySem.W.Frag) (fd : FuncData) (oc : Value) (od : Option Addr) (osl : Array (Option Value)) (sp : Sp), K.In h ∧ K.lookup fa = some ⟨oc, od, .func fd, osl⟩ ∧ tabB K fa = true ∧
      (∀ (s : Shared) (u : Value), BindsTo s fd ⟨[u], []⟩ [(x, u)]) ∧ (∀ (H : Hp) (a : Addr) (ns : List Int), ns.length ≤ n → H (pOf K fa) = some (.tbl #[]) → SqL K H a (ns.map V.int) → sp [.ref a] H (fun v _ => v = .bl true) fun _ _ _ => False) ∧
      ∀ base : Heap, K.In base → base.Ns mainGlobals mg → TabB base mg (cOf K fa) (pOf K fa) → FnQ l.prog w K mg base CX k fa fd [x] sp)
    (hC : ∀ (H : Hp) (s : Shared) (e : Value) (s' : Shared), CX [] H s (fun _ _ _ => False) e s' → False) : PySem.W.WalkO q loose XP YP l.row.toRowW d [] (fun f vs => PySem.call f vs) := by
  refine Att.attach_callB hn hdf fun w s₀ s₁ mg mb fa o pm cd doc a vs ns G Y ho hd hcd hmg hobj hi hlen hbits hg => ?_
  obtain ⟨K, fd, oc, od, osl, sp, KX, lk, tb, hb, hsp, hF⟩ := F w mg fa _ Y G.T.g hmg
  obtain ⟨hc, nP, hd3, e, dd, vs3, sl, k4, k5⟩ := tabB_ok tb lk
  have hT : s₁.heap.get? (pOf K fa) = some { cls := .none, data := .fields #[] } := by
    obtain ⟨dL, hm, hn1⟩ := List.any_eq_true.mp hrec
    have hn2 : dL.name = d.name := beq_iff_eq.mp hn1
    obtain ⟨a', o', fd', c', P', h1, h2, h3, h4, h5, h6⟩ := G.T.tab dL hm
    rw [hn2, hmg] at h1
    cases h1
    have g1 := KX _ _ lk
    rw [g1] at h2
    cases h2
    cases h3
    rw [hc] at h4
    cases h4
    obtain ⟨⟨oc2, vc, e1, _, e3, e4⟩, hP⟩ := h6
    have g2 := KX _ _ k4
    rw [g2] at e1
    cases e1
    cases e3
    rw [k5] at e4
    cases e4
    exact hP
  obtain ⟨H, base, kb, nb, TB, tbl, hS, env, post⟩ := script_envT (P := l.prog) (w := w) (cs := [(cOf K fa, pOf K fa)]) KX G.T.g G.T.b G.T.builtins G.T.nolimit hg
    (fun p hp => by rw [List.mem_singleton.mp hp]; exact hT) (fun p hp => by rw [List.mem_singleton.mp hp]; exact nP) (fun p hp => by rw [List.mem_singleton.mp hp]; exact PySem.W.codeHd_of_K KX hd3) G.T.bmain hobj hi (Nat.le_trans hlen hz)
  refine codeAny_mono ((hF base kb nb (TB _ (List.mem_singleton.mpr rfl))).run callerA [] s₁ H ⟨[.ref a], []⟩ [.ref a] [.ref a] _ _ rfl hr env (hb s₁ (.ref a)) (.cons rfl .nil) (hsp H a ns hlen (tbl _ (List.mem_singleton.mpr rfl)) hS)) fun r s' z => ?_
  match r, z with
  | .error e, z => exact (hC H s₁ e s' z).elim
  | .ok .next, z => exact z.elim
  | .ok .brk, z => exact z.elim
  | .ok .cont, z => exact z.elim
  | .ok (.ret u), ⟨v, H', os, bare, un, ok', r', q⟩ =>
    cases (show v = .bl true from q)
    cases (show u = Value.bool true from r')
    exact ⟨rfl, post H' _ un ok', os, bare⟩
/-! ### a Hook whose part holds no empty tables -/
def noTab (g : Addr → Option Obj) (a : Addr) : Bool := match g a with
  | some ⟨.none, _, .fields vs, _⟩ => !vs.isEmpty
  | _ => true
def obsT (n : Nat) (chk : PySem.W.Frag → Bool) (fa : List He.Fa) (fn : List He.DefD) (g : Addr → Option Obj) : Bool × He.AlD := (fun K => (chk K, He.obsD fa fn K)) (He.frG g ((He.asD g n).filter (noTab g)))
def hookT (n : Nat) (chk : PySem.W.Frag → Bool) (fa : List He.Fa) (fn : List He.DefD) : PySem.W.Hook where
  α := Bool × He.AlD
  obs := fun s => obsT n chk fa fn s.heap.get?
  val := fun _ => (true, He.valD fn)
  says := fun _ h => ∃ K : PySem.W.Frag, K.In h ∧ chk K = true ∧ He.SaysD fa fn K
  of := fun _ _ e => ⟨_, He.frG_in, congrArg (fun z : Bool × He.AlD => z.1) e, congrArg (fun z : Bool × He.AlD => z.2) e⟩
  keeps := fun _ _ _ ⟨K, hK, c⟩ k => ⟨K, PySem.W.Frag.In.keeps hK k, c⟩
theorem obsT_eq {n : Nat} {chk : PySem.W.Frag → Bool} {fa : List He.Fa} {fn : List He.DefD} {g : Addr → Option Obj} {s : Shared} (h : ∀ a, g a = s.heap.get? a) : obsT n chk fa fn g = (hookT n chk fa fn).obs s := by
  have e : g = s.heap.get? := funext h
  rw [e]
  rfl
/-! ### what stays when a lambda is made -/
theorem ExtN.seqL {K : PySem.W.Frag} {H H' : Hp} {a : Addr} {xs : List V} (s : ExtN H H') (h : SqL K H a xs) : SqL K H' a xs := by
  rcases h with (h | ⟨o, h⟩) | h
  · exact .inl (.inl (s _ _ h fun _ z => by cases z))
  · exact .inl (.inr ⟨o, s _ _ h fun _ z => by cases z⟩)
  · exact .inr h
theorem ExtN.seqT {K : PySem.W.Frag} {H H' : Hp} {a : Addr} {xs : List V} (s : ExtN H H') (h : SqT K H a xs) : SqT K H' a xs := by
  rcases h with (h | ⟨o, h⟩) | h
  · exact .inl (.inl (s _ _ h fun _ z => by cases z))
  · exact .inl (.inr ⟨o, s _ _ h fun _ z => by cases z⟩)
  · exact .inr h
mutual
theorem Dp.ext {K : PySem.W.Frag} {H H' : Hp} (s : ExtN H H') : ∀ {v : V} {d : PyData}, Dp K H v d → Dp K H' v d
  | _, _, .non => .non
  | _, _, .bl b => .bl b
  | _, _, .int i => .int i
  | _, _, .str x => .str x
  | _, _, .lst h a => .lst (ExtN.seqL s h) (DpAll.ext s a)
  | _, _, .tup h a => .tup (ExtN.seqT s h) (DpAll.ext s a)
theorem DpAll.ext {K : PySem.W.Frag} {H H' : Hp} (s : ExtN H H') : ∀ {vs : List V} {ds : List PyData}, DpAll K H vs ds → DpAll K H' vs ds
  | _, _, .nil => .nil
  | _, _, .cons h a => .cons (Dp.ext s h) (DpAll.ext s a)
end
theorem DpE.ext {K : PySem.W.Frag} {H H' : Hp} {x : V} {d : PyData} (h : DpE K H x d) (s : ExtN H H') : DpE K H' x d := by
  rcases h with h | ⟨e, a, ex, h⟩
  · exact .inl (Dp.ext s h)
  · exact .inr ⟨e, a, ex, s _ _ h fun _ z => by cases z⟩
theorem EAll.ext {K : PySem.W.Frag} {H H' : Hp} (s : ExtN H H') : ∀ {vs : List V} {ds : List PyData}, EAll K H vs ds → EAll K H' vs ds
  | _, _, .nil => .nil
  | _, _, .cons h a => .cons (h.ext s) (EAll.ext s a)
theorem Same.ext {H H' : Hp} (s : Same H H') : ExtN H H' := fun b o e _ => s b o e
theorem Tabs.same {T : List (Addr × Str)} {H H' : Hp} (t : Tabs T H) (s : Same H H') : Tabs T H' := t.ext s
/-- two rules for one operator -/
theorem op_two {X : Cx} {f : Value → Value → Sem Value} {r1 r2 : R2} (h1 : OpR X f r1) (h2 : OpR X f r2) : OpR X f (fun x y H Q => r1 x y H Q ∨ r2 x y H Q) := by
  intro pins s σ H x y v u Q I rx ry h
  rcases h with h | h
  · exact h1 pins s σ H x y v u Q I rx ry h
  · exact h2 pins s σ H x y v u Q I rx ry h
end L2.Lr

set_option maxHeartbeats 4000000
namespace L2.L87
open PySem PySem.Spec PyProof.Rows NumText LR L2.Lr L2.Tx TL
local macro_rules | `(tactic| walk_at "nx") => `(tactic| dsimp only [gName, tNext, tSeq, tAsg, List.set_cons_zero, List.set_cons_succ])
theorem scgo : FnScope ["parts", "part"] ["parts"] (defScope sGoes) := ⟨rfl, rfl, rfl, by decide +kernel, rfl, by decide +kernel, by decide +kernel⟩
theorem scap : FnScope ["thing"] ["thing"] (defScope sApr) := ⟨rfl, rfl, rfl, by decide +kernel, rfl, by decide +kernel, by decide +kernel⟩
theorem scin : FnScope ["self", "parts", "kept"] ["self", "parts"] (defScope sIni) := ⟨rfl, rfl, rfl, by decide +kernel, rfl, by decide +kernel, by decide +kernel⟩
def flds (y : V) (m : Int) : List (Str × V) := putF "size" (.int m) (putF "parts" y [])
theorem kps : ¬ (("parts" : Str) = "size") := by decide +kernel
theorem flds_p (y : V) (m : Int) : (flds y m).lookup ("parts" : Str) = some y := by
  unfold flds
  rw [lookup_putF, if_neg kps, lookup_putF, if_pos rfl]
theorem flds_s (y : V) (m : Int) : (flds y m).lookup ("size" : Str) = some (.int m) := by
  unfold flds
  rw [lookup_putF, if_pos rfl]
def RowAt (K : PySem.W.Frag) (H : Hp) (p : Addr) (y : V) (m : Int) : Prop := ∃ dx, H p = some (.ins (CR K) dx (flds y m))
def cutD (ds : List PyData) (lo hi : Option Int) : List PyData := (ds.drop (HT.sIx ds.length 0 lo)).take (HT.sIx ds.length ds.length hi - HT.sIx ds.length 0 lo)
theorem DpAll.take {K : PySem.W.Frag} {H : Hp} : ∀ {vs : List V} {ds : List PyData} (n : Nat), DpAll K H vs ds → DpAll K H (vs.take n) (ds.take n)
  | _, _, 0, _ => by simpa using DpAll.nil
  | _, _, n + 1, .nil => by simpa using DpAll.nil
  | _, _, n + 1, .cons h a => by simpa using DpAll.cons h (DpAll.take n a)
theorem DpAll.drop {K : PySem.W.Frag} {H : Hp} : ∀ {vs : List V} {ds : List PyData} (n : Nat), DpAll K H vs ds → DpAll K H (vs.drop n) (ds.drop n)
  | _, _, 0, h => by simpa using h
  | _, _, n + 1, .nil => by simpa using DpAll.nil
  | _, _, n + 1, .cons h a => by simpa using DpAll.drop n a
/-- all but instances stays -/
def Ki (H H' : Hp) : Prop := ∀ b o, H b = some o → (∀ C dx fs, o ≠ .ins C dx fs) → H' b = some o
mutual
theorem Dp.ki {K : PySem.W.Frag} {H H' : Hp} (s : Ki H H') : ∀ {v : V} {d : PyData}, Dp K H v d → Dp K H' v d
  | _, _, .non => .non
  | _, _, .bl b => .bl b
  | _, _, .int i => .int i
  | _, _, .str x => .str x
  | _, _, .lst h a => .lst (by
      rcases h with (h | ⟨o, h⟩) | h
      · exact .inl (.inl (s _ _ h fun _ _ _ z => by cases z))
      · exact .inl (.inr ⟨o, s _ _ h fun _ _ _ z => by cases z⟩)
      · exact .inr h) (DpAll.ki s a)
  | _, _, .tup h a => .tup (by
      rcases h with (h | ⟨o, h⟩) | h
      · exact .inl (.inl (s _ _ h fun _ _ _ z => by cases z))
      · exact .inl (.inr ⟨o, s _ _ h fun _ _ _ z => by cases z⟩)
      · exact .inr h) (DpAll.ki s a)
theorem DpAll.ki {K : PySem.W.Frag} {H H' : Hp} (s : Ki H H') : ∀ {vs : List V} {ds : List PyData}, DpAll K H vs ds → DpAll K H' vs ds
  | _, _, .nil => .nil
  | _, _, .cons h a => .cons (Dp.ki s h) (DpAll.ki s a)
end
theorem slP {K : PySem.W.Frag} {H : Hp} {x : V} {ds : List PyData} {lo hi : Option Int} {Q : VK} (hx : Dp K H x (.tuple ds)) (q : ∀ v H', Same H H' → Dp K H' v (.tuple (cutD ds lo hi)) → Q v H') : rSlA K x lo hi H Q := by
  cases hx with
  | @tup a xs _ hS ha =>
    have hl := DpAll.length ha
    refine ⟨a, xs, rfl, hS, fun e => ?_, fun _ t nt => ?_⟩
    · refine q _ _ (Same.refl H) ?_
      rw [hl] at e
      have : cutD ds lo hi = ds := by
        unfold cutD
        rw [e.1, e.2]
        simp
      rw [this]
      exact .tup hS ha
    · have st := same_upd (o := .tup (cutV xs lo hi)) nt
      refine q _ _ st (.tup (SqT.of upd_same) ?_)
      have e1 : cutV xs lo hi = (xs.drop (HT.sIx ds.length 0 lo)).take (HT.sIx ds.length ds.length hi - HT.sIx ds.length 0 lo) := by
        unfold cutV
        rw [hl]
      generalize upd H t (.tup (cutV xs lo hi)) = G at st ⊢
      rw [e1]
      unfold cutD
      exact DpAll.same st (DpAll.take _ (DpAll.drop _ ha))
def foreverD : PyData → Bool
  | .tuple (.str w :: _) => decide (w = "forever")
  | _ => false
def goesD (ds : List PyData) : Bool := ds.dropLast.all fun d => !foreverD d
theorem cut_init {ds : List PyData} (h : ds ≠ []) : cutD ds none (some (-1)) = ds.dropLast := by
  have hl : 0 < ds.length := List.length_pos_iff.mpr h
  unfold cutD
  have e : HT.sIx ds.length ds.length (some (-1)) = ds.length - 1 := by
    show (if (-1 : Int) < 0 then ((-1 : Int) + (ds.length : Int)).toNat else min (-1 : Int).toNat ds.length) = ds.length - 1
    rw [if_pos (by decide)]
    omega
  rw [e, HT.sIx_none, List.dropLast_eq_take]
  simp
def spGoes (K : PySem.W.Frag) : Sp := fun vs H Q _ => ∃ x ds, vs = [x] ∧ Dp K H x (.tuple ds) ∧ ds.length ≤ 390000 ∧ (∀ d, d ∈ ds → ∃ w es, d = .tuple (.str w :: es)) ∧ ∀ H', Same H H' → Q (.bl (goesD ds)) H'
section
variable {P : Program} {w : World} {K : PySem.W.Frag} {mg : Str → Option Value} {base : Heap}
theorem ok_goes {f : Addr} {fd : FuncData} (F : FnP K "_goes_on_last" sGoes f fd) (T : Txt K mg) : FnOk P w K mg base CX0 1 f fd ["parts"] (spGoes K) := by
  refine F.ok scgo (fun vs H Q E h => ?_) (fun cdv A outer s H vs Q E hr h => ?_)
  · obtain ⟨x, ds, rfl, _⟩ := h
    rfl
  · obtain ⟨x, ds, rfl, hd, hl, hs, q⟩ := h
    refine ⟨_, PSs.nox (pss_one (ps_ret (pe_callB (cr_all rfl) (by rfl) T.all boot_all (pa_cons (pe_lc (own := [("part", 1)]) (g := gName 1) (tt := tYes) rfl scgo.nd (pi_tup (pe_slice sl_tupA (pv 0) po_none (po_some (pe_un un_neg pe_int)))) (blkOk_by (N := ["parts", "part"]) (sc := defScope sGoes) (by decide +kernel)) (fun _ _ _ _ _ => pg_name (i := 1) scgo.nd rfl (Or.inl rfl)) (fun _ _ _ _ _ => pts_nil) (fun _ _ _ _ _ => pe_cmpR op_ne (pe_ix (r := rIxT K) (by exact ix_tup) (pv 1) pe_int (fun _ _ => rfl)) pe_str (nomark _))) pa_nil)))), ?_⟩
    have e0 : start ["parts", "part"] [x] = [some x, none] := rfl
    rw [e0]
    have sz : sizeLine = 16777216 := sizeLine_eq
    refine ⟨_, rfl, 1, rfl, _, rfl, ?_⟩
    refine slP hd fun v H1 s1 h1 => ?_
    have ec : cutD ds none (some (-1)) = ds.dropLast := by
      by_cases hn : ds = []
      · subst hn; rfl
      · exact cut_init hn
    rw [ec] at h1
    cases h1 with
    | @tup t xs _ hS ha =>
      have hlx := DpAll.length ha
      have hle : ds.dropLast.length ≤ 390000 := by rw [List.length_dropLast]; omega
      refine ⟨t, rfl, ⟨_, hS⟩, fun D hD => ?_⟩
      have hSD := seqT (same_upd (o := .lst []) hD) hS
      refine lc_tup (K := K) (a := t) (xs := xs) (fun i H' => Same H1 H' ∧ H' D = some (.lst (((ds.dropLast.take i).map fun d => !foreverD d).map V.bl))) ⟨same_upd hD, upd_same⟩ (fun i H' _ q => seqT q.1 hS) ?_ ?_
      · rintro i x' H2 hx' ⟨s2, hD2⟩
        obtain ⟨dv, hdv, hDv⟩ := DpAll.at ha hx'
        have hm : dv ∈ ds := List.dropLast_subset _ (List.mem_of_getElem? hdv)
        obtain ⟨w0, es, rfl⟩ := hs dv hm
        obtain ⟨t0, v0, vs0, rfl, hS0, h0, _⟩ := tupD (Dp.same s2 hDv)
        cases strD h0
        refine ⟨rfl, _, rfl, t0, _, 0, _, rfl, rfl, hS0, at0, rfl, _, hD2, ?_, fun b o e => ?_, ?_⟩
        · rw [List.length_map, List.length_map, List.length_take]
          omega
        · by_cases hb : b = D
          · rw [hb, hD] at e; cases e
          · exact (upd_ne hb).trans (s2 _ _ e)
        · rw [upd_same, List.take_add_one, hdv, List.map_append, List.map_append]
          have ed : (!decide (V.str w0 = V.str "forever")) = !foreverD (.tuple (.str w0 :: es)) := by
            show _ = !decide (w0 = "forever")
            by_cases h : w0 = "forever"
            · rw [decide_eq_true h, h, decide_eq_true rfl]
            · rw [decide_eq_false h, decide_eq_false fun z => h (V.str.inj z)]
          rw [ed]
          rfl
      · rintro H2 ⟨s2, hD2⟩
        rw [hlx, List.take_length] at hD2
        refine ⟨D, _, rfl, SqL.of hD2, ?_⟩
        have ea : (List.map (fun d => !foreverD d) ds.dropLast).all id = goesD ds := by
          unfold goesD
          rw [List.all_map]
          rfl
        rw [ea]
        exact q H2 (s1.trans s2)
structure RowOk (ds : List PyData) : Prop where
  s : sOk (.tuple ds)
  l : ds.length ≤ 390000
  t : ∀ d, d ∈ ds → ∃ w es, d = .tuple (.str w :: es)
  h : howF (sizeD 4) (.tuple ds) ≤ 60
  g : goesD ds = true
def spRow (K : PySem.W.Frag) : Sp := fun vs H Q E => ∃ (p dx : Addr) (x : V) (ds : List PyData), vs = [.ref p, x] ∧ H p = some (.ins (CR K) dx []) ∧ Dp K H x (.tuple ds) ∧ RowOk ds ∧
  ∀ (H' : Hp) (y : V), (∀ b o, H b = some o → b ≠ p → H' b = some o) → RowAt K H' p y (howF (sizeD 4) (.tuple ds)) → Dp K H' y (.tuple ds) → Q .non H'
def aprD : PyData → Bool
  | .tuple ds => decide (howF (sizeD 4) (.tuple ds) ≤ 60) && goesD ds
  | _ => false
theorem goL_nn {sz : PyData → Int} (h : ∀ d, 0 ≤ sz d) : ∀ (ds : List PyData) (m : Int), 0 ≤ m → 0 ≤ goL sz m ds
  | [], m, hm => hm
  | d :: ds, m, hm => by
    unfold goL
    split
    · decide
    · exact goL_nn h ds _ (by have := h d; omega)
theorem howF_nn {sz : PyData → Int} (h : ∀ d, 0 ≤ sz d) (d : PyData) : 0 ≤ howF sz d := by
  cases d <;> first | exact goL_nn h _ 0 (by decide) | (show (0 : Int) ≤ 61; decide)
theorem sizeD_nn : ∀ (n : Nat) (d : PyData), 0 ≤ sizeD n d
  | 0, d => by
    unfold sizeD
    split
    · split
      · decide
      · split <;> decide
    · cases ‹0 = _ + 1›
    · decide
  | n + 1, d => by
    unfold sizeD
    split
    · cases ‹n + 1 = 0›
    · split
      · split
        · have := howF_nn (sizeD_nn n) (lastD ‹List PyData›)
          rename_i z _ _
          cases z
          omega
        · decide
      · split <;> decide
    · decide
theorem size_shape {n : Nat} {d : PyData} (h : sizeD n d ≤ 60) : ∃ w es, d = .tuple (.str w :: es) := by
  cases n <;> (unfold sizeD at h; split at h <;> first | exact ⟨_, _, rfl⟩ | omega)
theorem goL_shape {n : Nat} : ∀ (ds : List PyData) (m : Int), 0 ≤ m → goL (sizeD n) m ds ≤ 60 → ∀ d ∈ ds, ∃ w es, d = .tuple (.str w :: es)
  | [], m, hm, h => fun d hd => by cases hd
  | d :: ds, m, hm, h => fun e he => by
    unfold goL at h
    have nn := sizeD_nn n d
    split at h
    · omega
    · rcases List.mem_cons.mp he with rfl | he
      · exact size_shape (n := n) (by omega)
      · exact goL_shape ds _ (by omega) h e he
def spApr (K : PySem.W.Frag) : Sp := fun vs H Q _ => ∃ x d, vs = [x] ∧ Dp K H x d ∧ sOk d ∧ (∀ ds, d = .tuple ds → ds.length ≤ 390000) ∧ ∀ H', Same H H' → Q (.bl (aprD d)) H'
theorem ok_apr {f fH fG : Addr} {fd dH dG : FuncData} (F : FnP K "are_parts_of_row" sApr f fd) (T : Txt K mg) {k : Nat} (h2 : 2 ≤ k) (Hw : Def P w K mg base CX0 k "_how_many" fH dH ["parts", "depth"] (spHow K 4)) (G : Def P w K mg base CX0 1 "_goes_on_last" fG dG ["parts"] (spGoes K)) :
    FnOk P w K mg base CX0 (k + 1) f fd ["thing"] (spApr K) := by
  refine F.ok scap (fun vs H Q E h => ?_) (fun cdv A outer s H vs Q E hr h => ?_)
  · obtain ⟨x, ds, rfl, _⟩ := h
    rfl
  · obtain ⟨x, d, rfl, hd, so, hl, q⟩ := h
    obtain ⟨tm, hm⟩ := T.p.most
    have hr1 : Room 1 _ := (hr.mono h2).mono (by decide)
    refine ⟨_, pss_one (ps_ret (pe_and (pe_isD T.p.isn (pv 0) (pe_bltn (by rfl) T.p.tuple bbT (by rfl)) (by rfl)) (pe_and (pe_cmpR op_le (pe_call Hw.ok hr (by rfl) Hw.g Hw.k Hw.b .nil pass0 (pa_cons (pv 0) (pa_cons pe_int pa_nil))) (pe_gI hm (by rfl)) (nomark _)) (pe_one (pe_call G.ok hr1 (by rfl) G.g G.k G.b .nil pass0 (pa_cons (pv 0) pa_nil)))))), ?_⟩
    have e0 : start ["thing"] [x] = [some x] := rfl
    rw [e0]
    have q0 := q H (Same.refl H)
    cases d with
    | none => exact ⟨_, rfl, _, _, hd, (by decide +kernel : kitB "NoneType" "tuple" = some false), _, rfl, iteF q0⟩
    | bool _ => exact ⟨_, rfl, _, _, hd, (by decide +kernel : kitB "bool" "tuple" = some false), _, rfl, iteF q0⟩
    | int _ => exact ⟨_, rfl, _, _, hd, (by decide +kernel : kitB "int" "tuple" = some false), _, rfl, iteF q0⟩
    | str _ => exact ⟨_, rfl, _, _, hd, (by decide +kernel : kitB "str" "tuple" = some false), _, rfl, iteF q0⟩
    | list _ => exact ⟨_, rfl, _, _, hd, (by decide +kernel : kitB "list" "tuple" = some false), _, rfl, iteF q0⟩
    | dict _ => cases hd
    | tuple ds =>
    refine ⟨_, rfl, _, _, hd, (by decide +kernel : kitB "tuple" "tuple" = some true), _, rfl, iteT ?_⟩
    refine ⟨_, rfl, x, .tuple ds, rfl, hd, so, fun H3 s3 => ?_⟩
    refine ⟨_, _, rfl, rfl, _, rfl, ?_⟩
    have e : aprD (.tuple ds) = (decide (howF (sizeD 4) (.tuple ds) ≤ 60) && goesD ds) := rfl
    by_cases h60 : howF (sizeD 4) (.tuple ds) ≤ 60
    · rw [decide_eq_true h60] at e ⊢
      refine iteT ⟨_, rfl, x, ds, rfl, Dp.same s3 hd, hl ds rfl, goL_shape ds 0 (by decide) h60, fun H4 s4 => ?_⟩
      have z := q H4 (s3.trans s4)
      rw [e, Bool.true_and] at z
      exact z
    · rw [decide_eq_false h60] at e ⊢
      have z := q H3 s3
      rw [e, Bool.false_and] at z
      exact iteF z
theorem ok_row {f fH fA DFL : Addr} {fd dH dA dV : FuncData} (F : FunD K "__init__" "Row.__init__" (defArgs sIni) (defBody sIni) (defScope sIni) [.ref DFL] [] f fd) (T : Txt K mg) {k : Nat} (h2 : 2 ≤ k) (Hw : Def P w K mg base CX0 k "_how_many" fH dH ["parts", "depth"] (spHow K 4)) (Ap : Def P w K mg base CX0 (k + 1) "are_parts_of_row" fA dA ["thing"] (spApr K)) :
    FnOk P w K mg base CX0 (k + 2) f fd ["self", "parts"] (spRow K) := by
  refine F.ok scin (fun vs H Q E h => ?_) (fun cdv A outer s H vs Q E hr h => ?_)
  · obtain ⟨p, dx, x, ds, rfl, _⟩ := h
    rfl
  · obtain ⟨p, dx, x, ds, rfl, hp, hx, ok, q⟩ := h
    have hr1 : Room (k + 1) _ := hr
    have hrk : Room k _ := hr1.mono (by omega)
    refine ⟨_, pss_cons (ps_if (pt_not (pt_val (pe_callB call_isiT (by rfl) T.p.isn boot_isinstance (pa_cons (pv 1) (pa_cons (pe_tup (pa_cons (pe_bltn (v := .ty "list") (by rfl) T.list bbL (by rfl)) (pa_cons (pe_bltn (v := .ty "tuple") (by rfl) T.p.tuple bbT (by rfl)) pa_nil))) pa_nil))))) pss_never pss_nil)
      (C8.pss_cut (ps_set (i := 2) scin.nd rfl (Or.inl rfl) (pe_callTy call_tuple_of (by rfl) T.p.tuple bbT (pa_cons (pv 1) pa_nil)))
      (pss_cons (ps_if (pt_not (pt_val (pe_call Ap.ok hr1 (by rfl) Ap.g Ap.k Ap.b .nil pass0 (pa_cons (pv 2) pa_nil)))) pss_never pss_nil)
      (pss_cons (ps_fld (pv 0) (pv 2) rfl) (pss_one (ps_fld (pv 0) (pe_call Hw.ok hrk (by rfl) Hw.g Hw.k Hw.b .nil pass0 (pa_cons (pv 2) (pa_cons pe_int pa_nil))) rfl))))), ?_⟩
    have e0 : start ["self", "parts", "kept"] [V.ref p, x] = [some (.ref p), some x, none] := rfl
    rw [e0]
    refine go_seq ?_
    refine ⟨_, rfl, by show 2 ≤ sizeLine; decide, fun tp ntp => ⟨x, tp, [.ty "list", .ty "tuple"], .type "tuple", [.type "list", .type "tuple"], true, rfl, upd_same, .cons (.ty _) (.cons (.ty _) .nil), tyE (d := .tuple ds) (.inl (Dp.same (same_upd ntp) hx)), seq_any (.tuple ds), _, rfl, ?_⟩⟩
    have s1 := same_upd (o := .tup [.ty "list", .ty "tuple"]) ntp
    generalize upd H tp (.tup [.ty "list", .ty "tuple"]) = H1 at s1 ⊢
    refine iteF (go_next ?_)
    refine ⟨fun σ' H' => ∃ y, σ' = [some (.ref p), some x, some y] ∧ Same H H' ∧ Dp K H' y (.tuple ds), ?_, ?_⟩
    · have hx1 := Dp.same s1 hx
      cases hx1 with
      | @tup a xs ds hS ha => exact ⟨_, rfl, a, xs, rfl, .inr ⟨hS, _, rfl, s1, .tup hS ha⟩⟩
    rintro σ2 H2 ⟨y, rfl, s2, hy⟩
    walk_at "nx"
    refine ⟨_, rfl, y, .tuple ds, rfl, hy, ok.s, fun ds' z => by cases z; exact ok.l, fun H3 s3 => ⟨_, rfl, ?_⟩⟩
    have ea : aprD (.tuple ds) = true := by
      show (decide _ && _) = true
      rw [decide_eq_true ok.h, ok.g]
      rfl
    rw [ea]
    refine iteF ?_
    have s23 := s2.trans s3
    have hy3 := Dp.same s3 hy
    have hp3 := s23 _ _ hp
    refine ⟨_, rfl, _, rfl, p, CR K, dx, [], rfl, hp3, T.cl, T.nP, by show 0 < 1000; decide, ?_⟩
    have k1 : Ki H3 (upd H3 p (.ins (CR K) dx (putF "parts" y []))) := fun b o e ne => by
      have hb : b ≠ p := fun z => by rw [z, hp3] at e; exact ne _ _ _ (Option.some.inj e).symm
      exact (upd_ne hb).trans e
    refine ⟨_, rfl, y, .tuple ds, rfl, Dp.ki k1 hy3, ok.s, fun H4 s4 => ?_⟩
    have hp4 := s4 _ _ (upd_same (H := H3) (a := p) (o := .ins (CR K) dx (putF "parts" y [])))
    refine ⟨_, rfl, p, CR K, dx, _, rfl, hp4, T.cl, T.nS, by show 1 < 1000; decide, ?_⟩
    have k2 : Ki H4 (upd H4 p (.ins (CR K) dx (putF "size" (.int (howF (sizeD 4) (.tuple ds))) (putF "parts" y [])))) := fun b o e ne => by
      have hb : b ≠ p := fun z => by rw [z, hp4] at e; exact ne _ _ _ (Option.some.inj e).symm
      exact (upd_ne hb).trans e
    refine q _ y (fun b o e hb => ?_) ⟨dx, upd_same⟩ (Dp.ki k2 (Dp.same s4 (Dp.ki k1 hy3)))
    exact (upd_ne hb).trans (s4 _ _ ((upd_ne hb).trans (s23 _ _ e)))
end
end L2.L87

set_option maxHeartbeats 1000000
namespace L2.Lr
open PySem PySem.Spec PyProof.Rows NumText LR L2.Tx TL
/-! ### {} == {}, the same one -/
theorem op_eqE0 {X : Cx} (hu : X.A.units < cLine) : OpR X (compareOp .Eq) (fun x y H Q => ∃ a, x = .ref a ∧ y = .ref a ∧ H a = some (.dK []) ∧ Q (.bl true) H) := by
  intro pins s σ H x y v u Q I rx ry h
  obtain ⟨a, rfl, rfl, ha, q⟩ := h
  cases rx
  cases ry
  obtain ⟨_, hne, vs, kv, o, es, ep, ho, hx, hdt, hk, hes, hn⟩ := I.hok a _ ha
  have hv : vs = [] := by
    cases kv
    rfl
  subst hv
  have D : Heap.DictOf (mixKind X.prog X.w) s.heap a [] := ⟨o, es, ep, ho, hx, hdt, hk, hes, hn⟩
  refine PySem.W.rcP_dicts (r := true) hne hne D D hu (fun _ => .nil) X.xe (EP X pins σ Q) ?_
  exact ⟨.bl true, H, I, rfl, q⟩
/-! ### s.rpartition(sep) -/
def rpart (x y : Str) : Str × Str × Str := match Builtin.Str.lastOccurrence x y 0 x.length with
  | some i => (Builtin.Str.strSub x 0 i, y, Builtin.Str.strSub x (i + y.length) x.length)
  | none => (Str.empty, Str.empty, x)
theorem mt_rpartition {X : Cx} : MtR X "str.rpartition" (fun x xs H Q => ∃ a b, x = .str a ∧ xs = [.str b] ∧ (b.length == 0) = false ∧ a.length ≤ sizeLine ∧ ∀ p, H p = none → Q (.ref p) (upd H p (.tup [.str (rpart a b).1, .str (rpart a b).2.1, .str (rpart a b).2.2]))) := by
  intro pins s σ H x xs v us Q I hx hxs h
  obtain ⟨a, b, rfl, rfl, hb, hl, q⟩ := h
  obtain ⟨t, rfl⟩ := hx
  obtain ⟨u, rfl, ru⟩ := vals1 hxs
  obtain ⟨u', rfl⟩ := ru
  refine call_meets F.slot_str_rpartition (typeIs_str _ _ _) F.entry_str_rpartition (F.args_str_rpartition_2 _ _) (meets_str_rpartition a b t u' hb hl) ?_
  unfold rpart at q
  cases e : Builtin.Str.lastOccurrence a b 0 a.length with
  | none =>
    rw [e] at q
    exact laid_parts I q
  | some i =>
    rw [e] at q
    exact laid_parts I q
theorem rpart_app {y A B : Str} {c : Nat} (hy : tl y = [c]) (h : c ∉ tl B) : rpart (A ++ y ++ B) y = (A, y, B) := by
  have hne : tl y ≠ [] := by rw [hy]; exact List.cons_ne_nil _ _
  have hx : tl (A ++ y ++ B) = tl A ++ (c :: tl B) := by rw [tl_append, tl_append, hy, List.append_assoc]; rfl
  have hit : StrLaws.At (A ++ y ++ B) y (A ++ y ++ B).length (tl A).length := by
    rw [at_iff hne, hy, hx, List.drop_left]
    exact pre_self [c] (tl B)
  have miss : ∀ k, (tl A).length < k → ¬ StrLaws.At (A ++ y ++ B) y (A ++ y ++ B).length k := fun k hk => by
    rw [at_iff hne, hy, hx]
    obtain ⟨j, rfl⟩ : ∃ j, k = (tl A).length + (j + 1) := ⟨k - (tl A).length - 1, by omega⟩
    rw [← List.drop_drop, List.drop_left, List.drop_succ_cons]
    cases e : List.drop j (tl B) with
    | nil => rw [pre_nil (List.cons_ne_nil _ _)]; decide
    | cons d r =>
      have hd : d ∈ tl B := List.mem_of_mem_drop (by rw [e]; exact List.mem_cons_self ..)
      rw [pre_of_head [] r (show d ≠ c from fun z => h (z ▸ hd))]
      decide
  have hl : y.length = 1 := by rw [len_tl, hy]; rfl
  unfold rpart
  rcases StrLaws.last_spec (A ++ y ++ B) y with ⟨_, no⟩ | ⟨i, e, ha, no⟩
  · exact absurd hit (no _)
  · rw [e]
    have hi : i = (tl A).length := by
      rcases Nat.lt_trichotomy i (tl A).length with z | z | z
      · exact absurd hit (no _ z)
      · exact z
      · exact absurd ha (miss _ z)
    subst hi
    refine Prod.ext ?_ (Prod.ext rfl ?_)
    · refine tl_inj ?_
      show tl (Builtin.Str.strSub (A ++ y ++ B) 0 (tl A).length) = tl A
      rw [tl_strSub, hx, List.drop_zero, Nat.sub_zero, List.take_left]
    · refine tl_inj ?_
      show tl (Builtin.Str.strSub (A ++ y ++ B) ((tl A).length + y.length) (A ++ y ++ B).length) = tl B
      rw [tl_strSub_end, hx, hl, ← List.drop_drop, List.drop_left]
      rfl
theorem rpart_none {y B : Str} {c : Nat} (hy : tl y = [c]) (h : c ∉ tl B) : rpart B y = (Str.empty, Str.empty, B) := by
  have hne : tl y ≠ [] := by rw [hy]; exact List.cons_ne_nil _ _
  have miss : ∀ k, ¬ StrLaws.At B y B.length k := fun k => by
    rw [at_iff hne, hy]
    cases e : List.drop k (tl B) with
    | nil => rw [pre_nil (List.cons_ne_nil _ _)]; decide
    | cons d r =>
      have hd : d ∈ tl B := List.mem_of_mem_drop (by rw [e]; exact List.mem_cons_self ..)
      rw [pre_of_head [] r (show d ≠ c from fun z => h (z ▸ hd))]
      decide
  unfold rpart
  rcases StrLaws.last_spec B y with ⟨e, _⟩ | ⟨i, _, ha, _⟩
  · rw [e]
  · exact absurd ha (miss _)
theorem tl_strSub_le (x : Str) (i j : Nat) : (Builtin.Str.strSub x i j).length ≤ x.length := by
  rw [len_tl, tl_strSub, len_tl x, List.length_take, List.length_drop]
  omega
theorem rpart_len (x y : Str) : (rpart x y).1.length ≤ x.length ∧ (rpart x y).2.2.length ≤ x.length := by
  unfold rpart
  split
  · exact ⟨tl_strSub_le _ _ _, tl_strSub_le _ _ _⟩
  · exact ⟨Nat.zero_le _, Nat.le_refl _⟩
/-! ### a comprehension that writes ys, item by item, at a new place D -/
def MapI (H : Hp) (D : Addr) (ys : List V) (i : Nat) (H' : Hp) : Prop := Same H H' ∧ H' D = some (.lst (ys.take i))
theorem MapI.zero {H : Hp} {D : Addr} {ys : List V} (hD : H D = none) : MapI H D ys 0 (upd H D (.lst [])) := ⟨same_upd hD, by rw [List.take_zero]; exact upd_same⟩
theorem MapI.step {H H2 H5 : Hp} {D : Addr} {ys : List V} {i : Nat} {y : V} (hD : H D = none) (p : MapI H D ys i H2) (hy : ys[i]? = some y) (hl : ys.length ≤ 1000000) (s : Same H2 H5) :
    ∃ acc, H5 D = some (.lst acc) ∧ acc.length < sizeLine ∧ MapI H D ys (i + 1) (upd H5 D (.lst (acc ++ [y]))) := by
  obtain ⟨s2, hD2⟩ := p
  refine ⟨_, s _ _ hD2, ?_, fun b o e => ?_, ?_⟩
  · have h2 : (List.take i ys).length ≤ ys.length := by rw [List.length_take]; omega
    rw [sizeLine_eq]
    omega
  · have nb : b ≠ D := by
      intro z
      rw [z, hD] at e
      cases e
    exact (upd_ne nb).trans (s _ _ (s2 _ _ e))
  · rw [upd_same, List.take_add_one, hy]
    rfl
theorem MapI.all {H H' : Hp} {D : Addr} {ys : List V} {n : Nat} (p : MapI H D ys n H') (h : ys.length ≤ n) : Same H H' ∧ H' D = some (.lst ys) := ⟨p.1, by rw [p.2, List.take_of_length_le h]⟩
theorem DpAll.len {K : PySem.W.Frag} {H : Hp} {vs : List V} {ds : List PyData} (h : DpAll K H vs ds) : vs.length = ds.length := DpAll.length h
theorem inV_str {ws : List Str} {t : Str} : inV (.str t) (ws.map V.str) = ws.any fun y => decide (y = t) := by
  unfold inV
  rw [List.any_map]
  rfl
theorem flat_strs (ws : List Str) : (ws.map V.str).all flatV = true := List.all_eq_true.mpr fun x h => by
  obtain ⟨y, _, rfl⟩ := List.mem_map.mp h
  rfl
/-- a loop over any walked thing, its body's ends a letter -/
theorem for_itD {J : It} {n : Nat} {G : Hp → Prop} {Y : Nat → Hp → V → Hp → Prop} (w : Walk J n G Y) {g : TG} {tb : TS} {D : Ends} {σ : St} {H : Hp} (Pv : Nat → St → Hp → Prop) (h0 : Pv 0 σ H) (hG : ∀ i σ H, i ≤ n → Pv i σ H → G H)
    (hs : ∀ (D' : Ends) (i : Nat) (x : V) (σ : St) (H H' : Hp), D'.rt = D.rt → (∀ σ H, Pv (i + 1) σ H → D'.nx σ H) → (∀ σ H, Pv (i + 1) σ H → D'.ct σ H) → (∀ σ H, D.nx σ H → D'.bk σ H) → i < n → Pv i σ H → Y i H x H' → g x σ H' fun σ2 H2 => tb D' σ2 H2) (hd : ∀ σ H, Pv n σ H → D.nx σ H) :
    ∃ W : Nat → Nat → St → Hp → Prop, (∃ m, W 0 m σ H) ∧ ∀ i m σ H, W i m σ H →
      (J.stop i H ∧ D.nx σ H) ∨ (J.go i H ∧ ∃ N : St → Hp → Prop, (∀ σ' H', N σ' H' → ∃ m', m' < m ∧ W (i + 1) m' σ' H') ∧ ∀ x H', J.yld i H x H' → g x σ H' fun σ2 H2 => tb { D with nx := N, ct := N, bk := D.nx } σ2 H2) :=
  for_it w Pv h0 hG (fun i x σ H H' hi hp hy => hs { D with nx := Pv (i + 1), ct := Pv (i + 1), bk := D.nx } i x σ H H' rfl (fun _ _ h => h) (fun _ _ h => h) (fun _ _ h => h) hi hp hy) hd
end L2.Lr

set_option maxHeartbeats 1000000
/-! texts: str(x) of a text or an int, split, join, x == x -/
namespace L2.Lr
open PySem PySem.Spec PyProof.Rows NumText LR L2.Tx TL SkE
def strOf : PyData → Str
  | .str t => t
  | .int i => intT i
  | _ => Str.empty
theorem str_or {K : PySem.W.Frag} {H : Hp} {v : V} {d : PyData} {Q : VK} (h : Dp K H v d) (hd : (∃ c, d = .str c) ∨ ∃ i : Int, d = .int i ∧ i.natAbs.log2 < 1920) (q : Q (.str (strOf d)) H) :
    (∃ a, [v] = [.str a] ∧ Q (.str a) H) ∨ (∃ i : Int, [v] = [.int i] ∧ i.natAbs.log2 < 1920 ∧ Q (.str (toString i)) H) := by
  rcases hd with ⟨c, rfl⟩ | ⟨i, rfl, hi⟩
  · cases strD h
    exact .inl ⟨c, rfl, q⟩
  · cases intDv h
    exact .inr ⟨i, rfl, hi, q⟩
def rStrD (K : PySem.W.Frag) : List V → Hp → VK → Prop := fun xs H Q => ∃ x d, xs = [x] ∧ Dp K H x d ∧ ((∃ c, d = .str c) ∨ ∃ i : Int, d = .int i ∧ i.natAbs.log2 < 1920) ∧ Q (.str (strOf d)) H
theorem call_strD {X : Cx} (K : PySem.W.Frag) (hK : X.K = K) : CallR X (.type "str") (rStrD K) := by
  intro pins s σ H xs us Q I r h
  obtain ⟨x, d, rfl, hd, hc, q⟩ := h
  exact CallR.or call_str_str call_str_int pins s σ H _ us Q I r (str_or hd hc q)
theorem sum_le {m : Nat} : ∀ {l : List Nat}, (∀ x ∈ l, x ≤ m) → l.sum ≤ l.length * m
  | [], _ => Nat.zero_le _
  | x :: l, h => by
    have h1 := h x (List.mem_cons_self ..)
    have h2 := sum_le (l := l) fun y hy => h y (List.mem_cons_of_mem _ hy)
    rw [List.sum_cons, List.length_cons, Nat.add_mul]
    omega
theorem spl_parts {S : List Nat} : ∀ (l : List Nat) (k : Nat) (acc : List Nat), (∀ p ∈ spl S k acc l, p.length ≤ acc.length + l.length) ∧ (spl S k acc l).length ≤ l.length + 1
  | [], k, acc => by
    rw [spl_nil]
    refine ⟨fun p hp => ?_, Nat.le_refl _⟩
    rw [List.mem_singleton.mp hp]
    exact Nat.le_refl _
  | c :: r, k + 1, acc => by
    have e : spl S (k + 1) acc (c :: r) = spl S k acc r := by rw [spl_pass S (k + 1), List.drop_succ_cons, ← spl_pass S k]
    rw [e]
    obtain ⟨h1, h2⟩ := spl_parts (S := S) r k acc
    exact ⟨fun p hp => Nat.le_trans (h1 p hp) (by rw [List.length_cons]; omega), by rw [List.length_cons]; omega⟩
  | c :: r, 0, acc => by
    cases hp : pre S (c :: r) with
    | true =>
      rw [spl_hit hp]
      obtain ⟨h1, h2⟩ := spl_parts (S := S) r (S.length - 1) []
      refine ⟨fun p hp => ?_, by rw [List.length_cons, List.length_cons]; omega⟩
      cases hp with
      | head => omega
      | tail _ h =>
        have := h1 p h
        rw [List.length_nil] at this
        rw [List.length_cons]
        omega
    | false =>
      rw [spl_miss hp]
      obtain ⟨h1, h2⟩ := spl_parts (S := S) r 0 (acc ++ [c])
      refine ⟨fun p hp => ?_, by rw [List.length_cons]; omega⟩
      have := h1 p hp
      rw [List.length_append] at this
      rw [List.length_cons]
      simp only [List.length_cons, List.length_nil] at this
      omega
theorem split_parts {x y : Str} {s : Nat} {S : List Nat} (hy : tl y = s :: S) (hk : (y.cps.all fun x => decide (x < 256)) = true) : (∀ p ∈ PySem.Txt.split x y, p.length ≤ x.length) ∧ (PySem.Txt.split x y).length ≤ x.length + 1 := by
  have e := split_spl x y (by rw [hy]; exact List.cons_ne_nil _ _) (kind_ok hk)
  obtain ⟨h1, h2⟩ := spl_parts (S := tl y) (tl x) 0 []
  rw [← e] at h1 h2
  refine ⟨fun p hp => ?_, ?_⟩
  · have := h1 (tl p) (List.mem_map_of_mem hp)
    rw [List.length_nil, Nat.zero_add] at this
    rw [len_tl, len_tl x]
    exact this
  · rw [List.length_map] at h2
    rw [len_tl x]
    exact h2
theorem cut_last {xs : List V} : cutV xs none (some (-1)) = xs.dropLast := by
  show List.take ((-1 + (xs.length : Int)).toNat - 0) (List.drop 0 xs) = _
  rw [List.drop_zero, List.dropLast_eq_take, show (-1 + (xs.length : Int)).toNat - 0 = xs.length - 1 by omega]
theorem split_ne {x y : Str} (h : tl y ≠ []) (hk : (y.cps.all fun x => decide (x < 256)) = true) : PySem.Txt.split x y ≠ [] := by
  intro z
  have e := split_spl x y h (kind_ok hk)
  rw [z] at e
  have : ∀ (l : List Nat) (k : Nat) (acc : List Nat), spl (tl y) k acc l ≠ [] := by
    intro l
    induction l with
    | nil =>
      intro k acc
      rw [spl_nil]
      exact List.cons_ne_nil _ _
    | cons c r ih =>
      intro k acc
      cases k with
      | succ k =>
        rw [spl_pass (tl y) (k + 1), List.drop_succ_cons, ← spl_pass (tl y) k]
        exact ih k acc
      | zero =>
        cases hp : pre (tl y) (c :: r) with
        | true => rw [spl_hit hp]; exact List.cons_ne_nil _ _
        | false => rw [spl_miss hp]; exact ih 0 _
  exact this _ _ _ e.symm
theorem pd_ofI {X : Cx} {e : Expr} {te : TE} {i : Int} (h : PE X e te) (f : ∀ σ H (Q : VK), Q (.int i) H → te σ H Q) : PE X e (tDat X.K (.int i)) := pe_weak h fun σ H Q q => f σ H Q (q _ _ (Same.refl H) (.int i))
def rSelf (K : PySem.W.Frag) : R2 := fun x y H Q => x = y ∧ ∃ d, DpE K H x d ∧ (Dp K H x d → SeqAt.shaped d = true) ∧ Q (.bl true) H
theorem op_eqSelf {X : Cx} (K : PySem.W.Frag) (hK : X.K = K) (hu : X.A.units + 64 < cLine) : OpR X (compareOp .Eq) (rSelf K) := by
  subst hK
  intro pins s σ H x y v u Q I rx ry h
  obtain ⟨rfl, d, hd, hs, q⟩ := h
  rcases hd with hd | ⟨rfl, a, rfl, ha⟩
  · have sh := hs hd
    refine op_eqD hu pins s σ H x x v u Q I rx ry ⟨d, d, hd, hd, sh, sh, ?_⟩
    rw [SeqAt.eqv_refl _ (SeqAt.canLay_of_shaped sh)]
    exact q
  · exact op_eqE0 (Nat.lt_of_le_of_lt (Nat.le_add_right _ 64) hu) pins s σ H _ _ v u Q I rx ry ⟨a, rfl, rfl, ha, q⟩
theorem joinL_mem {S : List Nat} {c : Nat} : ∀ {ps : List (List Nat)}, c ∈ joinL S ps → c ∈ S ∨ ∃ p ∈ ps, c ∈ p
  | [], h => by cases h
  | [p], h => .inr ⟨p, List.mem_cons_self .., h⟩
  | p :: q :: r, h => by
    have h : c ∈ p ++ (S ++ joinL S (q :: r)) := h
    rw [List.mem_append, List.mem_append] at h
    rcases h with h | h | h
    · exact .inr ⟨p, List.mem_cons_self .., h⟩
    · exact .inl h
    · rcases joinL_mem h with h | ⟨x, hx, h⟩
      · exact .inl h
      · exact .inr ⟨x, List.mem_cons_of_mem _ hx, h⟩
theorem joinL_len {S : List Nat} {m : Nat} : ∀ {ps : List (List Nat)}, (∀ p ∈ ps, p.length ≤ m) → (joinL S ps).length ≤ ps.length * (m + S.length)
  | [], _ => Nat.zero_le _
  | [p], h => by
    have := h p (List.mem_cons_self ..)
    show p.length ≤ 1 * (m + S.length)
    omega
  | p :: q :: r, h => by
    have h1 := h p (List.mem_cons_self ..)
    have h2 := joinL_len (S := S) (m := m) (ps := q :: r) fun x hx => h x (List.mem_cons_of_mem _ hx)
    show (p ++ (S ++ joinL S (q :: r))).length ≤ ((q :: r).length + 1) * (m + S.length)
    rw [List.length_append, List.length_append, Nat.add_mul]
    omega
theorem joinL_nil : ∀ ps : List (List Nat), joinL [] ps = ps.flatten
  | [] => rfl
  | [p] => by
    show p = p ++ []
    rw [List.append_nil]
  | p :: q :: r => by
    show p ++ ([] ++ joinL [] (q :: r)) = p ++ (q :: r).flatten
    rw [joinL_nil (q :: r)]
    rfl
theorem log_200 {i : Int} (h : i.natAbs ≤ 10 ^ 200) : i.natAbs.log2 < 1920 := by
  have h2 : i.natAbs < 2 ^ 1920 := Nat.lt_of_le_of_lt h (by decide +kernel)
  by_cases h0 : i.natAbs = 0
  · rw [h0]; decide
  · exact (Nat.log2_lt h0).mpr h2
theorem intT_len {i : Int} {k : Nat} (hk : 1 ≤ k) (h : i.natAbs < 10 ^ k) : (intT i).length ≤ k + 1 := by
  have hb : (numL i.natAbs).length ≤ k := numL_len hk h
  rw [len_tl, tl_int]
  unfold sgnL
  split
  · rw [List.length_cons]; omega
  · omega
end L2.Lr

set_option maxHeartbeats 1000000
namespace L2.L87
open PySem PySem.Spec PyProof.Rows NumText LR L2.Lr L2.Tx TL
local macro_rules | `(tactic| walk_at "nx") => `(tactic| dsimp only [gName, tNext, tSeq, tAsg, List.set_cons_zero, List.set_cons_succ])
theorem sctx : FnScope ["parts", "part"] ["parts"] (defScope sTxt) := ⟨rfl, rfl, rfl, by decide +kernel, rfl, by decide +kernel, by decide +kernel⟩
theorem sctp : FnScope ["part", "word"] ["part"] (defScope sTxP) := ⟨rfl, rfl, rfl, by decide +kernel, rfl, by decide +kernel, by decide +kernel⟩
theorem scst : FnScope ["self"] ["self"] (defScope sStr) := ⟨rfl, rfl, rfl, by decide +kernel, rfl, by decide +kernel, by decide +kernel⟩
abbrev spS : Str := " "
abbrev opS : Str := " ("
abbrev clS : Str := ")"
abbrev scS : Str := "; "
def cntP : PyData → Str
  | .tuple [.int a, .int b] => cntT a b
  | _ => Str.empty
/-- the text of a part, where tx is the text of the parts in it -/
def txF (tx : List PyData → Str) : PyData → Str
  | .tuple [.str w, .int k] => w ++ spS ++ intT k
  | .tuple [.str w, .str c, .int k] => if k = 1 then w ++ spS ++ c else w ++ spS ++ c ++ spS ++ intT k
  | .tuple [.str _, c, .tuple ds] => ("loop " : Str) ++ cntP c ++ opS ++ tx ds ++ clS
  | .tuple [.str _, .tuple ds] => ("forever (" : Str) ++ tx ds ++ clS
  | _ => Str.empty
/-- the text of parts, n loops deep -/
def txM : Nat → List PyData → Str
  | 0, _ => Str.empty
  | n + 1, ds => PySem.Txt.join scS (ds.map (txF (txM n)))
theorem part_kind {n : Nat} (hn : n ≤ 4) {d : PyData} (h : sizeD n d ≤ 60) : (∃ k : Int, d = .tuple [.str "work", .int k] ∧ 1 ≤ k ∧ k ≤ 99 ∧ sizeD n d = 1) ∨
    (∃ (w c : Str) (k : Int), (w = "send" ∨ w = "take") ∧ d = .tuple [.str w, .str c, .int k] ∧ wordD (.str c) = true ∧ 1 ≤ k ∧ k ≤ 9 ∧ sizeD n d = 1) ∨
    (∃ m a b ds, n = m + 1 ∧ d = .tuple [.str "loop", .tuple [.int a, .int b], .tuple ds] ∧ countD (.tuple [.int a, .int b]) = true ∧ sizeD n d = 1 + howF (sizeD m) (.tuple ds)) ∨
    ∃ m ds, n = m + 1 ∧ d = .tuple [.str "forever", .tuple ds] ∧ sizeD n d = 1 + howF (sizeD m) (.tuple ds) := by
  obtain ⟨w, es, rfl⟩ := size_shape h
  have sing : ∀ (e : sizeD n (.tuple (.str w :: es)) = if singD w es then 1 else 61), (∃ k : Int, PyData.tuple (.str w :: es) = .tuple [.str "work", .int k] ∧ 1 ≤ k ∧ k ≤ 99 ∧ sizeD n (.tuple (.str w :: es)) = 1) ∨
      (∃ (w' c : Str) (k : Int), (w' = "send" ∨ w' = "take") ∧ PyData.tuple (.str w :: es) = .tuple [.str w', .str c, .int k] ∧ wordD (.str c) = true ∧ 1 ≤ k ∧ k ≤ 9 ∧ sizeD n (.tuple (.str w :: es)) = 1) := fun e => by
    cases hs : singD w es with
    | false => rw [e, hs] at h; exact absurd h (by show ¬ (61 : Int) ≤ 60; decide)
    | true =>
      have e1 : sizeD n (.tuple (.str w :: es)) = 1 := by rw [e, hs]; rfl
      match es, hs with
      | [t], hs =>
        obtain ⟨h1, h2⟩ := Bool.and_eq_true_iff.mp (show (decide (w = "work") && betw 1 99 t) = true from hs)
        obtain ⟨k, rfl, k1, k2⟩ := betw_int h2
        have := of_decide_eq_true h1
        subst this
        exact .inl ⟨k, rfl, k1, k2, e1⟩
      | [c, k], hs =>
        obtain ⟨h1, h2⟩ := Bool.and_eq_true_iff.mp (show (!decide (w = "work") && ((decide (w = "send") || decide (w = "take")) && (wordD c && betw 1 9 k))) = true from hs)
        obtain ⟨h3, h4⟩ := Bool.and_eq_true_iff.mp h2
        obtain ⟨h5, h6⟩ := Bool.and_eq_true_iff.mp h4
        obtain ⟨k, rfl, k1, k2⟩ := betw_int h6
        cases c with
        | str c => exact .inr ⟨w, c, k, (Bool.or_eq_true_iff.mp h3).imp of_decide_eq_true of_decide_eq_true, rfl, h5, k1, k2, e1⟩
        | _ => cases h5
  cases n with
  | zero =>
    have e : sizeD 0 (.tuple (.str w :: es)) = if roundW w then 61 else if singD w es then 1 else 61 := rfl
    cases hr : roundW w with
    | true => rw [e, hr] at h; exact absurd h (by show ¬ (61 : Int) ≤ 60; decide)
    | false =>
      rw [hr] at e
      rcases sing e with h | h
      · exact .inl h
      · exact .inr (.inl h)
  | succ m =>
    have e : sizeD (m + 1) (.tuple (.str w :: es)) = if roundW w then (if headD (3 - m) w es then 1 + howF (sizeD m) (lastD es) else 61) else if singD w es then 1 else 61 := rfl
    cases hr : roundW w with
    | false =>
      rw [hr] at e
      rcases sing e with h | h
      · exact .inl h
      · exact .inr (.inl h)
    | true =>
      rw [hr, if_pos rfl] at e
      cases hh : headD (3 - m) w es with
      | false => rw [e, hh] at h; exact absurd h (by show ¬ (61 : Int) ≤ 60; decide)
      | true =>
        rw [hh, if_pos rfl] at e
        have tup : ∀ {d : PyData}, 1 + howF (sizeD m) d ≤ 60 → ∃ ds, d = .tuple ds := fun {d} z => by
          cases d with
          | tuple ds => exact ⟨ds, rfl⟩
          | _ => exact absurd z (by show ¬ (1 + 61 : Int) ≤ 60; decide)
        rw [e] at h
        match es, hh, e, h with
        | [d], hh, e, h =>
          obtain ⟨h1, _⟩ := Bool.and_eq_true_iff.mp (show (decide (w = "forever") && decide (3 - (m : Int) = 0)) = true from hh)
          have := of_decide_eq_true h1
          subst this
          obtain ⟨ds, rfl⟩ := tup h
          exact .inr (.inr (.inr ⟨m, ds, rfl, rfl, e⟩))
        | [c, d], hh, e, h =>
          obtain ⟨h1, h2⟩ := Bool.and_eq_true_iff.mp (show (!decide (w = "forever") && (countD c && decide (3 - (m : Int) < 4))) = true from hh)
          obtain ⟨h3, _⟩ := Bool.and_eq_true_iff.mp h2
          obtain ⟨a, b, rfl⟩ := countD_ints h3
          have hw : w = "loop" := by
            rcases Bool.or_eq_true_iff.mp hr with z | z
            · exact of_decide_eq_true z
            · rw [z] at h1; cases h1
          subst hw
          obtain ⟨ds, rfl⟩ := tup h
          exact .inr (.inr (.inl ⟨m, a, b, ds, rfl, rfl, h3, e⟩))
/-- 44 signs a part -/
theorem join_len44 {tx : PyData → Str} {sz : PyData → Int} (h0 : ∀ d, 0 ≤ sz d) (h : ∀ d, sz d ≤ 60 → ((tx d).length : Int) + 2 ≤ 44 * sz d) :
    ∀ (ds : List PyData) (m : Int), 0 ≤ m → goL sz m ds ≤ 60 → ((ds.map tx).map (·.length)).sum + 2 * ds.length ≤ 44 * (goL sz m ds - m)
  | [], m, hm, hg => by
    show ((0 : Nat) : Int) ≤ 44 * (m - m)
    omega
  | d :: ds, m, hm, hg => by
    unfold goL at hg ⊢
    have nn := h0 d
    split at hg
    · omega
    · rename_i hle
      rw [if_neg hle]
      have h1 := h d (by omega)
      have h2 := join_len44 h0 h ds (m + sz d) (by omega) hg
      simp only [List.map_cons, List.sum_cons, List.length_cons]
      push_cast at h2 ⊢
      omega
theorem joinL_le {S : List Nat} : ∀ ps : List (List Nat), (joinL S ps).length ≤ (ps.map (·.length)).sum + S.length * ps.length
  | [] => Nat.zero_le _
  | [p] => by
    show p.length ≤ _
    simp only [List.map_cons, List.sum_cons, List.length_cons]
    omega
  | p :: q :: r => by
    have h := joinL_le (S := S) (q :: r)
    show (p ++ (S ++ joinL S (q :: r))).length ≤ _
    rw [List.length_append, List.length_append, List.map_cons, List.sum_cons, List.length_cons (a := p), Nat.mul_add]
    omega
theorem join_le (a : Str) (ys : List Str) : (PySem.Txt.join a ys).length ≤ (ys.map (·.length)).sum + a.length * ys.length := by
  have e : tl (PySem.Txt.join a ys) = joinL (tl a) (ys.map tl) := by rw [join_eq, tl_join]
  have h := joinL_le (S := tl a) (ys.map tl)
  rw [len_tl, e, len_tl a]
  rw [List.map_map, List.length_map] at h
  exact h
theorem word_len {c : Str} (h : wordD (.str c) = true) : 1 ≤ c.length ∧ c.length ≤ 8 := by
  obtain ⟨h1, _⟩ := Bool.and_eq_true_iff.mp h
  obtain ⟨h2, h3⟩ := Bool.and_eq_true_iff.mp h1
  exact ⟨of_decide_eq_true h2, of_decide_eq_true h3⟩
theorem small_len {k : Int} (h0 : 0 ≤ k) (h : k ≤ 99) : (intT k).length ≤ 3 := intT_len (k := 2) (by decide) (by omega)
theorem tx_len : ∀ (n : Nat), n ≤ 4 → ∀ d, sizeD n d ≤ 60 → ((txF (txM n) d).length : Int) + 2 ≤ 44 * sizeD n d
  | 0, hn, d, h => by
    rcases part_kind hn h with ⟨k, rfl, k1, k2, e⟩ | ⟨w, c, k, hw, rfl, hc, k1, k2, e⟩ | ⟨m, a, b, ds, hm, _⟩ | ⟨m, ds, hm, _⟩
    · rw [e]
      have := small_len (k := k) (by omega) k2
      show (((("work" : Str) ++ spS ++ intT k).length : Nat) : Int) + 2 ≤ _
      rw [len_app, len_app]
      show ((4 + 1 + (intT k).length : Nat) : Int) + 2 ≤ _
      omega
    · rw [e]
      have h3 := small_len (k := k) (by omega) (by omega)
      obtain ⟨_, h8⟩ := word_len hc
      have hw4 : w.length = 4 := by rcases hw with rfl | rfl <;> rfl
      show (((if k = 1 then w ++ spS ++ c else w ++ spS ++ c ++ spS ++ intT k).length : Nat) : Int) + 2 ≤ _
      split
      · rw [len_app, len_app, hw4]
        show ((4 + 1 + c.length : Nat) : Int) + 2 ≤ _
        omega
      · rw [len_app, len_app, len_app, len_app, hw4]
        show ((4 + 1 + c.length + 1 + (intT k).length : Nat) : Int) + 2 ≤ _
        omega
    · cases hm
    · cases hm
  | n + 1, hn, d, h => by
    rcases part_kind hn h with ⟨k, rfl, k1, k2, e⟩ | ⟨w, c, k, hw, rfl, hc, k1, k2, e⟩ | ⟨m, a, b, ds, hm, rfl, hc, e⟩ | ⟨m, ds, hm, rfl, e⟩
    · rw [e]
      have := small_len (k := k) (by omega) k2
      show (((("work" : Str) ++ spS ++ intT k).length : Nat) : Int) + 2 ≤ _
      rw [len_app, len_app]
      show ((4 + 1 + (intT k).length : Nat) : Int) + 2 ≤ _
      omega
    · rw [e]
      have h3 := small_len (k := k) (by omega) (by omega)
      obtain ⟨_, h8⟩ := word_len hc
      have hw4 : w.length = 4 := by rcases hw with rfl | rfl <;> rfl
      show (((if k = 1 then w ++ spS ++ c else w ++ spS ++ c ++ spS ++ intT k).length : Nat) : Int) + 2 ≤ _
      split
      · rw [len_app, len_app, hw4]
        show ((4 + 1 + c.length : Nat) : Int) + 2 ≤ _
        omega
      · rw [len_app, len_app, len_app, len_app, hw4]
        show ((4 + 1 + c.length + 1 + (intT k).length : Nat) : Int) + 2 ≤ _
        omega
    · cases hm
      have hg : goL (sizeD n) 0 ds ≤ 60 := by
        have z := h
        rw [e] at z
        have : howF (sizeD n) (.tuple ds) = goL (sizeD n) 0 ds := rfl
        omega
      have h1 := join_len44 (tx := txF (txM n)) (sizeD_nn n) (tx_len n (by omega)) ds 0 (by decide) hg
      have h2 := join_le scS (ds.map (txF (txM n)))
      have h3 : (cntT a b).length ≤ 34 := cnt_len ⟨hc, rfl⟩
      have h4 : scS.length = 2 := rfl
      rw [h4, List.length_map] at h2
      rw [e]
      show (((("loop " : Str) ++ cntT a b ++ opS ++ PySem.Txt.join scS (ds.map (txF (txM n))) ++ clS).length : Nat) : Int) + 2 ≤ 44 * (1 + goL (sizeD n) 0 ds)
      rw [len_app, len_app, len_app, len_app]
      show ((5 + (cntT a b).length + 2 + (PySem.Txt.join scS (ds.map (txF (txM n)))).length + 1 : Nat) : Int) + 2 ≤ _
      omega
    · cases hm
      have hg : goL (sizeD n) 0 ds ≤ 60 := by
        have z := h
        rw [e] at z
        have : howF (sizeD n) (.tuple ds) = goL (sizeD n) 0 ds := rfl
        omega
      have h1 := join_len44 (tx := txF (txM n)) (sizeD_nn n) (tx_len n (by omega)) ds 0 (by decide) hg
      have h2 := join_le scS (ds.map (txF (txM n)))
      have h4 : scS.length = 2 := rfl
      rw [h4, List.length_map] at h2
      rw [e]
      show (((("forever (" : Str) ++ PySem.Txt.join scS (ds.map (txF (txM n))) ++ clS).length : Nat) : Int) + 2 ≤ 44 * (1 + goL (sizeD n) 0 ds)
      rw [len_app, len_app]
      show ((9 + (PySem.Txt.join scS (ds.map (txF (txM n)))).length + 1 : Nat) : Int) + 2 ≤ _
      omega
theorem txM_len {n : Nat} (hn : n ≤ 4) {ds : List PyData} (h : howF (sizeD n) (.tuple ds) ≤ 60) : (txM (n + 1) ds).length ≤ 2640 ∧ ((ds.map (txF (txM n))).map (·.length)).sum + ds.length * 2 ≤ 2640 := by
  have h1 := join_len44 (tx := txF (txM n)) (sizeD_nn n) (tx_len n hn) ds 0 (by decide) h
  have h2 := join_le scS (ds.map (txF (txM n)))
  have h4 : scS.length = 2 := rfl
  rw [h4, List.length_map] at h2
  have e : howF (sizeD n) (.tuple ds) = goL (sizeD n) 0 ds := rfl
  rw [e] at h
  refine ⟨?_, by omega⟩
  show (PySem.Txt.join scS (ds.map (txF (txM n)))).length ≤ 2640
  omega
end L2.L87

set_option maxHeartbeats 1000000
namespace L2.L87
open PySem PySem.Spec PyProof.Rows NumText LR L2.Lr L2.Tx TL
local macro_rules | `(tactic| walk_at "nx") => `(tactic| dsimp only [gName, tNext, tSeq, tAsg, List.set_cons_zero, List.set_cons_succ])
def spCk0 (K : PySem.W.Frag) : Sp := fun vs H Q _ => ∃ x a b, vs = [x] ∧ Dp K H x (.tuple [.int a, .int b]) ∧ countD (.tuple [.int a, .int b]) = true ∧ Q .non H
def spFm0 (K : PySem.W.Frag) : Sp := fun vs H Q _ => ∃ x a b, vs = [x] ∧ Dp K H x (.tuple [.int a, .int b]) ∧ countD (.tuple [.int a, .int b]) = true ∧ Q (.str (cntT a b)) H
def spTxt (K : PySem.W.Frag) (n : Nat) : Sp := fun vs H Q _ => ∃ x ds, vs = [x] ∧ Dp K H x (.tuple ds) ∧ howF (sizeD n) (.tuple ds) ≤ 60 ∧ ∀ H', Same H H' → Q (.str (txM (n + 1) ds)) H'
def spTxP (K : PySem.W.Frag) (n : Nat) : Sp := fun vs H Q _ => ∃ x d, vs = [x] ∧ Dp K H x d ∧ sizeD n d ≤ 60 ∧ ∀ H', Same H H' → Q (.str (txF (txM n) d)) H'
theorem goL_len {sz : PyData → Int} (h0 : ∀ d, 1 ≤ sz d) : ∀ (ds : List PyData) (m : Int), 0 ≤ m → goL sz m ds ≤ 60 → m + ds.length ≤ 60
  | [], m, hm, h => by
    have h : m ≤ 60 := h
    show m + ((0 : Nat) : Int) ≤ 60
    omega
  | d :: ds, m, hm, h => by
    unfold goL at h
    have := h0 d
    split at h
    · omega
    · have := goL_len h0 ds _ (by omega) h
      rw [List.length_cons]
      push_cast at this ⊢
      omega
theorem sizeD_pos (n : Nat) (d : PyData) : 1 ≤ sizeD n d := by
  by_cases h : sizeD n d ≤ 60
  · cases n with
    | zero =>
      obtain ⟨w, es, rfl⟩ := size_shape h
      show (1 : Int) ≤ if roundW w then 61 else if singD w es then 1 else 61
      split
      · decide
      · split <;> decide
    | succ m =>
      obtain ⟨w, es, rfl⟩ := size_shape h
      show (1 : Int) ≤ if roundW w then (if headD (3 - m) w es then 1 + howF (sizeD m) (lastD es) else 61) else if singD w es then 1 else 61
      split
      · split
        · have := howF_nn (sizeD_nn m) (lastD es)
          omega
        · decide
      · split <;> decide
  · omega
theorem goL_at {sz : PyData → Int} (h0 : ∀ d, 0 ≤ sz d) : ∀ (ds : List PyData) (m : Int), 0 ≤ m → goL sz m ds ≤ 60 → ∀ d ∈ ds, sz d ≤ 60
  | [], m, hm, h => fun d hd => by cases hd
  | d :: ds, m, hm, h => fun e he => by
    unfold goL at h
    have := h0 d
    split at h
    · omega
    · rcases List.mem_cons.mp he with rfl | he
      · omega
      · exact goL_at h0 ds _ (by omega) h e he
section
variable {P : Program} {w : World} {K : PySem.W.Frag} {mg : Str → Option Value} {base : Heap}
theorem ok_ckc0 {f fB : Addr} {fd dB : FuncData} (F : FnP K "_check_count" sChk f fd) (T : Txt K mg) (N : Def P w K mg base CX0 3 "is_count" fB dB ["thing"] (spCount K)) : FnOk P w K mg base CX0 4 f fd ["count"] (spCk0 K) := by
  refine F.ok scCh (fun vs H Q E h => ?_) (fun cdv A outer s H vs Q E hr h => ?_)
  · obtain ⟨x, a, b, rfl, _⟩ := h
    rfl
  · obtain ⟨x, a, b, rfl, hd, hc, q⟩ := h
    refine ⟨_, pss_one (ps_if (pt_not (pt_val (pe_call N.ok hr (by rfl) N.g N.k N.b .nil pass0 (pa_cons (pv 0) pa_nil)))) pss_never pss_nil), ?_⟩
    have e0 : start ["count"] [x] = [some x] := rfl
    rw [e0]
    refine ⟨_, rfl, x, _, rfl, hd, _, rfl, ?_⟩
    rw [hc]
    exact iteF q
theorem ok_fm0 {f fC fW : Addr} {fd dC dW : FuncData} (F : FnP K "format_count" sForm f fd) (C : Def P w K mg base CX0 4 "_check_count" fC dC ["count"] (spCk0 K)) (W : Def P w K mg base CX0 1 "_written" fW dW ["count"] (spWrit K)) : FnOk P w K mg base CX0 5 f fd ["count"] (spFm0 K) := by
  refine F.ok scFo (fun vs H Q E h => ?_) (fun cdv A outer s H vs Q E hr h => ?_)
  · obtain ⟨x, a, b, rfl, _⟩ := h
    rfl
  · obtain ⟨x, a, b, rfl, hd, hc, q⟩ := h
    refine ⟨_, pss_cons (ps_expr (pe_call C.ok hr (by rfl) C.g C.k C.b .nil pass0 (pa_cons (pv 0) pa_nil)))
      (pss_one (ps_ret (pe_call W.ok (hr.mono (by decide)) (by rfl) W.g W.k W.b .nil pass0 (pa_cons (pv 0) pa_nil)))), ?_⟩
    have e0 : start ["count"] [x] = [some x] := rfl
    rw [e0]
    refine go_seq ?_
    exact ⟨_, rfl, x, a, b, rfl, hd, hc, _, rfl, x, a, b, rfl, hd, hc, q⟩
theorem ok_txt {n : Nat} (hn : n ≤ 4) {f fP : Addr} {fd dP : FuncData} (F : FnP K "_text_of" sTxt f fd) {k : Nat} (N : Def P w K mg base CX0 k "_text_of_part" fP dP ["part"] (spTxP K n)) : FnOk P w K mg base CX0 (k + 1) f fd ["parts"] (spTxt K n) := by
  refine F.ok sctx (fun vs H Q E h => ?_) (fun cdv A outer s H vs Q E hr h => ?_)
  · obtain ⟨x, ds, rfl, _⟩ := h
    rfl
  · obtain ⟨x, ds, rfl, hd, hz, q⟩ := h
    refine ⟨_, PSs.nox (pss_one (ps_ret (pe_join pe_str (pe_lc (own := [("part", 1)]) (g := gName 1) (tt := tYes) rfl sctx.nd (pi_tup (pv 0)) (blkOk_by (N := ["parts", "part"]) (sc := defScope sTxt) (by decide +kernel)) (fun _ _ _ _ _ => pg_name (i := 1) sctx.nd rfl (Or.inl rfl)) (fun _ _ _ _ _ => pts_nil) (fun _ _ _ _ _ => pe_call N.ok hr (by rfl) N.g N.k N.b .nil pass0 (pa_cons (pv 1) pa_nil)))))), ?_⟩
    have e0 : start ["parts", "part"] [x] = [some x, none] := rfl
    rw [e0]
    cases hd with
    | @tup a xs _ hS ha =>
    have hlx := DpAll.length ha
    have hg : goL (sizeD n) 0 ds ≤ 60 := hz
    have hl60 : ((0 : Int)) + ds.length ≤ 60 := goL_len (sizeD_pos n) ds 0 (by decide) hg
    refine ⟨⟨_, rfl⟩, _, rfl, a, rfl, ⟨_, hS⟩, fun D hD => lc_tup (K := K) (a := a) (xs := xs) (MapI H D (ds.map fun d => V.str (txF (txM n) d))) (MapI.zero hD) (fun i H' _ p => seqT p.1 hS) ?_ ?_⟩
    · rintro i v H4 hv p
      obtain ⟨d, hdi, hdv⟩ := DpAll.at ha hv
      refine ⟨rfl, ⟨_, rfl, v, d, rfl, Dp.same p.1 hdv, goL_at (sizeD_nn n) ds 0 (by decide) hg d (List.mem_of_getElem? hdi), fun H5 s5 => ?_⟩⟩
      exact MapI.step hD p (by rw [List.getElem?_map, hdi]; rfl) (by rw [List.length_map]; omega) s5
    · intro H4 pm
      obtain ⟨s4, hD4⟩ := pm.all (by rw [List.length_map, hlx]; exact Nat.le_refl _)
      obtain ⟨_, l2⟩ := txM_len hn hz
      refine ⟨_, D, ds.map (txF (txM n)), rfl, rfl, .inl (SqL.of (by rw [hD4, List.map_map]; rfl)), ?_, q H4 s4⟩
      rw [List.length_map]
      show _ + ds.length * 2 ≤ _
      omega
theorem ok_txp0 {f : Addr} {fd : FuncData} (F : FnP K "_text_of_part" sTxP f fd) {k : Nat} : FnOk P w K mg base CX0 (k + 1) f fd ["part"] (spTxP K 0) := by
  refine F.ok sctp (fun vs H Q E h => ?_) (fun cdv A outer s H vs Q E hr h => ?_)
  · obtain ⟨x, ds, rfl, _⟩ := h
    rfl
  · obtain ⟨x, d, rfl, hd, hz, q⟩ := h
    have hn : 0 ≤ 4 := by decide
    generalize hn0 : (0 : Nat) = n at hn hz q
    refine ⟨_, pss_cons (ps_set (i := 1) sctp.nd rfl (Or.inl rfl) (pe_ix ix_tup (pv 0) pe_int (fun _ _ => rfl)))
      (pss_cons (ps_if (pt_cmpR op_eq (pv 1) pe_str (nomark _)) (pss_one (ps_ret pe_never)) pss_nil)
      (pss_cons (ps_if (pt_cmpR op_eq (pv 1) pe_str (nomark _)) (pss_one (ps_ret pe_never)) pss_nil)
      (pss_cons (ps_if (PW.pt (pw_or (pt_cmpR op_eq (pv 1) pe_str (nomark _)) (pw_or1 (pt_cmpR op_eq (pe_ix ix_tup (pv 0) pe_int (fun _ _ => rfl)) pe_int (nomark _))))) (pss_one (ps_ret (pe_joined (.cons (pe_fmt (pv 1)) (.cons pe_str (.cons (pe_fmt (pe_ix ix_tup (pv 0) pe_int (fun _ _ => rfl))) .nil)))))) pss_nil)
      (pss_one (ps_ret (pe_joined (.cons (pe_fmt (pv 1)) (.cons pe_str (.cons (pe_fmt (pe_ix ix_tup (pv 0) pe_int (fun _ _ => rfl))) (.cons pe_str (.cons (pe_fmt (pe_ix ix_tup (pv 0) pe_int (fun _ _ => rfl))) .nil))))))))))), ?_⟩
    have e0 : ∀ x : V, start ["part", "word"] [x] = [some x, none] := fun _ => rfl
    rw [e0]
    have sz : sizeLine = 16777216 := sizeLine_eq
    rcases part_kind hn hz with ⟨k, rfl, k1, k2, e⟩ | ⟨w, c, k, hw, rfl, hc, k1, k2, e⟩ | ⟨m, a, b, ds, hm, rfl, hc, e⟩ | ⟨m, ds, hm, rfl, e⟩
    · obtain ⟨t, v, vs, rfl, hS, h1, h2⟩ := tupD hd
      cases strD h1
      cases h2 with
      | cons g1 h3 =>
      cases h3
      cases intDv g1
      have l3 := small_len (k := k) (by omega) k2
      refine go_seq (go_asg ?_)
      refine ⟨_, rfl, t, _, 0, .str "work", rfl, rfl, hS, at0, ?_⟩
      walk_at "nx"
      refine ⟨_, rfl, rfl, _, rfl, str_if (fun z => absurd z (by decide +kernel)) fun _ => ?_⟩
      walk_at "nx"
      refine ⟨_, rfl, rfl, _, rfl, str_if (fun z => absurd z (by decide +kernel)) fun _ => ?_⟩
      walk_at "nx"
      refine ⟨_, rfl, rfl, _, rfl, str_if (fun _ => ?_) fun z => absurd rfl z⟩
      refine iteT ?_
      refine ⟨_, rfl, .inl ⟨_, rfl, by decide +kernel, _, rfl, by rw [empty_app, sz]; decide, spS, rfl, by rw [empty_app, sz]; decide, _, rfl, t, _, 1, .int k, rfl, rfl, hS, at1, .inr ⟨k, rfl, log_200 (by omega), intT k, rfl, ?_, ?_⟩⟩⟩
      · rw [empty_app, len_app, sz]
        show 5 + _ ≤ _
        omega
      · rw [empty_app]
        exact q H (Same.refl H)
    · obtain ⟨t, v, vs, rfl, hS, h1, h2⟩ := tupD hd
      cases strD h1
      cases h2 with
      | cons g1 h3 =>
      cases h3 with
      | cons g2 h4 =>
      cases h4
      cases strD g1
      cases intDv g2
      have l3 := small_len (k := k) (by omega) (by omega)
      obtain ⟨_, h8⟩ := word_len hc
      have w4 : w.length = 4 := by rcases hw with rfl | rfl <;> rfl
      have wl : ¬ w = "loop" := fun z => by rw [z] at hw; rcases hw with z | z <;> exact absurd z (by decide +kernel)
      have wf : ¬ w = "forever" := fun z => by rw [z] at hw; rcases hw with z | z <;> exact absurd z (by decide +kernel)
      have ww : ¬ w = "work" := fun z => by rw [z] at hw; rcases hw with z | z <;> exact absurd z (by decide +kernel)
      refine go_seq (go_asg ?_)
      refine ⟨_, rfl, t, _, 0, .str w, rfl, rfl, hS, at0, ?_⟩
      walk_at "nx"
      refine ⟨_, rfl, rfl, _, rfl, str_if (fun z => absurd z wl) fun _ => ?_⟩
      walk_at "nx"
      refine ⟨_, rfl, rfl, _, rfl, str_if (fun z => absurd z wf) fun _ => ?_⟩
      walk_at "nx"
      refine ⟨_, rfl, rfl, _, rfl, str_if (fun z => absurd z ww) fun _ => ?_⟩
      refine ⟨_, rfl, t, _, 2, .int k, rfl, rfl, hS, at2, rfl, _, rfl, int_if (fun h1 => ?_) fun h1 => ?_⟩
      · refine ⟨_, rfl, .inl ⟨_, rfl, by omega, _, rfl, by rw [empty_app]; omega, spS, rfl, by rw [empty_app, len_app, w4, sz]; decide, _, rfl, t, _, 1, .str c, rfl, rfl, hS, at1, .inl ⟨c, rfl, by omega, c, rfl, ?_, ?_⟩⟩⟩
        · rw [empty_app, len_app, len_app, w4, sz]
          show 5 + _ ≤ _
          omega
        · rw [empty_app]
          have z := q H (Same.refl H)
          rw [show txF (txM n) (.tuple [.str w, .str c, .int k]) = if k = 1 then w ++ spS ++ c else w ++ spS ++ c ++ spS ++ intT k from rfl, if_pos h1] at z
          exact z
      · walk_at "nx"
        refine ⟨_, rfl, .inl ⟨_, rfl, by omega, _, rfl, by rw [empty_app]; omega, spS, rfl, by rw [empty_app, len_app, w4, sz]; decide, _, rfl, t, _, 1, .str c, rfl, rfl, hS, at1, .inl ⟨c, rfl, by omega, c, rfl, ?_, spS, rfl, ?_, _, rfl, t, _, 2, .int k, rfl, rfl, hS, at2, .inr ⟨k, rfl, log_200 (by omega), intT k, rfl, ?_, ?_⟩⟩⟩⟩
        · rw [empty_app, len_app, len_app, w4, sz]
          show 5 + _ ≤ _
          omega
        · rw [empty_app, len_app, len_app, len_app, w4, sz]
          show 5 + _ + 1 ≤ _
          omega
        · rw [empty_app, len_app, len_app, len_app, len_app, w4, sz]
          show 5 + _ + 1 + _ ≤ _
          omega
        · rw [empty_app]
          have z := q H (Same.refl H)
          rw [show txF (txM n) (.tuple [.str w, .str c, .int k]) = if k = 1 then w ++ spS ++ c else w ++ spS ++ c ++ spS ++ intT k from rfl, if_neg h1] at z
          exact z
    · omega
    · omega
theorem ok_txpS {n : Nat} (hn : n + 1 ≤ 4) {f fT fF : Addr} {fd dT dF : FuncData} (F : FnP K "_text_of_part" sTxP f fd) {k : Nat} (h5 : 5 ≤ k) (Fm : Def P w K mg base CX0 5 "format_count" fF dF ["count"] (spFm0 K)) (Tx : Def P w K mg base CX0 k "_text_of" fT dT ["parts"] (spTxt K n)) : FnOk P w K mg base CX0 (k + 1) f fd ["part"] (spTxP K (n + 1)) := by
  refine F.ok sctp (fun vs H Q E h => ?_) (fun cdv A outer s H vs Q E hr h => ?_)
  · obtain ⟨x, ds, rfl, _⟩ := h
    rfl
  · obtain ⟨x, d, rfl, hd, hz, q⟩ := h
    generalize hn0 : n + 1 = n' at hn hz q
    refine ⟨_, pss_cons (ps_set (i := 1) sctp.nd rfl (Or.inl rfl) (pe_ix ix_tup (pv 0) pe_int (fun _ _ => rfl)))
      (pss_cons (ps_if (pt_cmpR op_eq (pv 1) pe_str (nomark _)) (pss_one (ps_ret (pe_joined (.cons pe_str (.cons (pe_fmt (pe_call Fm.ok (hr.mono h5) (by rfl) Fm.g Fm.k Fm.b .nil pass0 (pa_cons (pe_ix ix_tup (pv 0) pe_int (fun _ _ => rfl)) pa_nil))) (.cons pe_str (.cons (pe_fmt (pe_call Tx.ok hr (by rfl) Tx.g Tx.k Tx.b .nil pass0 (pa_cons (pe_ix ix_tup (pv 0) pe_int (fun _ _ => rfl)) pa_nil))) (.cons pe_str .nil)))))))) pss_nil)
      (pss_cons (ps_if (pt_cmpR op_eq (pv 1) pe_str (nomark _)) (pss_one (ps_ret (pe_joined (.cons pe_str (.cons (pe_fmt (pe_call Tx.ok hr (by rfl) Tx.g Tx.k Tx.b .nil pass0 (pa_cons (pe_ix ix_tup (pv 0) pe_int (fun _ _ => rfl)) pa_nil))) (.cons pe_str .nil)))))) pss_nil)
      (pss_cons (ps_if (PW.pt (pw_or (pt_cmpR op_eq (pv 1) pe_str (nomark _)) (pw_or1 (pt_cmpR op_eq (pe_ix ix_tup (pv 0) pe_int (fun _ _ => rfl)) pe_int (nomark _))))) (pss_one (ps_ret (pe_joined (.cons (pe_fmt (pv 1)) (.cons pe_str (.cons (pe_fmt (pe_ix ix_tup (pv 0) pe_int (fun _ _ => rfl))) .nil)))))) pss_nil)
      (pss_one (ps_ret (pe_joined (.cons (pe_fmt (pv 1)) (.cons pe_str (.cons (pe_fmt (pe_ix ix_tup (pv 0) pe_int (fun _ _ => rfl))) (.cons pe_str (.cons (pe_fmt (pe_ix ix_tup (pv 0) pe_int (fun _ _ => rfl))) .nil))))))))))), ?_⟩
    have e0 : ∀ x : V, start ["part", "word"] [x] = [some x, none] := fun _ => rfl
    rw [e0]
    have sz : sizeLine = 16777216 := sizeLine_eq
    rcases part_kind hn hz with ⟨k, rfl, k1, k2, e⟩ | ⟨w, c, k, hw, rfl, hc, k1, k2, e⟩ | ⟨m, a, b, ds, hm, rfl, hc, e⟩ | ⟨m, ds, hm, rfl, e⟩
    · obtain ⟨t, v, vs, rfl, hS, h1, h2⟩ := tupD hd
      cases strD h1
      cases h2 with
      | cons g1 h3 =>
      cases h3
      cases intDv g1
      have l3 := small_len (k := k) (by omega) k2
      refine go_seq (go_asg ?_)
      refine ⟨_, rfl, t, _, 0, .str "work", rfl, rfl, hS, at0, ?_⟩
      walk_at "nx"
      refine ⟨_, rfl, rfl, _, rfl, str_if (fun z => absurd z (by decide +kernel)) fun _ => ?_⟩
      walk_at "nx"
      refine ⟨_, rfl, rfl, _, rfl, str_if (fun z => absurd z (by decide +kernel)) fun _ => ?_⟩
      walk_at "nx"
      refine ⟨_, rfl, rfl, _, rfl, str_if (fun _ => ?_) fun z => absurd rfl z⟩
      refine iteT ?_
      refine ⟨_, rfl, .inl ⟨_, rfl, by decide +kernel, _, rfl, by rw [empty_app, sz]; decide, spS, rfl, by rw [empty_app, sz]; decide, _, rfl, t, _, 1, .int k, rfl, rfl, hS, at1, .inr ⟨k, rfl, log_200 (by omega), intT k, rfl, ?_, ?_⟩⟩⟩
      · rw [empty_app, len_app, sz]
        show 5 + _ ≤ _
        omega
      · rw [empty_app]
        exact q H (Same.refl H)
    · obtain ⟨t, v, vs, rfl, hS, h1, h2⟩ := tupD hd
      cases strD h1
      cases h2 with
      | cons g1 h3 =>
      cases h3 with
      | cons g2 h4 =>
      cases h4
      cases strD g1
      cases intDv g2
      have l3 := small_len (k := k) (by omega) (by omega)
      obtain ⟨_, h8⟩ := word_len hc
      have w4 : w.length = 4 := by rcases hw with rfl | rfl <;> rfl
      have wl : ¬ w = "loop" := fun z => by rw [z] at hw; rcases hw with z | z <;> exact absurd z (by decide +kernel)
      have wf : ¬ w = "forever" := fun z => by rw [z] at hw; rcases hw with z | z <;> exact absurd z (by decide +kernel)
      have ww : ¬ w = "work" := fun z => by rw [z] at hw; rcases hw with z | z <;> exact absurd z (by decide +kernel)
      refine go_seq (go_asg ?_)
      refine ⟨_, rfl, t, _, 0, .str w, rfl, rfl, hS, at0, ?_⟩
      walk_at "nx"
      refine ⟨_, rfl, rfl, _, rfl, str_if (fun z => absurd z wl) fun _ => ?_⟩
      walk_at "nx"
      refine ⟨_, rfl, rfl, _, rfl, str_if (fun z => absurd z wf) fun _ => ?_⟩
      walk_at "nx"
      refine ⟨_, rfl, rfl, _, rfl, str_if (fun z => absurd z ww) fun _ => ?_⟩
      refine ⟨_, rfl, t, _, 2, .int k, rfl, rfl, hS, at2, rfl, _, rfl, int_if (fun h1 => ?_) fun h1 => ?_⟩
      · refine ⟨_, rfl, .inl ⟨_, rfl, by omega, _, rfl, by rw [empty_app]; omega, spS, rfl, by rw [empty_app, len_app, w4, sz]; decide, _, rfl, t, _, 1, .str c, rfl, rfl, hS, at1, .inl ⟨c, rfl, by omega, c, rfl, ?_, ?_⟩⟩⟩
        · rw [empty_app, len_app, len_app, w4, sz]
          show 5 + _ ≤ _
          omega
        · rw [empty_app]
          have z := q H (Same.refl H)
          rw [show txF (txM n') (.tuple [.str w, .str c, .int k]) = if k = 1 then w ++ spS ++ c else w ++ spS ++ c ++ spS ++ intT k from rfl, if_pos h1] at z
          exact z
      · walk_at "nx"
        refine ⟨_, rfl, .inl ⟨_, rfl, by omega, _, rfl, by rw [empty_app]; omega, spS, rfl, by rw [empty_app, len_app, w4, sz]; decide, _, rfl, t, _, 1, .str c, rfl, rfl, hS, at1, .inl ⟨c, rfl, by omega, c, rfl, ?_, spS, rfl, ?_, _, rfl, t, _, 2, .int k, rfl, rfl, hS, at2, .inr ⟨k, rfl, log_200 (by omega), intT k, rfl, ?_, ?_⟩⟩⟩⟩
        · rw [empty_app, len_app, len_app, w4, sz]
          show 5 + _ ≤ _
          omega
        · rw [empty_app, len_app, len_app, len_app, w4, sz]
          show 5 + _ + 1 ≤ _
          omega
        · rw [empty_app, len_app, len_app, len_app, len_app, w4, sz]
          show 5 + _ + 1 + _ ≤ _
          omega
        · rw [empty_app]
          have z := q H (Same.refl H)
          rw [show txF (txM n') (.tuple [.str w, .str c, .int k]) = if k = 1 then w ++ spS ++ c else w ++ spS ++ c ++ spS ++ intT k from rfl, if_neg h1] at z
          exact z
    · have hm : m = n := by omega
      subst hm
      obtain ⟨t, v, vs, rfl, hS, h1, h2⟩ := tupD hd
      cases strD h1
      cases h2 with
      | cons g1 h3 =>
      cases h3 with
      | cons g2 h4 =>
      cases h4
      have hz' : howF (sizeD m) (.tuple ds) ≤ 60 := by omega
      have lt := (txM_len (n := m) (by omega) hz').1
      have lc : (cntT a b).length ≤ 34 := cnt_len ⟨hc, rfl⟩
      subst hn0
      refine go_seq (go_asg ?_)
      refine ⟨_, rfl, t, _, 0, .str "loop", rfl, rfl, hS, at0, ?_⟩
      walk_at "nx"
      refine ⟨_, rfl, rfl, _, rfl, str_if (fun _ => ?_) fun z => absurd rfl z⟩
      refine ⟨("loop " : Str), rfl, by rw [empty_app, sz]; decide, _, rfl, t, _, 1, _, rfl, rfl, hS, at1, _, a, b, rfl, g1, hc, .inl ⟨_, rfl, by omega, _, rfl, ?_, opS, rfl, ?_, _, rfl, t, _, 2, _, rfl, rfl, hS, at2, _, ds, rfl, g2, hz', fun H' s' => .inl ⟨_, rfl, by omega, _, rfl, ?_, clS, rfl, ?_, ?_⟩⟩⟩
      · rw [empty_app, len_app, sz]
        show 5 + _ ≤ _
        omega
      · rw [empty_app, len_app, len_app, sz]
        show 5 + _ + 2 ≤ _
        omega
      · rw [empty_app, len_app, len_app, len_app, sz]
        show 5 + _ + 2 + _ ≤ _
        omega
      · rw [empty_app, len_app, len_app, len_app, len_app, sz]
        show 5 + _ + 2 + _ + 1 ≤ _
        omega
      · rw [empty_app]
        exact q H' s'
    · have hm : m = n := by omega
      subst hm
      obtain ⟨t, v, vs, rfl, hS, h1, h2⟩ := tupD hd
      cases strD h1
      cases h2 with
      | cons g1 h3 =>
      cases h3
      have hz' : howF (sizeD m) (.tuple ds) ≤ 60 := by omega
      have lt := (txM_len (n := m) (by omega) hz').1
      subst hn0
      refine go_seq (go_asg ?_)
      refine ⟨_, rfl, t, _, 0, .str "forever", rfl, rfl, hS, at0, ?_⟩
      walk_at "nx"
      refine ⟨_, rfl, rfl, _, rfl, str_if (fun z => absurd z (by decide +kernel)) fun _ => ?_⟩
      walk_at "nx"
      refine ⟨_, rfl, rfl, _, rfl, str_if (fun _ => ?_) fun z => absurd rfl z⟩
      refine ⟨("forever (" : Str), rfl, by rw [empty_app, sz]; decide, _, rfl, t, _, 1, _, rfl, rfl, hS, at1, _, ds, rfl, g1, hz', fun H' s' => .inl ⟨_, rfl, by omega, _, rfl, ?_, clS, rfl, ?_, ?_⟩⟩
      · rw [empty_app, len_app, sz]
        show 9 + _ ≤ _
        omega
      · rw [empty_app, len_app, len_app, sz]
        show 9 + _ + 1 ≤ _
        omega
      · rw [empty_app]
        exact q H' s'
end
end L2.L87

set_option maxHeartbeats 400000
/-! f'{o}', o an own instance with its own __str__ -/
namespace L2.Lr
open PySem PySem.Spec PyProof.Rows LR StX
section
variable {X : Cx} {CX : CXT} {k n : Nat} {f C : Addr} {fd : FuncData} {ps : List Str} {sp : Sp} {E : XK}
/-- what f'{o}' asks of its class -/
structure FmtO (K : PySem.W.Frag) (C : Addr) : Prop where
  fm : PySem.W.findIn K (.ref C) "__format__" = some (some (.builtin "object.__format__"))
  mo : PySem.W.mroIn K C (.type "object") = some true
def fmtB (K : PySem.W.Frag) (C : Addr) : Bool := decide (PySem.W.findIn K (.ref C) "__format__" = some (some (.builtin "object.__format__"))) && decide (PySem.W.mroIn K C (.type "object") = some true)
theorem fmtB_ok {K : PySem.W.Frag} {C : Addr} (q : fmtB K C = true) : FmtO K C := by
  obtain ⟨a, b⟩ := He.ba q
  exact ⟨of_decide_eq_true a, of_decide_eq_true b⟩
def tFmtO (C : Addr) (sp : Sp) (E : XK) (te : TE) : TE := fun σ H Q => te σ H fun x H1 => ∃ a dx fs, x = .ref a ∧ H1 a = some (.ins C dx fs) ∧ sp [.ref a] H1 (fun v H2 => ∃ y, v = .str y ∧ Q (.str y) H2) E
theorem pe_fmtO {e : Expr} {te : TE} {pos : Pos} (d : Dun X.K C f "__str__") (m : FmtO X.K C) (F : FnOk X.prog X.w X.K X.mg X.base CX k f fd ps sp) (hr : Room (k + 1) X.A) (hb : Binds X.K fd ps []) (hx : Passes CX X E) (he : PE X e te) :
    PE X (.FormattedValue e (-1) none pos) (tFmtO C sp E te) := by
  refine ⟨fun pins s σ H Q I h => ?_⟩
  refine wpAny_FormattedValue_plain (thn (he.run pins s σ H _ I h) fun v s1 hv => ?_)
  obtain ⟨x, H1, I1, r1, a, dx, fs, rfl, ha, q⟩ := hv
  cases r1
  obtain ⟨ox, od, J, _⟩ := insC_at I1 (.inr ⟨dx, fs, ha⟩)
  have I2 : Inv X pins σ H1 { s1 with toks := s1.toks + 1 } := I1.tok _
  refine PySem.W.kfo_fieldS hr.in1.units0 I1.kIn J m.fm m.mo d.at_ d.fn (wpAny_mono (run_at (A := X.A.in1) ⟨hr.in1, rfl⟩ F hb hx I2 (vs := [.ref a]) (us := [.ref a]) (.cons rfl .nil) q) (fun v s' z => ?_) fun _ _ z => z)
  obtain ⟨x, H', I', rv, y, rfl, q⟩ := z
  obtain ⟨t, rfl⟩ := rv
  exact ⟨.str y, H', I', ⟨t, rfl⟩, q⟩
end
end L2.Lr

set_option maxHeartbeats 3200000
/-! len(set(t)), t a tuple of texts -/
namespace L2.Lr
open PySem PySem.Spec PyProof.Rows LR
/-- what the set holds behind i texts -/
abbrev hasT (xs : List Str) (i : Nat) : Str → Bool := fun y => (xs.take i).any (· == y)
/-- how many there are among the first i -/
def cnT (xs : List Str) : Nat → Nat
  | 0 => 0
  | i + 1 => if hasT xs i (xs.getD i Str.empty) then cnT xs i else cnT xs i + 1
theorem cnT_le (xs : List Str) : ∀ i, cnT xs i ≤ i
  | 0 => Nat.le_refl _
  | i + 1 => by
    have := cnT_le xs i
    unfold cnT
    split <;> omega
theorem hasT_mem {xs : List Str} {i : Nat} {y : Str} : hasT xs i y = true ↔ y ∈ xs.take i := by
  refine ⟨fun h => ?_, fun h => List.any_eq_true.mpr ⟨y, h, beq_self_eq_true _⟩⟩
  obtain ⟨z, hz, e⟩ := List.any_eq_true.mp h
  rw [← show z = y from beq_iff_eq.mp e]
  exact hz
theorem cnT_nodup {xs : List Str} : ∀ i, i ≤ xs.length → (cnT xs i = i ↔ (xs.take i).Nodup)
  | 0, _ => ⟨fun _ => by simp, fun _ => rfl⟩
  | i + 1, h => by
    have ih := cnT_nodup (xs := xs) i (by omega)
    have le := cnT_le xs i
    have e : xs[i]? = some (xs.getD i Str.empty) := by rw [List.getD_eq_getElem?_getD, List.getElem?_eq_getElem (show i < xs.length from h)]; rfl
    have ec : cnT xs (i + 1) = if hasT xs i (xs.getD i Str.empty) then cnT xs i else cnT xs i + 1 := rfl
    rw [ec, List.take_add_one, e]
    show _ ↔ (xs.take i ++ [xs.getD i Str.empty]).Nodup
    rw [List.nodup_append]
    cases hh : hasT xs i (xs.getD i Str.empty) with
    | true =>
      rw [if_pos rfl]
      refine ⟨fun z => by omega, fun z => absurd rfl (z.2.2 _ (hasT_mem.mp hh) _ (List.mem_singleton.mpr rfl))⟩
    | false =>
      rw [if_neg (by decide)]
      refine ⟨fun z => ⟨ih.mp (by omega), by simp, fun a ha b hb q => ?_⟩, fun z => by rw [ih.mpr z.1]⟩
      rw [List.mem_singleton.mp hb] at q
      rw [q] at ha
      rw [hasT_mem.mpr ha] at hh
      cases hh
theorem hasT_step {xs : List Str} {i : Nat} (h : i < xs.length) (y : Str) : (hasT xs i y || decide (y = xs.getD i Str.empty)) = hasT xs (i + 1) y := by
  have e : xs[i]? = some (xs.getD i Str.empty) := by rw [List.getD_eq_getElem?_getD, List.getElem?_eq_getElem h]; rfl
  show _ = (xs.take (i + 1)).any (· == y)
  rw [List.take_add_one, e, List.any_append]
  congr 1
  show _ = ((xs.getD i Str.empty == y) || false)
  rw [Bool.or_false]
  by_cases q : y = xs.getD i Str.empty
  · rw [decide_eq_true q, q]; exact (beq_self_eq_true _).symm
  · rw [decide_eq_false q]; exact (beq_eq_false_iff_ne.mpr fun z => q z.symm).symm
section
variable {P : Program} {w : World} {A : Around} {R : Result → Shared → Prop} {J : Addr} {fp wr : List Addr} {G : Array GenState → Array GenState → Prop} {n : Nat} {Pv : Nat → Value → Prop} {St : Nat → Shared → Prop}
theorem fill_set (W : WalksS P w A.in1 J fp wr G n Pv St) (D : Addr) (nf : D ∉ fp) (xs : List Str) (hl : xs.length = n) (hb : n + 1 < scanBound) (at_ : ∀ i v, Pv i v → ∃ t, v = .str (xs.getD i Str.empty) t) :
    ∀ (k i : Nat) (s : Shared), i + k = n → St i s → s.heap.SetOf (PySem.strKind P w) D (hasT xs i) (cnT xs i) →
      (∀ s', Moved (D :: wr) G s s' → s'.heap.SetOf (PySem.strKind P w) D (hasT xs n) (cnT xs n) → R (.ok (.ret .none)) s') → codeAny (model P w) A (.builtin "set.update.loop" ⟨[.ref D, .ref J], []⟩) R s := by
  have nw : D ∉ wr := fun z => nf (W.sub _ z)
  intro k
  induction k with
  | zero =>
    intro i s e hst hS out
    obtain rfl : i = n := by omega
    refine codeAny_builtin PyProof.Rows.F.entry_set_update_loop ?_
    rw [Around.under_plainId PyProof.Rows.F.plain_set_update_loop _]
    refine wpAny_bind (W.done s _ _ hst fun s' mv => wpAny_pure (out s' (mv.mono fun b q => List.mem_cons_of_mem _ q) ?_))
    obtain ⟨o, es, ep, t, ho, rest⟩ := hS; exact ⟨o, es, ep, t, mv.heap D _ nw ho, rest⟩
  | succ k ih =>
    intro i s e hst hS out
    have lt : i < xs.length := by omega
    refine codeAny_builtin PyProof.Rows.F.entry_set_update_loop ?_
    rw [Around.under_plainId PyProof.Rows.F.plain_set_update_loop _]
    refine wpAny_bind (W.item i s _ _ (by omega) hst fun v s1 hv hst1 mv => ?_)
    obtain ⟨t, rfl⟩ := at_ i v hv
    have hS1 : s1.heap.SetOf (PySem.strKind P w) D (hasT xs i) (cnT xs i) := by obtain ⟨o, es, ep, tb, ho, rest⟩ := hS; exact ⟨o, es, ep, tb, mv.heap D _ nw ho, rest⟩
    refine wpAny_bind (m := holding _ (setAdd D _)) (wpAny_holding ?_)
    unfold setAdd
    refine wpAny_holding (wpAny_bind ((PySem.strKind P w).pyHash (k := xs.getD i Str.empty) (strKind_is _ _ _ _) ?_))
    refine wpAny_setAddHashed_of (knd := PySem.strKind P w) (s := { s1 with toks := s1.toks + 1 }) (strKind_is _ _ _ _) rfl hS1 (by have := cnT_le xs i; omega) fun h2 same hS2 => ?_
    have hS3 : h2.SetOf (PySem.strKind P w) D (hasT xs (i + 1)) (cnT xs (i + 1)) := PyProof.Rows.SetOf_congr hS2 (fun y => hasT_step lt y) rfl
    refine wpAny_pure ⟨plainId_quiet PyProof.Rows.F.plain_set_update_loop _, ih (i + 1) _ (by omega) (W.frame _ s1 _ _ hst1 (Nat.le_succ _) fun b q o z => ?_) hS3 fun s3 mv3 hS4 => ?_⟩
    · exact (same.2 b fun y : b = D => nf (y ▸ q)).trans z
    · refine out s3 (Moved.trans W.gtrans ((mv.mono fun b q => List.mem_cons_of_mem _ q).then_heap (Nat.le_succ _) fun b o q z => ?_) mv3) hS4
      exact (same.2 b fun y : b = D => q (y ▸ List.mem_cons_self)).trans z
end
section
variable {P : Program} {w : World} {A : Around} {E : Value → Shared → Prop} {s : Shared}
/-- a heap with an empty set at its end -/
abbrev setAtEnd (h : Heap) (led : Bool) : Heap := h.push { cls := .type "set", dict := none, data := .set #[] 0 (.fresh 0 0 led) }
theorem set_of_texts {l : Addr} {its : Array Value} {xs : List Str} {Q : Value → Shared → Prop} (hd : A.handled = none) (ht : s.heap.IsTuple l its) (hx : PyProof.Rows.StrsAre its.toList xs) (few : xs.length + 1 < scanBound)
    (q : ∀ (h' : Heap) (tk : Nat), h'.SetOf (PySem.strKind P w) s.heap.objs.size (hasT xs its.size) (cnT xs its.size) → (∀ b o, b < s.heap.objs.size → s.heap.get? b = some o → h'.get? b = some o) → Q (.ref s.heap.objs.size) { s with heap := h', toks := tk }) :
    wpAny (model P w) A (call (.type "set") [.ref l]) Q E s := by
  obtain ⟨c0, t0, mr⟩ := PySem.F.called_set.mro
  have md := PySem.F.called_set.made; have su := PySem.F.called_set.sub; have nt := PySem.F.called_set.notType; have cc := PySem.F.called_set.canCreate
  have tc := PySem.F.typeCall_set_1 (.ref l)
  refine wpAny_call (codeAny_of_tree ?_)
  show wpAny _ _ (callAny (.type "set") _) _ _ _
  refine wpAny_pure ⟨Code.quiet_builtin _ (by decide +kernel), codeAny_builtin PySem.F.entry_type_call ?_⟩
  rw [Around.under_plain (weight_type_call_type "set" [.ref l] []) rfl]
  repeat (any_goals (first | assumption | wp_step))
  refine codeAny_mono (code_set_new_1 (.ref l) (E := E) (Q₁ := fun y z => ∃ led : Bool, y = .ref s.heap.objs.size ∧ z = { s with heap := setAtEnd s.heap led }) fun led => ⟨led, rfl, rfl⟩) fun r z hr => ?_
  match r, hr with
  | .ok (.ret y), hr =>
    obtain ⟨led, rfl, rfl⟩ := hr
    have at0 : (setAtEnd s.heap led).get? s.heap.objs.size = some { cls := .type "set", dict := none, data := .set #[] 0 (.fresh 0 0 led) } := Heap.get?_push_size _ rfl
    have ty0 : Shared.TypeIs { s with heap := setAtEnd s.heap led } (.ref s.heap.objs.size) "set" := ⟨_, at0, rfl⟩
    have il := PySem.F.called_set.init.lookup; have ib := PySem.F.called_set.init.bind (.ref s.heap.objs.size)
    repeat (any_goals (first | assumption | wp_step))
    refine codeAny_mono (codeAny_call_builtin (R := wants (fun r z => r = .none ∧ ∃ h' tk, z = { s with heap := h', toks := tk } ∧ h'.SetOf (PySem.strKind P w) s.heap.objs.size (hasT xs its.size) (cnT xs its.size) ∧ (∀ b o, b < s.heap.objs.size → s.heap.get? b = some o → h'.get? b = some o)) E) PySem.F.called_set.init.plain PySem.F.entry_set_init (check_set_init_1 ty0 ?_)) fun r z hr => ?_
    · obtain ⟨⟨oc, od, oda, osl⟩, ho, hc, nl, hda⟩ := ht
      simp only at hc hda
      subst hc; subst hda
      have ho' : (setAtEnd s.heap led).get? l = some { cls := .type "tuple", dict := od, data := .seq its nl, slots := osl } := Heap.get?_push_of_some _ ho
      have ht' : (setAtEnd s.heap led).IsTuple l its := ⟨_, ho', rfl, nl, rfl⟩
      have s1 := PySem.F.sub_tuple_set; have s2 := PySem.F.sub_tuple_frozenset; have s3 : (Value.type "tuple" == Value.type "dict") = false := by decide
      unfold Builtin.«set.__init__» noKeywords Builtin.Frozenset.updateFrom
      generalize gI : pyIter = I0
      wp_walk
      subst gI
      refine wpAny_pyIter_tuple ht' (wpAny_bind (wpAny_runValue ?_))
      have ll : l < s.heap.objs.size := Heap.lt_size ho
      have hd3 : A.in1.in1.in1.handled = none := by simp [hd]
      have n1 : l ≠ (setAtEnd s.heap led).objs.size := by rw [Heap.size_push]; exact Nat.ne_of_lt (Nat.lt_succ_of_lt ll)
      have n2 : s.heap.objs.size ∉ [(setAtEnd s.heap led).objs.size, l] := by
        rw [Heap.size_push]; intro z
        rcases List.mem_cons.mp z with z | z
        · exact absurd z (Nat.ne_of_lt (Nat.lt_succ_self _))
        · exact absurd (List.mem_singleton.mp z) (Nat.ne_of_gt ll)
      have len : xs.length = its.size := by rw [← StrsAre.len_eq hx, Array.length_toList]
      refine fill_set ((Walks.tuple hd3 _ l n1 its).toS) s.heap.objs.size n2 xs len (by omega) (fun i v hv => SS.strs_at hx i v (by rw [Array.getElem?_toList]; exact hv)) its.size 0 _ (by omega) ⟨⟨_, Heap.get?_push_size _ rfl, rfl, rfl⟩, (ht'.push _)⟩ ?_ ?_
      · have g2 : ((setAtEnd s.heap led).push { cls := .type "tuple_iterator", data := .fields #[.ref l, .int 0 0] }).get? s.heap.objs.size = some { cls := .type "set", dict := none, data := .set #[] 0 (.fresh 0 0 led) } := Heap.get?_push_of_some _ at0
        exact PyProof.Rows.SetOf_congr ((PyProof.Rows.setObjOf_fresh (knd := PySem.strKind P w) led).setOf g2 (by unfold scanBound; omega)) (fun _ => rfl) rfl
      · intro z mv hS
        obtain ⟨h', g', d', tk', os'⟩ := z
        have e1 : g' = s.gens := mv.gens
        have e2 : d' = s.drawn := mv.drawn
        have e3 : os' = s.os := mv.os
        subst e1; subst e2; subst e3
        show wpAny _ _ _ _ _ _
        refine wpAny_pure ?_
        show wpAny _ _ (ret Value.none) _ _ _
        refine wpAny_pure ⟨rfl, h', tk', rfl, hS, fun b o lt e => mv.heap b o (fun z => ?_) (Heap.get?_push_of_some _ (Heap.get?_push_of_some _ e))⟩
        rw [Heap.size_push] at z
        rcases List.mem_cons.mp z with z | z
        · exact absurd z (Nat.ne_of_lt lt)
        · exact absurd (List.mem_singleton.mp z) (Nat.ne_of_lt (Nat.lt_succ_of_lt lt))
    · match r, hr with
      | .error e, hr => exact hr
      | .ok (.ret r), hr =>
        obtain ⟨rfl, h', tk, rfl, hS, keep⟩ := hr
        repeat (any_goals (first | assumption | wp_step))
        exact q _ _ hS keep
  | .error e, hr => exact hr
end
/-- len(set(t)), t a tuple of texts -/
def tLenSetT (K : PySem.W.Frag) (ta : TE) : TE := fun σ H Q => ta σ H fun x H1 => ∃ (l : Addr) (xs : List Str), x = V.ref l ∧ SqT K H1 l (xs.map V.str) ∧ xs.length ≤ 4000 ∧ Q (.int (cnT xs xs.length : Nat)) H1
theorem pe_lenSetT {X : Cx} {a : Expr} {ta : TE} {p p2 q pos : Pos} (hc : X.calm = true) (hg : Gl X "len") (hm : X.mg "len" = none) (hg2 : Gl X "set") (hm2 : X.mg "set" = none) (ha : PE X a ta)
    (na : starEach [a] X.env = (false, eval a X.env) :: starEach [] X.env := by rfl) : PE X (.Call (.Name "len" p) [.Call (.Name "set" p2) [a] [] q] [] pos) (tLenSetT X.K ta) := by
  refine ⟨fun pins s σ H Q I h => Call_ (ld_blt I hg hm boot_len (PyProof.Rows.callWith_builtin1 (PyProof.Rows.args_cons (Call_ (ld_blt I hg2 hm2 boot_set (PyProof.Rows.callWith_type1 (PyProof.Rows.args_cons (thn (ha.run pins s σ H _ I h) fun v s1 ⟨x, H1, I1, r1, q1⟩ => PyProof.Rows.args_nil ?_) na) na rfl))) rfl) rfl rfl))⟩
  obtain ⟨l, xs, rfl, hq, hl, q1⟩ := q1
  cases r1
  obtain ⟨its, r, pl, hz⟩ := I1.tuple hq
  have e : its.toArray.size = xs.length := by rw [List.size_toArray, ← r.length, List.length_map]
  refine set_of_texts (I1.ok.hd hc) pl (by simpa using strsAre_of r) (by unfold scanBound; omega) fun h' tk hS hk => PyProof.Rows.args_nil ?_
  rw [e] at hS
  obtain ⟨o, es, ep, t, ho, hex, hd, _, _, _, hf, hn⟩ := hS
  have I2 : Inv X pins σ H1 { s1 with heap := h', toks := tk } := I1.kept fun b o e => hk b o (Heap.lt_size e) e
  exact call_len_set ho hex hd hf (by rw [hn]; have := cnT_le xs xs.length; omega) ⟨.int (cnT xs xs.length : Nat), H1, I2.tok _, ⟨_, by rw [hn]⟩, q1⟩
end L2.Lr

set_option maxHeartbeats 1000000
namespace L2.L87
open PySem PySem.Spec PyProof.Rows NumText LR L2.Lr L2.Tx TL SkE
local macro_rules | `(tactic| walk_at "nx") => `(tactic| dsimp only [gName, tNext, tSeq, tAsg, List.set_cons_zero, List.set_cons_succ])
theorem scto : FnScope ["thing", "word", "many"] ["thing", "word", "many"] (defScope sTupOf) := ⟨rfl, rfl, rfl, by decide +kernel, rfl, by decide +kernel, by decide +kernel⟩
theorem scrq : FnScope ["thing"] ["thing"] (defScope sRoomQ) := ⟨rfl, rfl, rfl, by decide +kernel, rfl, by decide +kernel, by decide +kernel⟩
theorem scdf : FnScope ["thing", "word"] ["thing"] (defScope sDiff) := ⟨rfl, rfl, rfl, by decide +kernel, rfl, by decide +kernel, by decide +kernel⟩
theorem scev : FnScope ["thing"] ["thing"] (defScope sEvent) := ⟨rfl, rfl, rfl, by decide +kernel, rfl, by decide +kernel, by decide +kernel⟩
theorem scte : FnScope ["thing"] ["thing"] (defScope sToldE) := ⟨rfl, rfl, rfl, by decide +kernel, rfl, by decide +kernel, by decide +kernel⟩
def RowAt' (K : PySem.W.Frag) (H : Hp) (p : Addr) (ds : List PyData) : Prop := ∃ y m, RowAt K H p y m ∧ Dp K H y (.tuple ds)
def spStr (K : PySem.W.Frag) : Sp := fun vs H Q _ => ∃ p ds, vs = [.ref p] ∧ RowAt' K H p ds ∧ howF (sizeD 4) (.tuple ds) ≤ 60 ∧ ∀ H', Same H H' → Q (.str (txM 5 ds)) H'
def tupOf (w : Str) (m : Nat) : PyData → Bool
  | .tuple (.str x :: es) => decide (es.length + 1 = m) && decide (x = w)
  | _ => false
def atD (i : Nat) : PyData → PyData
  | .tuple ds => ds.getD i .none
  | _ => .none
def spTupOf (K : PySem.W.Frag) : Sp := fun vs H Q _ => ∃ (x : V) (d : PyData) (w : Str) (m : Nat), vs = [x, .str w, .int m] ∧ Dp K H x d ∧ 1 ≤ m ∧ Q (.bl (tupOf w m d)) H
def roomB (d : PyData) : Bool := match d with
  | .none => true
  | d => betw 0 (10 ^ 200) d
def spRoomQ (K : PySem.W.Frag) : Sp := fun vs H Q _ => ∃ x d, vs = [x] ∧ Dp K H x d ∧ Q (.bl (roomB d)) H
def wordsD (ds : List PyData) : List Str := ds.map fun d => match d with
  | .str x => x
  | _ => Str.empty
def diffB : PyData → Bool
  | .tuple ds => decide (2 ≤ ds.length) && (ds.all wordD && decide (wordsD ds).Nodup)
  | _ => false
def spDiff (K : PySem.W.Frag) : Sp := fun vs H Q _ => ∃ x d, vs = [x] ∧ Dp K H x d ∧ sOk d ∧ (∀ ds, d = .tuple ds → ds.length ≤ 4000) ∧ ∀ H', Same H H' → Q (.bl (diffB d)) H'
def eventB (d : PyData) : Bool := if tupOf "room" 3 d then wordD (atD 1 d) && roomB (atD 2 d) else if tupOf "n" 2 d then betw 0 (10 ^ 30) (atD 1 d) else (tupOf "change" 2 d || tupOf "undo" 1 d)
theorem words_of {K : PySem.W.Frag} {H : Hp} : ∀ {xs : List V} {ds : List PyData}, DpAll K H xs ds → ds.all wordD = true → xs = (wordsD ds).map V.str
  | _, _, .nil, _ => rfl
  | _, _, @DpAll.cons _ _ v vs d ds h a, hw => by
    obtain ⟨h1, h2⟩ := Bool.and_eq_true_iff.mp (show (wordD d && ds.all wordD) = true from hw)
    cases h with
    | str x =>
      show _ = V.str x :: (wordsD ds).map V.str
      rw [words_of a h2]
    | _ => cases h1
section
variable {P : Program} {w : World} {K : PySem.W.Frag} {mg : Str → Option Value} {base : Heap}
theorem ok_str {f fT : Addr} {fd dT : FuncData} (F : FnM K "__str__" "Row.__str__" sStr f fd) (T : Txt K mg) {k : Nat} (Tx : Def P w K mg base CX0 k "_text_of" fT dT ["parts"] (spTxt K 4)) : FnOk P w K mg base CX0 (k + 1) f fd ["self"] (spStr K) := by
  refine F.ok scst (fun vs H Q E h => ?_) (fun cdv A outer s H vs Q E hr h => ?_)
  · obtain ⟨p, ds, rfl, _⟩ := h
    rfl
  · obtain ⟨p, ds, rfl, ⟨y, m, ⟨dx, hp⟩, hy⟩, hz, q⟩ := h
    refine ⟨_, pss_one (ps_ret (pe_callTy call_str_str (by rfl) T.p.str bbS (pa_cons (pe_call Tx.ok hr (by rfl) Tx.g Tx.k Tx.b .nil pass0 (pa_cons (pe_fld (pv 0) rfl) pa_nil)) pa_nil))), ?_⟩
    have e0 : start ["self"] [V.ref p] = [some (.ref p)] := rfl
    rw [e0]
    refine ⟨_, rfl, p, _, dx, _, _, rfl, hp, T.cl, T.nP, flds_p y m, y, ds, rfl, hy, hz, fun H' s' => ⟨_, rfl, q H' s'⟩⟩
theorem ok_tupof {f : Addr} {fd : FuncData} (F : FnP K "is_tuple_of" sTupOf f fd) (T : Txt K mg) : FnOk P w K mg base CX0 1 f fd ["thing", "word", "many"] (spTupOf K) := by
  refine F.ok scto (fun vs H Q E h => ?_) (fun cdv A outer s H vs Q E hr h => ?_)
  · obtain ⟨x, d, w, m, rfl, _⟩ := h
    rfl
  · obtain ⟨x, d, w, m, rfl, hd, h1, q⟩ := h
    refine ⟨_, pss_one (ps_ret (pe_and (pe_isD T.p.isn (pv 0) (pe_bltn (by rfl) T.p.tuple bbT (by rfl)) (by rfl)) (pe_and (pe_cmpR op_eq (pe_callB call_len_seq (by rfl) T.p.len boot_len (pa_cons (pv 0) pa_nil)) (pv 2) (nomark _))
      (pe_and (pe_isD T.p.isn (pe_ix ix_tup (pv 0) pe_int (fun _ _ => rfl)) (pe_bltn (by rfl) T.p.str bbS (by rfl)) (by rfl)) (pe_one (pe_cmpR op_eq (pe_ix ix_tup (pv 0) pe_int (fun _ _ => rfl)) (pv 1) (nomark _))))))), ?_⟩
    have e0 : start ["thing", "word", "many"] [x, .str w, .int m] = [some x, some (.str w), some (.int m)] := rfl
    rw [e0]
    cases d with
    | none => exact ⟨_, rfl, _, _, hd, (by decide +kernel : kitB "NoneType" "tuple" = some false), _, rfl, iteF q⟩
    | bool _ => exact ⟨_, rfl, _, _, hd, (by decide +kernel : kitB "bool" "tuple" = some false), _, rfl, iteF q⟩
    | int _ => exact ⟨_, rfl, _, _, hd, (by decide +kernel : kitB "int" "tuple" = some false), _, rfl, iteF q⟩
    | str _ => exact ⟨_, rfl, _, _, hd, (by decide +kernel : kitB "str" "tuple" = some false), _, rfl, iteF q⟩
    | list _ => exact ⟨_, rfl, _, _, hd, (by decide +kernel : kitB "list" "tuple" = some false), _, rfl, iteF q⟩
    | dict _ => cases hd
    | tuple ds =>
      refine ⟨_, rfl, _, _, hd, (by decide +kernel : kitB "tuple" "tuple" = some true), _, rfl, iteT ?_⟩
      cases hd with
      | @tup t xs _ hS ha =>
      have hlx := DpAll.length ha
      refine ⟨_, rfl, t, xs, rfl, .inr hS, _, rfl, rfl, _, rfl, ?_⟩
      cases ha with
      | nil =>
        refine len_if (fun z => absurd z ?_) fun _ => q
        show ¬ ((0 : Nat) : Int) = m
        omega
      | @cons v vs d ds h1' ha' =>
        have no : tupOf w m (.tuple (d :: ds)) = false → Q (.bl false) H := fun e => by rw [e] at q; exact q
        refine len_if (fun z => ?_) fun z => no ?_
        · have zl : ds.length + 1 = m := by
            rw [hlx] at z
            simp only [List.length_cons] at z
            omega
          refine ⟨_, rfl, t, _, 0, v, rfl, rfl, hS, at0, ?_⟩
          cases h1' with
          | non => exact ⟨_, _, .non, (by decide +kernel : kitB "NoneType" "str" = some false), _, rfl, iteF (no rfl)⟩
          | bl b => exact ⟨_, _, .bl b, (by decide +kernel : kitB "bool" "str" = some false), _, rfl, iteF (no rfl)⟩
          | int i => exact ⟨_, _, .int i, (by decide +kernel : kitB "int" "str" = some false), _, rfl, iteF (no rfl)⟩
          | lst hS2 ha2 => exact ⟨_, _, .lst hS2 ha2, (by decide +kernel : kitB "list" "str" = some false), _, rfl, iteF (no rfl)⟩
          | tup hS2 ha2 => exact ⟨_, _, .tup hS2 ha2, (by decide +kernel : kitB "tuple" "str" = some false), _, rfl, iteF (no rfl)⟩
          | str x =>
            refine ⟨_, _, .str x, (by decide +kernel : kitB "str" "str" = some true), _, rfl, iteT ⟨_, rfl, t, _, 0, _, rfl, rfl, hS, at0, _, rfl, rfl, ?_⟩⟩
            have e : tupOf w m (.tuple (.str x :: ds)) = decide (V.str x = V.str w) := by
              show (decide (ds.length + 1 = m) && decide (x = w)) = _
              rw [decide_eq_true zl, Bool.true_and, dec_vs]
            rw [e] at q
            exact q
        · cases d <;> try rfl
          show (decide (ds.length + 1 = m) && _) = false
          rw [decide_eq_false, Bool.false_and]
          intro y
          apply z
          rw [hlx]
          simp only [List.length_cons]
          omega
theorem ok_roomq {f fB : Addr} {fd dB : FuncData} (F : FnP K "is_room" sRoomQ f fd) (T : Txt K mg) (N : Def P w K mg base CX0 2 "is_between" fB dB ["thing", "low", "high"] (spBetw K)) : FnOk P w K mg base CX0 3 f fd ["thing"] (spRoomQ K) := by
  refine F.ok scrq (fun vs H Q E h => ?_) (fun cdv A outer s H vs Q E hr h => ?_)
  · obtain ⟨x, d, rfl, _⟩ := h
    rfl
  · obtain ⟨x, d, rfl, hd, q⟩ := h
    obtain ⟨tf, hroom⟩ := T.lroom
    refine ⟨_, pss_one (ps_ret (pe_or (pe_cmpR op_isN (pv 0) pe_non (nomark _)) (pe_one (pe_call N.ok hr (by rfl) N.g N.k N.b .nil pass0 (pa_cons (pv 0) (pa_cons pe_int (pa_cons (pe_gI hroom (by rfl)) pa_nil))))))), ?_⟩
    have e0 : start ["thing"] [x] = [some x] := rfl
    rw [e0]
    cases d with
    | none => cases nonDv hd; exact ⟨_, rfl, rfl, _, rfl, iteT q⟩
    | bool b => cases hd; exact ⟨_, rfl, rfl, _, rfl, iteF ⟨_, rfl, _, 0, _, .bool b, rfl, .bl b, q⟩⟩
    | int i => cases hd; exact ⟨_, rfl, rfl, _, rfl, iteF ⟨_, rfl, _, 0, _, .int i, rfl, .int i, q⟩⟩
    | str i => cases hd; exact ⟨_, rfl, rfl, _, rfl, iteF ⟨_, rfl, _, 0, _, .str i, rfl, .str i, q⟩⟩
    | list ds => obtain ⟨a, xs, rfl, _⟩ := lstD hd; exact ⟨_, rfl, rfl, _, rfl, iteF ⟨_, rfl, _, 0, _, .list ds, rfl, hd, q⟩⟩
    | tuple ds => obtain ⟨a, xs, rfl, _⟩ := tupDv hd; exact ⟨_, rfl, rfl, _, rfl, iteF ⟨_, rfl, _, 0, _, .tuple ds, rfl, hd, q⟩⟩
    | dict _ => cases hd
theorem ok_diff {f fW : Addr} {fd dW : FuncData} (F : FnP K "_are_different_words" sDiff f fd) (T : Txt K mg) (Wd : Def P w K mg base CX0 1 "is_word" fW dW ["thing"] (spWord K)) : FnOk P w K mg base CX0 2 f fd ["thing"] (spDiff K) := by
  refine F.ok scdf (fun vs H Q E h => ?_) (fun cdv A outer s H vs Q E hr h => ?_)
  · obtain ⟨x, d, rfl, _⟩ := h
    rfl
  · obtain ⟨x, d, rfl, hd, so, hl, q⟩ := h
    refine ⟨_, pss_cons (ps_if (PW.pt (pw_or (pt_not (pt_val (pe_isD T.p.isn (pv 0) (pe_bltn (by rfl) T.p.tuple bbT (by rfl)) (by rfl)))) (pw_or1 (pt_cmpR op_lt (pe_callB call_len_seq (by rfl) T.p.len boot_len (pa_cons (pv 0) pa_nil)) pe_int (nomark _))))) (pss_one (ps_ret pe_bl)) pss_nil)
      (PSs.nox (pss_one (ps_ret (pe_and (pe_callB (cr_all rfl) (by rfl) T.all boot_all (pa_cons (pe_lc (own := [("word", 1)]) (g := gName 1) (tt := tYes) rfl scdf.nd (pi_tup (pv 0)) (blkOk_by (N := ["thing", "word"]) (sc := defScope sDiff) (by decide +kernel)) (fun _ _ _ _ _ => pg_name (i := 1) scdf.nd rfl (Or.inl rfl)) (fun _ _ _ _ _ => pts_nil) (fun _ _ _ _ _ => pe_call Wd.ok hr (by rfl) Wd.g Wd.k Wd.b .nil pass0 (pa_cons (pv 1) pa_nil))) pa_nil))
        (pe_one (pe_cmpR op_eq (pe_lenSetT rfl (by rfl) T.p.len (by rfl) T.set (pv 0)) (pe_callB call_len_seq (by rfl) T.p.len boot_len (pa_cons (pv 0) pa_nil)) (nomark _))))))), ?_⟩
    have e0 : start ["thing", "word"] [x] = [some x, none] := rfl
    rw [e0]
    have q0 := q H (Same.refl H)
    refine go_seq ?_
    cases d with
    | none => exact ⟨_, rfl, _, _, hd, (by decide +kernel : kitB "NoneType" "tuple" = some false), _, rfl, iteT (iteT q0)⟩
    | bool _ => exact ⟨_, rfl, _, _, hd, (by decide +kernel : kitB "bool" "tuple" = some false), _, rfl, iteT (iteT q0)⟩
    | int _ => exact ⟨_, rfl, _, _, hd, (by decide +kernel : kitB "int" "tuple" = some false), _, rfl, iteT (iteT q0)⟩
    | str _ => exact ⟨_, rfl, _, _, hd, (by decide +kernel : kitB "str" "tuple" = some false), _, rfl, iteT (iteT q0)⟩
    | list _ => exact ⟨_, rfl, _, _, hd, (by decide +kernel : kitB "list" "tuple" = some false), _, rfl, iteT (iteT q0)⟩
    | dict _ => cases hd
    | tuple ds =>
      refine ⟨_, rfl, _, _, hd, (by decide +kernel : kitB "tuple" "tuple" = some true), _, rfl, iteF ?_⟩
      cases hd with
      | @tup t xs _ hS ha =>
      have hlx := DpAll.length ha
      have hl := hl ds rfl
      refine ⟨_, rfl, t, xs, rfl, .inr hS, _, _, rfl, rfl, _, rfl, ite_dec (fun g => ?_) fun g => ?_⟩
      · have e : diffB (.tuple ds) = false := by
          show (decide (2 ≤ ds.length) && _) = false
          rw [decide_eq_false (by omega), Bool.false_and]
        rw [e] at q0
        exact q0
      walk_at "nx"
      have sos : sOkAll ds := by unfold sOk at so; exact so.2
      refine ⟨_, rfl, t, rfl, ⟨_, hS⟩, fun D hD => lc_tup (K := K) (a := t) (xs := xs) (MapI H D (ds.map fun d => V.bl (wordD d))) (MapI.zero hD) (fun i H' _ p => seqT p.1 hS) ?_ ?_⟩
      · rintro i v H4 hv p
        obtain ⟨d, hdi, hdv⟩ := DpAll.at ha hv
        refine ⟨rfl, ⟨_, rfl, v, d, rfl, Dp.same p.1 hdv, sOkAll.at sos hdi, fun H5 s5 => ?_⟩⟩
        exact MapI.step hD p (by rw [List.getElem?_map, hdi]; rfl) (by rw [List.length_map]; omega) s5
      · intro H4 pm
        obtain ⟨s4, hD4⟩ := pm.all (by rw [List.length_map, hlx]; exact Nat.le_refl _)
        refine ⟨D, ds.map wordD, rfl, SqL.of (by rw [hD4, List.map_map]; rfl), _, rfl, ?_⟩
        rw [show (ds.map wordD).all id = ds.all wordD from by rw [List.all_map]; rfl]
        have z := q H4 s4
        have e : diffB (.tuple ds) = (ds.all wordD && decide (wordsD ds).Nodup) := by
          show (decide (2 ≤ ds.length) && _) = _
          rw [decide_eq_true (by omega), Bool.true_and]
        rw [e] at z
        cases ha4 : ds.all wordD with
        | false => rw [ha4] at z; exact iteF z
        | true =>
          rw [ha4, Bool.true_and] at z
          have ex := words_of ha ha4
          have ln : (wordsD ds).length = ds.length := by unfold wordsD; rw [List.length_map]
          refine iteT ⟨_, rfl, t, wordsD ds, rfl, by rw [← ex]; exact seqT s4 hS, by omega, _, rfl, t, xs, rfl, .inr (seqT s4 hS), rfl, ?_⟩
          have eb : decide (V.int ((cnT (wordsD ds) (wordsD ds).length : Nat) : Int) = V.int (xs.length : Int)) = decide (wordsD ds).Nodup := by
            rw [dec_vint]
            have c := cnT_nodup (xs := wordsD ds) (wordsD ds).length (Nat.le_refl _)
            rw [List.take_length] at c
            by_cases h : (wordsD ds).Nodup
            · rw [decide_eq_true h, decide_eq_true]
              rw [c.mpr h, ln, hlx]
            · rw [decide_eq_false h, decide_eq_false]
              intro y
              apply h
              apply c.mp
              rw [hlx] at y
              omega
          rw [eb]
          exact z
end
end L2.L87

set_option maxHeartbeats 1000000
namespace L2.L87
open PySem PySem.Spec PyProof.Rows NumText LR L2.Lr L2.Tx TL SkE
local macro_rules | `(tactic| walk_at "nx") => `(tactic| dsimp only [gName, tNext, tSeq, tAsg, List.set_cons_zero, List.set_cons_succ])
theorem scch : FnScope ["thing", "name", "number"] ["thing"] (defScope sChange) := ⟨rfl, rfl, rfl, by decide +kernel, rfl, by decide +kernel, by decide +kernel⟩
def changeB (d : PyData) : Bool :=
  if tupOf "row" 3 d then wordD (atD 1 d) && aprD (atD 2 d) else
  if tupOf "first" 3 d then wordD (atD 1 d) && betw 0 99 (atD 2 d) else
  if tupOf "join" 3 d then wordD (atD 1 d) && diffB (atD 2 d) else
  if tupOf "part" 2 d then wordD (atD 1 d) else
  if tupOf "relay" 4 d then (wordD (atD 1 d) && (wordD (atD 2 d) && wordD (atD 3 d))) else
  if tupOf "kill" 4 d then wordD (atD 1 d) && (betw 0 (10 ^ 30) (atD 2 d) && betw 0 (10 ^ 30) (atD 3 d)) else false
def isS (w : Str) : PyData → Bool
  | .str x => decide (x = w)
  | _ => false
def toldB (d : PyData) : Bool := eventB d && (!isS "change" (atD 0 d) || changeB (atD 1 d))
/-- its things are short enough -/
def ShC (d : PyData) : Prop := sOk d ∧ ∀ ds, d = .tuple ds → ∀ e ∈ ds, ∀ es, e = .tuple es → es.length ≤ 4000
def ShE (d : PyData) : Prop := sOk d ∧ ∀ ds, d = .tuple ds → ∀ e ∈ ds, ShC e
theorem sOk_at {d : PyData} {ds : List PyData} (h : sOk d) (e : d = .tuple ds) {i : Nat} {x : PyData} (hx : ds[i]? = some x) : sOk x := by
  subst e
  unfold sOk at h
  exact sOkAll.at h.2 hx
def spChange (K : PySem.W.Frag) : Sp := fun vs H Q _ => ∃ x d, vs = [x] ∧ Dp K H x d ∧ ShC d ∧ ∀ H', Same H H' → Q (.bl (changeB d)) H'
def spEvent (K : PySem.W.Frag) : Sp := fun vs H Q _ => ∃ x d, vs = [x] ∧ Dp K H x d ∧ sOk d ∧ ∀ H', Same H H' → Q (.bl (eventB d)) H'
def spToldE (K : PySem.W.Frag) : Sp := fun vs H Q _ => ∃ x d, vs = [x] ∧ Dp K H x d ∧ ShE d ∧ ∀ H', Same H H' → Q (.bl (toldB d)) H'
theorem tupOf_ok {w : Str} {m : Nat} {d : PyData} (h : tupOf w m d = true) : ∃ es, d = .tuple (.str w :: es) ∧ es.length + 1 = m := by
  cases d with
  | tuple ds =>
    cases ds with
    | nil => cases h
    | cons y es =>
      cases y with
      | str x =>
        obtain ⟨h1, h2⟩ := Bool.and_eq_true_iff.mp h
        exact ⟨es, by rw [of_decide_eq_true h2], of_decide_eq_true h1⟩
      | _ => cases h
  | _ => cases h
theorem cutD_1 {d : PyData} {ds : List PyData} : cutD (d :: ds) (some 1) none = ds := by
  show List.take (ds.length + 1 - min 1 (ds.length + 1)) (List.drop (min 1 (ds.length + 1)) (d :: ds)) = ds
  rw [show min 1 (ds.length + 1) = 1 by omega, show ds.length + 1 - 1 = ds.length by omega]
  exact List.take_length
theorem cutD_2 {d e : PyData} {ds : List PyData} : cutD (d :: e :: ds) (some 2) none = ds := by
  show List.take (ds.length + 1 + 1 - min 2 (ds.length + 1 + 1)) (List.drop (min 2 (ds.length + 1 + 1)) (d :: e :: ds)) = ds
  rw [show min 2 (ds.length + 1 + 1) = 2 by omega, show ds.length + 1 + 1 - 2 = ds.length by omega]
  exact List.take_length
section
variable {P : Program} {w : World} {K : PySem.W.Frag} {mg : Str → Option Value} {base : Heap}
theorem ok_change {f fO fW fA fD fB : Addr} {fd dO dW dA dD dB : FuncData} (F : FnP K "is_change" sChange f fd) (T : Txt K mg) (O : Def P w K mg base CX0 1 "is_tuple_of" fO dO ["thing", "word", "many"] (spTupOf K)) (Wd : Def P w K mg base CX0 1 "is_word" fW dW ["thing"] (spWord K)) {k : Nat} (h2 : 2 ≤ k)
    (Ap : Def P w K mg base CX0 k "are_parts_of_row" fA dA ["thing"] (spApr K)) (Df : Def P w K mg base CX0 2 "_are_different_words" fD dD ["thing"] (spDiff K)) (N : Def P w K mg base CX0 2 "is_between" fB dB ["thing", "low", "high"] (spBetw K)) :
    FnOk P w K mg base CX0 (k + 1) f fd ["thing"] (spChange K) := by
  refine F.ok scch (fun vs H Q E h => ?_) (fun cdv A outer s H vs Q E hr h => ?_)
  · obtain ⟨x, d, rfl, _⟩ := h
    rfl
  · obtain ⟨x, d, rfl, hd, ⟨so, sl⟩, q⟩ := h
    obtain ⟨tf, hfirst⟩ := T.first
    obtain ⟨tl', hfar⟩ := T.p.far
    have hr2 : Room 2 _ := hr.mono h2
    have hr1 : Room 1 _ := hr2.mono (by decide)
    refine ⟨_, PSs.nox (pss_cons (ps_if (pt_val (pe_call O.ok hr1 (by rfl) O.g O.k O.b .nil pass0 (pa_cons (pv 0) (pa_cons pe_str (pa_cons pe_int pa_nil))))) (pss_one (ps_ret (pe_and (pe_call Wd.ok hr1 (by rfl) Wd.g Wd.k Wd.b .nil pass0 (pa_cons (pe_ix ix_tup (pv 0) pe_int (fun _ _ => rfl)) pa_nil)) (pe_one (pe_call Ap.ok hr (by rfl) Ap.g Ap.k Ap.b .nil pass0 (pa_cons (pe_ix ix_tup (pv 0) pe_int (fun _ _ => rfl)) pa_nil)))))) pss_nil)
      (pss_cons (ps_if (pt_val (pe_call O.ok hr1 (by rfl) O.g O.k O.b .nil pass0 (pa_cons (pv 0) (pa_cons pe_str (pa_cons pe_int pa_nil))))) (pss_one (ps_ret (pe_and (pe_call Wd.ok hr1 (by rfl) Wd.g Wd.k Wd.b .nil pass0 (pa_cons (pe_ix ix_tup (pv 0) pe_int (fun _ _ => rfl)) pa_nil)) (pe_one (pe_call N.ok hr2 (by rfl) N.g N.k N.b .nil pass0 (pa_cons (pe_ix ix_tup (pv 0) pe_int (fun _ _ => rfl)) (pa_cons pe_int (pa_cons (pe_gI hfirst (by rfl)) pa_nil)))))))) pss_nil)
      (pss_cons (ps_if (pt_val (pe_call O.ok hr1 (by rfl) O.g O.k O.b .nil pass0 (pa_cons (pv 0) (pa_cons pe_str (pa_cons pe_int pa_nil))))) (pss_one (ps_ret (pe_and (pe_call Wd.ok hr1 (by rfl) Wd.g Wd.k Wd.b .nil pass0 (pa_cons (pe_ix ix_tup (pv 0) pe_int (fun _ _ => rfl)) pa_nil)) (pe_one (pe_call Df.ok hr2 (by rfl) Df.g Df.k Df.b .nil pass0 (pa_cons (pe_ix ix_tup (pv 0) pe_int (fun _ _ => rfl)) pa_nil)))))) pss_nil)
      (pss_cons (ps_if (pt_val (pe_call O.ok hr1 (by rfl) O.g O.k O.b .nil pass0 (pa_cons (pv 0) (pa_cons pe_str (pa_cons pe_int pa_nil))))) (pss_one (ps_ret (pe_call Wd.ok hr1 (by rfl) Wd.g Wd.k Wd.b .nil pass0 (pa_cons (pe_ix ix_tup (pv 0) pe_int (fun _ _ => rfl)) pa_nil)))) pss_nil)
      (pss_cons (ps_if (pt_val (pe_call O.ok hr1 (by rfl) O.g O.k O.b .nil pass0 (pa_cons (pv 0) (pa_cons pe_str (pa_cons pe_int pa_nil))))) (pss_one (ps_ret (pe_callB (cr_all rfl) (by rfl) T.all boot_all (pa_cons (pe_lc (own := [("name", 1)]) (g := gName 1) (tt := tYes) rfl scch.nd (pi_tup (pe_slice sl_tupA (pv 0) (po_some pe_int) po_none)) (blkOk_by (N := ["thing", "name", "number"]) (sc := defScope sChange) (by decide +kernel)) (fun _ _ _ _ _ => pg_name (i := 1) scch.nd rfl (Or.inl rfl)) (fun _ _ _ _ _ => pts_nil) (fun _ _ _ _ _ => pe_call Wd.ok hr1 (by rfl) Wd.g Wd.k Wd.b .nil pass0 (pa_cons (pv 1) pa_nil))) pa_nil)))) pss_nil)
      (pss_cons (ps_if (pt_val (pe_call O.ok hr1 (by rfl) O.g O.k O.b .nil pass0 (pa_cons (pv 0) (pa_cons pe_str (pa_cons pe_int pa_nil))))) (pss_one (ps_ret (pe_and (pe_call Wd.ok hr1 (by rfl) Wd.g Wd.k Wd.b .nil pass0 (pa_cons (pe_ix ix_tup (pv 0) pe_int (fun _ _ => rfl)) pa_nil)) (pe_one (pe_callB (cr_all rfl) (by rfl) T.all boot_all (pa_cons (pe_lc (own := [("number", 2)]) (g := gName 2) (tt := tYes) rfl scch.nd (pi_tup (pe_slice sl_tupA (pv 0) (po_some pe_int) po_none)) (blkOk_by (N := ["thing", "name", "number"]) (sc := defScope sChange) (by decide +kernel)) (fun _ _ _ _ _ => pg_name (i := 2) scch.nd rfl (Or.inl rfl)) (fun _ _ _ _ _ => pts_nil) (fun _ _ _ _ _ => pe_call N.ok hr2 (by rfl) N.g N.k N.b .nil pass0 (pa_cons (pv 2) (pa_cons pe_int (pa_cons (pe_gI hfar (by rfl)) pa_nil))))) pa_nil)))))) pss_nil)
      (pss_one (ps_ret pe_bl)))))))), ?_⟩
    have e0 : start ["thing", "name", "number"] [x] = [some x, none, none] := rfl
    rw [e0]
    have sos : ∀ {ds : List PyData}, d = .tuple ds → ∀ {i : Nat} {y : PyData}, ds[i]? = some y → sOk y := fun e _ _ h => sOk_at so e h
    unfold changeB at q
    refine go_seq ⟨_, rfl, x, d, "row", 3, rfl, hd, by decide, _, rfl, ?_⟩
    cases b1 : tupOf "row" 3 d with
    | true =>
      rw [b1, if_pos rfl] at q
      obtain ⟨es, rfl, hl⟩ := tupOf_ok b1
      match es, hl with
      | [d1, d2], _ =>
      obtain ⟨t, v, vs, rfl, hS, h1, ha⟩ := tupD hd
      cases ha with
      | cons g1 ha =>
      cases ha with
      | cons g2 ha =>
      cases ha
      refine iteT ⟨_, rfl, t, _, 1, _, rfl, rfl, hS, at1, _, d1, rfl, g1, sos rfl (i := 1) rfl, fun H1 s1 => ⟨_, rfl, ?_⟩⟩
      have q1 := fun H' (s' : Same H H') => q H' s'
      cases w1 : wordD d1 with
      | false =>
        have z := q H1 s1
        rw [show wordD (atD 1 (.tuple [.str "row", d1, d2])) = wordD d1 from rfl, w1] at z
        exact iteF z
      | true =>
        refine iteT ⟨_, rfl, t, _, 2, _, rfl, rfl, seqT s1 hS, at2, _, d2, rfl, Dp.same s1 g2, sos rfl (i := 2) rfl, fun ds e => Nat.le_trans (sl _ rfl d2 (by simp) ds e) (by decide), fun H2 s2 => ?_⟩
        have z := q H2 (s1.trans s2)
        rw [show wordD (atD 1 (.tuple [.str "row", d1, d2])) = wordD d1 from rfl, w1, Bool.true_and] at z
        exact z
    | false =>
    rw [b1, if_neg (by decide)] at q
    refine iteF ?_
    walk_at "nx"
    refine ⟨_, rfl, x, d, "first", 3, rfl, hd, by decide, _, rfl, ?_⟩
    cases b2 : tupOf "first" 3 d with
    | true =>
      rw [b2, if_pos rfl] at q
      obtain ⟨es, rfl, hl⟩ := tupOf_ok b2
      match es, hl with
      | [d1, d2], _ =>
      obtain ⟨t, v, vs, rfl, hS, h1, ha⟩ := tupD hd
      cases ha with
      | cons g1 ha =>
      cases ha with
      | cons g2 ha =>
      cases ha
      refine iteT ⟨_, rfl, t, _, 1, _, rfl, rfl, hS, at1, _, d1, rfl, g1, sos rfl (i := 1) rfl, fun H1 s1 => ⟨_, rfl, ?_⟩⟩
      have z := q H1 s1
      rw [show wordD (atD 1 (.tuple [.str "first", d1, d2])) = wordD d1 from rfl] at z
      cases w1 : wordD d1 with
      | false => rw [w1] at z; exact iteF z
      | true =>
        rw [w1, Bool.true_and] at z
        exact iteT ⟨_, rfl, t, _, 2, _, rfl, rfl, seqT s1 hS, at2, _, 0, 99, d2, rfl, Dp.same s1 g2, z⟩
    | false =>
    rw [b2, if_neg (by decide)] at q
    refine iteF ?_
    walk_at "nx"
    refine ⟨_, rfl, x, d, "join", 3, rfl, hd, by decide, _, rfl, ?_⟩
    cases b3 : tupOf "join" 3 d with
    | true =>
      rw [b3, if_pos rfl] at q
      obtain ⟨es, rfl, hl⟩ := tupOf_ok b3
      match es, hl with
      | [d1, d2], _ =>
      obtain ⟨t, v, vs, rfl, hS, h1, ha⟩ := tupD hd
      cases ha with
      | cons g1 ha =>
      cases ha with
      | cons g2 ha =>
      cases ha
      refine iteT ⟨_, rfl, t, _, 1, _, rfl, rfl, hS, at1, _, d1, rfl, g1, sos rfl (i := 1) rfl, fun H1 s1 => ⟨_, rfl, ?_⟩⟩
      cases w1 : wordD d1 with
      | false =>
        have z := q H1 s1
        rw [show wordD (atD 1 (.tuple [.str "join", d1, d2])) = wordD d1 from rfl, w1] at z
        exact iteF z
      | true =>
        refine iteT ⟨_, rfl, t, _, 2, _, rfl, rfl, seqT s1 hS, at2, _, d2, rfl, Dp.same s1 g2, sos rfl (i := 2) rfl, fun ds e => sl _ rfl d2 (by simp) ds e, fun H2 s2 => ?_⟩
        have z := q H2 (s1.trans s2)
        rw [show wordD (atD 1 (.tuple [.str "join", d1, d2])) = wordD d1 from rfl, w1, Bool.true_and] at z
        exact z
    | false =>
    rw [b3, if_neg (by decide)] at q
    refine iteF ?_
    walk_at "nx"
    refine ⟨_, rfl, x, d, "part", 2, rfl, hd, by decide, _, rfl, ?_⟩
    cases b4 : tupOf "part" 2 d with
    | true =>
      rw [b4, if_pos rfl] at q
      obtain ⟨es, rfl, hl⟩ := tupOf_ok b4
      match es, hl with
      | [d1], _ =>
      obtain ⟨t, v, vs, rfl, hS, h1, ha⟩ := tupD hd
      cases ha with
      | cons g1 ha =>
      cases ha
      exact iteT ⟨_, rfl, t, _, 1, _, rfl, rfl, hS, at1, _, d1, rfl, g1, sos rfl (i := 1) rfl, fun H1 s1 => q H1 s1⟩
    | false =>
    rw [b4, if_neg (by decide)] at q
    refine iteF ?_
    walk_at "nx"
    refine ⟨_, rfl, x, d, "relay", 4, rfl, hd, by decide, _, rfl, ?_⟩
    cases b5 : tupOf "relay" 4 d with
    | true =>
      rw [b5, if_pos rfl] at q
      obtain ⟨es, rfl, hl⟩ := tupOf_ok b5
      have hle : es.length ≤ 3 := by omega
      refine iteT ⟨_, rfl, 1, rfl, ?_⟩
      dsimp only [tNoPart]
      refine slP hd fun v H1 s1 h1 => ?_
      rw [cutD_1] at h1
      cases h1 with
      | @tup t xs _ hS ha =>
      have hlx := DpAll.length ha
      refine ⟨t, rfl, ⟨_, hS⟩, fun D hD => lc_tup (K := K) (a := t) (xs := xs) (MapI H1 D (es.map fun d => V.bl (wordD d))) (MapI.zero hD) (fun i H' _ p => seqT p.1 hS) ?_ ?_⟩
      · rintro i v H4 hv p
        obtain ⟨d, hdi, hdv⟩ := DpAll.at ha hv
        refine ⟨rfl, ⟨_, rfl, v, d, rfl, Dp.same p.1 hdv, sos rfl (i := i + 1) (by rw [List.getElem?_cons_succ]; exact hdi), fun H5 s5 => ?_⟩⟩
        exact MapI.step hD p (by rw [List.getElem?_map, hdi]; rfl) (by rw [List.length_map]; exact Nat.le_trans hle (by decide)) s5
      · intro H4 pm
        obtain ⟨s4, hD4⟩ := pm.all (by rw [List.length_map, hlx]; exact Nat.le_refl _)
        refine ⟨D, es.map wordD, rfl, SqL.of (by rw [hD4, List.map_map]; rfl), ?_⟩
        match es, hl with
        | [d1, d2, d3], _ =>
          have z := q H4 (s1.trans s4)
          have e : (List.map wordD [d1, d2, d3]).all id = (wordD d1 && (wordD d2 && wordD d3)) := by
            show (wordD d1 && (wordD d2 && (wordD d3 && true))) = _
            rw [Bool.and_true]
          rw [e]
          exact z
    | false =>
    rw [b5, if_neg (by decide)] at q
    refine iteF ?_
    walk_at "nx"
    refine ⟨_, rfl, x, d, "kill", 4, rfl, hd, by decide, _, rfl, ?_⟩
    cases b6 : tupOf "kill" 4 d with
    | true =>
      rw [b6, if_pos rfl] at q
      obtain ⟨es, rfl, hl⟩ := tupOf_ok b6
      match es, hl with
      | [d1, d2, d3], _ =>
      have hd0 := hd
      obtain ⟨t, v, vs, rfl, hS, h1, ha⟩ := tupD hd
      cases ha with
      | cons g1 ha =>
      refine iteT ⟨_, rfl, t, _, 1, _, rfl, rfl, hS, at1, _, d1, rfl, g1, sos rfl (i := 1) rfl, fun H1 s1 => ⟨_, rfl, ?_⟩⟩
      cases w1 : wordD d1 with
      | false =>
        have z := q H1 s1
        rw [show wordD (atD 1 (.tuple [.str "kill", d1, d2, d3])) = wordD d1 from rfl, w1] at z
        exact iteF z
      | true =>
      refine iteT ⟨_, rfl, 2, rfl, ?_⟩
      dsimp only [tNoPart]
      refine slP (Dp.same s1 hd0) fun v H2 s2 h2 => ?_
      rw [cutD_2] at h2
      cases h2 with
      | @tup t xs _ hS ha =>
      have hlx := DpAll.length ha
      refine ⟨t, rfl, ⟨_, hS⟩, fun D hD => lc_tup (K := K) (a := t) (xs := xs) (MapI H2 D ([d2, d3].map fun d => V.bl (betw 0 (10 ^ 30) d))) (MapI.zero hD) (fun i H' _ p => seqT p.1 hS) ?_ ?_⟩
      · rintro i v H4 hv p
        obtain ⟨d, hdi, hdv⟩ := DpAll.at ha hv
        refine ⟨rfl, ⟨_, rfl, v, 0, _, d, rfl, Dp.same p.1 hdv, ?_⟩⟩
        exact MapI.step hD p (by rw [List.getElem?_map, hdi]; rfl) (by show 2 ≤ 1000000; decide) (Same.refl _)
      · intro H4 pm
        obtain ⟨s4, hD4⟩ := pm.all (by rw [List.length_map, hlx]; exact Nat.le_refl _)
        refine ⟨D, [d2, d3].map (betw 0 (10 ^ 30)), rfl, SqL.of (by rw [hD4, List.map_map]; rfl), ?_⟩
        have z := q H4 (s1.trans (s2.trans s4))
        rw [show wordD (atD 1 (.tuple [.str "kill", d1, d2, d3])) = wordD d1 from rfl, w1, Bool.true_and] at z
        have e : (List.map (betw 0 (10 ^ 30)) [d2, d3]).all id = (betw 0 (10 ^ 30) d2 && betw 0 (10 ^ 30) d3) := by
          show (betw 0 (10 ^ 30) d2 && (betw 0 (10 ^ 30) d3 && true)) = _
          rw [Bool.and_true]
        rw [e]
        exact z
    | false =>
      rw [b6, if_neg (by decide)] at q
      refine iteF ?_
      exact q H (Same.refl H)
end
end L2.L87

set_option maxHeartbeats 1000000
namespace L2.L87
open PySem PySem.Spec PyProof.Rows NumText LR L2.Lr L2.Tx TL SkE
local macro_rules | `(tactic| walk_at "nx") => `(tactic| dsimp only [gName, tNext, tSeq, tAsg, List.set_cons_zero, List.set_cons_succ])
section
variable {P : Program} {w : World} {K : PySem.W.Frag} {mg : Str → Option Value} {base : Heap}
theorem ok_event {f fO fW fR fB : Addr} {fd dO dW dR dB : FuncData} (F : FnP K "is_event" sEvent f fd) (O : Def P w K mg base CX0 1 "is_tuple_of" fO dO ["thing", "word", "many"] (spTupOf K)) (Wd : Def P w K mg base CX0 1 "is_word" fW dW ["thing"] (spWord K))
    (Rq : Def P w K mg base CX0 3 "is_room" fR dR ["thing"] (spRoomQ K)) (N : Def P w K mg base CX0 2 "is_between" fB dB ["thing", "low", "high"] (spBetw K)) (T : Txt K mg) : FnOk P w K mg base CX0 4 f fd ["thing"] (spEvent K) := by
  refine F.ok scev (fun vs H Q E h => ?_) (fun cdv A outer s H vs Q E hr h => ?_)
  · obtain ⟨x, d, rfl, _⟩ := h
    rfl
  · obtain ⟨x, d, rfl, hd, so, q⟩ := h
    obtain ⟨tl', hfar⟩ := T.p.far
    have hr2 : Room 2 _ := hr.mono (by decide)
    have hr1 : Room 1 _ := hr2.mono (by decide)
    refine ⟨_, pss_cons (ps_if (pt_val (pe_call O.ok hr1 (by rfl) O.g O.k O.b .nil pass0 (pa_cons (pv 0) (pa_cons pe_str (pa_cons pe_int pa_nil))))) (pss_one (ps_ret (pe_and (pe_call Wd.ok hr1 (by rfl) Wd.g Wd.k Wd.b .nil pass0 (pa_cons (pe_ix ix_tup (pv 0) pe_int (fun _ _ => rfl)) pa_nil)) (pe_one (pe_call Rq.ok hr (by rfl) Rq.g Rq.k Rq.b .nil pass0 (pa_cons (pe_ix ix_tup (pv 0) pe_int (fun _ _ => rfl)) pa_nil)))))) pss_nil)
      (pss_cons (ps_if (pt_val (pe_call O.ok hr1 (by rfl) O.g O.k O.b .nil pass0 (pa_cons (pv 0) (pa_cons pe_str (pa_cons pe_int pa_nil))))) (pss_one (ps_ret (pe_call N.ok hr2 (by rfl) N.g N.k N.b .nil pass0 (pa_cons (pe_ix ix_tup (pv 0) pe_int (fun _ _ => rfl)) (pa_cons pe_int (pa_cons (pe_gI hfar (by rfl)) pa_nil)))))) pss_nil)
      (pss_one (ps_ret (pe_or (pe_call O.ok hr1 (by rfl) O.g O.k O.b .nil pass0 (pa_cons (pv 0) (pa_cons pe_str (pa_cons pe_int pa_nil)))) (pe_one (pe_call O.ok hr1 (by rfl) O.g O.k O.b .nil pass0 (pa_cons (pv 0) (pa_cons pe_str (pa_cons pe_int pa_nil))))))))), ?_⟩
    have e0 : start ["thing"] [x] = [some x] := rfl
    rw [e0]
    unfold eventB at q
    refine go_seq ⟨_, rfl, x, d, "room", 3, rfl, hd, by decide, _, rfl, ?_⟩
    cases b1 : tupOf "room" 3 d with
    | true =>
      rw [b1, if_pos rfl] at q
      obtain ⟨es, rfl, hl⟩ := tupOf_ok b1
      match es, hl with
      | [d1, d2], _ =>
      obtain ⟨t, v, vs, rfl, hS, h1, ha⟩ := tupD hd
      cases ha with
      | cons g1 ha =>
      cases ha with
      | cons g2 ha =>
      cases ha
      refine iteT ⟨_, rfl, t, _, 1, _, rfl, rfl, hS, at1, _, d1, rfl, g1, sOk_at so rfl (i := 1) rfl, fun H1 s1 => ⟨_, rfl, ?_⟩⟩
      have z := q H1 s1
      rw [show wordD (atD 1 (.tuple [.str "room", d1, d2])) = wordD d1 from rfl] at z
      cases w1 : wordD d1 with
      | false => rw [w1] at z; exact iteF z
      | true =>
        rw [w1, Bool.true_and] at z
        exact iteT ⟨_, rfl, t, _, 2, _, rfl, rfl, seqT s1 hS, at2, _, d2, rfl, Dp.same s1 g2, z⟩
    | false =>
    rw [b1, if_neg (by decide)] at q
    refine iteF ?_
    walk_at "nx"
    refine ⟨_, rfl, x, d, "n", 2, rfl, hd, by decide, _, rfl, ?_⟩
    cases b2 : tupOf "n" 2 d with
    | true =>
      rw [b2, if_pos rfl] at q
      obtain ⟨es, rfl, hl⟩ := tupOf_ok b2
      match es, hl with
      | [d1], _ =>
      obtain ⟨t, v, vs, rfl, hS, h1, ha⟩ := tupD hd
      cases ha with
      | cons g1 ha =>
      exact iteT ⟨_, rfl, t, _, 1, _, rfl, rfl, hS, at1, _, 0, _, d1, rfl, g1, q H (Same.refl H)⟩
    | false =>
    rw [b2, if_neg (by decide)] at q
    have q := q H (Same.refl H)
    refine iteF ?_
    walk_at "nx"
    refine ⟨_, rfl, x, d, "change", 2, rfl, hd, by decide, _, rfl, ?_⟩
    cases b3 : tupOf "change" 2 d with
    | true => rw [b3] at q; exact iteT q
    | false =>
      rw [b3, Bool.false_or] at q
      exact iteF ⟨_, rfl, x, d, "undo", 1, rfl, hd, by decide, q⟩
theorem event_shape {d : PyData} (h : eventB d = true) : ∃ w es, d = .tuple (.str w :: es) ∧ (w = "change" → ∃ c, es = [c]) := by
  unfold eventB at h
  cases b1 : tupOf "room" 3 d with
  | true =>
    obtain ⟨es, e, hl⟩ := tupOf_ok b1
    exact ⟨_, es, e, fun z => absurd z (by decide +kernel)⟩
  | false =>
  rw [b1, if_neg (by decide)] at h
  cases b2 : tupOf "n" 2 d with
  | true =>
    obtain ⟨es, e, hl⟩ := tupOf_ok b2
    exact ⟨_, es, e, fun z => absurd z (by decide +kernel)⟩
  | false =>
  rw [b2, if_neg (by decide)] at h
  cases b3 : tupOf "change" 2 d with
  | true =>
    obtain ⟨es, e, hl⟩ := tupOf_ok b3
    match es, hl with
    | [c], _ => exact ⟨_, [c], e, fun _ => ⟨c, rfl⟩⟩
  | false =>
    rw [b3, Bool.false_or] at h
    obtain ⟨es, e, hl⟩ := tupOf_ok h
    exact ⟨_, es, e, fun z => absurd z (by decide +kernel)⟩
theorem ok_tolde {f fE fC : Addr} {fd dE dC : FuncData} (F : FnP K "is_told_event" sToldE f fd) {k : Nat} (h4 : 4 ≤ k) (Ev : Def P w K mg base CX0 4 "is_event" fE dE ["thing"] (spEvent K)) (Ch : Def P w K mg base CX0 k "is_change" fC dC ["thing"] (spChange K)) :
    FnOk P w K mg base CX0 (k + 1) f fd ["thing"] (spToldE K) := by
  refine F.ok scte (fun vs H Q E h => ?_) (fun cdv A outer s H vs Q E hr h => ?_)
  · obtain ⟨x, d, rfl, _⟩ := h
    rfl
  · obtain ⟨x, d, rfl, hd, ⟨so, sl⟩, q⟩ := h
    refine ⟨_, pss_one (ps_ret (pe_and (pe_call Ev.ok (hr.mono h4) (by rfl) Ev.g Ev.k Ev.b .nil pass0 (pa_cons (pv 0) pa_nil)) (pe_one (pe_or (pe_cmpR op_ne (pe_ix ix_tup (pv 0) pe_int (fun _ _ => rfl)) pe_str (nomark _)) (pe_one (pe_call Ch.ok hr (by rfl) Ch.g Ch.k Ch.b .nil pass0 (pa_cons (pe_ix ix_tup (pv 0) pe_int (fun _ _ => rfl)) pa_nil))))))), ?_⟩
    have e0 : start ["thing"] [x] = [some x] := rfl
    rw [e0]
    refine ⟨_, rfl, x, d, rfl, hd, so, fun H1 s1 => ⟨_, rfl, ?_⟩⟩
    unfold toldB at q
    cases he : eventB d with
    | false => have z := q H1 s1; rw [he] at z; exact iteF z
    | true =>
      simp only [he, Bool.true_and] at q
      obtain ⟨w, es, rfl, hc⟩ := event_shape he
      obtain ⟨t, v, vs, rfl, hS, h1, ha⟩ := tupD (Dp.same s1 hd)
      cases strD h1
      refine iteT ⟨_, rfl, t, _, 0, _, rfl, rfl, hS, at0, rfl, _, rfl, ?_⟩
      have ew : isS "change" (atD 0 (.tuple (.str w :: es))) = decide (w = "change") := rfl
      rw [ew] at q
      by_cases hw : w = "change"
      · obtain ⟨c, rfl⟩ := hc hw
        cases ha with
        | cons g1 ha =>
        subst hw
        refine iteF ⟨_, rfl, t, _, 1, _, rfl, rfl, hS, at1, _, c, rfl, g1, sl _ rfl c (by simp), fun H2 s2 => ?_⟩
        exact q H2 (s1.trans s2)
      · rw [decide_eq_false hw] at q
        have z := q H1 s1
        refine (show _ from ?_)
        rw [dec_vs, decide_eq_false hw]
        exact iteT z
end
end L2.L87

set_option maxHeartbeats 1000000
namespace L2.L87
open PySem PySem.Spec PyProof.Rows NumText LR L2.Lr L2.Tx TL SkE
local macro_rules | `(tactic| walk_at "nx") => `(tactic| dsimp only [gName, tNext, tSeq, tAsg, List.set_cons_zero, List.set_cons_succ])
abbrev NLn : List Str := ["event", "told", "thing"]
theorem scln : FnScope NLn ["event"] (defScope sLineOf) := ⟨rfl, rfl, rfl, by decide +kernel, rfl, by decide +kernel, by decide +kernel⟩
def toldOf (d : PyData) : PyData := if isS "change" (atD 0 d) then atD 1 d else d
def strN : PyData → Str
  | .none => "none"
  | d => strOf d
def strOk' (d : PyData) : Prop := d = .none ∨ (∃ x, d = .str x ∧ wordD d = true) ∨ ∃ i : Int, d = .int i ∧ 0 ≤ i ∧ i ≤ 10 ^ 200
/-- the line of what is told -/
def lnT : PyData → Str
  | .tuple [.str w, .str p, .tuple ds] => if w = "row" then ("row " : Str) ++ p ++ spS ++ txM 5 ds else PySem.Txt.join spS (("join" : Str) :: p :: wordsD ds)
  | .tuple ts => PySem.Txt.join spS (ts.map strN)
  | _ => Str.empty
def lineD (d : PyData) : Str := lnT (toldOf d)
inductive Told : PyData → Prop where
  | row {p : Str} {ds : List PyData} (hp : wordD (.str p) = true) (ha : aprD (.tuple ds) = true) : Told (.tuple [.str "row", .str p, .tuple ds])
  | join {p : Str} {ds : List PyData} (hp : wordD (.str p) = true) (hd : diffB (.tuple ds) = true) : Told (.tuple [.str "join", .str p, .tuple ds])
  | other {w : Str} {es : List PyData} (h1 : w ≠ "row") (h2 : w ≠ "join") (hw : w.length ≤ 8) (hl : es.length ≤ 3) (he : ∀ e ∈ es, strOk' e) (hn : ∀ p ds, es ≠ [.str p, .tuple ds]) : Told (.tuple (.str w :: es))
theorem isW {d : PyData} (h : wordD d = true) : strOk' d := by
  cases d with
  | str x => exact .inr (.inl ⟨x, rfl, h⟩)
  | _ => cases h
theorem isN {d : PyData} {hi : Int} (hh : hi ≤ 10 ^ 200) (h : betw 0 hi d = true) : strOk' d := by
  obtain ⟨i, rfl, h0, h1⟩ := betw_int h
  exact .inr (.inr ⟨i, rfl, h0, by omega⟩)
theorem isRm {d : PyData} (h : roomB d = true) : strOk' d := by
  cases d with
  | none => exact .inl rfl
  | int i => exact isN (hi := 10 ^ 200) (Int.le_refl _) h
  | _ => cases h
theorem wS {d : PyData} (h : wordD d = true) : ∃ p, d = .str p := by
  cases d with
  | str x => exact ⟨x, rfl⟩
  | _ => cases h
theorem noTup {e : PyData} (h : strOk' e) : ∀ ds, e ≠ .tuple ds := fun ds z => by
  subst z
  rcases h with h | ⟨_, h, _⟩ | ⟨_, h, _⟩ <;> cases h
theorem strs2 {es : List PyData} (he : ∀ e ∈ es, strOk' e) : ∀ p ds, es ≠ [.str p, .tuple ds] := fun p ds z => by
  subst z
  exact noTup (he (.tuple ds) (by simp)) ds rfl
theorem change_told {d : PyData} (h : changeB d = true) : Told d := by
  unfold changeB at h
  have mk : ∀ {w : Str} {es : List PyData}, w ≠ "row" → w ≠ "join" → w.length ≤ 8 → es.length ≤ 3 → (∀ e ∈ es, strOk' e) → Told (.tuple (.str w :: es)) := fun a b c l e => .other a b c l e (strs2 e)
  cases b1 : tupOf "row" 3 d with
  | true =>
    rw [b1, if_pos rfl] at h
    obtain ⟨es, rfl, hl⟩ := tupOf_ok b1
    match es, hl with
    | [d1, d2], _ =>
      obtain ⟨h1, h2⟩ := Bool.and_eq_true_iff.mp (show (wordD d1 && aprD d2) = true from h)
      obtain ⟨p, rfl⟩ := wS h1
      cases d2 with
      | tuple ds => exact .row h1 h2
      | _ => cases h2
  | false =>
  rw [b1, if_neg (by decide)] at h
  cases b2 : tupOf "first" 3 d with
  | true =>
    rw [b2, if_pos rfl] at h
    obtain ⟨es, rfl, hl⟩ := tupOf_ok b2
    match es, hl with
    | [d1, d2], _ =>
      obtain ⟨h1, h2⟩ := Bool.and_eq_true_iff.mp (show (wordD d1 && betw 0 99 d2) = true from h)
      refine mk (by decide +kernel) (by decide +kernel) (by decide +kernel) (by simp) fun e he => ?_
      rcases List.mem_cons.mp he with rfl | he
      · exact isW h1
      · rw [List.mem_singleton.mp he]; exact isN (by decide +kernel) h2
  | false =>
  rw [b2, if_neg (by decide)] at h
  cases b3 : tupOf "join" 3 d with
  | true =>
    rw [b3, if_pos rfl] at h
    obtain ⟨es, rfl, hl⟩ := tupOf_ok b3
    match es, hl with
    | [d1, d2], _ =>
      obtain ⟨h1, h2⟩ := Bool.and_eq_true_iff.mp (show (wordD d1 && diffB d2) = true from h)
      obtain ⟨p, rfl⟩ := wS h1
      cases d2 with
      | tuple ds => exact .join h1 h2
      | _ => cases h2
  | false =>
  rw [b3, if_neg (by decide)] at h
  cases b4 : tupOf "part" 2 d with
  | true =>
    rw [b4, if_pos rfl] at h
    obtain ⟨es, rfl, hl⟩ := tupOf_ok b4
    match es, hl with
    | [d1], _ =>
      refine mk (by decide +kernel) (by decide +kernel) (by decide +kernel) (by simp) fun e he => ?_
      rw [List.mem_singleton.mp he]; exact isW h
  | false =>
  rw [b4, if_neg (by decide)] at h
  cases b5 : tupOf "relay" 4 d with
  | true =>
    rw [b5, if_pos rfl] at h
    obtain ⟨es, rfl, hl⟩ := tupOf_ok b5
    match es, hl with
    | [d1, d2, d3], _ =>
      obtain ⟨h1, h2⟩ := Bool.and_eq_true_iff.mp (show (wordD d1 && (wordD d2 && wordD d3)) = true from h)
      obtain ⟨h2, h3⟩ := Bool.and_eq_true_iff.mp h2
      refine mk (by decide +kernel) (by decide +kernel) (by decide +kernel) (by simp) fun e he => ?_
      simp only [List.mem_cons, List.not_mem_nil, or_false] at he
      rcases he with rfl | rfl | rfl
      · exact isW h1
      · exact isW h2
      · exact isW h3
  | false =>
  rw [b5, if_neg (by decide)] at h
  cases b6 : tupOf "kill" 4 d with
  | true =>
    rw [b6, if_pos rfl] at h
    obtain ⟨es, rfl, hl⟩ := tupOf_ok b6
    match es, hl with
    | [d1, d2, d3], _ =>
      obtain ⟨h1, h2⟩ := Bool.and_eq_true_iff.mp (show (wordD d1 && (betw 0 (10 ^ 30) d2 && betw 0 (10 ^ 30) d3)) = true from h)
      obtain ⟨h2, h3⟩ := Bool.and_eq_true_iff.mp h2
      refine mk (by decide +kernel) (by decide +kernel) (by decide +kernel) (by simp) fun e he => ?_
      simp only [List.mem_cons, List.not_mem_nil, or_false] at he
      rcases he with rfl | rfl | rfl
      · exact isW h1
      · exact isN (by decide +kernel) h2
      · exact isN (by decide +kernel) h3
  | false =>
    rw [b6, if_neg (by decide)] at h
    cases h
theorem told_told {d : PyData} (h : toldB d = true) : Told (toldOf d) := by
  obtain ⟨he, hc⟩ := Bool.and_eq_true_iff.mp h
  obtain ⟨w, es, rfl, hw⟩ := event_shape he
  have e : isS "change" (atD 0 (.tuple (.str w :: es))) = decide (w = "change") := rfl
  unfold toldOf
  rw [e] at hc ⊢
  by_cases hch : w = "change"
  · obtain ⟨c, rfl⟩ := hw hch
    rw [decide_eq_true hch] at hc ⊢
    exact change_told hc
  · rw [decide_eq_false hch, if_neg (by decide)]
    have mk : w ≠ "row" → w ≠ "join" → w.length ≤ 8 → es.length ≤ 3 → (∀ e ∈ es, strOk' e) → Told (.tuple (.str w :: es)) := fun a b c l e => .other a b c l e (strs2 e)
    unfold eventB at he
    cases b1 : tupOf "room" 3 (.tuple (.str w :: es)) with
    | true =>
      rw [b1, if_pos rfl] at he
      obtain ⟨es', e', hl⟩ := tupOf_ok b1
      cases e'
      match es, hl with
      | [d1, d2], _ =>
        obtain ⟨h1, h2⟩ := Bool.and_eq_true_iff.mp (show (wordD d1 && roomB d2) = true from he)
        refine mk (by decide +kernel) (by decide +kernel) (by decide +kernel) (by simp) fun e he => ?_
        rcases List.mem_cons.mp he with rfl | he
        · exact isW h1
        · rw [List.mem_singleton.mp he]; exact isRm h2
    | false =>
    rw [b1, if_neg (by decide)] at he
    cases b2 : tupOf "n" 2 (.tuple (.str w :: es)) with
    | true =>
      rw [b2, if_pos rfl] at he
      obtain ⟨es', e', hl⟩ := tupOf_ok b2
      cases e'
      match es, hl with
      | [d1], _ =>
        refine mk (by decide +kernel) (by decide +kernel) (by decide +kernel) (by simp) fun e he' => ?_
        rw [List.mem_singleton.mp he']; exact isN (by decide +kernel) he
    | false =>
    rw [b2, if_neg (by decide)] at he
    cases b3 : tupOf "change" 2 (.tuple (.str w :: es)) with
    | true =>
      obtain ⟨es', e', hl⟩ := tupOf_ok b3
      cases e'
      exact absurd rfl hch
    | false =>
      rw [b3, Bool.false_or] at he
      obtain ⟨es', e', hl⟩ := tupOf_ok he
      cases e'
      have : es = [] := List.eq_nil_of_length_eq_zero (by omega)
      subst this
      exact mk (by decide +kernel) (by decide +kernel) (by decide +kernel) (by simp) fun e he => by cases he
theorem lnT_other {w : Str} {es : List PyData} (hn : ∀ p ds, es ≠ [.str p, .tuple ds]) : lnT (.tuple (.str w :: es)) = PySem.Txt.join spS ((PyData.str w :: es).map strN) := by
  unfold lnT
  split
  · rename_i e
    cases e
    exact absurd rfl (hn _ _)
  · rename_i ts _ e
    cases e
    rfl
  · rename_i _ h
    exact absurd rfl (h _)
end L2.L87

set_option maxHeartbeats 1000000
namespace L2.L87
open PySem PySem.Spec PyProof.Rows NumText LR L2.Lr L2.Tx TL SkE
local macro_rules | `(tactic| walk_at "nx") => `(tactic| dsimp only [gName, tNext, tSeq, tAsg, List.set_cons_zero, List.set_cons_succ])
/-- a row of these parts -/
def RowD (K : PySem.W.Frag) (H : Hp) (v : V) (ds : List PyData) : Prop := ∃ p, v = .ref p ∧ RowAt' K H p ds
theorem RowD.same {K : PySem.W.Frag} {H H' : Hp} {v : V} {ds : List PyData} (r : RowD K H v ds) (s : Same H H') : RowD K H' v ds := by
  obtain ⟨p, e, y, m, ⟨dx, h⟩, hd⟩ := r
  exact ⟨p, e, y, m, ⟨dx, s _ _ h⟩, Dp.same s hd⟩
structure RMk (P : Program) (w : World) (K : PySem.W.Frag) (mg : Str → Option Value) (base : Heap) (k : Nat) (fI : Addr) (dI : FuncData) (fS : Addr) (dS : FuncData) : Prop where
  m : Mk K (CR K) fI
  ok : FnOk P w K mg base CX0 k fI dI ["self", "parts"] (spRow K)
  b : Binds K dI ["self", "parts"] []
  d : Dun K (CR K) fS "__str__"
  fm : FmtO K (CR K)
  sk : FnOk P w K mg base CX0 k fS dS ["self"] (spStr K)
  sb : Binds K dS ["self"] []
theorem row_go {K : PySem.W.Frag} {H : Hp} {u : V} {ds : List PyData} {Q : VK} {E : XK} (hu : Dp K H u (.tuple ds)) (ok : RowOk ds) (q : ∀ r H', Same H H' → H r = none → RowAt' K H' r ds → Q (.ref r) H') :
    ∀ x dx, H x = none → H dx = none → dx ≠ x → spRow K [.ref x, u] (upd (upd H dx (.own x)) x (.ins (CR K) dx [])) (fun v H2 => v = .non ∧ Q (.ref x) H2) E := by
  intro x dx hx hdx hne
  have sl : Same H (upd (upd H dx (.own x)) x (.ins (CR K) dx [])) := fun b o hb => (upd_ne (ne_of_none hb hx)).trans ((upd_ne (ne_of_none hb hdx)).trans hb)
  refine ⟨x, dx, u, ds, rfl, upd_same, Dp.same sl hu, ok, fun H' y keep hR hy => ⟨rfl, q x H' (fun b o hb => ?_) hx ⟨y, _, hR, hy⟩⟩⟩
  have n1 : b ≠ x := ne_of_none hb hx
  have n2 : b ≠ dx := ne_of_none hb hdx
  exact keep b o ((upd_ne n1).trans ((upd_ne n2).trans hb)) n1
theorem row_ok {ds : List PyData} (so : sOk (.tuple ds)) (h : aprD (.tuple ds) = true) : RowOk ds := by
  obtain ⟨h1, h2⟩ := Bool.and_eq_true_iff.mp (show (decide (howF (sizeD 4) (.tuple ds) ≤ 60) && goesD ds) = true from h)
  have h1 := of_decide_eq_true h1
  have hl := goL_len (sizeD_pos 4) ds 0 (by decide) h1
  exact ⟨so, by omega, goL_shape ds 0 (by decide) h1, h1, h2⟩
def spLineOf (K : PySem.W.Frag) : Sp := fun vs H Q _ => ∃ x d, vs = [x] ∧ Dp K H x d ∧ ShE d ∧ toldB d = true ∧ ∀ H', Same H H' → Q (.str (lineD d)) H'
theorem sum_words {ds : List PyData} (h : ds.all wordD = true) : ((wordsD ds).map (·.length)).sum ≤ ds.length * 8 := by
  have := sum_le (m := 8) (l := (wordsD ds).map (·.length)) fun x hx => by
    obtain ⟨y, hy, rfl⟩ := List.mem_map.mp hx
    obtain ⟨d, hd, rfl⟩ := List.mem_map.mp hy
    have hw := List.all_eq_true.mp h d hd
    cases d with
    | str x => exact (word_len hw).2
    | _ => cases hw
  rw [List.length_map] at this
  unfold wordsD at this
  rw [List.length_map] at this
  exact this
theorem strN_len {e : PyData} (h : strOk' e) : (strN e).length ≤ 202 := by
  rcases h with rfl | ⟨x, rfl, hw⟩ | ⟨i, rfl, h0, h1⟩
  · decide +kernel
  · have := (word_len hw).2
    show x.length ≤ 202
    omega
  · exact intT_len (k := 201) (by decide) (by
      have : i.natAbs ≤ 10 ^ 200 := by omega
      exact Nat.lt_of_le_of_lt this (by decide +kernel))
section
variable {P : Program} {w : World} {K : PySem.W.Frag} {mg : Str → Option Value} {base : Heap}
theorem ok_lineof {f fI fS : Addr} {fd dI dS : FuncData} (F : FnP K "line_of" sLineOf f fd) (T : Txt K mg) {k : Nat} (M : RMk P w K mg base k fI dI fS dS) : FnOk P w K mg base CX0 (k + 2) f fd ["event"] (spLineOf K) := by
  refine F.ok scln (fun vs H Q E h => ?_) (fun cdv A outer s H vs Q E hr h => ?_)
  · obtain ⟨x, d, rfl, _⟩ := h
    rfl
  · obtain ⟨x, d, rfl, hd, ⟨so, sl⟩, ht, q⟩ := h
    have sz : sizeLine = 16777216 := sizeLine_eq
    refine ⟨_, PSs.nox (C8.pss_cut (ps_set (i := 1) scln.nd rfl (Or.inl rfl) (pe_ifExp (pt_cmpR op_eq (pe_ix ix_tup (pv 0) pe_int (fun _ _ => rfl)) pe_str (nomark _)) (pe_ix ix_tup (pv 0) pe_int (fun _ _ => rfl)) (pv 0)))
      (pss_cons (ps_if (pt_cmpR op_eq (pe_ix ix_tup (pv 1) pe_int (fun _ _ => rfl)) pe_str (nomark _)) (pss_one (ps_ret (pe_joined (.cons pe_str (.cons (pe_fmt (pe_ix ix_tup (pv 1) pe_int (fun _ _ => rfl))) (.cons pe_str (.cons (pe_fmtO (E := E0) M.d M.fm M.sk hr M.sb pass0 (pe_make M.m M.ok hr (by rfl) T.gR M.b .nil pass0 (pa_cons (pe_ix ix_tup (pv 1) pe_int (fun _ _ => rfl)) pa_nil))) .nil))))))) pss_nil)
      (pss_cons (ps_if (pt_cmpR op_eq (pe_ix ix_tup (pv 1) pe_int (fun _ _ => rfl)) pe_str (nomark _)) (pss_one (ps_ret (pe_join pe_str (pe_op op_cat (pe_lst (pa_cons pe_str (pa_cons (pe_ix ix_tup (pv 1) pe_int (fun _ _ => rfl)) pa_nil))) (pe_callTy call_list_of (by rfl) T.list bbL (pa_cons (pe_ix ix_tup (pv 1) pe_int (fun _ _ => rfl)) pa_nil)))))) pss_nil)
      (pss_one (ps_ret (pe_join pe_str (pe_lc (own := [("thing", 2)]) (g := gName 2) (tt := tYes) rfl scln.nd (pi_tup (pv 1)) (blkOk_by (N := NLn) (sc := defScope sLineOf) (by decide +kernel)) (fun _ _ _ _ _ => pg_name (i := 2) scln.nd rfl (Or.inl rfl)) (fun _ _ _ _ _ => pts_nil) (fun _ _ _ _ _ => pe_ifExp (pt_cmpR op_isN (pv 2) pe_non (nomark _)) pe_str (pe_callTy (call_strD K rfl) (by rfl) T.p.str bbS (pa_cons (pv 2) pa_nil)))))))))), ?_⟩
    have e0 : start NLn [x] = [some x, none, none] := rfl
    rw [e0]
    have hto := told_told ht
    have hev : eventB d = true := (Bool.and_eq_true_iff.mp ht).1
    have shl : ∀ w p ds, toldOf d = .tuple [.str w, .str p, .tuple ds] → ds.length ≤ 4000 := fun w p ds e => by
      obtain ⟨w0, es, rfl, hw⟩ := event_shape hev
      have e1 : isS "change" (atD 0 (.tuple (.str w0 :: es))) = decide (w0 = "change") := rfl
      unfold toldOf at e
      rw [e1] at e
      by_cases hc : w0 = "change"
      · obtain ⟨c, rfl⟩ := hw hc
        rw [decide_eq_true hc, if_pos rfl] at e
        have e2 : c = .tuple [.str w, .str p, .tuple ds] := e
        exact (sl _ rfl c (by simp)).2 _ e2 (.tuple ds) (by simp) ds rfl
      · rw [decide_eq_false hc, if_neg (by decide)] at e
        cases e
        unfold eventB at hev
        have no : ∀ m, tupOf "room" m (.tuple [.str w, .str p, .tuple ds]) = true → roomB (.tuple ds) = true → False := fun _ _ z => by cases z
        cases b1 : tupOf "room" 3 (.tuple [.str w, .str p, .tuple ds]) with
        | true =>
          rw [b1, if_pos rfl] at hev
          have z : (wordD (.str p) && roomB (.tuple ds)) = true := hev
          rw [show roomB (.tuple ds) = false from rfl, Bool.and_false] at z
          cases z
        | false =>
          rw [b1, if_neg (by decide)] at hev
          have n2 : tupOf "n" 2 (.tuple [.str w, .str p, .tuple ds]) = false := rfl
          have n3 : tupOf "change" 2 (.tuple [.str w, .str p, .tuple ds]) = false := rfl
          have n4 : tupOf "undo" 1 (.tuple [.str w, .str p, .tuple ds]) = false := rfl
          rw [n2, n3, n4] at hev
          cases hev
    refine ⟨fun σ' H' => ∃ y, σ' = [some x, some y, none] ∧ H' = H ∧ Dp K H y (toldOf d) ∧ sOk (toldOf d), ?_, ?_⟩
    · obtain ⟨w, es, rfl, hw⟩ := event_shape hev
      obtain ⟨t, v, vs, rfl, hS, h1, ha⟩ := tupD hd
      cases strD h1
      have e : isS "change" (atD 0 (.tuple (.str w :: es))) = decide (w = "change") := rfl
      unfold toldOf
      rw [e]
      refine ⟨_, rfl, t, _, 0, _, rfl, rfl, hS, at0, rfl, _, rfl, str_if (fun hc => ?_) fun hc => ?_⟩
      · obtain ⟨c, rfl⟩ := hw hc
        cases ha with
        | cons g1 ha =>
        cases ha
        rw [decide_eq_true hc]
        exact ⟨_, rfl, t, _, 1, _, rfl, rfl, hS, at1, _, rfl, rfl, g1, sOk_at so rfl (i := 1) rfl⟩
      · rw [decide_eq_false hc]
        exact ⟨_, rfl, _, rfl, rfl, hd, so⟩
    rintro σ2 H2 ⟨y, rfl, rfl, hy, soy⟩
    unfold lineD at q
    generalize toldOf d = t0 at hto hy soy q shl
    cases hto with
    | @row p ds hp ha =>
      obtain ⟨t, v, vs, rfl, hS, h1, h2⟩ := tupD hy
      cases strD h1
      cases h2 with
      | cons g1 h2 =>
      cases h2 with
      | cons g2 h2 =>
      cases h2
      cases strD g1
      have so2 : sOk (.tuple ds) := sOk_at soy rfl (i := 2) rfl
      have ok := row_ok so2 ha
      have hp8 := (word_len hp).2
      refine ⟨_, rfl, t, _, 0, _, rfl, rfl, hS, at0, rfl, _, rfl, str_if (fun _ => ?_) fun z => absurd rfl z⟩
      refine ⟨("row " : Str), rfl, by rw [empty_app, sz]; decide, _, rfl, t, _, 1, _, rfl, rfl, hS, at1, .inl ⟨p, rfl, by omega, p, rfl, ?_, spS, rfl, ?_, _, rfl, t, _, 2, _, rfl, rfl, hS, at2, ?_⟩⟩
      · rw [empty_app, len_app, sz]
        show 4 + _ ≤ _
        omega
      · rw [empty_app, len_app, len_app, sz]
        show 4 + _ + 1 ≤ _
        omega
      intro r dx0 hr0 hdx hne
      have sl0 : Same H2 (upd (upd H2 dx0 (.own r)) r (.ins (CR K) dx0 [])) := fun b o hb => (upd_ne (ne_of_none hb hr0)).trans ((upd_ne (ne_of_none hb hdx)).trans hb)
      refine ⟨r, dx0, _, ds, rfl, upd_same, Dp.same sl0 g2, ok, fun H3 y keep hR hyd => ⟨rfl, ?_⟩⟩
      have s3 : Same H2 H3 := fun b o hb => keep b o ((upd_ne (ne_of_none hb hr0)).trans ((upd_ne (ne_of_none hb hdx)).trans hb)) (ne_of_none hb hr0)
      obtain ⟨dx, hra⟩ := hR
      refine ⟨r, dx, _, rfl, hra, r, ds, rfl, ⟨y, _, ⟨dx, hra⟩, hyd⟩, ok.h, fun H4 s4 => ⟨_, rfl, _, rfl, ?_, ?_⟩⟩
      · have : (txM 5 ds).length ≤ 2640 := (txM_len (n := 4) (by decide) ok.h).1
        rw [empty_app, len_app, len_app, len_app, sz]
        show 4 + _ + 1 + _ ≤ _
        omega
      · rw [empty_app]
        exact q H4 (s3.trans s4)
    | @join p ds hp hdf =>
      obtain ⟨t, v, vs, rfl, hS, h1, h2⟩ := tupD hy
      cases strD h1
      cases h2 with
      | cons g1 h2 =>
      cases h2 with
      | cons g2 h2 =>
      cases h2
      cases strD g1
      obtain ⟨t2, xs, rfl, hS2, ha2⟩ := tupDv g2
      obtain ⟨_, hda⟩ := Bool.and_eq_true_iff.mp (show (decide (2 ≤ ds.length) && (ds.all wordD && decide (wordsD ds).Nodup)) = true from hdf)
      obtain ⟨haw, _⟩ := Bool.and_eq_true_iff.mp hda
      have ex := words_of ha2 haw
      have hl : ds.length ≤ 4000 := by
        exact shl _ _ ds rfl
      refine ⟨_, rfl, t, _, 0, _, rfl, rfl, hS, at0, rfl, _, rfl, str_if (fun z => absurd z (by decide +kernel)) fun _ => ?_⟩
      walk_at "nx"
      refine ⟨_, rfl, t, _, 0, _, rfl, rfl, hS, at0, rfl, _, rfl, str_if (fun _ => ?_) fun z => absurd rfl z⟩
      refine ⟨⟨_, rfl⟩, _, rfl, t, _, 1, _, rfl, rfl, hS, at1, by show 2 ≤ sizeLine; decide, fun l nl => ?_⟩
      have s1 := same_upd (o := .lst [.str "join", .str p]) nl
      have hL := upd_same (H := H2) (a := l) (o := .lst [.str "join", .str p])
      generalize upd H2 l (.lst [.str "join", .str p]) = H3 at s1 hL ⊢
      refine ⟨_, rfl, t, _, 2, _, rfl, rfl, seqT s1 hS, at2, t2, xs, rfl, .inr (seqT s1 hS2), fun l2 nl2 => ?_⟩
      have s2 := same_upd (o := .lst xs) nl2
      have hL2 := upd_same (H := H3) (a := l2) (o := .lst xs)
      generalize upd H3 l2 (.lst xs) = H4 at s2 hL2 ⊢
      have lw : (wordsD ds).length = ds.length := by unfold wordsD; rw [List.length_map]
      have lx : xs.length = ds.length := DpAll.length ha2
      refine ⟨_, _, _, _, rfl, rfl, s2 _ _ hL, hL2, ?_, fun r nr => ?_⟩
      · rw [lx, sz]
        show 2 + _ ≤ _
        omega
      · have e : [V.str "join", V.str p] ++ xs = (("join" : Str) :: p :: wordsD ds).map V.str := by rw [ex]; rfl
        rw [e]
        refine ⟨spS, r, _, rfl, rfl, .inl (SqL.of upd_same), ?_, ?_⟩
        · have h8 := (word_len hp).2
          have hs := sum_words haw
          have h3 : spS.length = 1 := rfl
          rw [h3]
          simp only [List.map_cons, List.sum_cons, List.length_cons]
          show 4 + (p.length + _) + _ ≤ _
          omega
        · have z := q _ (s1.trans (s2.trans (same_upd nr (o := .lst ((("join" : Str) :: p :: wordsD ds).map V.str)))))
          have el : lnT (.tuple [.str "join", .str p, .tuple ds]) = if ("join" : Str) = "row" then ("row " : Str) ++ p ++ spS ++ txM 5 ds else PySem.Txt.join spS (("join" : Str) :: p :: wordsD ds) := rfl
          rw [el, if_neg (by decide +kernel)] at z
          exact z
    | @other w es n1 n2 hw hl he hn =>
      obtain ⟨t, xs, rfl, hS, ha⟩ := tupDv hy
      obtain ⟨v, vs, rfl⟩ : ∃ v vs, xs = v :: vs := by cases ha; exact ⟨_, _, rfl⟩
      have hv : v = .str w := by cases ha with | cons h1 _ => exact strD h1
      subst hv
      refine ⟨_, rfl, t, _, 0, _, rfl, rfl, hS, at0, rfl, _, rfl, str_if (fun z => absurd z n1) fun _ => ?_⟩
      walk_at "nx"
      refine ⟨_, rfl, t, _, 0, _, rfl, rfl, hS, at0, rfl, _, rfl, str_if (fun z => absurd z n2) fun _ => ?_⟩
      walk_at "nx"
      have hlx := DpAll.length ha
      have hls : ((PyData.str w :: es).map strN).length ≤ 4 := by rw [List.length_map, List.length_cons]; omega
      have kind : ∀ e ∈ (PyData.str w :: es), e = .none ∨ (∃ x, e = .str x) ∨ ∃ i : Int, e = .int i ∧ i.natAbs.log2 < 1920 := fun e me => by
        rcases List.mem_cons.mp me with rfl | me
        · exact .inr (.inl ⟨w, rfl⟩)
        · rcases he e me with h | ⟨x, h, _⟩ | ⟨i, h, h0, h1⟩
          · exact .inl h
          · exact .inr (.inl ⟨x, h⟩)
          · exact .inr (.inr ⟨i, h, log_200 (by omega)⟩)
      refine ⟨⟨_, rfl⟩, _, rfl, t, rfl, ⟨_, hS⟩, fun D hD => lc_tup (K := K) (a := t) (xs := _) (MapI H2 D ((PyData.str w :: es).map fun d => V.str (strN d))) (MapI.zero hD) (fun i H' _ p => seqT p.1 hS) ?_ ?_⟩
      · rintro i v H4 hv p
        obtain ⟨d, hdi, hdv⟩ := DpAll.at ha hv
        have stp : ∀ {u : V}, u = V.str (strN d) → _ := fun {u} eu => MapI.step hD p (y := u) (by rw [List.getElem?_map, hdi, eu]; rfl) (by rw [List.length_map]; exact Nat.le_trans (show _ ≤ 4 by rw [List.length_cons]; omega) (by decide)) (Same.refl H4)
        rcases kind d (List.mem_of_getElem? hdi) with rfl | ⟨x, rfl⟩ | ⟨j, rfl, hj⟩
        · cases nonDv hdv
          exact ⟨rfl, ⟨_, rfl, rfl, _, rfl, iteT (stp rfl)⟩⟩
        · have hdv' := Dp.same p.1 hdv
          cases strD hdv
          exact ⟨rfl, ⟨_, rfl, rfl, _, rfl, iteF ⟨_, rfl, _, _, rfl, hdv', .inl ⟨x, rfl⟩, stp rfl⟩⟩⟩
        · have hdv' := Dp.same p.1 hdv
          cases intDv hdv
          exact ⟨rfl, ⟨_, rfl, rfl, _, rfl, iteF ⟨_, rfl, _, _, rfl, hdv', .inr ⟨j, rfl, hj⟩, stp rfl⟩⟩⟩
      · intro H4 pm
        obtain ⟨s4, hD4⟩ := pm.all (by rw [List.length_map, hlx]; exact Nat.le_refl _)
        refine ⟨spS, D, (PyData.str w :: es).map strN, rfl, rfl, .inl (SqL.of (by rw [hD4, List.map_map]; rfl)), ?_, ?_⟩
        · have hs := sum_le (m := 202) (l := ((PyData.str w :: es).map strN).map (·.length)) fun x hx => by
            obtain ⟨y, hy, rfl⟩ := List.mem_map.mp hx
            obtain ⟨e, me, rfl⟩ := List.mem_map.mp hy
            rcases List.mem_cons.mp me with rfl | me
            · show w.length ≤ 202
              omega
            · exact strN_len (he e me)
          have h3 : spS.length = 1 := rfl
          rw [List.length_map] at hs
          rw [h3]
          omega
        · rw [← lnT_other hn]
          exact q H4 s4
end
end L2.L87

set_option maxHeartbeats 1000000
/-! enumerate(text) -/
namespace L2.Lr
open PySem PySem.Spec PyProof.Rows
/-- a text's signs, each in a new pair with its number -/
def IteS (x : Str) : It := ⟨fun i _ => i < x.cps.size, fun i H v H' => ∃ T c, v = .ref T ∧ H T = none ∧ H' = upd H T (.tup [.int (i : Nat), .str ⟨#[c]⟩]) ∧ x.cps[i]? = some c, fun i _ => i = x.cps.size⟩
theorem walk_enumS {x : Str} : Walk (IteS x) x.cps.size (fun _ => True) (fun i H v H' => ∃ T c, v = .ref T ∧ H T = none ∧ H' = upd H T (.tup [.int (i : Nat), .str ⟨#[c]⟩]) ∧ x.cps[i]? = some c) :=
  ⟨fun _ _ hi _ => hi, fun _ _ => rfl, fun _ _ _ _ _ _ y => y⟩
/-- the names of a text's iterator -/
abbrev sgn (ty : String) : Prop := ty = "str_ascii_iterator" ∨ ty = "str_iterator"
theorem draw_sgn {P : Program} {w : World} {A : Around} (hh : A.handled = none) {ty : String} (h : sgn ty) (it : Addr) (x : Str) (t : Tok) : Draws P w A it [it] x.cps.size (fun i v => ∃ c u, x.cps[i]? = some c ∧ v = .str ⟨#[c]⟩ u) (fun i h => h.IsStrIter it ty x t i) := by
  rcases h with e | e
  · rw [e]; exact Draws.strAscii hh it x t
  · rw [e]; exact Draws.strWide hh it x t
theorem turn_enumS {P : Program} {w : World} {K : PySem.W.Frag} {elts : List Expr} {kk : Nat} {tpos : Pos} (e it : Addr) (x : Str) (t : Tok) (ty : String) (hty : sgn ty) :
    Turn P w K (.Tuple elts kk tpos) (IteS x) [e, it] e (fun i h => (∃ old, IsEnum h e it ((i : Nat) : Int) old) ∧ h.IsStrIter it ty x t i ∧ e ≠ it) where
  mem := by simp
  obj := fun i h st b hb => by
    obtain ⟨⟨old, he⟩, ⟨o, ho, _, hd⟩, _⟩ := st
    simp only [List.mem_cons, List.not_mem_nil, or_false] at hb
    rcases hb with rfl | rfl
    · exact ⟨_, he, fun v q => nomatch q⟩
    · exact ⟨o, ho, fun v q => by rw [hd] at q; cases q⟩
  keep := fun i h h' st k => by
    obtain ⟨⟨old, he⟩, ⟨o, ho, r⟩, hne⟩ := st
    exact ⟨⟨old, k e (by simp) _ he⟩, ⟨o, k it (by simp) o ho, r⟩, hne⟩
  item := by
    intro X hP hw hK hc i pins s σ H E I hf st hg
    subst hP; subst hw; subst hK
    obtain ⟨⟨old, he⟩, hit, hne⟩ := st
    have D := draw_sgn (P := X.prog) (w := X.w) (A := X.A.in1) (by simp [I.ok.hd hc]) hty it x t
    have le : e < s.heap.objs.size := Heap.lt_size he
    have li : it < s.heap.objs.size := by obtain ⟨_, q, _⟩ := hit; exact Heap.lt_size q
    refine wpAny_pyNext_enum_itemD D he hit hg hne (fun z => hne (List.mem_singleton.mp z)) fun y h1 tk hy ho hit1 hT hsz hk => ?_
    obtain ⟨c, u, hcx, rfl⟩ := hy
    refine ⟨_, rfl, wpAny_letOwnedTupleGo_enum (s := { s with heap := h1, toks := tk + 1 }) ho fun h2 he2 sb => ?_⟩
    have hT2 : h2.get? s.heap.objs.size = some { cls := .type "tuple", data := .seq #[.int i tk, .str ⟨#[c]⟩ u] } := (sb.2 _ (Nat.ne_of_gt le)).trans hT
    have new : ObjOk X.prog X.w (upd H s.heap.objs.size (.tup [.int (i : Nat), .str ⟨#[c]⟩])) h2 s.heap.objs.size (.tup [.int (i : Nat), .str ⟨#[c]⟩]) :=
      ⟨by show 2 ≤ sizeLine; decide, [.int i tk, .str ⟨#[c]⟩ u], .cons ⟨_, rfl⟩ (.cons ⟨_, rfl⟩ .nil), ⟨_, hT2, rfl, _, rfl⟩⟩
    have I1 : Inv X pins σ (upd H s.heap.objs.size (.tup [.int (i : Nat), .str ⟨#[c]⟩])) { s with heap := h2, toks := tk + 1 } :=
      I.turnedNew (ch := [e, it]) (fun b ob hb q => (sb.2 b (fun z => hb (by simp [z]))).trans (hk b ob (fun z => hb (by simp [z])) (fun z => hb (by simp [z])) q)) hf (Nat.le_refl _) new
    refine ⟨.ref s.heap.objs.size, _, I1, rfl, ⟨_, c, rfl, I.hok.fresh (Nat.le_refl _), rfl, hcx⟩, ⟨⟨Value.str ⟨#[c]⟩ u, ?_⟩, ?_, hne⟩, fun b hb => ?_⟩
    · have e1 : ((i + 1 : Nat) : Int) = (i : Int) + 1 := by omega
      rw [e1]; exact he2
    · obtain ⟨o, q, r⟩ := hit1
      exact ⟨o, (sb.2 it (Ne.symm hne)).trans q, r⟩
    · have lb : b < s.heap.objs.size := by
        simp only [List.mem_cons, List.not_mem_nil, or_false] at hb
        rcases hb with rfl | rfl
        · exact le
        · exact li
      rw [upd_ne (Nat.ne_of_lt lb)]
      exact (hf b hb).1
  done := by
    intro X hP hw hK hc i pins s σ H E I hf st hg
    subst hP; subst hw; subst hK
    obtain ⟨⟨old, he⟩, hit, hne⟩ := st
    have hg : i = x.cps.size := hg
    rw [hg] at hit
    obtain ⟨f0, f1, f2, f3, f4, f5⟩ := hf it (by simp)
    have D := draw_sgn (P := X.prog) (w := X.w) (A := X.A.in1) (by simp [I.ok.hd hc]) hty it x t
    exact wpAny_pyNext_enum_endD D he hit fun h1 eb => ⟨rfl, I.turned (t' := s.toks) (fun b o hb q => eb b o hb q) f0 f1 f3 f4 f5⟩
  self := fun A i s Q E st h => by
    obtain ⟨⟨_, he⟩, _⟩ := st
    exact wpAny_pyIter_enum he h
def iEnumS (ta : TA) : TI := fun σ H R => ta σ H fun vs H1 => ∃ x, vs = [.str x] ∧ R (IteS x) H1
theorem pi_enumS {X : Cx} {e : Expr} {ta : TA} {p pos tpos : Pos} {elts : List Expr} {kk : Nat} (hg : Gl X "enumerate") (hm : X.mg "enumerate" = none) (ha : PA X [e] ta) (hs : starEach [e] X.env = [(false, eval e X.env)] := by rfl) :
    PI X (.Tuple elts kk tpos) (.Call (.Name "enumerate" p) [e] [] pos) (iEnumS ta) := by
  refine ⟨fun pins s σ H R I h => Call_ (ld_blt I hg hm boot_enumerate (PyProof.Rows.callWith_type1 (thn (ha.run pos pins s σ H _ I h) fun us s1 ⟨vs, H1, I1, r1, q1⟩ => ?_) hs rfl))⟩
  obtain ⟨x, rfl, q⟩ := q1
  cases r1 with
  | cons r rr =>
  cases rr
  obtain ⟨t, rfl⟩ := r
  have hty : sgn (strIterType x) := by
    unfold sgn strIterType
    split <;> simp
  refine call_enumerate_str fun h1 he hit hsz hk => wpAny_pyIter_enum he ?_
  have I2 : Inv X pins σ H1 { s1 with heap := h1 } := I1.kept (t' := s1.toks) hk
  refine ⟨s1.heap.objs.size + 1, [s1.heap.objs.size + 1, s1.heap.objs.size], _, _, H1, rfl, I2, turn_enumS (s1.heap.objs.size + 1) s1.heap.objs.size x t (strIterType x) hty, ⟨⟨.none, he⟩, hit, Nat.succ_ne_self _⟩, fun b hb => ?_, q⟩
  have le : s1.heap.objs.size ≤ b := by
    simp only [List.mem_cons, List.not_mem_nil, or_false] at hb
    rcases hb with rfl | rfl
    · exact Nat.le_add_right _ _
    · exact Nat.le_refl _
  exact I1.fpOk le (I1.hok.fresh le)
end L2.Lr

set_option maxHeartbeats 1000000
namespace L2.L87
open PySem PySem.Spec PyProof.Rows NumText LR L2.Lr L2.Tx TL SkE
local macro_rules | `(tactic| walk_at "nx") => `(tactic| dsimp only [gName, tNext, tSeq, tAsg, List.set_cons_zero, List.set_cons_succ])
abbrev NPc : List Str := ["text", "pieces", "depth", "start", "at", "sign"]
theorem scpc : FnScope NPc ["text"] (defScope sPieces) := ⟨rfl, rfl, rfl, by decide +kernel, rfl, by decide +kernel, by decide +kernel⟩
theorem scam : FnScope ["thing", "words"] ["thing", "words"] (defScope sAmong) := ⟨rfl, rfl, rfl, by decide +kernel, rfl, by decide +kernel, by decide +kernel⟩
theorem scsi : FnScope ["words"] ["words"] (defScope sSingIn) := ⟨rfl, rfl, rfl, by decide +kernel, rfl, by decide +kernel, by decide +kernel⟩
/-- the pieces from sign i on: d brackets are open, the piece began at st -/
def pcG (t : Str) : List Nat → Nat → Int → Nat → List Str
  | [], _, _, st => [cutS t (some (st : Int)) none]
  | c :: r, i, d, st => if c = 40 then pcG t r (i + 1) (d + 1) st else if c = 41 then pcG t r (i + 1) (d - 1) st else
    if c = 59 ∧ d = 0 then cutS t (some (st : Int)) (some (i : Int)) :: pcG t r (i + 1) d (i + 2) else pcG t r (i + 1) d st
def pcs (t : Str) : List Str := if t = Str.empty then [] else pcG t (tl t) 0 0 0
theorem pcG_len (t : Str) : ∀ (l : List Nat) (i : Nat) (d : Int) (st : Nat), (pcG t l i d st).length ≤ l.length + 1 ∧ ∀ p ∈ pcG t l i d st, p.length ≤ t.length
  | [], i, d, st => ⟨Nat.le_refl _, fun p hp => by rw [List.mem_singleton.mp hp]; exact cut_le _ _ _⟩
  | c :: r, i, d, st => by
    unfold pcG
    rw [List.length_cons]
    split
    · exact ⟨Nat.le_succ_of_le (pcG_len t r _ _ _).1, (pcG_len t r _ _ _).2⟩
    · split
      · exact ⟨Nat.le_succ_of_le (pcG_len t r _ _ _).1, (pcG_len t r _ _ _).2⟩
      · split
        · refine ⟨Nat.succ_le_succ (pcG_len t r _ _ _).1, fun p hp => ?_⟩
          rcases List.mem_cons.mp hp with rfl | hp
          · exact cut_le _ _ _
          · exact (pcG_len t r _ _ _).2 p hp
        · exact ⟨Nat.le_succ_of_le (pcG_len t r _ _ _).1, (pcG_len t r _ _ _).2⟩
theorem pcs_len (t : Str) : (pcs t).length ≤ t.length + 1 ∧ ∀ p ∈ pcs t, p.length ≤ t.length := by
  unfold pcs
  split
  · exact ⟨Nat.zero_le _, fun p hp => by cases hp⟩
  · have := pcG_len t (tl t) 0 0 0
    rw [← len_tl] at this
    exact this
def spPieces (K : PySem.W.Frag) : Sp := fun vs H Q _ => ∃ t : Str, vs = [.str t] ∧ t.length ≤ 100000 ∧ ∀ r H', Same H H' → H r = none → H' r = some (.lst ((pcs t).map V.str)) → Q (.ref r) H'
def sngD : List Str → PyData
  | [w, c] => if w = "work" then .tuple [.str w, optD (figO (tl c) 2)] else if w = "send" ∨ w = "take" then .tuple [.str w, .str c, .int 1] else .none
  | [w, c, k] => if w = "send" ∨ w = "take" then .tuple [.str w, .str c, optD (figO (tl k) 1)] else .none
  | _ => .none
def spAmong : Sp := fun vs H Q _ => ∃ (x a b : Str) (t : Addr), vs = [.str x, .ref t] ∧ H t = some (.tup [.str a, .str b]) ∧ Q (.bl (decide (x = a) || decide (x = b))) H
def spSingIn (K : PySem.W.Frag) : Sp := fun vs H Q _ => ∃ (p : Addr) (ws : List Str), vs = [.ref p] ∧ H p = some (.lst (ws.map V.str)) ∧ ws ≠ [] ∧ (∀ x ∈ ws, x.length ≤ 100000) ∧ ws.length ≤ 100001 ∧ ∀ v H', Same H H' → Dp K H' v (sngD ws) → Q v H'
theorem sign_eq {c k : Nat} {s : Str} (e : tl s = [k]) : (⟨#[c]⟩ : Str) = s ↔ c = k := ⟨fun z => by have z2 : [c] = [k] := (congrArg tl z).trans e; cases z2; rfl, fun z => tl_inj (by rw [e, z])⟩
section
variable {P : Program} {w : World} {K : PySem.W.Frag} {mg : Str → Option Value} {base : Heap}
theorem ok_pieces {f : Addr} {fd : FuncData} (F : FnP K "_pieces_of" sPieces f fd) (T : Txt K mg) : FnOk P w K mg base CX0 1 f fd ["text"] (spPieces K) := by
  refine F.ok scpc (fun vs H Q E h => ?_) (fun cdv A outer s H vs Q E hr h => ?_)
  · obtain ⟨t, rfl, _⟩ := h
    rfl
  · obtain ⟨t, rfl, hl, q⟩ := h
    have sz : sizeLine = 16777216 := sizeLine_eq
    refine ⟨_, PSs.nox (pss_cons (ps_if (pt_cmpR op_eq (pv 0) pe_str (nomark _)) (pss_one (ps_ret (pe_lst pa_nil))) pss_nil)
      (pss_cons (ps_set (i := 1) scpc.nd rfl (Or.inl rfl) (pe_lst pa_nil))
      (pss_cons (ps_set (i := 2) scpc.nd rfl (Or.inl rfl) pe_int)
      (pss_cons (ps_set (i := 3) scpc.nd rfl (Or.inl rfl) pe_int)
      (pss_cons (ps_for PassesOwn.never rfl (pi_enumS (by rfl) T.enum (pa_cons (pv 0) pa_nil)) (pg_tup rfl (pgs_cons (pg_name (i := 4) scpc.nd rfl (Or.inl rfl)) (pgs_cons (pg_name (i := 5) scpc.nd rfl (Or.inl rfl)) pgs_nil)))
        (pss_one (ps_if (pt_cmpR op_eq (pv 5) pe_str (nomark _)) (pss_one (ps_set (i := 2) scpc.nd rfl (Or.inl rfl) (pe_op op_add (pv 2) pe_int)))
          (pss_one (ps_if (pt_cmpR op_eq (pv 5) pe_str (nomark _)) (pss_one (ps_set (i := 2) scpc.nd rfl (Or.inl rfl) (pe_op op_sub (pv 2) pe_int)))
            (pss_one (ps_if (PW.pt (pw_and (pt_cmpR op_eq (pv 5) pe_str (nomark _)) (pw_and1 (pt_cmpR op_eq (pv 2) pe_int (nomark _)))))
              (pss_cons (ps_expr (pe_bm PySem.F.plainAttrs_list PySem.F.slot_list_append PySem.F.type_list_append mt_append (pv 1) (pa_cons (pe_slice sl_str (pv 0) (po_some (pv 3)) (po_some (pv 4))) pa_nil)))
                (pss_one (ps_set (i := 3) scpc.nd rfl (Or.inl rfl) (pe_op op_add (pv 4) (pe_callB call_len_str (by rfl) T.p.len boot_len (pa_cons pe_str pa_nil)))))) pss_nil)))))))
      (pss_one (ps_ret (pe_op op_cat (pv 1) (pe_lst (pa_cons (pe_slice sl_str (pv 0) (po_some (pv 3)) po_none) pa_nil)))))))))), ?_⟩
    have e0 : start NPc [V.str t] = [some (.str t), none, none, none, none, none] := rfl
    rw [e0]
    refine go_seq ?_
    refine ⟨_, rfl, rfl, _, rfl, str_if (fun h => ?_) fun h => ?_⟩
    · refine ⟨by show 0 ≤ sizeLine; omega, fun l nl => ?_⟩
      refine q l _ (same_upd nl) nl ?_
      rw [upd_same, show pcs t = [] from if_pos h]
      rfl
    walk_at "nx"
    refine ⟨by show 0 ≤ sizeLine; omega, fun l nl => ?_⟩
    have sl := same_upd (o := .lst []) nl
    have hL := upd_same (H := H) (a := l) (o := .lst [])
    generalize upd H l (.lst []) = H1 at sl hL ⊢
    have hlen : (tl t).length = t.cps.size := by rw [← len_tl]; rfl
    have hsz : t.cps.size = t.length := rfl
    refine ⟨_, rfl, t, rfl, ?_⟩
    refine for_itD walk_enumS (fun i σ H' => ∃ (ps : List Str) (d : Int) (st : Nat) (o4 o5 : Option V), σ = [some (.str t), some (.ref l), some (.int d), some (.int (st : Int)), o4, o5] ∧ Same H H' ∧ H' l = some (.lst (ps.map V.str)) ∧ ps.length ≤ i ∧ (-(i : Int) ≤ d ∧ d ≤ i) ∧ st ≤ i + 1 ∧ pcs t = ps ++ pcG t ((tl t).drop i) i d st)
      ⟨[], 0, 0, none, none, rfl, sl, hL, Nat.le_refl _, ⟨by decide, by decide⟩, Nat.zero_le _, by rw [List.nil_append, List.drop_zero]; exact if_neg h⟩ (fun _ _ _ _ _ => trivial) ?_ ?_
    · rintro D' i v σ H4 H5 hrt hnx - - hi ⟨ps, d, st, o4, o5, rfl, s4, h4, hpl, ⟨hd1, hd2⟩, hst, hp⟩ ⟨T', c, rfl, nT, rfl, hc⟩
      have hc' : (tl t)[i]? = some c := by rw [← hc]; exact Array.getElem?_toList ..
      have hdr : (tl t).drop i = c :: (tl t).drop (i + 1) := (List.drop_eq_getElem?_toList_append ..).trans (by rw [hc']; rfl)
      rw [hdr] at hp
      have sT := same_upd (o := .tup [.int (i : Int), .str ⟨#[c]⟩]) nT
      refine ⟨T', _, rfl, SqT.of upd_same, rfl, _, _, rfl, _, _, rfl, rfl, ?_⟩
      generalize upd H4 T' (.tup [.int (i : Int), .str ⟨#[c]⟩]) = H5 at sT ⊢
      have s5 := s4.trans sT
      have h5 := sT _ _ h4
      unfold pcG at hp
      walk_at "nx"
      refine ⟨_, rfl, rfl, _, rfl, str_if (fun h1 => ?_) fun h1 => ?_⟩
      · have h1 := (sign_eq (k := 40) (s := "(") rfl).mp h1
        rw [if_pos h1] at hp
        walk_at "nx"
        exact ⟨_, rfl, _, _, rfl, rfl, hnx _ _ ⟨ps, d + 1, st, _, _, rfl, s5, h5, by omega, ⟨by omega, by omega⟩, by omega, hp⟩⟩
      have h1 : ¬ c = 40 := fun z => h1 ((sign_eq (k := 40) (s := "(") rfl).mpr z)
      rw [if_neg h1] at hp
      refine ⟨_, rfl, rfl, _, rfl, str_if (fun h2 => ?_) fun h2 => ?_⟩
      · have h2 := (sign_eq (k := 41) (s := ")") rfl).mp h2
        rw [if_pos h2] at hp
        walk_at "nx"
        exact ⟨_, rfl, _, _, rfl, rfl, hnx _ _ ⟨ps, d - 1, st, _, _, rfl, s5, h5, by omega, ⟨by omega, by omega⟩, by omega, hp⟩⟩
      have h2 : ¬ c = 41 := fun z => h2 ((sign_eq (k := 41) (s := ")") rfl).mpr z)
      rw [if_neg h2] at hp
      have skip : ¬ (c = 59 ∧ d = 0) → D'.nx [some (.str t), some (.ref l), some (.int d), some (.int (st : Int)), some (.int (i : Int)), some (.str ⟨#[c]⟩)] H5 := fun z => by
        rw [if_neg z] at hp
        exact hnx _ _ ⟨ps, d, st, _, _, rfl, s5, h5, by omega, ⟨by omega, by omega⟩, by omega, hp⟩
      refine ⟨_, rfl, rfl, _, rfl, str_if (fun h3 => ?_) fun h3 => ?_⟩
      · have h3 := (sign_eq (k := 59) (s := ";") rfl).mp h3
        refine ⟨_, rfl, rfl, _, rfl, int_if (fun h4' => ?_) fun h4' => skip fun z => h4' z.2⟩
        rw [if_pos ⟨h3, h4'⟩] at hp
        refine ⟨_, rfl, .inl ⟨rfl, _, SqL.of h5⟩, _, rfl, _, rfl, _, rfl, _, rfl, _, rfl, t, rfl, by omega, ?_⟩
        refine ⟨l, _, _, rfl, rfl, h5, by rw [List.length_map]; omega, ?_⟩
        walk_at "nx"
        refine ⟨_, rfl, ("; " : Str), rfl, by decide +kernel, _, _, rfl, rfl, ?_⟩
        refine hnx _ _ ⟨ps ++ [cutS t (some (st : Int)) (some (i : Int))], d, i + 2, _, _, rfl, ?_, ?_, ?_, ⟨by omega, by omega⟩, by omega, ?_⟩
        · exact fun b o hb => (upd_ne (ne_of_none hb nl)).trans (s5 b o hb)
        · rw [upd_same, List.map_append]; rfl
        · rw [List.length_append]; show ps.length + 1 ≤ _; omega
        · rw [hp, List.append_assoc]; rfl
      · exact skip fun z => h3 ((sign_eq (k := 59) (s := ";") rfl).mpr z.1)
    · rintro σ H4 ⟨ps, d, st, o4, o5, rfl, s4, h4, hpl, _, _, hp⟩
      have e0 : (tl t).drop t.cps.size = [] := List.drop_of_length_le (by omega)
      rw [e0] at hp
      have hp : pcs t = ps ++ [cutS t (some (st : Int)) none] := hp
      walk_at "nx"
      refine ⟨_, rfl, _, rfl, _, rfl, _, rfl, t, rfl, by omega, by show 1 ≤ sizeLine; omega, fun l2 nl2 => ?_⟩
      have s2 := same_upd (o := .lst [.str (cutS t (some (st : Int)) none)]) nl2
      have h2 := upd_same (H := H4) (a := l2) (o := .lst [.str (cutS t (some (st : Int)) none)])
      have h4' := s2 _ _ h4
      generalize upd H4 l2 (.lst [.str (cutS t (some (st : Int)) none)]) = H5 at s2 h2 h4' ⊢
      refine ⟨_, _, _, _, rfl, rfl, h4', h2, ?_, fun r nr => ?_⟩
      · rw [List.length_map]
        show ps.length + 1 ≤ sizeLine
        omega
      · have nr0 : H r = none := by
          cases hz : H r with
          | none => rfl
          | some o => rw [s2 _ _ (s4 _ _ hz)] at nr; cases nr
        refine q r _ (s4.trans (s2.trans (same_upd nr))) nr0 ?_
        rw [upd_same, hp, List.map_append]
        rfl
end
end L2.L87

set_option maxHeartbeats 1000000
namespace L2.L87
open PySem PySem.Spec PyProof.Rows NumText LR L2.Lr L2.Tx TL SkE
local macro_rules | `(tactic| walk_at "nx") => `(tactic| dsimp only [gName, tNext, tSeq, tAsg, List.set_cons_zero, List.set_cons_succ])
theorem inV_strs (x : Str) : ∀ ws : List Str, inV (V.str x) (ws.map V.str) = decide (x ∈ ws)
  | [] => rfl
  | w :: ws => by
    show ((w == x) || inV (V.str x) (ws.map V.str)) = _
    rw [inV_strs x ws]
    by_cases h : x = w
    · subst h
      rw [decide_eq_true (List.mem_cons_self ..), beq_self_eq_true]
      rfl
    · rw [beq_eq_false_iff_ne.mpr fun z => h z.symm, Bool.false_or]
      by_cases h2 : x ∈ ws
      · rw [decide_eq_true h2, decide_eq_true (List.mem_cons_of_mem _ h2)]
      · rw [decide_eq_false h2, decide_eq_false fun z => (List.mem_cons.mp z).elim h h2]
def spAm (K : PySem.W.Frag) : Sp := fun vs H Q _ => ∃ (x : Str) (p : Addr) (ws : List Str), vs = [.str x, .ref p] ∧ SqT K H p (ws.map V.str) ∧ Q (.bl (decide (x ∈ ws))) H
section
variable {P : Program} {w : World} {K : PySem.W.Frag} {mg : Str → Option Value} {base : Heap}
theorem ok_among {f : Addr} {fd : FuncData} (F : FnP K "is_among" sAmong f fd) (T : Txt K mg) : FnOk P w K mg base CX0 1 f fd ["thing", "words"] (spAm K) := by
  refine F.ok scam (fun vs H Q E h => ?_) (fun cdv A outer s H vs Q E hr h => ?_)
  · obtain ⟨x, p, ws, rfl, _⟩ := h
    rfl
  · obtain ⟨x, p, ws, rfl, hS, q⟩ := h
    refine ⟨_, pss_one (ps_ret (pe_and (pe_isD T.p.isn (pv 0) (pe_bltn (by rfl) T.p.str bbS (by rfl)) (by rfl)) (pe_one (pe_cmpR op_in_seq (pv 0) (pv 1) (by rfl))))), ?_⟩
    have e0 : start ["thing", "words"] [V.str x, .ref p] = [some (.str x), some (.ref p)] := rfl
    rw [e0]
    refine ⟨_, rfl, _, _, .str x, (by decide +kernel : kitB "str" "str" = some true), _, rfl, iteT ?_⟩
    refine ⟨_, rfl, _, rfl, p, _, rfl, .inr hS, rfl, flat_strs ws, ?_⟩
    show Q (.bl (inV (.str x) (ws.map V.str))) H
    rw [inV_strs]
    exact q
theorem ok_singin {f fF fA : Addr} {fd dF dA : FuncData} (F : FnP K "_single_in" sSingIn f fd) (T : Txt K mg) (Fg : Def P w K mg base CX0 1 "figures_of" fF dF ["text", "most"] spFig) (Am : Def P w K mg base CX0 1 "is_among" fA dA ["thing", "words"] (spAm K)) : FnOk P w K mg base CX0 2 f fd ["words"] (spSingIn K) := by
  refine F.ok scsi (fun vs H Q E h => ?_) (fun cdv A outer s H vs Q E hr h => ?_)
  · obtain ⟨p, ws, rfl, _⟩ := h
    rfl
  · obtain ⟨p, ws, rfl, hp, hne, hw, hlw, q⟩ := h
    have sz : sizeLine = 16777216 := sizeLine_eq
    refine ⟨_, pss_cons (ps_if (PW.pt (pw_and (pt_cmpR op_eq (pe_ix ix_list (pv 0) pe_int (fun _ _ => rfl)) pe_str (nomark _)) (pw_and1 (pt_cmpR op_eq (pe_callB call_len_seq (by rfl) T.p.len boot_len (pa_cons (pv 0) pa_nil)) pe_int (nomark _))))) (pss_one (ps_ret (pe_tup (pa_cons pe_str (pa_cons (pe_call Fg.ok hr (by rfl) Fg.g Fg.k Fg.b .nil pass0 (pa_cons (pe_ix ix_list (pv 0) pe_int (fun _ _ => rfl)) (pa_cons pe_int pa_nil))) pa_nil))))) pss_nil)
      (pss_cons (ps_if (PW.pt (pw_or (pt_not (pt_val (pe_call Am.ok hr (by rfl) Am.g Am.k Am.b .nil pass0 (pa_cons (pe_ix ix_list (pv 0) pe_int (fun _ _ => rfl)) (pa_cons (pe_tup (pa_cons pe_str (pa_cons pe_str pa_nil))) pa_nil))))) (pw_or1 (pt_not (pt_chain op_le op_le pe_int (pe_callB call_len_seq (by rfl) T.p.len boot_len (pa_cons (pv 0) pa_nil)) pe_int))))) (pss_one (ps_ret pe_non)) pss_nil)
      (pss_one (ps_ret (pe_tup (pa_cons (pe_ix ix_list (pv 0) pe_int (fun _ _ => rfl)) (pa_cons (pe_ix ix_list (pv 0) pe_int (fun _ _ => rfl)) (pa_cons (pe_ifExp (pt_cmpR op_eq (pe_callB call_len_seq (by rfl) T.p.len boot_len (pa_cons (pv 0) pa_nil)) pe_int (nomark _)) (pe_call Fg.ok hr (by rfl) Fg.g Fg.k Fg.b .nil pass0 (pa_cons (pe_ix ix_list (pv 0) pe_int (fun _ _ => rfl)) (pa_cons pe_int pa_nil))) pe_int) pa_nil))))))), ?_⟩
    have e0 : start ["words"] [V.ref p] = [some (.ref p)] := rfl
    rw [e0]
    have hS : SqL K H p (ws.map V.str) := SqL.of hp
    have hlm : ((ws.map V.str).length : Int) = ws.length := by rw [List.length_map]
    match ws, hne, hw, hS, q with
    | [], hne, _, _, _ => exact absurd rfl hne
    | [w0], _, hw, hS, q =>
      have nq : ∀ H', Same H H' → Q .non H' := fun H' s' => q .non H' s' .non
      refine go_seq ?_
      have part2 : ∀ {A B : Prop}, (∀ H', Same H H' → A) → (if (!decide (w0 ∈ [("send" : Str), "take"])) = true then A else (if True then A else B)) → A := fun {A B} a z => by
        exact a H (Same.refl H)
      have thru : ∀ tp : Addr, H tp = none → Same H (upd H tp (.tup [.str "send", .str "take"])) := fun tp n => same_upd n
      refine ⟨_, rfl, p, _, 0, _, rfl, rfl, hS, at0, rfl, _, rfl, str_if (fun h => ?_) fun h => ?_⟩
      · refine ⟨_, rfl, p, _, rfl, .inl hS, rfl, _, rfl, len_if (fun z => absurd z (by simp)) fun _ => ?_⟩
        walk_at "nx"
        refine ⟨_, rfl, p, _, 0, _, rfl, rfl, hS, at0, by show 2 ≤ sizeLine; decide, fun tp ntp => ⟨w0, tp, ["send", "take"], rfl, SqT.of upd_same, _, rfl, ?_⟩⟩
        rw [decide_eq_false (show ¬ w0 ∈ [("send" : Str), "take"] from fun z => by rw [h] at z; exact absurd z (by decide +kernel))]
        exact iteT (iteT (nq _ (thru tp ntp)))
      · walk_at "nx"
        refine ⟨_, rfl, p, _, 0, _, rfl, rfl, hS, at0, by show 2 ≤ sizeLine; decide, fun tp ntp => ⟨w0, tp, ["send", "take"], rfl, SqT.of upd_same, _, rfl, ?_⟩⟩
        have hS2 := Same.seq (thru tp ntp) hS
        cases hm : decide (w0 ∈ [("send" : Str), "take"]) with
        | false => exact iteT (iteT (nq _ (thru tp ntp)))
        | true => exact iteF ⟨_, rfl, p, _, rfl, .inl hS2, _, _, rfl, rfl, _, rfl, ite_dec (fun g => absurd g (by simp)) fun _ => ⟨_, rfl, iteT (nq _ (thru tp ntp))⟩⟩
    | [w0, c], _, hw, hS, q =>
      have lc := hw c (by simp)
      have thru : ∀ tp : Addr, H tp = none → Same H (upd H tp (.tup [.str "send", .str "take"])) := fun tp n => same_upd n
      refine go_seq ?_
      refine ⟨_, rfl, p, _, 0, _, rfl, rfl, hS, at0, rfl, _, rfl, str_if (fun h => ?_) fun h => ?_⟩
      · refine ⟨_, rfl, p, _, rfl, .inl hS, rfl, _, rfl, len_if (fun _ => ?_) (fun z => absurd rfl z)⟩
        refine ⟨_, rfl, p, _, 1, _, rfl, rfl, hS, at1, c, 2, rfl, by omega, by decide, fun H2 s2 => ⟨by show 2 ≤ sizeLine; decide, fun tp ntp => ?_⟩⟩
        have e : sngD [w0, c] = .tuple [.str w0, optD (figO (tl c) 2)] := if_pos h
        rw [e, h] at q
        exact q _ _ (s2.trans (same_upd ntp)) (.tup (SqT.of upd_same) (.cons (.str _) (.cons (optVD _) .nil)))
      · walk_at "nx"
        refine ⟨_, rfl, p, _, 0, _, rfl, rfl, hS, at0, by show 2 ≤ sizeLine; decide, fun tp ntp => ⟨w0, tp, ["send", "take"], rfl, SqT.of upd_same, _, rfl, ?_⟩⟩
        have s1 := thru tp ntp
        have hS2 := Same.seq s1 hS
        generalize upd H tp (.tup [.str "send", .str "take"]) = H1 at s1 hS2 ⊢
        have e : sngD [w0, c] = if w0 = "send" ∨ w0 = "take" then .tuple [.str w0, .str c, .int 1] else .none := if_neg h
        by_cases hm : w0 ∈ [("send" : Str), "take"]
        · rw [decide_eq_true hm]
          have hm2 : w0 = "send" ∨ w0 = "take" := by simpa using hm
          rw [e, if_pos hm2] at q
          refine iteF ⟨_, rfl, p, _, rfl, .inl hS2, _, _, rfl, rfl, _, rfl, ite_dec (fun _ => ⟨_, _, rfl, rfl, _, rfl, ?_⟩) fun g => absurd (by simp) g⟩
          rw [decide_eq_true (show ((List.map V.str [w0, c]).length : Int) ≤ 3 by simp)]
          refine iteF ?_
          walk_at "nx"
          refine ⟨_, rfl, p, _, 0, _, rfl, rfl, hS2, at0, _, rfl, p, _, 1, _, rfl, rfl, hS2, at1, _, rfl, p, _, rfl, .inl hS2, rfl, _, rfl, len_if (fun z => absurd z (by simp)) fun _ => ⟨by show 3 ≤ sizeLine; decide, fun t3 n3 => ?_⟩⟩
          exact q _ _ (s1.trans (same_upd n3)) (.tup (SqT.of upd_same) (.cons (.str _) (.cons (.str _) (.cons (.int _) .nil))))
        · rw [decide_eq_false hm]
          have hm2 : ¬ (w0 = "send" ∨ w0 = "take") := by simpa using hm
          rw [e, if_neg hm2] at q
          exact iteT (iteT (q .non _ s1 .non))
    | [w0, c, k], _, hw, hS, q =>
      have lk := hw k (by simp)
      have thru : ∀ tp : Addr, H tp = none → Same H (upd H tp (.tup [.str "send", .str "take"])) := fun tp n => same_upd n
      have e : sngD [w0, c, k] = if w0 = "send" ∨ w0 = "take" then .tuple [.str w0, .str c, optD (figO (tl k) 1)] else .none := rfl
      have part2 : _ := fun (tp : Addr) (ntp : H tp = none) => thru tp ntp
      refine go_seq ?_
      refine ⟨_, rfl, p, _, 0, _, rfl, rfl, hS, at0, rfl, _, rfl, str_if (fun h => ?_) fun h => ?_⟩
      · refine ⟨_, rfl, p, _, rfl, .inl hS, rfl, _, rfl, len_if (fun z => absurd z (by simp)) fun _ => ?_⟩
        walk_at "nx"
        refine ⟨_, rfl, p, _, 0, _, rfl, rfl, hS, at0, by show 2 ≤ sizeLine; decide, fun tp ntp => ⟨w0, tp, ["send", "take"], rfl, SqT.of upd_same, _, rfl, ?_⟩⟩
        have hm : ¬ w0 ∈ [("send" : Str), "take"] := fun z => by rw [h] at z; exact absurd z (by decide +kernel)
        have hm2 : ¬ (w0 = "send" ∨ w0 = "take") := by simpa using hm
        rw [decide_eq_false hm]
        rw [e, if_neg hm2] at q
        exact iteT (iteT (q .non _ (thru tp ntp) .non))
      · walk_at "nx"
        refine ⟨_, rfl, p, _, 0, _, rfl, rfl, hS, at0, by show 2 ≤ sizeLine; decide, fun tp ntp => ⟨w0, tp, ["send", "take"], rfl, SqT.of upd_same, _, rfl, ?_⟩⟩
        have s1 := thru tp ntp
        have hS2 := Same.seq s1 hS
        generalize upd H tp (.tup [.str "send", .str "take"]) = H1 at s1 hS2 ⊢
        by_cases hm : w0 ∈ [("send" : Str), "take"]
        · rw [decide_eq_true hm]
          have hm2 : w0 = "send" ∨ w0 = "take" := by simpa using hm
          rw [e, if_pos hm2] at q
          refine iteF ⟨_, rfl, p, _, rfl, .inl hS2, _, _, rfl, rfl, _, rfl, ite_dec (fun _ => ⟨_, _, rfl, rfl, _, rfl, ?_⟩) fun g => absurd (by simp) g⟩
          rw [decide_eq_true (show ((List.map V.str [w0, c, k]).length : Int) ≤ 3 by simp)]
          refine iteF ?_
          walk_at "nx"
          refine ⟨_, rfl, p, _, 0, _, rfl, rfl, hS2, at0, _, rfl, p, _, 1, _, rfl, rfl, hS2, at1, _, rfl, p, _, rfl, .inl hS2, rfl, _, rfl, len_if (fun _ => ?_) fun z => absurd rfl z⟩
          refine ⟨_, rfl, p, _, 2, _, rfl, rfl, hS2, at2, k, 1, rfl, by omega, by decide, fun H2 s2 => ⟨by show 3 ≤ sizeLine; decide, fun t3 n3 => ?_⟩⟩
          exact q _ _ (s1.trans (s2.trans (same_upd n3))) (.tup (SqT.of upd_same) (.cons (.str _) (.cons (.str _) (.cons (optVD _) .nil))))
        · rw [decide_eq_false hm]
          have hm2 : ¬ (w0 = "send" ∨ w0 = "take") := by simpa using hm
          rw [e, if_neg hm2] at q
          exact iteT (iteT (q .non _ s1 .non))
    | w0 :: c :: k :: j :: r, _, hw, hS, q =>
      have thru : ∀ tp : Addr, H tp = none → Same H (upd H tp (.tup [.str "send", .str "take"])) := fun tp n => same_upd n
      have q' : ∀ H', Same H H' → Q .non H' := fun H' s' => q .non H' s' .non
      refine go_seq ?_
      have n2 : ((List.map V.str (w0 :: c :: k :: j :: r)).length : Int) ≠ 2 := by simp only [List.length_map, List.length_cons]; omega
      refine ⟨_, rfl, p, _, 0, _, rfl, rfl, hS, at0, rfl, _, rfl, str_if (fun h => ?_) fun h => ?_⟩
      · refine ⟨_, rfl, p, _, rfl, .inl hS, rfl, _, rfl, len_if (fun z => absurd z n2) fun _ => ?_⟩
        walk_at "nx"
        refine ⟨_, rfl, p, _, 0, _, rfl, rfl, hS, at0, by show 2 ≤ sizeLine; decide, fun tp ntp => ⟨w0, tp, ["send", "take"], rfl, SqT.of upd_same, _, rfl, ?_⟩⟩
        rw [decide_eq_false (show ¬ w0 ∈ [("send" : Str), "take"] from fun z => by rw [h] at z; exact absurd z (by decide +kernel))]
        exact iteT (iteT (q' _ (thru tp ntp)))
      · walk_at "nx"
        refine ⟨_, rfl, p, _, 0, _, rfl, rfl, hS, at0, by show 2 ≤ sizeLine; decide, fun tp ntp => ⟨w0, tp, ["send", "take"], rfl, SqT.of upd_same, _, rfl, ?_⟩⟩
        have hS2 := Same.seq (thru tp ntp) hS
        cases hm : decide (w0 ∈ [("send" : Str), "take"]) with
        | false => exact iteT (iteT (q' _ (thru tp ntp)))
        | true =>
          refine iteF ⟨_, rfl, p, _, rfl, .inl hS2, _, _, rfl, rfl, _, rfl, ite_dec (fun _ => ⟨_, _, rfl, rfl, _, rfl, ?_⟩) fun g => absurd (by simp only [List.length_map, List.length_cons]; omega) g⟩
          rw [decide_eq_false (show ¬ ((List.map V.str (w0 :: c :: k :: j :: r)).length : Int) ≤ 3 by simp only [List.length_map, List.length_cons]; omega)]
          exact iteT (q' _ (thru tp ntp))
end
end L2.L87

set_option maxHeartbeats 1000000
namespace L2.L87
open PySem PySem.Spec PyProof.Rows NumText LR L2.Lr L2.Tx TL SkE
local macro_rules | `(tactic| walk_at "nx") => `(tactic| dsimp only [gName, tNext, tSeq, tAsg, List.set_cons_zero, List.set_cons_succ])
/-! a comprehension that makes data without lists -/
def DatI (K : PySem.W.Frag) (H : Hp) (D : Addr) (ds : List PyData) (i : Nat) (H' : Hp) : Prop := Same H H' ∧ ∃ vs, H' D = some (.lst vs) ∧ DpAll K H' vs (ds.take i)
theorem DatI.zero {K : PySem.W.Frag} {H : Hp} {D : Addr} {ds : List PyData} (hD : H D = none) : DatI K H D ds 0 (upd H D (.lst [])) := ⟨same_upd hD, [], upd_same, by rw [List.take_zero]; exact .nil⟩
theorem noLAll_take : ∀ {ds : List PyData} (i : Nat), noLAll ds = true → noLAll (ds.take i) = true
  | ds, 0, _ => by rw [List.take_zero]; rfl
  | [], i + 1, _ => rfl
  | d :: ds, i + 1, h => by
    obtain ⟨h1, h2⟩ := Bool.and_eq_true_iff.mp (show (noL d && noLAll ds) = true from h)
    show (noL d && noLAll (ds.take i)) = true
    rw [h1, noLAll_take i h2]
    rfl
theorem noLAll_at : ∀ {ds : List PyData} {i : Nat} {d : PyData}, noLAll ds = true → ds[i]? = some d → noL d = true
  | [], _, _, _, e => by simp at e
  | d :: ds, 0, _, h, e => by simp at e; subst e; exact (Bool.and_eq_true_iff.mp (show (noL d && noLAll ds) = true from h)).1
  | d :: ds, i + 1, _, h, e => noLAll_at (ds := ds) (i := i) (Bool.and_eq_true_iff.mp (show (noL d && noLAll ds) = true from h)).2 (by simpa using e)
theorem noLAll_map {α : Type} {f : α → PyData} : ∀ {l : List α}, (∀ x ∈ l, noL (f x) = true) → noLAll (l.map f) = true
  | [], _ => rfl
  | x :: l, h => by
    show (noL (f x) && noLAll (l.map f)) = true
    rw [h x (List.mem_cons_self ..), noLAll_map fun y hy => h y (List.mem_cons_of_mem _ hy)]
    rfl
theorem DatI.step {K : PySem.W.Frag} {H H2 H5 : Hp} {D : Addr} {ds : List PyData} {i : Nat} {d : PyData} {v : V} (hD : H D = none) (p : DatI K H D ds i H2) (hd : ds[i]? = some d) (nl : noLAll ds = true) (hl : ds.length ≤ 1000000) (s : Same H2 H5) (hv : Dp K H5 v d) :
    ∃ acc, H5 D = some (.lst acc) ∧ acc.length < sizeLine ∧ DatI K H D ds (i + 1) (upd H5 D (.lst (acc ++ [v]))) := by
  obtain ⟨s1, vs, h2, ha⟩ := p
  have h5 := s _ _ h2
  have hkt := Kt.upd (o := .lst (vs ++ [v])) h5
  have hlen := DpAll.length ha
  rw [List.length_take] at hlen
  refine ⟨vs, h5, by rw [sizeLine_eq]; omega, fun b o hb => (upd_ne (ne_of_none hb hD)).trans (s _ _ (s1 b o hb)), vs ++ [v], upd_same, ?_⟩
  rw [List.take_add_one, hd]
  exact DpAll.append (DpAll.kt hkt (DpAll.same s ha) (noLAll_take i nl)) (.cons (Dp.kt hkt hv (noLAll_at nl hd)) .nil)
theorem DatI.all {K : PySem.W.Frag} {H H' : Hp} {D : Addr} {ds : List PyData} {n : Nat} (p : DatI K H D ds n H') (h : ds.length ≤ n) : Same H H' ∧ ∃ vs, H' D = some (.lst vs) ∧ DpAll K H' vs ds := by
  obtain ⟨s, vs, h1, h2⟩ := p
  rw [List.take_of_length_le h] at h2
  exact ⟨s, vs, h1, h2⟩
abbrev NPi : List Str := ["text", "depth", "head", "bracket", "tail", "parts", "word", "_", "count"]
theorem scpi : FnScope NPi ["text", "depth"] (defScope sPartIn) := ⟨rfl, rfl, rfl, by decide +kernel, rfl, by decide +kernel, by decide +kernel⟩
theorem scps : FnScope ["text", "depth", "piece"] ["text", "depth"] (defScope sPartsIn) := ⟨rfl, rfl, rfl, by decide +kernel, rfl, by decide +kernel, by decide +kernel⟩
/-- a part as it is read, where rec reads the parts in it -/
def prt (rec : Str → PyData) (t : Str) : PyData :=
  if (PySem.Txt.partition t opS).2.1 = Str.empty then sngD (PySem.Txt.split t spS) else
  if (PySem.Txt.partition t opS).1 = "forever" then .tuple [.str "forever", rec (cutS (PySem.Txt.partition t opS).2.2 none (some (-1)))] else
  if (PySem.Txt.partition (PySem.Txt.partition t opS).1 spS).1 = "loop" then .tuple [.str "loop", cntD (PySem.Txt.partition (PySem.Txt.partition t opS).1 spS).2.2, rec (cutS (PySem.Txt.partition t opS).2.2 none (some (-1)))] else .none
def prs : Nat → Str → PyData
  | 0, _ => .none
  | n + 1, t => .tuple ((pcs t).map (prt (prs n)))
theorem noL_cnt (t : Str) : noL (cntD t) = true := by
  rcases cntD_cases t with h | ⟨a, b, h, _⟩ <;> rw [h] <;> rfl
theorem noL_opt (o : Option Nat) : noL (optD o) = true := by cases o <;> rfl
theorem noL_sng (ws : List Str) : noL (sngD ws) = true := by
  unfold sngD
  split
  · split
    · show (true && (noL (optD _) && true)) = true
      rw [noL_opt]; rfl
    · split <;> rfl
  · split
    · show (true && (true && (noL (optD _) && true))) = true
      rw [noL_opt]; rfl
    · rfl
  · rfl
theorem noL_prt {rec : Str → PyData} (h : ∀ t, noL (rec t) = true) (t : Str) : noL (prt rec t) = true := by
  unfold prt
  split
  · exact noL_sng _
  · split
    · show (true && (noL (rec _) && true)) = true
      rw [h]; rfl
    · split
      · show (true && (noL (cntD _) && (noL (rec _) && true))) = true
        rw [noL_cnt, h]; rfl
      · rfl
theorem noL_prs : ∀ (n : Nat) (t : Str), noL (prs n t) = true
  | 0, _ => rfl
  | n + 1, t => by
    have e : noL (prs (n + 1) t) = noLAll ((pcs t).map (prt (prs n))) := by
      show noL (.tuple ((pcs t).map (prt (prs n)))) = _
      simp only [noL]
    rw [e]
    exact noLAll_map fun x _ => noL_prt (noL_prs n) x
theorem part_le (t y : Str) : (PySem.Txt.partition t y).1.length ≤ t.length ∧ (PySem.Txt.partition t y).2.2.length ≤ t.length := by
  have h := congrArg Str.length (StrLaws.partition_sum t y)
  rw [len_app, len_app] at h
  omega
def spPartIn (K : PySem.W.Frag) (n : Nat) : Sp := fun vs H Q _ => ∃ t : Str, vs = [.str t, .int (4 - (n : Int))] ∧ t.length ≤ 100000 ∧ ∀ v H', Same H H' → Dp K H' v (prt (prs n) t) → Q v H'
def spPartsIn (K : PySem.W.Frag) (n : Nat) : Sp := fun vs H Q _ => ∃ t : Str, vs = [.str t, .int (5 - (n : Int))] ∧ t.length ≤ 100000 ∧ ∀ v H', Same H H' → Dp K H' v (prs n t) → Q v H'
section
variable {P : Program} {w : World} {K : PySem.W.Frag} {mg : Str → Option Value} {base : Heap}
theorem ok_partin {n : Nat} {f fP fS fR : Addr} {fd dP dS dR : FuncData} (F : FnP K "_part_in" sPartIn f fd) {k : Nat} (h4 : 4 ≤ k) (Ps : Def P w K mg base CX0 k "_parts_in" fP dP ["text", "depth"] (spPartsIn K n)) (Sg : Def P w K mg base CX0 2 "_single_in" fS dS ["words"] (spSingIn K))
    (Rd : Def P w K mg base CX0 4 "read_count" fR dR ["text"] (spRead K)) : FnOk P w K mg base CX0 (k + 1) f fd ["text", "depth"] (spPartIn K n) := by
  refine F.ok scpi (fun vs H Q E h => ?_) (fun cdv A outer s H vs Q E hr h => ?_)
  · obtain ⟨t, rfl, _⟩ := h
    rfl
  · obtain ⟨t, rfl, hl, q⟩ := h
    have sz : sizeLine = 16777216 := sizeLine_eq
    have hr4 : Room 4 _ := hr.mono h4
    refine ⟨_, pss_cons (ps_asg (pe_partition (pv 0) pe_str) (pg_tup rfl (pgs_cons (pg_name (i := 2) scpi.nd rfl (Or.inl rfl)) (pgs_cons (pg_name (i := 3) scpi.nd rfl (Or.inl rfl)) (pgs_cons (pg_name (i := 4) scpi.nd rfl (Or.inl rfl)) pgs_nil)))))
      (pss_cons (ps_if (pt_cmpR op_eq (pv 3) pe_str (nomark _)) (pss_one (ps_ret (pe_call Sg.ok (hr4.mono (by decide)) (by rfl) Sg.g Sg.k Sg.b .nil pass0 (pa_cons (pe_split (pv 0) pe_str) pa_nil)))) pss_nil)
      (pss_cons (ps_set (i := 5) scpi.nd rfl (Or.inl rfl) (pe_call Ps.ok hr (by rfl) Ps.g Ps.k Ps.b .nil pass0 (pa_cons (pe_slice sl_str (pv 4) po_none (po_some (pe_un un_neg pe_int))) (pa_cons (pe_op op_add (pv 1) pe_int) pa_nil))))
      (pss_cons (ps_if (pt_cmpR op_eq (pv 2) pe_str (nomark _)) (pss_one (ps_ret (pe_tup (pa_cons pe_str (pa_cons (pv 5) pa_nil))))) pss_nil)
      (pss_cons (ps_asg (pe_partition (pv 2) pe_str) (pg_tup rfl (pgs_cons (pg_name (i := 6) scpi.nd rfl (Or.inl rfl)) (pgs_cons (pg_name (i := 7) scpi.nd rfl (Or.inl rfl)) (pgs_cons (pg_name (i := 8) scpi.nd rfl (Or.inl rfl)) pgs_nil)))))
      (pss_one (ps_ret (pe_ifExp (pt_cmpR op_eq (pv 6) pe_str (nomark _)) (pe_tup (pa_cons pe_str (pa_cons (pe_call Rd.ok hr4 (by rfl) Rd.g Rd.k Rd.b .nil pass0 (pa_cons (pv 8) pa_nil)) (pa_cons (pv 5) pa_nil)))) pe_non))))))), ?_⟩
    have e0 : start NPi [V.str t, .int (4 - (n : Int))] = [some (.str t), some (.int (4 - (n : Int))), none, none, none, none, none, none, none] := rfl
    rw [e0]
    unfold prt at q
    obtain ⟨w1, w2⟩ := split_parts (x := t) (y := spS) (s := 32) (S := []) rfl (by decide +kernel)
    have wn := split_ne (x := t) (y := spS) (by decide) (by decide +kernel)
    have la : (PySem.Txt.partition t opS).1.length ≤ t.length ∧ (PySem.Txt.partition t opS).2.2.length ≤ t.length := part_le t opS
    refine go_seq (go_asg ?_)
    refine ⟨_, rfl, ⟨_, rfl⟩, t, opS, rfl, rfl, rfl, by omega, fun p np => ?_⟩
    have sp := same_upd (o := .tup [.str (PySem.Txt.partition t opS).1, .str (PySem.Txt.partition t opS).2.1, .str (PySem.Txt.partition t opS).2.2]) np
    refine ⟨p, _, rfl, SqT.of upd_same, rfl, _, _, rfl, _, _, rfl, _, _, rfl, rfl, ?_⟩
    generalize upd H p (.tup [.str (PySem.Txt.partition t opS).1, .str (PySem.Txt.partition t opS).2.1, .str (PySem.Txt.partition t opS).2.2]) = H1 at sp ⊢
    generalize (PySem.Txt.partition t opS).1 = A at *
    generalize (PySem.Txt.partition t opS).2.1 = B at *
    generalize (PySem.Txt.partition t opS).2.2 = C at *
    walk_at "nx"
    refine ⟨_, rfl, rfl, _, rfl, str_if (fun h => ?_) fun h => ?_⟩
    · have h : B = Str.empty := h
      rw [if_pos h] at q
      refine ⟨_, rfl, ⟨_, rfl⟩, t, spS, rfl, rfl, rfl, by omega, fun p2 np2 => ?_⟩
      have s2 := same_upd (o := .lst ((PySem.Txt.split t spS).map V.str)) np2
      exact ⟨p2, _, rfl, upd_same, wn, fun x hx => Nat.le_trans (w1 x hx) hl, by omega, fun v H' s' hv => q v H' (sp.trans (s2.trans s')) hv⟩
    have h : ¬ B = Str.empty := h
    rw [if_neg h] at q
    walk_at "nx"
    refine ⟨_, rfl, 1, rfl, _, rfl, C, rfl, by omega, _, rfl, _, _, rfl, rfl, ?_⟩
    refine ⟨cutS C none (some (-1)), by
      show [V.str (cutS C none (some (-1))), V.int (4 - (n : Int) + 1)] = _
      rw [show (4 : Int) - n + 1 = 5 - n by omega], by have := cut_le C none (some (-1)); omega, fun v H2 s2 hv => ?_⟩
    have s02 := sp.trans s2
    walk_at "nx"
    refine ⟨_, rfl, rfl, _, rfl, str_if (fun h1 => ?_) fun h1 => ?_⟩
    · have h1 : A = "forever" := h1
      rw [if_pos h1] at q
      refine ⟨_, rfl, by show 2 ≤ sizeLine; omega, fun p2 np2 => ?_⟩
      exact q _ _ (s02.trans (same_upd np2)) (.tup (SqT.of upd_same) (.cons (.str _) (.cons (Dp.same (same_upd np2) hv) .nil)))
    have h1 : ¬ A = "forever" := h1
    rw [if_neg h1] at q
    have lb := part_le A spS
    walk_at "nx"
    refine ⟨_, rfl, ⟨_, rfl⟩, A, spS, rfl, rfl, rfl, by omega, fun p3 np3 => ?_⟩
    have s3 := same_upd (o := .tup [.str (PySem.Txt.partition A spS).1, .str (PySem.Txt.partition A spS).2.1, .str (PySem.Txt.partition A spS).2.2]) np3
    refine ⟨p3, _, rfl, SqT.of upd_same, rfl, _, _, rfl, _, _, rfl, _, _, rfl, rfl, ?_⟩
    generalize upd H2 p3 (.tup [.str (PySem.Txt.partition A spS).1, .str (PySem.Txt.partition A spS).2.1, .str (PySem.Txt.partition A spS).2.2]) = H3 at s3 ⊢
    generalize (PySem.Txt.partition A spS).1 = A2 at *
    generalize (PySem.Txt.partition A spS).2.1 = B2 at *
    generalize (PySem.Txt.partition A spS).2.2 = C2 at *
    have s03 := s02.trans s3
    walk_at "nx"
    refine ⟨_, rfl, rfl, _, rfl, str_if (fun h2 => ?_) fun h2 => ?_⟩
    · have h2 : A2 = "loop" := h2
      rw [if_pos h2] at q
      refine ⟨_, rfl, _, .str C2, rfl, .str C2, (fun t e => by cases e; omega), fun u H4 s4 hu => ⟨_, rfl, by show 3 ≤ sizeLine; omega, fun p4 np4 => ?_⟩⟩
      exact q _ _ (s03.trans (s4.trans (same_upd np4))) (.tup (SqT.of upd_same) (.cons (.str _) (.cons (Dp.same (same_upd np4) hu) (.cons (Dp.same (s3.trans (s4.trans (same_upd np4))) hv) .nil))))
    · have h2 : ¬ A2 = "loop" := h2
      rw [if_neg h2] at q
      exact q _ _ s03 .non
theorem ok_partsin0 {f : Addr} {fd : FuncData} (F : FnP K "_parts_in" sPartsIn f fd) (T : Txt K mg) {k : Nat} : FnOk P w K mg base CX0 (k + 1) f fd ["text", "depth"] (spPartsIn K 0) := by
  refine F.ok scps (fun vs H Q E h => ?_) (fun cdv A outer s H vs Q E hr h => ?_)
  · obtain ⟨t, rfl, _⟩ := h
    rfl
  · obtain ⟨t, rfl, hl, q⟩ := h
    obtain ⟨td, hdeep⟩ := T.p.deep
    refine ⟨_, pss_cons (ps_if (pt_cmpR op_gt (pv 1) (pe_gI hdeep (by rfl)) (nomark _)) (pss_one (ps_ret pe_non)) pss_nil) pss_never, ?_⟩
    have e0 : start ["text", "depth", "piece"] [V.str t, .int (5 - ((0 : Nat) : Int))] = [some (.str t), some (.int (5 - ((0 : Nat) : Int))), none] := rfl
    rw [e0]
    refine go_seq ?_
    refine ⟨_, rfl, _, _, rfl, rfl, _, rfl, ite_dec (fun _ => ?_) fun g => absurd (by decide) g⟩
    exact q .non H (Same.refl H) .non
theorem ok_partsinS {n : Nat} (hn : n ≤ 4) {f fI fP : Addr} {fd dI dP : FuncData} (F : FnP K "_parts_in" sPartsIn f fd) (T : Txt K mg) {k : Nat} (h1 : 1 ≤ k) (Pi : Def P w K mg base CX0 k "_part_in" fI dI ["text", "depth"] (spPartIn K n)) (Pc : Def P w K mg base CX0 1 "_pieces_of" fP dP ["text"] (spPieces K)) :
    FnOk P w K mg base CX0 (k + 1) f fd ["text", "depth"] (spPartsIn K (n + 1)) := by
  refine F.ok scps (fun vs H Q E h => ?_) (fun cdv A outer s H vs Q E hr h => ?_)
  · obtain ⟨t, rfl, _⟩ := h
    rfl
  · obtain ⟨t, rfl, hl, q⟩ := h
    obtain ⟨td, hdeep⟩ := T.p.deep
    have sz : sizeLine = 16777216 := sizeLine_eq
    refine ⟨_, PSs.nox (pss_cons (ps_if (pt_cmpR op_gt (pv 1) (pe_gI hdeep (by rfl)) (nomark _)) (pss_one (ps_ret pe_non)) pss_nil)
      (pss_one (ps_ret (pe_callTy call_tuple_of (by rfl) T.p.tuple bbT (pa_cons (pe_lc (own := [("piece", 2)]) (g := gName 2) (tt := tYes) rfl scps.nd (pi_list (pe_call Pc.ok (hr.mono h1) (by rfl) Pc.g Pc.k Pc.b .nil pass0 (pa_cons (pv 0) pa_nil))) (blkOk_by (N := ["text", "depth", "piece"]) (sc := defScope sPartsIn) (by decide +kernel)) (fun _ _ _ _ _ => pg_name (i := 2) scps.nd rfl (Or.inl rfl)) (fun _ _ _ _ _ => pts_nil)
        (fun _ _ _ _ _ => pe_call Pi.ok hr (by rfl) Pi.g Pi.k Pi.b .nil pass0 (pa_cons (pv 2) (pa_cons (pv 1) pa_nil)))) pa_nil))))), ?_⟩
    have e0 : start ["text", "depth", "piece"] [V.str t, .int (5 - ((n + 1 : Nat) : Int))] = [some (.str t), some (.int (5 - ((n + 1 : Nat) : Int))), none] := rfl
    rw [e0]
    obtain ⟨c1, c2⟩ := pcs_len t
    have hlen : ((pcs t).map (prt (prs n))).length ≤ 1000000 := by rw [List.length_map]; omega
    have hno : noLAll ((pcs t).map (prt (prs n))) = true := noLAll_map fun x _ => noL_prt (noL_prs n) x
    refine go_seq ?_
    refine ⟨_, rfl, _, _, rfl, rfl, _, rfl, ite_dec (fun g => absurd g (by omega)) fun _ => ?_⟩
    walk_at "nx"
    refine ⟨_, rfl, t, rfl, hl, fun r H1 s1 nr hr1 => ⟨r, rfl, ⟨_, SqL.of hr1⟩, fun D hD => lc_list (K := K) (a := r) (xs := (pcs t).map V.str) (DatI K H1 D ((pcs t).map (prt (prs n)))) (DatI.zero hD) (fun i H' _ p => SqL.of (p.1 _ _ hr1)) ?_ ?_⟩⟩
    · rintro i v H4 hv p
      obtain ⟨x, hx, rfl⟩ : ∃ x, (pcs t)[i]? = some x ∧ v = .str x := by
        rw [List.getElem?_map] at hv
        cases hx : (pcs t)[i]? with
        | none => rw [hx] at hv; cases hv
        | some x => rw [hx] at hv; exact ⟨x, rfl, (Option.some.inj hv).symm⟩
      refine ⟨rfl, ⟨_, rfl, _, rfl, x, ?_, Nat.le_trans (c2 x (List.mem_of_getElem? hx)) hl, fun u H5 s5 hu => ?_⟩⟩
      · show [V.str x, V.int (5 - ((n + 1 : Nat) : Int))] = _
        rw [show (5 : Int) - ((n + 1 : Nat) : Int) = 4 - n by omega]
      · exact DatI.step hD p (by rw [List.getElem?_map, hx]; rfl) hno hlen s5 hu
    · intro H4 pm
      obtain ⟨s4, vs, hD4, hds⟩ := pm.all (by rw [List.length_map, List.length_map]; exact Nat.le_refl _)
      refine ⟨D, vs, rfl, .inl ⟨SqL.of hD4, fun l nl => ?_⟩⟩
      exact q _ _ (s1.trans (s4.trans (same_upd nl))) (.tup (SqT.of upd_same) (DpAll.same (same_upd nl) hds))
end
end L2.L87

set_option maxHeartbeats 1000000
/-! texts that are cut at one sign -/
namespace L2.Tx
open PySem PySem.Spec PyProof.Rows NumText L2 L2.Lr TL
/-- a list cut at a sign -/
def cutc (c : Nat) : List Nat → List (List Nat)
  | [] => [[]]
  | a :: r => if a = c then [] :: cutc c r else ((cutc c r).headD [] |>.cons a) :: (cutc c r).tail
theorem cutc_ne (c : Nat) : ∀ l, cutc c l ≠ []
  | [] => by simp [cutc]
  | a :: r => by
    unfold cutc
    split <;> simp
theorem cutc_cons (c : Nat) (l : List Nat) : ∃ p ps, cutc c l = p :: ps := by
  cases h : cutc c l with
  | nil => exact absurd h (cutc_ne c l)
  | cons p ps => exact ⟨p, ps, rfl⟩
theorem cutc_hit (c : Nat) (r : List Nat) : cutc c (c :: r) = [] :: cutc c r := by
  conv => lhs; unfold cutc
  rw [if_pos rfl]
theorem cutc_miss {c a : Nat} {r p : List Nat} {ps : List (List Nat)} (h : a ≠ c) (e : cutc c r = p :: ps) : cutc c (a :: r) = (a :: p) :: ps := by
  conv => lhs; unfold cutc
  rw [if_neg h, e]
  rfl
theorem pre_one (c a : Nat) (r : List Nat) : pre [c] (a :: r) = decide (a = c) := by
  show (List.take 1 (a :: r) == [c]) = _
  rw [show List.take 1 (a :: r) = [a] from rfl]
  by_cases h : a = c
  · rw [h, decide_eq_true rfl]; simp
  · rw [decide_eq_false h]; simp [h]
theorem spl_cutc (c : Nat) : ∀ (l acc : List Nat) {p : List Nat} {ps : List (List Nat)}, cutc c l = p :: ps → spl [c] 0 acc l = (acc ++ p) :: ps
  | [], acc, p, ps, h => by
    have h' : [[]] = p :: ps := h
    cases h'
    rw [spl_nil, List.append_nil]
  | a :: r, acc, p, ps, h => by
    obtain ⟨p', ps', e⟩ := cutc_cons c r
    by_cases ha : a = c
    · subst ha
      rw [cutc_hit] at h
      cases h
      rw [spl_hit (by rw [pre_one]; exact decide_eq_true rfl), List.append_nil]
      have := spl_cutc a r [] e
      rw [List.nil_append] at this
      show acc :: spl [a] 0 [] r = _
      rw [this, e]
    · rw [cutc_miss ha e] at h
      cases h
      rw [spl_miss (by rw [pre_one]; exact decide_eq_false ha), spl_cutc c r (acc ++ [a]) e]
      simp
/-- what split makes of a text, for a separator of one low sign -/
theorem split_cutc {x y : Str} {c : Nat} (hy : tl y = [c]) (hc : c < 256) : (PySem.Txt.split x y).map tl = cutc c (tl x) := by
  have hk : (y.cps.all fun x => decide (x < 256)) = true := by
    rw [← Array.all_toList]
    show (tl y).all _ = true
    rw [hy]
    simpa using hc
  rw [split_spl x y (by rw [hy]; exact List.cons_ne_nil _ _) (kind_ok hk), hy]
  obtain ⟨p, ps, e⟩ := cutc_cons c (tl x)
  rw [spl_cutc c (tl x) [] e, List.nil_append, e]
theorem cutc_mem {c : Nat} : ∀ {l p : List Nat}, p ∈ cutc c l → ∀ a ∈ p, a ∈ l ∧ a ≠ c
  | [], p, h, a, ha => by
    rw [List.mem_singleton.mp (show p ∈ [[]] from h)] at ha
    cases ha
  | b :: r, p, h, a, ha => by
    obtain ⟨p', ps', e⟩ := cutc_cons c r
    by_cases hb : b = c
    · subst hb
      rw [cutc_hit] at h
      cases h with
      | head => cases ha
      | tail _ h =>
        obtain ⟨h1, h2⟩ := cutc_mem h a ha
        exact ⟨List.mem_cons_of_mem _ h1, h2⟩
    · rw [cutc_miss hb e] at h
      cases h with
      | head =>
        rcases List.mem_cons.mp ha with rfl | h3
        · exact ⟨List.mem_cons_self .., hb⟩
        · obtain ⟨h1, h2⟩ := cutc_mem (l := r) (p := p') (by rw [e]; exact List.mem_cons_self ..) a h3
          exact ⟨List.mem_cons_of_mem _ h1, h2⟩
      | tail _ h =>
        obtain ⟨h1, h2⟩ := cutc_mem (l := r) (p := p) (by rw [e]; exact List.mem_cons_of_mem _ h) a ha
        exact ⟨List.mem_cons_of_mem _ h1, h2⟩
theorem cutc_app {c : Nat} : ∀ {A B : List Nat}, c ∉ A → cutc c (A ++ c :: B) = A :: cutc c B
  | [], B, _ => cutc_hit c B
  | a :: A, B, h => by
    have ih := cutc_app (A := A) (B := B) fun z => h (List.mem_cons_of_mem _ z)
    exact cutc_miss (fun z => h (by rw [z]; exact List.mem_cons_self ..)) ih
theorem cutc_free {c : Nat} : ∀ {A : List Nat}, c ∉ A → cutc c A = [A]
  | [], _ => rfl
  | a :: A, h => cutc_miss (fun z => h (by rw [z]; exact List.mem_cons_self ..)) (cutc_free fun z => h (List.mem_cons_of_mem _ z))
/-- a text is free of the sign, or begins with a piece that is -/
theorem cutc_cases (c : Nat) : ∀ l : List Nat, c ∉ l ∨ ∃ A B, c ∉ A ∧ l = A ++ c :: B
  | [] => .inl (by simp)
  | a :: r => by
    by_cases h : a = c
    · exact .inr ⟨[], r, by simp, by rw [h]; rfl⟩
    · rcases cutc_cases c r with g | ⟨A, B, g, e⟩
      · exact .inl fun z => (List.mem_cons.mp z).elim (fun q => h q.symm) g
      · exact .inr ⟨a :: A, B, fun z => (List.mem_cons.mp z).elim (fun q => h q.symm) g, by rw [e]; rfl⟩
theorem split_low {x y : Str} {c : Nat} (hy : tl y = [c]) (hc : c < 256) {p : Str} (h : p ∈ PySem.Txt.split x y) : (∀ a ∈ tl p, a ∈ tl x) ∧ c ∉ tl p := by
  have hm : tl p ∈ cutc c (tl x) := by rw [← split_cutc hy hc]; exact List.mem_map_of_mem h
  exact ⟨fun a ha => (cutc_mem hm a ha).1, fun z => (cutc_mem hm c z).2 rfl⟩
theorem Low.split {x y : Str} {c : Nat} (h : Low x) (hy : tl y = [c]) (hc : c < 256) : ∀ p ∈ PySem.Txt.split x y, Low p := fun p hp a ha => h a ((split_low hy hc hp).1 a ha)
theorem Low.part {x y : Str} (h : Low x) : Low (PySem.Txt.partition x y).1 ∧ Low (PySem.Txt.partition x y).2.2 := by
  have e := StrLaws.partition_sum x y
  have e2 : tl x = tl (PySem.Txt.partition x y).1 ++ tl (PySem.Txt.partition x y).2.1 ++ tl (PySem.Txt.partition x y).2.2 := by
    conv => lhs; rw [← e, tl_append, tl_append]
  exact ⟨fun a ha => h a (by rw [e2]; simp [ha]), fun a ha => h a (by rw [e2]; simp [ha])⟩
theorem Low.ok {t : Str} (h : Low t) : PyData.strOk t = true := by
  show (t.cps.all fun c => decide (c < 0x110000)) = true
  rw [← Array.all_toList]
  exact List.all_eq_true.mpr fun c hc => decide_eq_true (Nat.lt_trans (h c hc) (by decide))
/-- a text is its pieces joined -/
theorem join_split (x y : Str) : PySem.Txt.join y (PySem.Txt.split x y) = x := (join_eq y _).trans (StrLaws.join_split x y)
/-! ### a limit takes the first -/
section
open Builtin Builtin.Str StrLaws
theorem occ_take (s sub : Str) (hi k big : Nat) : ∀ (l : List Nat) (a b : Array Nat × Nat), b.fst.size + l.length ≤ big → (a.fst.size < k → a = b) → a.fst.toList = b.fst.toList.take k →
    (forIn l a (occBody s sub hi k)).run.fst.toList = ((forIn l b (occBody s sub hi big)).run.fst.toList).take k
  | [], a, b, _, _, h => h
  | c :: l, a, b, hb, he, h => by
    rw [List.forIn_cons, List.forIn_cons]
    rw [List.length_cons] at hb
    by_cases hk : a.fst.size < k
    · obtain rfl := he hk
      unfold occBody
      by_cases hc : (a.snd ≤ c ∧ c + sub.length ≤ hi) ∧ subAt s sub c = true
      · rw [if_pos ⟨⟨⟨hk, hc.1.1⟩, hc.1.2⟩, hc.2⟩, if_pos ⟨⟨⟨by omega, hc.1.1⟩, hc.1.2⟩, hc.2⟩]
        refine occ_take s sub hi k big l _ _ ?_ (fun _ => rfl) ?_
        · show (a.fst.push c).size + l.length ≤ big
          rw [Array.size_push]
          omega
        · show (a.fst.push c).toList = ((a.fst.push c).toList).take k
          rw [List.take_of_length_le]
          rw [Array.toList_push, List.length_append, Array.length_toList]
          simp only [List.length_cons, List.length_nil]
          omega
      · rw [if_neg (fun z => hc ⟨⟨z.1.1.2, z.1.2⟩, z.2⟩), if_neg (fun z => hc ⟨⟨z.1.1.2, z.1.2⟩, z.2⟩)]
        exact occ_take s sub hi k big l _ _ (by show a.fst.size + _ ≤ _; omega) (fun _ => rfl) h
    · have e1 : occBody s sub hi k c a = pure (ForInStep.yield (a.fst, a.snd)) := by
        unfold occBody
        rw [if_neg (fun z => hk z.1.1.1)]
      rw [e1]
      have hlen : k ≤ b.fst.toList.length := by
        have e := congrArg List.length h
        rw [List.length_take, Array.length_toList] at e
        omega
      unfold occBody
      split
      · refine occ_take s sub hi k big l _ _ ?_ (fun z => absurd z hk) ?_
        · show (b.fst.push c).size + l.length ≤ big
          rw [Array.size_push]
          omega
        · show a.fst.toList = ((b.fst.push c).toList).take k
          rw [Array.toList_push, List.take_append_of_le_length hlen]
          exact h
      · exact occ_take s sub hi k big l _ _ (by show b.fst.size + _ ≤ _; omega) (fun z => absurd z hk) h
theorem occ_limit (x y : Str) (k : Nat) : occurrences x y 0 x.length k = (occurrences x y 0 x.length (x.length + 1)).take k := by
  rw [occ_eq, occ_eq]
  refine occ_take x y x.length k (x.length + 1) _ _ _ ?_ (fun _ => rfl) ?_
  · rw [List.length_range']
    show 0 + _ ≤ _
    omega
  · show [] = List.take k []
    simp
theorem splitMax2 (x y : Str) : PySem.Txt.splitMax x y 2 = match PySem.Txt.split x y with
    | a :: b :: c :: r => [a, b, PySem.Txt.join y (c :: r)]
    | l => l := by
  have el : limitOf x 2 = 2 := rfl
  unfold Txt.splitMax Txt.split
  rw [el, occ_limit x y 2]
  by_cases h1 : (decide (x.length < y.length) || decide (strKind x < strKind y)) = true
  · rw [if_pos h1, if_pos h1]
  · rw [if_neg h1, if_neg h1]
    obtain ⟨f, hch⟩ := occ_chain x y (x.length + 1)
    generalize occurrences x y 0 x.length (x.length + 1) = cuts at hch ⊢
    match cuts, hch with
    | [], _ => rfl
    | [c1], _ => rfl
    | c1 :: c2 :: r, hch =>
      rw [if_neg (show ¬ (List.take 2 (c1 :: c2 :: r)).isEmpty = true from Bool.false_ne_true), if_neg (show ¬ (c1 :: c2 :: r).isEmpty = true from Bool.false_ne_true), partsBetween_eq, partsBetween_eq]
      have hj := join_partsFrom x y r (c2 + y.length) f hch.2.2.2.2
      obtain ⟨p, q, e⟩ := partsFrom_ne x y.length (c2 + y.length) r
      show [strSub x 0 c1, strSub x (c1 + y.length) c2, strSub x (c2 + y.length) x.length] = match (strSub x 0 c1 :: strSub x (c1 + y.length) c2 :: partsFrom x y.length (c2 + y.length) r) with
        | a :: b :: c :: r => [a, b, PySem.Txt.join y (c :: r)]
        | l => l
      rw [e] at hj ⊢
      show _ = [strSub x 0 c1, strSub x (c1 + y.length) c2, PySem.Txt.join y (p :: q)]
      rw [join_eq, hj]
theorem tl_strike (x y : Str) (hy : tl y ≠ []) : tl (PySem.Txt.replace x y Str.empty) = (spl (tl y) 0 [] (tl x)).flatten := by
  obtain ⟨f, g, hn⟩ := occ_tight x y (len1 hy)
  have key := parts_spl hy _ 0 f (Nat.zero_le _) g hn
  rw [List.drop_zero] at key
  unfold Txt.replace
  have hyl : (y.length == 0) = false := by
    have := len1 hy
    exact beq_eq_false_iff_ne.mpr (by omega)
  rw [hyl, Bool.false_and, Bool.or_false]
  split
  · rename_i h
    rw [List.isEmpty_iff.mp h] at key
    rw [← key]
    show tl x = [tl (strSub x 0 x.length)].flatten
    rw [sub_whole]
    simp
  · rw [← key, partsBetween_eq, glued_eq_join, tl_join]
    exact joinL_nil _
/-- a piece stands in a text -/
theorem in_text {x y A B : Str} (h : x = A ++ y ++ B) : (!(occurrences x y 0 x.length 1).isEmpty) = true := by
  refine (found_iff x y).mpr ⟨A.length, ?_, ?_⟩
  · rw [h, len_app, len_app]
    omega
  · rw [subAt_eq, h]
    have e : (A ++ y ++ B).cps.toList = tl A ++ (tl y ++ tl B) := by
      show tl (A ++ y ++ B) = _
      rw [tl_append, tl_append, List.append_assoc]
    rw [e, len_tl A, len_tl y, List.drop_left, List.take_left]
    exact beq_self_eq_true _
end
end L2.Tx

set_option maxHeartbeats 1000000
namespace L2.L87
open PySem PySem.Spec PyProof.Rows NumText LR L2.Lr L2.Tx TL SkE
local macro_rules | `(tactic| walk_at "nx") => `(tactic| dsimp only [gName, tNext, tSeq, tAsg, List.set_cons_zero, List.set_cons_succ])
theorem scpr : FnScope ["text", "parts", "row"] ["text"] (defScope sParseR) := ⟨rfl, rfl, rfl, by decide +kernel, rfl, by decide +kernel, by decide +kernel⟩
theorem scri : FnScope ["process", "text", "row"] ["process", "text"] (defScope sRowIn) := ⟨rfl, rfl, rfl, by decide +kernel, rfl, by decide +kernel, by decide +kernel⟩
theorem scci : FnScope ["words", "line", "figures"] ["words", "line"] (defScope sChIn) := ⟨rfl, rfl, rfl, by decide +kernel, rfl, by decide +kernel, by decide +kernel⟩
theorem scei : FnScope ["line", "words"] ["line"] (defScope sEvIn) := ⟨rfl, rfl, rfl, by decide +kernel, rfl, by decide +kernel, by decide +kernel⟩
theorem sceo : FnScope ["line", "event"] ["line"] (defScope sEvOf) := ⟨rfl, rfl, rfl, by decide +kernel, rfl, by decide +kernel, by decide +kernel⟩
/-! ### what is parsed is of short low texts -/
theorem sOkAll.mk : ∀ {ds : List PyData}, (∀ d ∈ ds, sOk d) → sOkAll ds
  | [], _ => by unfold sOkAll; trivial
  | d :: ds, h => by
    unfold sOkAll
    exact ⟨h d (List.mem_cons_self ..), sOkAll.mk fun x hx => h x (List.mem_cons_of_mem _ hx)⟩
theorem sOk.tup {ds : List PyData} (h : ∀ d ∈ ds, sOk d) (hl : ds.length ≤ 100001) : sOk (.tuple ds) := by
  unfold sOk
  exact ⟨by rw [sizeLine_eq]; omega, sOkAll.mk h⟩
theorem sOk.str {t : Str} (h : Low t) (hl : t.length ≤ 100000) : sOk (.str t) := by
  unfold sOk
  exact ⟨by rw [sizeLine_eq]; omega, h.ok⟩
theorem sOk.opt (o : Option Nat) : sOk (optD o) := by cases o <;> (unfold optD sOk; trivial)
theorem sOk.int (i : Int) : sOk (.int i) := by unfold sOk; trivial
theorem sOk.non : sOk .none := by unfold sOk; trivial
theorem pcG_low {t : Str} (h : Low t) : ∀ (l : List Nat) (i : Nat) (d : Int) (st : Nat), ∀ p ∈ pcG t l i d st, Low p
  | [], i, d, st => fun p hp => by rw [List.mem_singleton.mp hp]; exact h.cut _ _
  | c :: r, i, d, st => by
    unfold pcG
    split
    · exact pcG_low h r _ _ _
    · split
      · exact pcG_low h r _ _ _
      · split
        · intro p hp
          rcases List.mem_cons.mp hp with rfl | hp
          · exact h.cut _ _
          · exact pcG_low h r _ _ _ p hp
        · exact pcG_low h r _ _ _
theorem pcs_low {t : Str} (h : Low t) : ∀ p ∈ pcs t, Low p := fun p hp => by
  unfold pcs at hp
  split at hp
  · cases hp
  · exact pcG_low h _ _ _ _ p hp
theorem sOk_sng {ws : List Str} (h : ∀ x ∈ ws, Low x ∧ x.length ≤ 100000) : sOk (sngD ws) := by
  unfold sngD
  split
  · rename_i w c
    have hc := h c (by simp)
    split
    · exact sOk.tup (fun d hd => by rcases List.mem_cons.mp hd with rfl | hd; exact sOk.str (h w (by simp)).1 (h w (by simp)).2; rw [List.mem_singleton.mp hd]; exact sOk.opt _) (by simp)
    · split
      · refine sOk.tup (fun d hd => ?_) (by simp)
        rcases List.mem_cons.mp hd with rfl | hd
        · exact sOk.str (h w (by simp)).1 (h w (by simp)).2
        rcases List.mem_cons.mp hd with rfl | hd
        · exact sOk.str hc.1 hc.2
        rw [List.mem_singleton.mp hd]; exact sOk.int 1
      · exact sOk.non
  · rename_i w c k
    have hc := h c (by simp)
    split
    · refine sOk.tup (fun d hd => ?_) (by simp)
      rcases List.mem_cons.mp hd with rfl | hd
      · exact sOk.str (h w (by simp)).1 (h w (by simp)).2
      rcases List.mem_cons.mp hd with rfl | hd
      · exact sOk.str hc.1 hc.2
      rw [List.mem_singleton.mp hd]; exact sOk.opt _
    · exact sOk.non
  · exact sOk.non
theorem sOk_cnt (t : Str) : sOk (cntD t) := by
  rcases cntD_cases t with h | ⟨a, b, h, _⟩
  · rw [h]; exact sOk.non
  · rw [h]
    exact sOk.tup (fun d hd => by rcases List.mem_cons.mp hd with rfl | hd; exact sOk.int _; rw [List.mem_singleton.mp hd]; exact sOk.int _) (by simp)
theorem low_lit (w : Str) (h : ((tl w).all fun c => decide (c < 256)) = true) : Low w := low_of h
theorem sOk_prt {rec : Str → PyData} {t : Str} (hr : ∀ x, Low x → x.length ≤ 100000 → sOk (rec x)) (h : Low t) (hl : t.length ≤ 100000) : sOk (prt rec t) := by
  have hp := part_le t opS
  have hq := h.part (y := opS)
  have inner : sOk (rec (cutS (PySem.Txt.partition t opS).2.2 none (some (-1)))) := hr _ (hq.2.cut _ _) (Nat.le_trans (cut_le _ _ _) (by omega))
  unfold prt
  split
  · refine sOk_sng fun x hx => ?_
    obtain ⟨w1, _⟩ := split_parts (x := t) (y := spS) (s := 32) (S := []) rfl (by decide +kernel)
    exact ⟨h.split (y := spS) (c := 32) rfl (by decide) x hx, Nat.le_trans (w1 x hx) hl⟩
  · split
    · refine sOk.tup (fun d hd => ?_) (by simp)
      rcases List.mem_cons.mp hd with rfl | hd
      · exact sOk.str (low_lit _ (by decide +kernel)) (by decide +kernel)
      · rw [List.mem_singleton.mp hd]; exact inner
    · split
      · refine sOk.tup (fun d hd => ?_) (by simp)
        rcases List.mem_cons.mp hd with rfl | hd
        · exact sOk.str (low_lit _ (by decide +kernel)) (by decide +kernel)
        rcases List.mem_cons.mp hd with rfl | hd
        · exact sOk_cnt _
        · rw [List.mem_singleton.mp hd]; exact inner
      · exact sOk.non
theorem sOk_prs : ∀ (n : Nat) (t : Str), Low t → t.length ≤ 100000 → sOk (prs n t)
  | 0, _, _, _ => sOk.non
  | n + 1, t, h, hl => by
    obtain ⟨l1, l2⟩ := pcs_len t
    refine sOk.tup (fun d hd => ?_) (by rw [List.length_map]; omega)
    obtain ⟨p, hp, rfl⟩ := List.mem_map.mp hd
    exact sOk_prt (sOk_prs n) (pcs_low h p hp) (Nat.le_trans (l2 p hp) hl)
/-! ### the row that a text tells -/
def prL (t : Str) : List PyData := (pcs t).map (prt (prs 4))
theorem prs5 (t : Str) : prs 5 t = .tuple (prL t) := rfl
def rowR (t : Str) : Option (List PyData) := if t.length ≤ 2640 ∧ aprD (.tuple (prL t)) = true ∧ txM 5 (prL t) = t then some (prL t) else none
def rowV (p t : Str) : PyData := match rowR t with
  | some ds => .tuple [.str "row", .str p, .tuple ds]
  | none => .none
theorem rowR_some {t : Str} {ds : List PyData} (h : rowR t = some ds) : ds = prL t ∧ t.length ≤ 2640 ∧ aprD (.tuple ds) = true ∧ txM 5 ds = t := by
  unfold rowR at h
  split at h
  · rename_i g
    cases h
    exact ⟨rfl, g⟩
  · cases h
/-- a change as its words tell it -/
def chgD (ws : List Str) (line : Str) : PyData :=
  if ws.headD Str.empty = "row" ∧ 2 < ws.length then rowV (ws.getD 1 Str.empty) (cutS line (some (4 + (ws.getD 1 Str.empty).length + 1 : Int)) none) else
  if ws.headD Str.empty = "join" then .tuple [.str "join", .str (ws.getD 1 Str.empty), .tuple ((ws.drop 2).map .str)] else
  if ws.headD Str.empty ∈ [("first" : Str), "kill"] then .tuple ((ws.take 2).map .str ++ (ws.drop 2).map fun f => optD (figO (tl f) 31)) else .tuple (ws.map .str)
def evD (ws : List Str) (line : Str) : PyData :=
  if ws.headD Str.empty = "room" ∧ ws.length = 3 then .tuple [.str "room", .str (ws.getD 1 Str.empty), optD (figO (tl (ws.getD 2 Str.empty)) 201)] else
  if ws.headD Str.empty = "n" ∧ ws.length = 2 then .tuple [.str "n", optD (figO (tl (ws.getD 1 Str.empty)) 31)] else
  if ws.headD Str.empty = "undo" then .tuple [.str "undo"] else .tuple [.str "change", chgD ws line]
/-- the event that a line tells, None if none -/
def evO (t : Str) : PyData := if toldB (evD (PySem.Txt.split t spS) t) = true ∧ lineD (evD (PySem.Txt.split t spS) t) = t then evD (PySem.Txt.split t spS) t else .none
def spChIn (K : PySem.W.Frag) : Sp := fun vs H Q _ => ∃ (p : Addr) (ws : List Str) (line : Str), vs = [.ref p, .str line] ∧ H p = some (.lst (ws.map V.str)) ∧ ws ≠ [] ∧ (∀ x ∈ ws, x.length ≤ 100000) ∧ ws.length ≤ 100001 ∧ line.length ≤ 100000 ∧ Low line ∧
  ∀ v H', Same H H' → Dp K H' v (chgD ws line) → Q v H'
def spEvIn (K : PySem.W.Frag) : Sp := fun vs H Q _ => ∃ t : Str, vs = [.str t] ∧ t.length ≤ 100000 ∧ Low t ∧ ∀ v H', Same H H' → Dp K H' v (evD (PySem.Txt.split t spS) t) → Q v H'
def spEvOf (K : PySem.W.Frag) : Sp := fun vs H Q _ => ∃ (t : Str), vs = [.str t] ∧ t.length ≤ 3900 ∧ Low t ∧ ∀ v H', Same H H' → Dp K H' v (evO t) → Q v H'
def spParseR (K : PySem.W.Frag) : Sp := fun vs H Q E => ∃ t, vs = [.str t] ∧ Low t ∧ t.length ≤ 100000 ∧ (∀ ds, rowR t = some ds → ∀ r H', Same H H' → H r = none → RowAt' K H' r ds → Q (.ref r) H') ∧ (rowR t = none → Bad (CT K) (.str t) H E)
def spRowIn (K : PySem.W.Frag) : Sp := fun vs H Q _ => ∃ (p t : Str), vs = [.str p, .str t] ∧ Low t ∧ t.length ≤ 100000 ∧ ∀ v H', Same H H' → Dp K H' v (rowV p t) → Q v H'
section
variable {P : Program} {w : World} {K : PySem.W.Frag} {mg : Str → Option Value} {base : Heap}
theorem ok_parser {f fP fA fI fS : Addr} {fd dP dA dI dS dV : FuncData} (F : FnP K "parse_row" sParseR f fd) (T : Txt K mg) {k : Nat} (M : RMk P w K mg base k fI dI fS dS) (Ps : Def P w K mg base CX0 k "_parts_in" fP dP ["text", "depth"] (spPartsIn K 5)) (Ap : Def P w K mg base CX0 k "are_parts_of_row" fA dA ["thing"] (spApr K)) (Z : Rm P w K mg base dV) :
    FnOk P w K mg base (L2.CX P w) (k + 3) f fd ["text"] (spParseR K) := by
  refine F.ok scpr (fun vs H Q E h => ?_) (fun cdv A outer s H vs Q E hr h => ?_)
  · obtain ⟨t, rfl, _⟩ := h
    rfl
  · obtain ⟨t, rfl, low, hl, q, b⟩ := h
    obtain ⟨tl', hlong⟩ := T.lont
    have sz : sizeLine = 16777216 := sizeLine_eq
    have hrk : Room k _ := hr.mono (by omega)
    have hrk1 : Room (k + 1) _ := hr.mono (by omega)
    have hr2 : Room 2 _ := hr.mono (by omega)
    refine ⟨_, pss_cons (ps_set (i := 1) scpr.nd rfl (Or.inl rfl) pe_non)
      (C8.pss_cut (ps_if (PW.pt (pw_and (pt_val (pe_isD T.p.isn (pv 0) (pe_bltn (by rfl) T.p.str bbS (by rfl)) (by rfl))) (pw_and1 (pt_cmpR op_le (pe_callB call_len_str (by rfl) T.p.len boot_len (pa_cons (pv 0) pa_nil)) (pe_gI hlong (by rfl)) (nomark _))))) (pss_one (ps_set (i := 1) scpr.nd rfl (Or.inl rfl) (pe_call Ps.ok hrk (by rfl) Ps.g Ps.k Ps.b .nil pass0 (pa_cons (pv 0) (pa_cons pe_int pa_nil))))) pss_nil)
      (pss_cons (ps_if (pt_not (pt_val (pe_call Ap.ok hrk (by rfl) Ap.g Ap.k Ap.b .nil pass0 (pa_cons (pv 1) pa_nil)))) (pss_one (ps_raise rfl (takes_of rfl rfl rfl rfl) (pmk_new sV T.xT.x T.xT.nv T.xT.iC T.tI Z.ok hr2 Z.b T.xT.g (pv 0) (by rfl)))) pss_nil)
      (C8.pss_cut (ps_set (i := 2) scpr.nd rfl (Or.inl rfl) (pe_make M.m M.ok hrk1 (by rfl) T.gR M.b .nil pass0 (pa_cons (pv 1) pa_nil)))
      (pss_cons (ps_if (pt_cmpR op_ne (PE.nox (pe_callTy (call_strO (E := E0) M.d M.sk hr M.sb pass0) (by rfl) T.p.str bbS (pa_cons (pv 2) pa_nil))) (pv 0) (nomark _)) (pss_one (ps_raise rfl (takes_of rfl rfl rfl rfl) (pmk_new sV T.xT.x T.xT.nv T.xT.iC T.tI Z.ok hr2 Z.b T.xT.g (pv 0) (by rfl)))) pss_nil)
      (pss_one (ps_ret (pv 2))))))), ?_⟩
    have e0 : start ["text", "parts", "row"] [V.str t] = [some (.str t), none, none] := rfl
    rw [e0]
    refine go_seq (go_asg ?_)
    walk_at "nx"
    refine ⟨fun σ' H' => ∃ v d, σ' = [some (.str t), some v, none] ∧ Same H H' ∧ Dp K H' v d ∧ sOk d ∧ (∀ ds', d = .tuple ds' → ds'.length ≤ 390000) ∧ ((t.length ≤ 2640 ∧ d = .tuple (prL t)) ∨ (¬ t.length ≤ 2640 ∧ d = .none)), ?_, ?_⟩
    · refine ⟨_, rfl, _, _, .str t, (by decide +kernel : kitB "str" "str" = some true), _, rfl, iteT ?_⟩
      refine ⟨_, rfl, t, rfl, by omega, _, _, rfl, rfl, _, rfl, ite_dec (fun g => ?_) fun g => ?_⟩
      · refine ⟨_, rfl, t, rfl, hl, fun v H1 s1 hv => ?_⟩
        refine ⟨v, _, rfl, s1, hv, sOk_prs 5 t low hl, fun ds' z => ?_, .inl ⟨by omega, rfl⟩⟩
        cases z
        have := (pcs_len t).1
        show ((pcs t).map _).length ≤ _
        rw [List.length_map]
        omega
      · exact ⟨.non, .none, rfl, Same.refl H, .non, sOk.non, (fun _ z => nomatch z), .inr ⟨by omega, rfl⟩⟩
    rintro σ' H1 ⟨v, d, rfl, s1, hv, so, sl, hd⟩
    refine ⟨_, rfl, v, d, rfl, hv, so, sl, fun H2 s2 => ⟨_, rfl, ?_⟩⟩
    cases ha : aprD d with
    | false =>
      refine iteT ⟨_, rfl, fun dd H' s' n hx => b ?_ dd H' (s1.trans (s2.trans s')) hx⟩
      unfold rowR
      rw [if_neg]
      rintro ⟨g, g2, _⟩
      rcases hd with ⟨_, rfl⟩ | ⟨g3, _⟩
      · rw [ha] at g2; cases g2
      · exact g3 g
    | true =>
      rcases hd with ⟨g, rfl⟩ | ⟨_, rfl⟩
      case inr => cases ha
      have ok := row_ok so ha
      refine iteF ?_
      refine ⟨fun σ' H' => ∃ r, σ' = [some (.str t), some v, some (.ref r)] ∧ Same H H' ∧ H r = none ∧ RowAt' K H' r (prL t), ?_, ?_⟩
      · refine ⟨_, rfl, ?_⟩
        intro r dx0 hr0 hdx hne
        have hv2 := Dp.same s2 hv
        have sl0 : Same H2 (upd (upd H2 dx0 (.own r)) r (.ins (CR K) dx0 [])) := fun b o hb => (upd_ne (ne_of_none hb hr0)).trans ((upd_ne (ne_of_none hb hdx)).trans hb)
        refine ⟨r, dx0, v, prL t, rfl, upd_same, Dp.same sl0 hv2, ok, fun H3 y keep hR hyd => ⟨rfl, r, rfl, ?_, ?_, y, _, hR, hyd⟩⟩
        · exact s1.trans (s2.trans fun b o hb => keep b o ((upd_ne (ne_of_none hb hr0)).trans ((upd_ne (ne_of_none hb hdx)).trans hb)) (ne_of_none hb hr0))
        · cases hz : H r with
          | none => rfl
          | some o => rw [s2 _ _ (s1 _ _ hz)] at hr0; cases hr0
      rintro σ3 H3 ⟨r, rfl, s3, nr, hR⟩
      obtain ⟨y, m, ⟨dx, hra⟩, hyd⟩ := hR
      refine ⟨_, rfl, r, dx, _, rfl, hra, r, prL t, rfl, ⟨y, m, ⟨dx, hra⟩, hyd⟩, ok.h, fun H4 s4 => ⟨_, rfl, _, rfl, rfl, _, rfl, str_ne (fun h => ?_) fun h => ?_⟩⟩
      · refine ⟨_, rfl, fun dd H' s' n hx => b ?_ dd H' (s3.trans (s4.trans s')) hx⟩
        unfold rowR
        rw [if_neg]
        exact fun z => h z.2.2
      · have e : rowR t = some (prL t) := by
          unfold rowR
          rw [if_pos ⟨g, ha, h⟩]
        exact ⟨_, rfl, q _ e r H4 (s3.trans s4) nr ⟨y, m, ⟨dx, s4 _ _ hra⟩, Dp.same s4 hyd⟩⟩
theorem ok_rowin {f fP : Addr} {fd dP : FuncData} (F : FnP K "_row_in" sRowIn f fd) (T : Txt K mg) {k : Nat} (Pr : Def P w K mg base (L2.CX P w) k "parse_row" fP dP ["text"] (spParseR K)) : FnOk P w K mg base CX0 (k + 1) f fd ["process", "text"] (spRowIn K) := by
  refine F.ok scri (fun vs H Q E h => ?_) (fun cdv A outer s H vs Q E hr h => ?_)
  · obtain ⟨p, t, rfl, _⟩ := h
    rfl
  · obtain ⟨p, t, rfl, low, hl, q⟩ := h
    refine ⟨_, pss_cons (ps_try_only rfl rfl ⟨rfl, by decide, .inl T.xT.g⟩ takes0 (fun W pn xe tk _ => pss_one (ps_set (i := 2) scri.nd rfl (Or.inl rfl) (pe_callS Pr.ok hr (by rfl) Pr.g Pr.k Pr.b (fun σ => passAt tk σ) (pa_cons (pv 1) pa_nil))))
        (fun a oe cls d pn hz hf => pss_one (ps_ret pe_non)))
      (pss_one (ps_ret (pe_tup (pa_cons pe_str (pa_cons (pv 0) (pa_cons (pe_fld (pv 2) rfl) pa_nil)))))), ?_⟩
    have e0 : start ["process", "text", "row"] [V.str p, .str t] = [some (.str p), some (.str t), none] := rfl
    rw [e0]
    refine go_seq ?_
    refine ⟨_, rfl, t, rfl, low, hl, fun ds e r H1 s1 nr hR => ?_, fun e dd H' s' hd => ⟨true, T.xT.e, fun _ a na => ?_, fun z => nomatch z⟩⟩
    · obtain ⟨y, m, ⟨dx, hra⟩, hyd⟩ := hR
      walk_at "nx"
      refine ⟨_, rfl, _, rfl, r, _, dx, _, _, rfl, hra, T.cl, T.nP, flds_p y m, by show 3 ≤ sizeLine; decide, fun p2 np2 => ?_⟩
      refine q _ _ (s1.trans (same_upd np2)) ?_
      unfold rowV
      rw [e]
      exact (.tup (SqT.of upd_same) (.cons (.str _) (.cons (.str _) (.cons (Dp.same (same_upd np2) hyd) .nil))))
    · refine q _ _ s' ?_
      unfold rowV
      rw [e]
      exact .non
end
end L2.L87

set_option maxHeartbeats 1000000
namespace L2.L87
open PySem PySem.Spec PyProof.Rows NumText LR L2.Lr L2.Tx TL SkE
local macro_rules | `(tactic| walk_at "nx") => `(tactic| dsimp only [gName, tNext, tSeq, tAsg, List.set_cons_zero, List.set_cons_succ])
theorem DpAll.strs {K : PySem.W.Frag} {H : Hp} : ∀ ws : List Str, DpAll K H (ws.map V.str) (ws.map PyData.str)
  | [] => .nil
  | w :: ws => .cons (.str w) (DpAll.strs ws)
theorem DpAll.figs {K : PySem.W.Frag} {H : Hp} (m : Nat) : ∀ fs : List Str, DpAll K H (fs.map fun f => optV (figO (tl f) m)) (fs.map fun f => optD (figO (tl f) m))
  | [] => .nil
  | f :: fs => .cons (optVD _) (DpAll.figs m fs)
theorem cutV_from2 (xs : List V) : cutV xs (some 2) none = xs.drop 2 := by
  show List.take (xs.length - min 2 xs.length) (List.drop (min 2 xs.length) xs) = _
  by_cases h : 2 ≤ xs.length
  · rw [Nat.min_eq_left h]; exact List.take_of_length_le (by rw [List.length_drop]; omega)
  · rw [Nat.min_eq_right (by omega), List.drop_of_length_le (Nat.le_refl _), List.drop_of_length_le (by omega)]; exact List.take_nil
theorem cutV_to2 (xs : List V) : cutV xs none (some 2) = xs.take 2 := by
  show List.take (min 2 xs.length - 0) (List.drop 0 xs) = _
  rw [List.drop_zero, Nat.sub_zero]
  by_cases h : 2 ≤ xs.length
  · rw [Nat.min_eq_left h]
  · rw [Nat.min_eq_right (by omega), List.take_length, List.take_of_length_le (by omega)]
theorem at_map {ws : List Str} {i : Nat} (h : i < ws.length) : atI (ws.map V.str) (i : Int) = some (.str (ws.getD i Str.empty)) := by
  refine atI_nat (j := i) ?_
  rw [List.getElem?_map, List.getElem?_eq_getElem h, List.getD_eq_getElem?_getD, List.getElem?_eq_getElem h]
  rfl
section
variable {P : Program} {w : World} {K : PySem.W.Frag} {mg : Str → Option Value} {base : Heap}
theorem ok_chin {f fR fA fF : Addr} {fd dR dA dF : FuncData} (F : FnP K "_change_in" sChIn f fd) (T : Txt K mg) {k : Nat} (h1 : 1 ≤ k) (Ri : Def P w K mg base CX0 k "_row_in" fR dR ["process", "text"] (spRowIn K)) (Am : Def P w K mg base CX0 1 "is_among" fA dA ["thing", "words"] (spAm K)) (Fg : Def P w K mg base CX0 1 "figures_of" fF dF ["text", "most"] spFig) :
    FnOk P w K mg base CX0 (k + 1) f fd ["words", "line"] (spChIn K) := by
  refine F.ok scci (fun vs H Q E h => ?_) (fun cdv A outer s H vs Q E hr h => ?_)
  · obtain ⟨p, ws, line, rfl, _⟩ := h
    rfl
  · obtain ⟨p, ws, line, rfl, hp, hne, hw, hlw, hll, hrow, q⟩ := h
    obtain ⟨tn, hnum⟩ := T.fnum
    have hr1 : Room 1 _ := hr.mono h1
    have sz : sizeLine = 16777216 := sizeLine_eq
    refine ⟨_, PSs.nox (C8.pss_cut (ps_if (PW.pt (pw_and (pt_cmpR op_eq (pe_ix ix_list (pv 0) pe_int (fun _ _ => rfl)) pe_str (nomark _)) (pw_and1 (pt_cmpR op_gt (pe_callB call_len_seq (by rfl) T.p.len boot_len (pa_cons (pv 0) pa_nil)) pe_int (nomark _))))) (pss_one (ps_ret (pe_call Ri.ok hr (by rfl) Ri.g Ri.k Ri.b .nil pass0 (pa_cons (pe_ix ix_list (pv 0) pe_int (fun _ _ => rfl))
          (pa_cons (pe_slice sl_str (pv 1) (po_some (pe_op op_add (pe_op op_add (pe_callB call_len_str (by rfl) T.p.len boot_len (pa_cons pe_str pa_nil)) (pe_callB call_len_str (by rfl) T.p.len boot_len (pa_cons (pe_ix ix_list (pv 0) pe_int (fun _ _ => rfl)) pa_nil))) (pe_callB call_len_str (by rfl) T.p.len boot_len (pa_cons pe_str pa_nil)))) po_none) pa_nil))))) pss_nil)
      (pss_cons (ps_if (pt_cmpR op_eq (pe_ix ix_list (pv 0) pe_int (fun _ _ => rfl)) pe_str (nomark _)) (pss_one (ps_ret (pe_tup (pa_cons pe_str (pa_cons (pe_ifExp (pt_cmpR op_gt (pe_callB call_len_seq (by rfl) T.p.len boot_len (pa_cons (pv 0) pa_nil)) pe_int (nomark _)) (pe_ix ix_list (pv 0) pe_int (fun _ _ => rfl)) pe_str) (pa_cons (pe_callTy call_tuple_of (by rfl) T.p.tuple bbT (pa_cons (pe_slice sl_list (pv 0) (po_some pe_int) po_none) pa_nil)) pa_nil)))))) pss_nil)
      (pss_cons (ps_if (pt_val (pe_call Am.ok hr1 (by rfl) Am.g Am.k Am.b .nil pass0 (pa_cons (pe_ix ix_list (pv 0) pe_int (fun _ _ => rfl)) (pa_cons (pe_tup (pa_cons pe_str (pa_cons pe_str pa_nil))) pa_nil)))) (pss_one (ps_ret (pe_callTy call_tuple_of (by rfl) T.p.tuple bbT (pa_cons (pe_op op_cat (pe_slice sl_list (pv 0) po_none (po_some pe_int))
          (pe_lc (own := [("figures", 2)]) (g := gName 2) (tt := tYes) rfl scci.nd (pi_list (pe_slice sl_list (pv 0) (po_some pe_int) po_none)) (blkOk_by (N := ["words", "line", "figures"]) (sc := defScope sChIn) (by decide +kernel)) (fun _ _ _ _ _ => pg_name (i := 2) scci.nd rfl (Or.inl rfl)) (fun _ _ _ _ _ => pts_nil) (fun _ _ _ _ _ => pe_call Fg.ok hr1 (by rfl) Fg.g Fg.k Fg.b .nil pass0 (pa_cons (pv 2) (pa_cons (pe_gI hnum (by rfl)) pa_nil))))) pa_nil)))) pss_nil)
      (pss_one (ps_ret (pe_callTy call_tuple_of (by rfl) T.p.tuple bbT (pa_cons (pv 0) pa_nil))))))), ?_⟩
    have e0 : start ["words", "line", "figures"] [V.ref p, .str line] = [some (.ref p), some (.str line), none] := rfl
    rw [e0]
    have hS : SqL K H p (ws.map V.str) := SqL.of hp
    have hl0 : 0 < ws.length := List.length_pos_iff.mpr hne
    have ehd : ws.getD 0 Str.empty = ws.headD Str.empty := by cases ws <;> rfl
    have a0 : atI (ws.map V.str) 0 = some (.str (ws.headD Str.empty)) := by rw [← ehd]; exact at_map (i := 0) hl0
    have hlm : ((ws.map V.str).length : Int) = ws.length := by rw [List.length_map]
    unfold chgD at q
    generalize hw0 : ws.headD Str.empty = w0 at q a0
    refine ⟨fun σ' H' => σ' = [some (.ref p), some (.str line), none] ∧ H' = H ∧ ¬ (w0 = "row" ∧ 2 < ws.length), ?_, ?_⟩
    · refine ⟨_, rfl, p, _, 0, _, rfl, rfl, hS, a0, rfl, _, rfl, str_if (fun h => ?_) fun h => ⟨rfl, rfl, fun z => h z.1⟩⟩
      refine ⟨_, rfl, p, _, rfl, .inl hS, _, _, rfl, rfl, _, rfl, ite_dec (fun g => ?_) fun g => ⟨rfl, rfl, fun z => g (by rw [hlm]; have := z.2; omega)⟩⟩
      have g2 : 2 < ws.length := by rw [hlm] at g; omega
      rw [if_pos ⟨h, g2⟩] at q
      have lw1 := hw (ws.getD 1 Str.empty) (by rw [List.getD_eq_getElem?_getD, List.getElem?_eq_getElem (show 1 < ws.length by omega)]; exact List.getElem_mem _)
      refine ⟨_, rfl, p, _, 1, _, rfl, rfl, hS, at_map (i := 1) (by omega), _, rfl, ("row " : Str), rfl, by decide +kernel, _, rfl, p, _, 1, _, rfl, rfl, hS, at_map (i := 1) (by omega), ws.getD 1 Str.empty, rfl, by omega, _, _, rfl, rfl, (" " : Str), rfl, by decide +kernel, _, _, rfl, rfl, _, rfl, line, rfl, by omega, ?_⟩
      exact ⟨ws.getD 1 Str.empty, _, rfl, hrow.cut _ _, Nat.le_trans (cut_le _ _ _) hll, fun v H' s' hv => q v H' s' hv⟩
    rintro σ' H' ⟨rfl, rfl, hn⟩
    rw [if_neg hn] at q
    refine ⟨_, rfl, p, _, 0, _, rfl, rfl, hS, a0, rfl, _, rfl, str_if (fun h => ?_) fun h => ?_⟩
    · rw [if_pos h] at q
      have fin : ∀ x1 : Str, x1 = ws.getD 1 Str.empty → ∀ (l : Addr), H' l = none → ∀ t2, (upd H' l (.lst ((ws.map V.str).drop 2))) t2 = none → ∀ t3, (upd (upd H' l (.lst ((ws.map V.str).drop 2))) t2 (.tup ((ws.map V.str).drop 2))) t3 = none →
          Q (.ref t3) (upd (upd (upd H' l (.lst ((ws.map V.str).drop 2))) t2 (.tup ((ws.map V.str).drop 2))) t3 (.tup [.str "join", .str x1, .ref t2])) := fun x1 e l nl t2 n2 t3 n3 => by
        have s1 := same_upd (o := .lst ((ws.map V.str).drop 2)) nl
        have s2 := same_upd (o := .tup ((ws.map V.str).drop 2)) n2
        have s3 := same_upd (o := .tup [.str "join", .str x1, .ref t2]) n3
        refine q _ _ (s1.trans (s2.trans s3)) (.tup (SqT.of upd_same) (.cons (.str _) (.cons (e ▸ .str _) (.cons (Dp.same s3 (.tup (SqT.of upd_same) ?_)) .nil))))
        rw [← List.map_drop]
        exact DpAll.strs _
      refine ⟨_, rfl, p, _, rfl, .inl hS, _, _, rfl, rfl, _, rfl, ite_dec (fun g => ?_) fun g => ?_⟩
      · refine ⟨_, rfl, p, _, 1, _, rfl, rfl, hS, at_map (i := 1) (by rw [hlm] at g; omega), _, rfl, 2, rfl, p, _, rfl, hS, fun l nl => ?_⟩
        rw [cutV_from2]
        exact ⟨l, _, rfl, .inl ⟨SqL.of upd_same, fun t2 n2 => ⟨by show 3 ≤ sizeLine; decide, fun t3 n3 => fin _ rfl l nl t2 n2 t3 n3⟩⟩⟩
      · refine ⟨_, rfl, 2, rfl, p, _, rfl, hS, fun l nl => ?_⟩
        rw [cutV_from2]
        have e1 : (Str.empty : Str) = ws.getD 1 Str.empty := by
          rw [List.getD_eq_getElem?_getD, List.getElem?_eq_none (by rw [hlm] at g; omega)]
          rfl
        exact ⟨l, _, rfl, .inl ⟨SqL.of upd_same, fun t2 n2 => ⟨by show 3 ≤ sizeLine; decide, fun t3 n3 => fin _ e1 l nl t2 n2 t3 n3⟩⟩⟩
    rw [if_neg h] at q
    walk_at "nx"
    refine ⟨_, rfl, p, _, 0, _, rfl, rfl, hS, a0, by show 2 ≤ sizeLine; decide, fun tp ntp => ⟨w0, tp, ["first", "kill"], rfl, SqT.of upd_same, _, rfl, ?_⟩⟩
    have s1 := same_upd (o := .tup [.str "first", .str "kill"]) ntp
    have hS2 := Same.seq s1 hS
    generalize upd H' tp (.tup [.str "first", .str "kill"]) = H1 at s1 hS2 ⊢
    by_cases hm : w0 ∈ [("first" : Str), "kill"]
    · rw [decide_eq_true hm]
      rw [if_pos hm] at q
      refine iteT ⟨_, rfl, 2, rfl, p, _, rfl, hS2, fun l nl => ?_⟩
      rw [cutV_to2]
      have s2 := same_upd (o := .lst ((ws.map V.str).take 2)) nl
      have hL := upd_same (H := H1) (a := l) (o := .lst ((ws.map V.str).take 2))
      generalize upd H1 l (.lst ((ws.map V.str).take 2)) = H2 at s2 hL ⊢
      refine ⟨_, rfl, 2, rfl, p, _, rfl, Same.seq s2 hS2, fun l2 nl2 => ?_⟩
      rw [cutV_from2]
      have s3 := same_upd (o := .lst ((ws.map V.str).drop 2)) nl2
      have hL2 := upd_same (H := H2) (a := l2) (o := .lst ((ws.map V.str).drop 2))
      have hL' := s3 _ _ hL
      generalize upd H2 l2 (.lst ((ws.map V.str).drop 2)) = H3 at s3 hL2 hL' ⊢
      have hlf : (ws.drop 2).length ≤ 100001 := by rw [List.length_drop]; omega
      refine ⟨l2, rfl, ⟨_, SqL.of hL2⟩, fun D hD => lc_list (K := K) (a := l2) (xs := (ws.map V.str).drop 2) (MapI H3 D ((ws.drop 2).map fun f => optV (figO (tl f) 31))) (MapI.zero hD) (fun i H' _ p => SqL.of (p.1 _ _ hL2)) ?_ ?_⟩
      · rintro i v H5 hv p5
        obtain ⟨x, hx, rfl⟩ : ∃ x, (ws.drop 2)[i]? = some x ∧ v = .str x := by
          rw [← List.map_drop, List.getElem?_map] at hv
          cases hx : (ws.drop 2)[i]? with
          | none => rw [hx] at hv; cases hv
          | some x => rw [hx] at hv; exact ⟨x, rfl, (Option.some.inj hv).symm⟩
        have lx := hw x (List.mem_of_mem_drop (List.mem_of_getElem? hx))
        refine ⟨rfl, ⟨_, rfl, x, 31, rfl, by omega, by decide, fun H6 s6 => ?_⟩⟩
        exact MapI.step hD p5 (by rw [List.getElem?_map, hx]; rfl) (by rw [List.length_map]; omega) s6
      · intro H5 pm
        obtain ⟨s5, hD5⟩ := pm.all (by rw [List.length_map, ← List.map_drop, List.length_map]; exact Nat.le_refl _)
        refine ⟨_, _, _, _, rfl, rfl, s5 _ _ hL', hD5, ?_, fun r nr => ?_⟩
        · rw [List.length_take, List.length_map, List.length_map, sz]
          omega
        · refine ⟨r, _, rfl, .inl ⟨SqL.of upd_same, fun t2 n2 => ?_⟩⟩
          refine q _ _ (s1.trans (s2.trans (s3.trans (s5.trans ((same_upd nr).trans (same_upd n2)))))) (.tup (SqT.of upd_same) ?_)
          rw [← List.map_take]
          exact DpAll.append (DpAll.strs _) (DpAll.figs 31 _)
    · rw [decide_eq_false hm]
      rw [if_neg hm] at q
      refine iteF ?_
      walk_at "nx"
      refine ⟨_, rfl, p, _, rfl, .inl ⟨hS2, fun t2 n2 => ?_⟩⟩
      exact q _ _ (s1.trans (same_upd n2)) (.tup (SqT.of upd_same) (DpAll.strs _))
end
end L2.L87

set_option maxHeartbeats 1000000
namespace L2.L87
open PySem PySem.Spec PyProof.Rows NumText LR L2.Lr L2.Tx TL SkE
local macro_rules | `(tactic| walk_at "nx") => `(tactic| dsimp only [gName, tNext, tSeq, tAsg, List.set_cons_zero, List.set_cons_succ])
section
variable {P : Program} {w : World} {K : PySem.W.Frag} {mg : Str → Option Value} {base : Heap}
theorem ok_evin {f fC fF : Addr} {fd dC dF : FuncData} (F : FnP K "_event_in" sEvIn f fd) (T : Txt K mg) {k : Nat} (h1 : 1 ≤ k) (Ci : Def P w K mg base CX0 k "_change_in" fC dC ["words", "line"] (spChIn K)) (Fg : Def P w K mg base CX0 1 "figures_of" fF dF ["text", "most"] spFig) :
    FnOk P w K mg base CX0 (k + 1) f fd ["line"] (spEvIn K) := by
  refine F.ok scei (fun vs H Q E h => ?_) (fun cdv A outer s H vs Q E hr h => ?_)
  · obtain ⟨t, rfl, _⟩ := h
    rfl
  · obtain ⟨t, rfl, hl, hrow, q⟩ := h
    obtain ⟨tn, hnum⟩ := T.fnum
    obtain ⟨tr, hroom⟩ := T.froom
    have hr1 : Room 1 _ := hr.mono h1
    have sz : sizeLine = 16777216 := sizeLine_eq
    refine ⟨_, pss_cons (ps_set (i := 1) scei.nd rfl (Or.inl rfl) (pe_split (pv 0) pe_str))
      (C8.pss_cut (ps_if (PW.pt (pw_and (pt_cmpR op_eq (pe_ix ix_list (pv 1) pe_int (fun _ _ => rfl)) pe_str (nomark _)) (pw_and1 (pt_cmpR op_eq (pe_callB call_len_seq (by rfl) T.p.len boot_len (pa_cons (pv 1) pa_nil)) pe_int (nomark _))))) (pss_one (ps_ret (pe_tup (pa_cons pe_str (pa_cons (pe_ix ix_list (pv 1) pe_int (fun _ _ => rfl)) (pa_cons (pe_call Fg.ok hr1 (by rfl) Fg.g Fg.k Fg.b .nil pass0 (pa_cons (pe_ix ix_list (pv 1) pe_int (fun _ _ => rfl)) (pa_cons (pe_gI hroom (by rfl)) pa_nil))) pa_nil)))))) pss_nil)
      (C8.pss_cut (ps_if (PW.pt (pw_and (pt_cmpR op_eq (pe_ix ix_list (pv 1) pe_int (fun _ _ => rfl)) pe_str (nomark _)) (pw_and1 (pt_cmpR op_eq (pe_callB call_len_seq (by rfl) T.p.len boot_len (pa_cons (pv 1) pa_nil)) pe_int (nomark _))))) (pss_one (ps_ret (pe_tup (pa_cons pe_str (pa_cons (pe_call Fg.ok hr1 (by rfl) Fg.g Fg.k Fg.b .nil pass0 (pa_cons (pe_ix ix_list (pv 1) pe_int (fun _ _ => rfl)) (pa_cons (pe_gI hnum (by rfl)) pa_nil))) pa_nil))))) pss_nil)
      (pss_cons (ps_if (pt_cmpR op_eq (pe_ix ix_list (pv 1) pe_int (fun _ _ => rfl)) pe_str (nomark _)) (pss_one (ps_ret (pe_tup (pa_cons pe_str pa_nil)))) pss_nil)
      (pss_one (ps_ret (pe_tup (pa_cons pe_str (pa_cons (pe_call Ci.ok hr (by rfl) Ci.g Ci.k Ci.b .nil pass0 (pa_cons (pv 1) (pa_cons (pv 0) pa_nil))) pa_nil)))))))), ?_⟩
    have e0 : start ["line", "words"] [V.str t] = [some (.str t), none] := rfl
    rw [e0]
    obtain ⟨w1, w2⟩ := split_parts (x := t) (y := spS) (s := 32) (S := []) rfl (by decide +kernel)
    have wn := split_ne (x := t) (y := spS) (by decide) (by decide +kernel)
    refine go_seq (go_asg ?_)
    refine ⟨_, rfl, ⟨_, rfl⟩, t, spS, rfl, rfl, rfl, by omega, fun p np => ?_⟩
    generalize PySem.Txt.split t spS = ws at *
    have s1 := same_upd (o := .lst (ws.map V.str)) np
    have hp := upd_same (H := H) (a := p) (o := .lst (ws.map V.str))
    generalize upd H p (.lst (ws.map V.str)) = H1 at s1 hp ⊢
    have hS : SqL K H1 p (ws.map V.str) := SqL.of hp
    have hl0 : 0 < ws.length := List.length_pos_iff.mpr wn
    have ehd : ws.getD 0 Str.empty = ws.headD Str.empty := by cases ws <;> rfl
    have a0 : atI (ws.map V.str) 0 = some (.str (ws.headD Str.empty)) := by rw [← ehd]; exact at_map (i := 0) hl0
    have hlm : ((ws.map V.str).length : Int) = ws.length := by rw [List.length_map]
    have lw : ∀ i, i < ws.length → (ws.getD i Str.empty).length ≤ 100000 := fun i hi => by
      refine Nat.le_trans (w1 (ws.getD i Str.empty) ?_) hl
      rw [List.getD_eq_getElem?_getD, List.getElem?_eq_getElem hi]
      exact List.getElem_mem _
    unfold evD at q
    walk_at "nx"
    refine ⟨fun σ' H' => σ' = [some (.str t), some (.ref p)] ∧ H' = H1 ∧ ¬ (ws.headD Str.empty = "room" ∧ ws.length = 3), ?_, ?_⟩
    · refine ⟨_, rfl, p, _, 0, _, rfl, rfl, hS, a0, rfl, _, rfl, str_if (fun h => ?_) fun h => ⟨rfl, rfl, fun z => h z.1⟩⟩
      refine ⟨_, rfl, p, _, rfl, .inl hS, rfl, _, rfl, len_if (fun g => ?_) fun g => ⟨rfl, rfl, fun z => g (by rw [hlm, z.2]; rfl)⟩⟩
      have g2 : ws.length = 3 := by rw [hlm] at g; omega
      rw [if_pos ⟨h, g2⟩] at q
      have l2 := lw 2 (by omega)
      refine ⟨_, rfl, p, _, 1, _, rfl, rfl, hS, at_map (i := 1) (by omega), _, rfl, p, _, 2, _, rfl, rfl, hS, at_map (i := 2) (by omega), ws.getD 2 Str.empty, 201, rfl, by omega, by decide, fun H2 s2 => ⟨by show 3 ≤ sizeLine; omega, fun t2 n2 => ?_⟩⟩
      exact q _ _ (s1.trans (s2.trans (same_upd n2))) (.tup (SqT.of upd_same) (.cons (.str _) (.cons (.str _) (.cons (optVD _) .nil))))
    rintro σ' H' ⟨rfl, rfl, hn⟩
    rw [if_neg hn] at q
    refine ⟨fun σ' H2 => σ' = [some (.str t), some (.ref p)] ∧ H2 = H' ∧ ¬ (ws.headD Str.empty = "n" ∧ ws.length = 2), ?_, ?_⟩
    · refine ⟨_, rfl, p, _, 0, _, rfl, rfl, hS, a0, rfl, _, rfl, str_if (fun h => ?_) fun h => ⟨rfl, rfl, fun z => h z.1⟩⟩
      refine ⟨_, rfl, p, _, rfl, .inl hS, rfl, _, rfl, len_if (fun g => ?_) fun g => ⟨rfl, rfl, fun z => g (by rw [hlm, z.2]; rfl)⟩⟩
      have g2 : ws.length = 2 := by rw [hlm] at g; omega
      rw [if_pos ⟨h, g2⟩] at q
      have l2 := lw 1 (by omega)
      refine ⟨_, rfl, p, _, 1, _, rfl, rfl, hS, at_map (i := 1) (by omega), ws.getD 1 Str.empty, 31, rfl, by omega, by decide, fun H2 s2 => ⟨by show 2 ≤ sizeLine; omega, fun t2 n2 => ?_⟩⟩
      exact q _ _ (s1.trans (s2.trans (same_upd n2))) (.tup (SqT.of upd_same) (.cons (.str _) (.cons (optVD _) .nil)))
    rintro σ' H2 ⟨rfl, rfl, hn2⟩
    rw [if_neg hn2] at q
    refine ⟨_, rfl, p, _, 0, _, rfl, rfl, hS, a0, rfl, _, rfl, str_if (fun h => ?_) fun h => ?_⟩
    · rw [if_pos h] at q
      refine ⟨by show 1 ≤ sizeLine; omega, fun t2 n2 => ?_⟩
      exact q _ _ (s1.trans (same_upd n2)) (.tup (SqT.of upd_same) (.cons (.str _) .nil))
    · rw [if_neg h] at q
      walk_at "nx"
      refine ⟨_, rfl, _, rfl, p, ws, t, rfl, hp, wn, fun x hx => Nat.le_trans (w1 x hx) hl, by omega, hl, hrow, fun v H3 s3 hv => ⟨by show 2 ≤ sizeLine; omega, fun t2 n2 => ?_⟩⟩
      exact q _ _ (s1.trans (s3.trans (same_upd n2))) (.tup (SqT.of upd_same) (.cons (.str _) (.cons (Dp.same (same_upd n2) hv) .nil)))
end
/-! ### what is in a line is short enough -/
theorem strs_ok {ws : List Str} (h : ∀ x ∈ ws, Low x ∧ x.length ≤ 100000) : ∀ d ∈ ws.map PyData.str, sOk d := fun d hd => by
  obtain ⟨x, hx, rfl⟩ := List.mem_map.mp hd
  exact sOk.str (h x hx).1 (h x hx).2
theorem shC_flat {ds : List PyData} (h : ∀ d ∈ ds, sOk d) (hl : ds.length ≤ 100001) (ht : ∀ d ∈ ds, ∀ es, d = .tuple es → es.length ≤ 4000) : ShC (.tuple ds) := ⟨sOk.tup h hl, fun ds' e x hx es hes => by cases e; exact ht x hx es hes⟩
theorem getD_ok {ws : List Str} (h : ∀ x ∈ ws, Low x ∧ x.length ≤ 100000) (i : Nat) : Low (ws.getD i Str.empty) ∧ (ws.getD i Str.empty).length ≤ 100000 := by
  rw [List.getD_eq_getElem?_getD]
  cases e : ws[i]? with
  | none => exact ⟨low_empty, by decide⟩
  | some x => exact h x (List.mem_of_getElem? e)
theorem noT_str {x : Str} : ∀ es, PyData.str x = .tuple es → es.length ≤ 4000 := fun _ z => nomatch z
theorem noT_opt (o : Option Nat) : ∀ es, optD o = .tuple es → es.length ≤ 4000 := fun es z => by cases o <;> cases z
theorem shC_chg {ws : List Str} {t : Str} (h : ∀ x ∈ ws, Low x ∧ x.length ≤ 100000) (hl : ws.length ≤ 3901) (ht : t.length ≤ 3900) (low : Low t) : ShC (chgD ws t) := by
  unfold chgD
  split
  · unfold rowV
    split
    · rename_i ds e
      obtain ⟨rfl, hn, _⟩ := rowR_some e
      have hg := getD_ok h 1
      have so := sOk_prs 5 _ (low.cut (some (4 + (ws.getD 1 Str.empty).length + 1 : Int)) none) (Nat.le_trans (cut_le _ _ _) (by omega))
      refine shC_flat (fun d hd => ?_) (by simp) fun d hd => ?_
      · rcases List.mem_cons.mp hd with rfl | hd
        · exact sOk.str (low_lit _ (by decide +kernel)) (by decide +kernel)
        rcases List.mem_cons.mp hd with rfl | hd
        · exact sOk.str hg.1 hg.2
        rw [List.mem_singleton.mp hd]; exact so
      · rcases List.mem_cons.mp hd with rfl | hd
        · exact noT_str
        rcases List.mem_cons.mp hd with rfl | hd
        · exact noT_str
        rw [List.mem_singleton.mp hd]
        intro es z
        cases z
        have := (pcs_len (cutS t (some (4 + (ws.getD 1 Str.empty).length + 1 : Int)) none)).1
        show ((pcs _).map _).length ≤ _
        rw [List.length_map]
        omega
    · exact ⟨sOk.non, fun _ z => nomatch z⟩
  · split
    · have hg := getD_ok h 1
      have hd2 : ∀ x ∈ ws.drop 2, Low x ∧ x.length ≤ 100000 := fun x hx => h x (List.mem_of_mem_drop hx)
      refine shC_flat (fun d hd => ?_) (by simp) fun d hd => ?_
      · rcases List.mem_cons.mp hd with rfl | hd
        · exact sOk.str (low_lit _ (by decide +kernel)) (by decide +kernel)
        rcases List.mem_cons.mp hd with rfl | hd
        · exact sOk.str hg.1 hg.2
        rw [List.mem_singleton.mp hd]
        exact sOk.tup (strs_ok hd2) (by rw [List.length_map, List.length_drop]; omega)
      · rcases List.mem_cons.mp hd with rfl | hd
        · exact noT_str
        rcases List.mem_cons.mp hd with rfl | hd
        · exact noT_str
        rw [List.mem_singleton.mp hd]
        intro es z
        cases z
        rw [List.length_map, List.length_drop]
        omega
    · split
      · refine shC_flat (fun d hd => ?_) (by rw [List.length_append, List.length_map, List.length_map, List.length_take, List.length_drop]; omega) fun d hd => ?_
        · rcases List.mem_append.mp hd with hd | hd
          · exact strs_ok (fun x hx => h x (List.mem_of_mem_take hx)) d hd
          · obtain ⟨x, hx, rfl⟩ := List.mem_map.mp hd
            exact sOk.opt _
        · rcases List.mem_append.mp hd with hd | hd
          · obtain ⟨x, hx, rfl⟩ := List.mem_map.mp hd
            exact noT_str
          · obtain ⟨x, hx, rfl⟩ := List.mem_map.mp hd
            exact noT_opt _
      · refine shC_flat (strs_ok h) (by rw [List.length_map]; omega) fun d hd => ?_
        obtain ⟨x, hx, rfl⟩ := List.mem_map.mp hd
        exact noT_str
theorem shE_of {ds : List PyData} (h : ∀ d ∈ ds, ShC d) (hl : ds.length ≤ 100001) : ShE (.tuple ds) := ⟨sOk.tup (fun d hd => (h d hd).1) hl, fun ds' e x hx => by cases e; exact h x hx⟩
theorem shC_str {x : Str} (h : Low x) (hl : x.length ≤ 100000) : ShC (.str x) := ⟨sOk.str h hl, fun _ z => nomatch z⟩
theorem shC_opt (o : Option Nat) : ShC (optD o) := ⟨sOk.opt o, fun _ z => by cases o <;> cases z⟩
theorem shE_ev {t : Str} (ht : t.length ≤ 3900) (low : Low t) : ShE (evD (PySem.Txt.split t spS) t) := by
  obtain ⟨w1, w2⟩ := split_parts (x := t) (y := spS) (s := 32) (S := []) rfl (by decide +kernel)
  have h : ∀ x ∈ PySem.Txt.split t spS, Low x ∧ x.length ≤ 100000 := fun x hx => ⟨low.split (y := spS) (c := 32) rfl (by decide) x hx, by have := w1 x hx; omega⟩
  generalize PySem.Txt.split t spS = ws at *
  have hg := getD_ok h 1
  unfold evD
  split
  · refine shE_of (fun d hd => ?_) (by simp)
    rcases List.mem_cons.mp hd with rfl | hd
    · exact shC_str (low_lit _ (by decide +kernel)) (by decide +kernel)
    rcases List.mem_cons.mp hd with rfl | hd
    · exact shC_str hg.1 hg.2
    rw [List.mem_singleton.mp hd]; exact shC_opt _
  · split
    · refine shE_of (fun d hd => ?_) (by simp)
      rcases List.mem_cons.mp hd with rfl | hd
      · exact shC_str (low_lit _ (by decide +kernel)) (by decide +kernel)
      rw [List.mem_singleton.mp hd]; exact shC_opt _
    · split
      · refine shE_of (fun d hd => ?_) (by simp)
        rw [List.mem_singleton.mp hd]
        exact shC_str (low_lit _ (by decide +kernel)) (by decide +kernel)
      · refine shE_of (fun d hd => ?_) (by simp)
        rcases List.mem_cons.mp hd with rfl | hd
        · exact shC_str (low_lit _ (by decide +kernel)) (by decide +kernel)
        rw [List.mem_singleton.mp hd]
        exact shC_chg h (by omega) ht low
section
variable {P : Program} {w : World} {K : PySem.W.Frag} {mg : Str → Option Value} {base : Heap}
theorem ok_evof {f fE fT fL : Addr} {fd dE dT dL : FuncData} (F : FnP K "event_of" sEvOf f fd) {k : Nat} (Ei : Def P w K mg base CX0 k "_event_in" fE dE ["line"] (spEvIn K)) (Te : Def P w K mg base CX0 k "is_told_event" fT dT ["thing"] (spToldE K)) (Lo : Def P w K mg base CX0 k "line_of" fL dL ["event"] (spLineOf K)) :
    FnOk P w K mg base CX0 (k + 1) f fd ["line"] (spEvOf K) := by
  refine F.ok sceo (fun vs H Q E h => ?_) (fun cdv A outer s H vs Q E hr h => ?_)
  · obtain ⟨t, rfl, _⟩ := h
    rfl
  · obtain ⟨t, rfl, hl, low, q⟩ := h
    refine ⟨_, pss_cons (ps_set (i := 1) sceo.nd rfl (Or.inl rfl) (pe_call Ei.ok hr (by rfl) Ei.g Ei.k Ei.b .nil pass0 (pa_cons (pv 0) pa_nil)))
      (pss_one (ps_ret (pe_ifExp (PW.pt (pw_and (pt_val (pe_call Te.ok hr (by rfl) Te.g Te.k Te.b .nil pass0 (pa_cons (pv 1) pa_nil))) (pw_and1 (pt_cmpR op_eq (pe_call Lo.ok hr (by rfl) Lo.g Lo.k Lo.b .nil pass0 (pa_cons (pv 1) pa_nil)) (pv 0) (nomark _))))) (pv 1) pe_non))), ?_⟩
    have e0 : start ["line", "event"] [V.str t] = [some (.str t), none] := rfl
    rw [e0]
    have hsh := shE_ev hl low
    unfold evO at q
    refine go_seq (go_asg ?_)
    refine ⟨_, rfl, t, rfl, by omega, low, fun v H1 s1 hv => ?_⟩
    walk_at "nx"
    generalize evD (PySem.Txt.split t spS) t = d at *
    refine ⟨_, rfl, v, d, rfl, hv, hsh, fun H2 s2 => ⟨_, rfl, ?_⟩⟩
    have hv2 := Dp.same s2 hv
    cases ht : toldB d with
    | false =>
      rw [if_neg (fun z => by rw [ht] at z; cases z.1)] at q
      exact iteF (q _ _ (s1.trans s2) .non)
    | true =>
      refine iteT ⟨_, rfl, v, d, rfl, hv2, hsh, ht, fun H3 s3 => ⟨_, rfl, rfl, _, rfl, str_if (fun e => ?_) fun e => ?_⟩⟩
      · rw [if_pos ⟨ht, e⟩] at q
        exact ⟨_, rfl, q v H3 (s1.trans (s2.trans s3)) (Dp.same s3 hv2)⟩
      · rw [if_neg (fun z => e z.2)] at q
        exact q _ _ (s1.trans (s2.trans s3)) .non
end
end L2.L87

set_option maxHeartbeats 1000000
namespace L2.L87
open PySem PySem.Spec PyProof.Rows NumText LR L2.Lr L2.Tx TL SkE
local macro_rules | `(tactic| walk_at "nx") => `(tactic| dsimp only [gName, tNext, tSeq, tAsg, List.set_cons_zero, List.set_cons_succ])
abbrev nlS : Str := "\n"
theorem tl_nl : tl nlS = [10] := rfl
abbrev NRp : List Str := ["text", "lines", "events", "line"]
theorem scrp : FnScope NRp ["text"] (defScope sReadP) := ⟨rfl, rfl, rfl, by decide +kernel, rfl, by decide +kernel, by decide +kernel⟩
theorem op_inDK {X : Cx} (K : PySem.W.Frag) (hK : X.K = K) (hu : X.A.units + 65 < cLine) : OpR X (compareOp .In) (rInD K) := by subst hK; exact op_inD hu
theorem mt_indexDK {X : Cx} (K : PySem.W.Frag) (hK : X.K = K) (hu : X.A.units + 65 < cLine) : MtR X "list.index" (rIndexD K) := by subst hK; exact mt_indexD hu
theorem units65 {k : Nat} {A : Around} (r : Room k A) : A.units + 65 < cLine := by have := r.un; omega
def isStr : PyData → Bool
  | .str _ => true
  | _ => false
theorem isStrF {K : PySem.W.Frag} {H : Hp} {x : V} {d : PyData} (h : Dp K H x d) (n : isStr d = false) : kitB (tyN d) "str" = some false := by
  cases d with
  | none => exact (by decide +kernel : kitB "NoneType" "str" = some false)
  | bool _ => exact (by decide +kernel : kitB "bool" "str" = some false)
  | int _ => exact (by decide +kernel : kitB "int" "str" = some false)
  | str _ => cases n
  | list _ => exact (by decide +kernel : kitB "list" "str" = some false)
  | tuple _ => exact (by decide +kernel : kitB "tuple" "str" = some false)
  | dict _ => cases h
/-! ### data of a depth, without lists -/
structure Gd (n : Nat) (d : PyData) : Prop where
  c : d.canLay0 = true
  p : d.depth ≤ n
  l : noL d = true
theorem Gd.mono {m n : Nat} {d : PyData} (h : Gd m d) (hl : m ≤ n) : Gd n d := ⟨h.c, Nat.le_trans h.p hl, h.l⟩
theorem canAll : ∀ {ds : List PyData}, (∀ d ∈ ds, d.canLay0 = true) → PyData.canLayAll0 ds = true
  | [], _ => rfl
  | d :: ds, h => Bool.and_eq_true_iff.mpr ⟨h d (List.mem_cons_self ..), canAll fun x hx => h x (List.mem_cons_of_mem _ hx)⟩
theorem depthAll_le {n : Nat} : ∀ {ds : List PyData}, (∀ d ∈ ds, d.depth ≤ n) → PyData.depthAll ds ≤ n
  | [], _ => Nat.zero_le _
  | d :: ds, h => by
    show max d.depth (PyData.depthAll ds) ≤ n
    exact Nat.max_le.mpr ⟨h d (List.mem_cons_self ..), depthAll_le fun x hx => h x (List.mem_cons_of_mem _ hx)⟩
theorem noLAll_mk : ∀ {ds : List PyData}, (∀ d ∈ ds, noL d = true) → noLAll ds = true := fun {ds} h => by
  have := noLAll_map (f := id) (l := ds) h
  rwa [List.map_id] at this
theorem Gd.tup {n : Nat} {ds : List PyData} (h : ∀ d ∈ ds, Gd n d) : Gd (n + 1) (.tuple ds) := ⟨by simpa only [PyData.canLay0] using canAll fun d hd => (h d hd).c, by
    have := depthAll_le fun d hd => (h d hd).p
    simp only [PyData.depth]
    omega, by simpa only [noL] using noLAll_mk fun d hd => (h d hd).l⟩
theorem Gd.str {t : Str} (h : Low t) : Gd 0 (.str t) := ⟨by simpa only [PyData.canLay0] using h.ok, Nat.le_refl _, rfl⟩
theorem Gd.int (i : Int) : Gd 0 (.int i) := ⟨rfl, Nat.le_refl _, rfl⟩
theorem Gd.non : Gd 0 .none := ⟨rfl, Nat.le_refl _, rfl⟩
theorem Gd.opt (o : Option Nat) : Gd 0 (optD o) := by cases o <;> first | exact Gd.non | exact Gd.int _
theorem Gd.lit (w : Str) (h : ((tl w).all fun c => decide (c < 256)) = true) : Gd 0 (.str w) := Gd.str (low_of h)
theorem mem2 {a b d : PyData} {n : Nat} (ha : Gd n a) (hb : Gd n b) (h : d ∈ [a, b]) : Gd n d := by
  rcases List.mem_cons.mp h with rfl | h
  · exact ha
  · rw [List.mem_singleton.mp h]; exact hb
theorem mem3 {a b c d : PyData} {n : Nat} (ha : Gd n a) (hb : Gd n b) (hc : Gd n c) (h : d ∈ [a, b, c]) : Gd n d := by
  rcases List.mem_cons.mp h with rfl | h
  · exact ha
  · exact mem2 hb hc h
theorem Gd.cnt (t : Str) : Gd 1 (cntD t) := by
  rcases cntD_cases t with h | ⟨a, b, h, _⟩
  · rw [h]; exact Gd.non.mono (by omega)
  · rw [h]; exact Gd.tup fun d hd => mem2 (Gd.int _) (Gd.int _) hd
theorem Gd.sng {ws : List Str} (h : ∀ x ∈ ws, Low x) : Gd 1 (sngD ws) := by
  unfold sngD
  split
  · rename_i w c
    split
    · exact Gd.tup fun d hd => mem2 (Gd.str (h w (by simp))) (Gd.opt _) hd
    · split
      · exact Gd.tup fun d hd => mem3 (Gd.str (h w (by simp))) (Gd.str (h c (by simp))) (Gd.int _) hd
      · exact Gd.non.mono (by omega)
  · rename_i w c k
    split
    · exact Gd.tup fun d hd => mem3 (Gd.str (h w (by simp))) (Gd.str (h c (by simp))) (Gd.opt _) hd
    · exact Gd.non.mono (by omega)
  · exact Gd.non.mono (by omega)
theorem Gd.prt {rec : Str → PyData} {n : Nat} {t : Str} (hr : ∀ x, Low x → Gd n (rec x)) (h : Low t) : Gd (n + 2) (prt rec t) := by
  have hq := h.part (y := opS)
  have inner : Gd (n + 1) (rec (cutS (PySem.Txt.partition t opS).2.2 none (some (-1)))) := (hr _ (hq.2.cut _ _)).mono (by omega)
  unfold L87.prt
  split
  · exact (Gd.sng (h.split (y := spS) (c := 32) rfl (by decide))).mono (by omega)
  · split
    · exact Gd.tup fun d hd => mem2 ((Gd.lit _ (by decide +kernel)).mono (by omega)) inner hd
    · split
      · exact Gd.tup fun d hd => mem3 ((Gd.lit _ (by decide +kernel)).mono (by omega)) ((Gd.cnt _).mono (by omega)) inner hd
      · exact Gd.non.mono (by omega)
theorem Gd.prs : ∀ (n : Nat) (t : Str), Low t → Gd (3 * n) (prs n t)
  | 0, _, _ => Gd.non
  | n + 1, t, h => by
    refine Gd.mono (m := (3 * n + 2) + 1) (Gd.tup fun d hd => ?_) (by omega)
    obtain ⟨p, hp, rfl⟩ := List.mem_map.mp hd
    exact Gd.prt (Gd.prs n) (pcs_low h p hp)
theorem Gd.strs {ws : List Str} (h : ∀ x ∈ ws, Low x) : ∀ d ∈ ws.map PyData.str, Gd 0 d := fun d hd => by
  obtain ⟨x, hx, rfl⟩ := List.mem_map.mp hd
  exact Gd.str (h x hx)
theorem low_getD {ws : List Str} (h : ∀ x ∈ ws, Low x) (i : Nat) : Low (ws.getD i Str.empty) := by
  rw [List.getD_eq_getElem?_getD]
  cases e : ws[i]? with
  | none => exact low_empty
  | some x => exact h x (List.mem_of_getElem? e)
theorem Gd.row {p t : Str} (hp : Low p) (h : Low t) : Gd 16 (rowV p t) := by
  unfold rowV
  split
  · rename_i ds e
    obtain ⟨rfl, _⟩ := rowR_some e
    exact Gd.tup fun d hd => mem3 ((Gd.lit _ (by decide +kernel)).mono (by omega)) ((Gd.str hp).mono (by omega)) (Gd.prs 5 t h) hd
  · exact Gd.non.mono (by omega)
theorem Gd.chg {ws : List Str} {t : Str} (h : ∀ x ∈ ws, Low x) (low : Low t) : Gd 16 (chgD ws t) := by
  unfold chgD
  split
  · exact Gd.row (low_getD h 1) (low.cut _ _)
  · split
    · exact (Gd.tup (n := 1) fun d hd => mem3 ((Gd.lit _ (by decide +kernel)).mono (by omega)) ((Gd.str (low_getD h 1)).mono (by omega)) (Gd.tup (Gd.strs fun x hx => h x (List.mem_of_mem_drop hx))) hd).mono (by omega)
    · split
      · refine (Gd.tup (n := 0) fun d hd => ?_).mono (by omega)
        rcases List.mem_append.mp hd with hd | hd
        · exact Gd.strs (fun x hx => h x (List.mem_of_mem_take hx)) d hd
        · obtain ⟨x, hx, rfl⟩ := List.mem_map.mp hd
          exact Gd.opt _
      · exact (Gd.tup (Gd.strs h)).mono (by omega)
theorem Gd.ev {t : Str} (low : Low t) : Gd 17 (evD (PySem.Txt.split t spS) t) := by
  have h : ∀ x ∈ PySem.Txt.split t spS, Low x := low.split (y := spS) (c := 32) rfl (by decide)
  generalize PySem.Txt.split t spS = ws at *
  unfold evD
  split
  · exact (Gd.tup (n := 0) fun d hd => mem3 (Gd.lit _ (by decide +kernel)) (Gd.str (low_getD h 1)) (Gd.opt _) hd).mono (by omega)
  · split
    · exact (Gd.tup (n := 0) fun d hd => mem2 (Gd.lit _ (by decide +kernel)) (Gd.opt _) hd).mono (by omega)
    · split
      · exact (Gd.tup (n := 0) fun d hd => by rw [List.mem_singleton.mp hd]; exact Gd.lit _ (by decide +kernel)).mono (by omega)
      · exact Gd.tup fun d hd => mem2 ((Gd.lit _ (by decide +kernel)).mono (by omega)) (Gd.chg h low) hd
theorem Gd.evO {t : Str} (low : Low t) : Gd 17 (evO t) := by
  unfold L87.evO
  split
  · exact Gd.ev low
  · exact Gd.non.mono (by omega)
theorem Gd.shapedL {n : Nat} {ds : List PyData} (hn : n ≤ 60) (h : ∀ d ∈ ds, Gd n d) : SeqAt.shaped (.list ds) = true := by
  refine Bool.and_eq_true_iff.mpr ⟨by simpa only [PyData.canLay0] using canAll fun d hd => (h d hd).c, decide_eq_true ?_⟩
  have := depthAll_le fun d hd => (h d hd).p
  simp only [PyData.depth]
  omega
/-! ### the first None -/
def isNone : PyData → Bool
  | .none => true
  | _ => false
theorem eqv_none (d : PyData) : PyData.eqv d .none = isNone d := by cases d <;> rfl
def fN : List PyData → Option Nat
  | [] => none
  | d :: ds => if isNone d then some 0 else (fN ds).map (· + 1)
theorem fN_none : ∀ {ds : List PyData}, fN ds = none → ∀ d ∈ ds, isNone d = false
  | [], _, d, hd => by cases hd
  | e :: ds, h, d, hd => by
    unfold fN at h
    split at h
    · cases h
    · rename_i he
      have h2 : fN ds = none := by
        cases g : fN ds with
        | none => rfl
        | some i => rw [g] at h; cases h
      rcases List.mem_cons.mp hd with rfl | hd
      · exact Bool.not_eq_true _ |>.mp he
      · exact fN_none h2 d hd
theorem fN_some : ∀ {ds : List PyData} {i : Nat}, fN ds = some i → (∃ z, ds[i]? = some z ∧ isNone z = true) ∧ i < ds.length ∧ ∀ (m : Nat) (z : PyData), m < i → ds[m]? = some z → isNone z = false
  | [], _, h => by cases h
  | d :: ds, i, h => by
    unfold fN at h
    split at h
    · rename_i hd
      cases h
      exact ⟨⟨d, rfl, hd⟩, by simp, fun m z hm => by omega⟩
    · rename_i hd
      cases g : fN ds with
      | none => rw [g] at h; cases h
      | some j =>
        rw [g] at h
        cases h
        obtain ⟨⟨z, h1, h2⟩, h3, h4⟩ := fN_some g
        refine ⟨⟨z, by simpa using h1, h2⟩, by rw [List.length_cons]; show j + 1 < _; omega, fun m y hm hy => ?_⟩
        cases m with
        | zero =>
          cases (Option.some.inj (show some d = some y from by simpa using hy))
          exact Bool.not_eq_true _ |>.mp hd
        | succ m => exact h4 m y (by have hm2 : m + 1 < j + 1 := hm; omega) (by simpa using hy)
theorem any_fN : ∀ es : List PyData, (es.any fun z => PyData.eqv z .none) = (fN es).isSome
  | [] => rfl
  | d :: ds => by
    have ih := any_fN ds
    rw [List.any_cons, ih, eqv_none, show fN (d :: ds) = if isNone d then some 0 else (fN ds).map (· + 1) from rfl]
    cases isNone d with
    | true => rfl
    | false => cases fN ds <;> rfl
/-- the events of the lines but the last -/
def evs (ev : Str → PyData) (t : Str) : List PyData := (PySem.Txt.split t nlS).dropLast.map ev
def lastL (t : Str) : Str := (PySem.Txt.split t nlS).getLast?.getD Str.empty
/-- the events of a text, or the number of the first line that is not right -/
def jdg (ev : Str → PyData) (t : Str) : List PyData ⊕ Nat := match fN (evs ev t) with
  | some i => .inr i
  | none => if lastL t = Str.empty then .inl (evs ev t) else .inr (evs ev t).length
def spReadP (K : PySem.W.Frag) : Sp := fun vs H Q E => ∃ x d, vs = [x] ∧ Dp K H x d ∧ ((isStr d = false ∧ Bad (CP K) (.int 0) H E) ∨
  ∃ t : Str, d = .str t ∧ Low t ∧ t.length ≤ 3900 ∧ (∀ es, jdg evO t = .inl es → ∀ r xs H', Same H H' → H r = none → H' r = some (.lst xs) → DpAll K H' xs es → Q (.ref r) H') ∧ (∀ i : Nat, jdg evO t = .inr i → Bad (CP K) (.int (i : Int)) H E))
section
variable {P : Program} {w : World} {K : PySem.W.Frag} {mg : Str → Option Value} {base : Heap}
theorem ok_readp {f fE : Addr} {fd dE dV : FuncData} (F : FnP K "read_plan" sReadP f fd) (T : Txt K mg) {k : Nat} (h1 : 1 ≤ k) (Eo : Def P w K mg base CX0 k "event_of" fE dE ["line"] (spEvOf K)) (Z : Rm P w K mg base dV) : FnOk P w K mg base (L2.CX P w) (k + 2) f fd ["text"] (spReadP K) := by
  refine F.ok scrp (fun vs H Q E h => ?_) (fun cdv A outer s H vs Q E hr h => ?_)
  · obtain ⟨x, d, rfl, _⟩ := h
    rfl
  obtain ⟨x, d, rfl, hx, h⟩ := h
  have hrk : Room k _ := hr.mono (by omega)
  have hr2 : Room 2 _ := hr.mono (by omega)
  have hu65 := units65 hr
  have sz : sizeLine = 16777216 := sizeLine_eq
  refine ⟨_, pss_cons (ps_if (pt_not (pt_val (pe_isD T.p.isn (pv 0) (pe_bltn (by rfl) T.p.str bbS (by rfl)) (by rfl)))) (pss_one (ps_raise rfl (takes_of rfl rfl rfl rfl) (pmk_new sV T.xP.x T.xP.nv T.xP.iC T.tI Z.ok hr2 Z.b T.xP.g pe_int (by rfl)))) pss_nil)
      (pss_cons (ps_set (i := 1) scrp.nd rfl (Or.inl rfl) (pe_split (pv 0) pe_str))
      (C8.pss_cut (ps_setLc (i := 2) (own := [("line", 3)]) (g := gName 3) (tt := tYes) rfl scrp.nd rfl rfl (sw_true rfl rfl rfl (by decide +kernel)) (pi_list (pe_slice sl_list (pv 1) po_none (po_some (pe_un un_neg pe_int)))) (blkOk_by (N := NRp) (sc := defScope sReadP) (by decide +kernel)) (fun _ _ _ _ _ => pg_name (i := 3) scrp.nd rfl (Or.inl rfl)) (fun _ _ _ _ _ => pts_nil)
          (fun _ _ _ _ _ => pe_call Eo.ok hrk (by rfl) Eo.g Eo.k Eo.b .nil pass0 (pa_cons (pv 3) pa_nil)))
      (pss_cons (ps_if (PW.pt (pw_or (pt_cmpR (op_inDK K rfl hu65) pe_non (pv 2) (by rfl)) (pw_or1 (pt_cmpR op_ne (pe_ix ix_list (pv 1) (pe_un un_neg pe_int) (fun _ _ => rfl)) pe_str (nomark _)))))
          (pss_one (ps_raise rfl (takes_of rfl rfl rfl rfl) (pmk_new sV T.xP.x T.xP.nv T.xP.iC T.tI Z.ok hr2 Z.b T.xP.g (pe_bm PySem.F.plainAttrs_list PySem.F.slot_list_index PySem.F.type_list_index (mt_indexDK K rfl hu65) (pe_op op_cat (pv 2) (pe_lst (pa_cons pe_non pa_nil))) (pa_cons pe_non pa_nil)) (by rfl)))) pss_nil)
      (pss_one (ps_ret (pv 2)))))), ?_⟩
  have e0 : start NRp [x] = [some x, none, none, none] := rfl
  rw [e0]
  refine go_seq ?_
  rcases h with ⟨hs, b⟩ | ⟨t, rfl, low, hl, q, b⟩
  · refine ⟨_, rfl, _, _, hx, isStrF hx hs, _, rfl, iteT fun dd H' s' n hx => b dd H' s' hx⟩
  · cases hx
    refine ⟨_, rfl, _, _, .str t, (by decide +kernel : kitB "str" "str" = some true), _, rfl, iteF ?_⟩
    obtain ⟨w1, w2⟩ := split_parts (x := t) (y := nlS) (s := 10) (S := []) rfl (by decide +kernel)
    have wn := split_ne (x := t) (y := nlS) (by decide) (by decide +kernel)
    have wl : ∀ x ∈ PySem.Txt.split t nlS, Low x := low.split (y := nlS) (c := 10) rfl (by decide)
    walk_at "nx"
    refine ⟨_, rfl, ⟨_, rfl⟩, t, nlS, rfl, rfl, rfl, by omega, fun p np => ?_⟩
    unfold jdg evs lastL at q b
    generalize PySem.Txt.split t nlS = ls at *
    have s1 := same_upd (o := .lst (ls.map V.str)) np
    have hp := upd_same (H := H) (a := p) (o := .lst (ls.map V.str))
    generalize upd H p (.lst (ls.map V.str)) = H1 at s1 hp ⊢
    have gd : ∀ d ∈ ls.dropLast.map evO, Gd 17 d := fun d hd => by
      obtain ⟨l, hl', rfl⟩ := List.mem_map.mp hd
      exact Gd.evO (wl l (List.dropLast_subset _ hl'))
    refine ⟨fun σ' H' => ∃ D xs, σ' = [some (.str t), some (.ref p), some (.ref D), none] ∧ Same H1 H' ∧ H D = none ∧ H' D = some (.lst xs) ∧ DpAll K H' xs (ls.dropLast.map evO), ?_, ?_⟩
    · refine ⟨_, rfl, _, rfl, _, rfl, p, _, rfl, SqL.of hp, fun g ng => ?_⟩
      rw [cut_last, ← List.map_dropLast]
      have sg := same_upd (o := .lst (ls.dropLast.map V.str)) ng
      have hg := upd_same (H := H1) (a := g) (o := .lst (ls.dropLast.map V.str))
      generalize upd H1 g (.lst (ls.dropLast.map V.str)) = H2 at sg hg ⊢
      have hno : noLAll (ls.dropLast.map evO) = true := noLAll_mk fun d hd => (gd d hd).l
      have hll : ls.dropLast.length ≤ 4000 := by rw [List.length_dropLast]; omega
      refine ⟨g, rfl, ⟨_, SqL.of hg⟩, fun D hD => lc_list (K := K) (a := g) (xs := ls.dropLast.map V.str) (DatI K H2 D (ls.dropLast.map evO)) (DatI.zero hD) (fun i H' _ p => SqL.of (p.1 _ _ hg)) ?_ ?_⟩
      · rintro i v H4 hv p4
        rw [List.getElem?_map] at hv
        cases hdi : ls.dropLast[i]? with
        | none => rw [hdi] at hv; cases hv
        | some l =>
          rw [hdi] at hv
          cases Option.some.inj hv
          have hm := List.dropLast_subset _ (List.mem_of_getElem? hdi)
          have hle := w1 l hm
          refine ⟨rfl, ⟨_, rfl, l, rfl, by omega, wl l hm, fun u H5 s5 hu => ?_⟩⟩
          exact DatI.step hD p4 (by rw [List.getElem?_map, hdi]; rfl) hno (by rw [List.length_map]; omega) s5 hu
      · intro H4 pm
        obtain ⟨s4, xs, hD4, hds⟩ := pm.all (by rw [List.length_map, List.length_map]; exact Nat.le_refl _)
        refine ⟨D, xs, rfl, sg.trans s4, ?_, hD4, hds⟩
        cases hz : H D with
        | none => rfl
        | some o => rw [sg _ _ (s1 _ _ hz)] at hD; cases hD
    have elen : (ls.dropLast.map evO).length ≤ 4000 := by rw [List.length_map, List.length_dropLast]; omega
    generalize ls.dropLast.map evO = es at *
    rintro σ' H3 ⟨D, xs, rfl, s3, nD, hD3, hds⟩
    have hxl := DpAll.length hds
    refine ⟨_, rfl, .none, es, .non, .lst (SqL.of hD3) hds, rfl, Gd.shapedL (by omega) gd, _, rfl, ?_⟩
    have el : atI (ls.map V.str) (-1) = some (.str (ls.getLast?.getD Str.empty)) := by
      have e := congrArg (List.map V.str) (List.dropLast_concat_getLast wn)
      have e2 : ls.getLast?.getD Str.empty = ls.getLast wn := by rw [List.getLast?_eq_some_getLast wn]; rfl
      rw [e2, ← e, List.map_append]
      exact atI_last _ _
    have sh2 : SeqAt.shaped (.list (es ++ [PyData.none])) = true := Gd.shapedL (n := 17) (by omega) fun d hd => (List.mem_append.mp hd).elim (gd d) fun z => by rw [List.mem_singleton.mp z]; exact Gd.non.mono (by omega)
    rw [any_fN]
    cases hf : fN es with
    | some i =>
      obtain ⟨⟨z, hz, hzn⟩, hil, hno⟩ := fN_some hf
      refine iteT (iteT ?_)
      refine ⟨_, rfl, by show 1 ≤ sizeLine; omega, fun l nl => ?_⟩
      have sl := same_upd (o := .lst [V.non]) nl
      have hL := upd_same (H := H3) (a := l) (o := .lst [V.non])
      have hDl := sl _ _ hD3
      have hds2 := DpAll.same sl hds
      generalize upd H3 l (.lst [V.non]) = H5 at sl hL hDl hds2 ⊢
      refine ⟨_, _, _, _, rfl, rfl, hDl, hL, ?_, fun r nr => ⟨.inl ⟨rfl, _, SqL.of upd_same⟩, r, .non, .none, es ++ [.none], i, _, rfl, rfl, .lst (SqL.of upd_same) (DpAll.same (same_upd nr) (DpAll.append hds2 (.cons .non .nil))), .non, sh2, rfl, (by rw [List.getElem?_append_left hil]; exact hz), ((eqv_none z).trans hzn), (fun m z' hm hz' => (eqv_none z').trans (hno m z' hm (by rw [List.getElem?_append_left (by omega)] at hz'; exact hz'))), fun dd H' s' n hx => ?_⟩⟩
      · rw [hxl, sz]
        show es.length + 1 ≤ _
        omega
      · exact b i (by rw [hf]) dd H' (s1.trans (s3.trans (sl.trans ((same_upd nr).trans s')))) hx
    | none =>
      refine iteF ⟨_, rfl, _, rfl, p, _, _, _, rfl, rfl, SqL.of (s3 _ _ hp), el, rfl, _, rfl, str_ne (fun h => ?_) fun h => ?_⟩
      case refine_2 => exact ⟨_, rfl, q es (by rw [hf]; exact if_pos h) D xs H3 (s1.trans s3) nD hD3 hds⟩
      refine ⟨_, rfl, by show 1 ≤ sizeLine; omega, fun l nl => ?_⟩
      have sl := same_upd (o := .lst [V.non]) nl
      have hL := upd_same (H := H3) (a := l) (o := .lst [V.non])
      have hDl := sl _ _ hD3
      have hds2 := DpAll.same sl hds
      generalize upd H3 l (.lst [V.non]) = H5 at sl hL hDl hds2 ⊢
      refine ⟨_, _, _, _, rfl, rfl, hDl, hL, ?_, fun r nr => ⟨.inl ⟨rfl, _, SqL.of upd_same⟩, r, .non, .none, es ++ [.none], es.length, _, rfl, rfl, .lst (SqL.of upd_same) (DpAll.same (same_upd nr) (DpAll.append hds2 (.cons .non .nil))), .non, sh2, rfl, (by rw [List.getElem?_append_right (Nat.le_refl _), Nat.sub_self]; rfl), rfl, (fun m z' hm hz' => (eqv_none z').trans (fN_none hf z' (List.mem_of_getElem? (by rw [List.getElem?_append_left hm] at hz'; exact hz')))), fun dd H' s' n hx => ?_⟩⟩
      · rw [hxl, sz]
        show es.length + 1 ≤ _
        omega
      · exact b es.length (by rw [hf]; exact if_neg h) dd H' (s1.trans (s3.trans (sl.trans ((same_upd nr).trans s')))) hx
end
end L2.L87

set_option maxHeartbeats 1000000
namespace L2.L87
open PySem PySem.Spec PyProof.Rows NumText LR L2.Lr L2.Tx TL SkE
/-! ### the events as the law finds them -/
def wordB (t : Str) : Bool := wordD (.str t)
def numO (t : Str) (m : Nat) : Option Nat := match figO (tl t) 201 with
  | some n => if n ≤ m then some n else none
  | none => none
def lrow (t : Str) : Option (List PyData) :=
  if t = "" then some [] else if t = "work 5" then some [.tuple [.str "work", .int 5]] else
  if t = "send c; take d 2" then some [.tuple [.str "send", .str "c", .int 1], .tuple [.str "take", .str "d", .int 2]] else
  if t = "loop 2n+1 (send c)" then some [.tuple [.str "loop", .tuple [.int 2, .int 1], .tuple [.tuple [.str "send", .str "c", .int 1]]]] else none
def chg (ds : List PyData) : PyData := .tuple [.str "change", .tuple ds]
def numsL (ws : List Str) : PyData :=
  if (((ws.drop 2).all fun f => (numO f (10 ^ 30)).isSome) && wordB (ws.getD 1 Str.empty)) = true then
    if ws.headD Str.empty = "first" ∧ ws.length = 3 ∧ (numO (ws.getD 2 Str.empty) (10 ^ 30)).getD 0 ≤ 99 then chg [.str "first", .str (ws.getD 1 Str.empty), optD (numO (ws.getD 2 Str.empty) (10 ^ 30))] else
    if ws.headD Str.empty = "kill" ∧ ws.length = 4 then chg [.str "kill", .str (ws.getD 1 Str.empty), optD (numO (ws.getD 2 Str.empty) (10 ^ 30)), optD (numO (ws.getD 3 Str.empty) (10 ^ 30))] else .none
  else .none
def namedL (ws : List Str) : PyData :=
  if (ws.drop 1).all wordB = true then
    if ws.headD Str.empty = "part" ∧ ws.length = 2 then chg [.str "part", .str (ws.getD 1 Str.empty)] else
    if ws.headD Str.empty = "relay" ∧ ws.length = 4 then chg (ws.map .str) else
    if ws.headD Str.empty = "join" ∧ 1 < (ws.drop 2).length ∧ (ws.drop 2).Nodup then chg [.str "join", .str (ws.getD 1 Str.empty), .tuple ((ws.drop 2).map .str)] else .none
  else .none
def rowL (rest : List Str) : PyData := if rest.length = 3 ∧ wordB (rest.getD 1 Str.empty) = true then match lrow (rest.getD 2 Str.empty) with
    | some ds => chg [.str "row", .str (rest.getD 1 Str.empty), .tuple ds]
    | none => .none
  else .none
def roomL (p f : Str) : PyData := match numO f (10 ^ 200) with
  | some n => .tuple [.str "room", .str p, .int (n : Int)]
  | none => if f = "none" then .tuple [.str "room", .str p, .none] else .none
def evW (t : Str) (ws rest : List Str) : PyData :=
  if t = "undo" then .tuple [.str "undo"] else
  if ws.headD Str.empty = "n" then (if ws.length = 2 then match numO (ws.getD 1 Str.empty) (10 ^ 30) with
    | some n => .tuple [.str "n", .int (n : Int)]
    | none => .none
   else .none) else
  if (ws.headD Str.empty = "room" ∧ ws.length = 3) ∧ wordB (ws.getD 1 Str.empty) = true then roomL (ws.getD 1 Str.empty) (ws.getD 2 Str.empty) else
  if ws.headD Str.empty = "row" then rowL rest else
  if ws.headD Str.empty ∈ [("first" : Str), "kill"] ∧ 2 < ws.length then numsL ws else namedL ws
def evL (t : Str) : PyData := evW t (PySem.Txt.split t spS) (PySem.Txt.splitMax t spS 2)
/-! ### numbers -/
theorem fig_spec {cs : List Nat} {m n : Nat} (h : figO cs m = some n) : (1 ≤ cs.length ∧ cs.length ≤ m) ∧ cs.all dig = true ∧ (cs = [48] ∨ cs.head? ≠ some 48) ∧ n = digitsVal cs := by
  unfold figO at h
  split at h
  · rename_i g
    cases h
    obtain ⟨g1, g2⟩ := Bool.and_eq_true_iff.mp g
    obtain ⟨g3, g4⟩ := Bool.and_eq_true_iff.mp g1
    obtain ⟨g5, g6⟩ := Bool.and_eq_true_iff.mp g3
    refine ⟨⟨of_decide_eq_true g5, of_decide_eq_true g6⟩, g4, ?_, rfl⟩
    rcases Bool.or_eq_true_iff.mp g2 with z | z
    · exact .inl (of_decide_eq_true z)
    · exact .inr (of_decide_eq_true z)
  · cases h
theorem fig_mk {cs : List Nat} {m : Nat} (h1 : 1 ≤ cs.length) (h2 : cs.length ≤ m) (h3 : cs.all dig = true) (h4 : cs = [48] ∨ cs.head? ≠ some 48) : figO cs m = some (digitsVal cs) := by
  unfold figO
  rw [if_pos]
  rw [decide_eq_true h1, decide_eq_true h2, h3]
  rcases h4 with z | z
  · rw [decide_eq_true z]; rfl
  · rw [decide_eq_true z]; simp
theorem fig_num {cs : List Nat} {m n : Nat} (h : figO cs m = some n) : numL n = cs := by
  obtain ⟨⟨h1, _⟩, h2, h3, rfl⟩ := fig_spec h
  exact canon (dig_all.mp h2) (fun z => by rw [z] at h1; simp at h1) h3
theorem fig_back {b : Str} {m n : Nat} (h : figO (tl b) m = some n) : intT (n : Int) = b := by
  refine tl_inj ?_
  rw [tl_int]
  unfold sgnL
  rw [if_neg (by omega)]
  exact fig_num h
/-- numbers of at most 31 figures are the ones up to 10 ** 30 -/
theorem num31 (b : Str) : numO b (10 ^ 30) = match figO (tl b) 31 with
    | some n => if n ≤ 10 ^ 30 then some n else none
    | none => none := by
  unfold numO
  cases h : figO (tl b) 31 with
  | some n =>
    obtain ⟨⟨h1, h2⟩, h3, h4, rfl⟩ := fig_spec h
    rw [fig_mk h1 (by omega) h3 h4]
  | none =>
    cases g : figO (tl b) 201 with
    | none => rfl
    | some n =>
      show (if n ≤ 10 ^ 30 then some n else none) = none
      rw [if_neg]
      intro hn
      have e := fig_num g
      obtain ⟨⟨h1, h2⟩, h3, h4, rfl⟩ := fig_spec g
      have hl : (tl b).length ≤ 31 := by
        rw [← e]
        exact numL_len (k := 31) (by decide) (by omega)
      rw [fig_mk h1 hl h3 h4] at h
      cases h
theorem betw_opt (o : Option Nat) (m : Nat) : betw 0 (m : Int) (optD o) = match o with
    | some n => decide (n ≤ m)
    | none => false := by
  cases o with
  | none => rfl
  | some n =>
    show (decide ((0 : Int) ≤ (n : Int)) && decide ((n : Int) ≤ (m : Int))) = decide (n ≤ m)
    rw [decide_eq_true (by omega : (0 : Int) ≤ (n : Int)), Bool.true_and]
    by_cases h : n ≤ m
    · rw [decide_eq_true h, decide_eq_true (by omega)]
    · rw [decide_eq_false h, decide_eq_false (by omega)]
/-! ### what is told -/
theorem chB (x : Str) (es : List PyData) : changeB (.tuple (.str x :: es)) =
  if es.length + 1 = 3 ∧ x = "row" then wordD (atD 0 (.tuple es)) && aprD (atD 1 (.tuple es)) else
  if es.length + 1 = 3 ∧ x = "first" then wordD (atD 0 (.tuple es)) && betw 0 99 (atD 1 (.tuple es)) else
  if es.length + 1 = 3 ∧ x = "join" then wordD (atD 0 (.tuple es)) && diffB (atD 1 (.tuple es)) else
  if es.length + 1 = 2 ∧ x = "part" then wordD (atD 0 (.tuple es)) else
  if es.length + 1 = 4 ∧ x = "relay" then (wordD (atD 0 (.tuple es)) && (wordD (atD 1 (.tuple es)) && wordD (atD 2 (.tuple es)))) else
  if es.length + 1 = 4 ∧ x = "kill" then wordD (atD 0 (.tuple es)) && (betw 0 (10 ^ 30) (atD 1 (.tuple es)) && betw 0 (10 ^ 30) (atD 2 (.tuple es))) else false := by
  have e : ∀ w m, (tupOf w m (.tuple (.str x :: es)) = true) = (es.length + 1 = m ∧ x = w) := fun w m => by
    show ((decide (es.length + 1 = m) && decide (x = w)) = true) = _
    rw [Bool.and_eq_true, decide_eq_true_eq, decide_eq_true_eq]
  unfold changeB
  simp only [e]
  rfl
theorem told_chg (c : PyData) : toldB (.tuple [.str "change", c]) = changeB c := by
  have h : ∀ b : Bool, b = true → (b && (!true || changeB c)) = changeB c := fun b hb => by rw [hb]; rfl
  exact h _ (by
    show eventB (.tuple [.str "change", c]) = true
    unfold eventB
    rw [if_neg (by show ¬ ((decide (1 + 1 = 3) && decide (("change" : Str) = "room")) = true); decide +kernel), if_neg (by show ¬ ((decide (1 + 1 = 2) && decide (("change" : Str) = "n")) = true); decide +kernel)]
    show ((decide (1 + 1 = 2) && decide (("change" : Str) = "change")) || _) = true
    rw [decide_eq_true rfl, decide_eq_true rfl]
    rfl)
theorem line_chg (c : PyData) : lineD (.tuple [.str "change", c]) = lnT c := by
  unfold lineD toldOf
  rw [if_pos (by show decide (("change" : Str) = "change") = true; exact decide_eq_true rfl)]
  rfl
/-- no change begins so, with so many things -/
theorem no_change {x : Str} {es : List PyData} (h : ¬ (es.length = 2 ∧ (x = "row" ∨ x = "first" ∨ x = "join")) ∧ ¬ (es.length = 1 ∧ x = "part") ∧ ¬ (es.length = 3 ∧ (x = "relay" ∨ x = "kill"))) : changeB (.tuple (.str x :: es)) = false := by
  obtain ⟨h1, h2, h3⟩ := h
  rw [chB, if_neg (fun z => h1 ⟨by omega, .inl z.2⟩), if_neg (fun z => h1 ⟨by omega, .inr (.inl z.2)⟩), if_neg (fun z => h1 ⟨by omega, .inr (.inr z.2)⟩), if_neg (fun z => h2 ⟨by omega, z.2⟩), if_neg (fun z => h3 ⟨by omega, .inl z.2⟩), if_neg (fun z => h3 ⟨by omega, .inr z.2⟩)]
theorem strs_len (r : List Str) : (r.map PyData.str).length = r.length := List.length_map ..
theorem strN_strs (r : List Str) : (r.map PyData.str).map strN = r := by
  rw [List.map_map]
  exact List.map_id _
theorem noT_strs {r : List Str} : ∀ p ds, r.map PyData.str ≠ [.str p, .tuple ds] := fun p ds z => by
  match r, z with
  | [a, b], z => simp at z
theorem noT_snd {a : PyData} {o : Option Nat} : ∀ p ds, [a, optD o] ≠ [.str p, .tuple ds] := fun p ds z => by
  cases o <;> simp [optD] at z
/-- of an event that is not told -/
theorem evO_no {t : Str} {ws : List Str} (e : PySem.Txt.split t spS = ws) (h : toldB (evD ws t) = false) : evO t = .none := by
  unfold evO
  rw [e, if_neg]
  intro z
  rw [h] at z
  cases z.1
theorem evO_yes {t : Str} {ws : List Str} (e : PySem.Txt.split t spS = ws) (h : toldB (evD ws t) = true) (hl : lineD (evD ws t) = t) : evO t = evD ws t := by
  unfold evO
  rw [e, if_pos ⟨h, hl⟩]
end L2.L87

set_option maxHeartbeats 1000000
namespace L2.L87
open PySem PySem.Spec PyProof.Rows NumText LR L2.Lr L2.Tx TL SkE
theorem split_undo : PySem.Txt.split ("undo" : Str) spS = [("undo" : Str)] := by decide +kernel
theorem not_undo {t : Str} {ws : List Str} (e : PySem.Txt.split t spS = ws) (h : ws ≠ [("undo" : Str)]) : t ≠ "undo" := fun z => h (by rw [← e, z]; exact split_undo)
theorem joined {t : Str} {ws : List Str} (e : PySem.Txt.split t spS = ws) : PySem.Txt.join spS ws = t := by rw [← e]; exact join_split t spS
theorem ln_of {w : Str} {es : List PyData} {t : Str} {r : List Str} (hn : ∀ p ds, es ≠ [.str p, .tuple ds]) (e : es.map strN = r) (hj : PySem.Txt.join spS (w :: r) = t) : lnT (.tuple (.str w :: es)) = t := by
  rw [lnT_other hn, List.map_cons, e]
  exact hj
theorem join3 {w a x b : Str} (h : PySem.Txt.join spS [w, a, x] = PySem.Txt.join spS [w, a, b]) : x = b := by
  have h' := congrArg tl h
  rw [join_eq, join_eq, tl_join, tl_join] at h'
  have e : ∀ y : Str, joinL (tl spS) ([w, a, y].map tl) = tl w ++ tl spS ++ (tl a ++ tl spS ++ tl y) := fun y => by simp [joinL]
  rw [e, e] at h'
  exact tl_inj (List.append_cancel_left (List.append_cancel_left h'))
theorem named_no {ws : List Str} (h1 : ¬ (ws.headD Str.empty = "part" ∧ ws.length = 2)) (h2 : ¬ (ws.headD Str.empty = "relay" ∧ ws.length = 4)) (h3 : ws.headD Str.empty ≠ "join") : namedL ws = .none := by
  unfold namedL
  by_cases h : (ws.drop 1).all wordB = true
  · rw [if_pos h, if_neg h1, if_neg h2, if_neg (fun z => h3 z.1)]
  · rw [if_neg h]
theorem named_no' {w : Str} {r : List Str} (h1 : w ≠ "part") (h2 : w ≠ "relay") (h3 : w ≠ "join") : namedL (w :: r) = .none := named_no (fun z => h1 z.1) (fun z => h2 z.1) h3
theorem a_undo {t : Str} {r : List Str} (e : PySem.Txt.split t spS = ("undo" : Str) :: r) : evO t = evL t := by
  have ed : evD (("undo" : Str) :: r) t = .tuple [.str "undo"] := by
    unfold evD
    rw [if_neg (fun z => absurd (show ("undo" : Str) = "room" from z.1) (by decide +kernel)), if_neg (fun z => absurd (show ("undo" : Str) = "n" from z.1) (by decide +kernel)), if_pos (show ((("undo" : Str) :: r).headD Str.empty = "undo") from rfl)]
  have ht : toldB (.tuple [.str "undo"]) = true := by decide +kernel
  have hl : lineD (.tuple [.str "undo"]) = "undo" := by decide +kernel
  by_cases h : t = "undo"
  · rw [evO_yes e (by rw [ed]; exact ht) (by rw [ed, hl, h]), ed]
    unfold evL evW
    rw [if_pos h]
  · have eo : evO t = .none := by
      unfold evO
      rw [e, if_neg]
      rintro ⟨_, z⟩
      rw [ed, hl] at z
      exact h z.symm
    rw [eo]
    unfold evL evW
    rw [e, if_neg h, if_neg (by show ¬ ("undo" : Str) = "n"; decide +kernel), if_neg (fun z => absurd (show ("undo" : Str) = "room" from z.1.1) (by decide +kernel)), if_neg (by show ¬ ("undo" : Str) = "row"; decide +kernel), if_neg (fun z => absurd (show ("undo" : Str) ∈ [("first" : Str), "kill"] from z.1) (by decide +kernel))]
    exact (named_no' (by decide +kernel) (by decide +kernel) (by decide +kernel)).symm
theorem a_n {t a : Str} (e : PySem.Txt.split t spS = [("n" : Str), a]) : evO t = evL t := by
  have hj := joined e
  have ed : evD [("n" : Str), a] t = .tuple [.str "n", optD (figO (tl a) 31)] := by
    unfold evD
    rw [if_neg (fun z => absurd (show ("n" : Str) = "room" from z.1) (by decide +kernel)), if_pos ⟨rfl, rfl⟩]
    rfl
  have ht : ∀ x, toldB (.tuple [.str "n", x]) = betw 0 (10 ^ 30) x := fun x => by
    unfold toldB eventB
    rw [if_neg (by show ¬ ((decide (1 + 1 = 3) && decide (("n" : Str) = "room")) = true); decide +kernel), if_pos (by show (decide (1 + 1 = 2) && decide (("n" : Str) = "n")) = true; decide +kernel)]
    show (betw 0 (10 ^ 30) x && (!decide (("n" : Str) = "change") || changeB x)) = _
    rw [decide_eq_false (by decide +kernel), Bool.not_false, Bool.true_or, Bool.and_true]
  have hl : ∀ x, (∀ ds, x ≠ .tuple ds) → lineD (.tuple [.str "n", x]) = PySem.Txt.join spS [("n" : Str), strN x] := fun x _ => by
    unfold lineD toldOf
    rw [if_neg (by show ¬ decide (("n" : Str) = "change") = true; decide +kernel), lnT_other (fun p ds z => by cases z)]
    rfl
  have el : evL t = match numO a (10 ^ 30) with
      | some n => .tuple [.str "n", .int (n : Int)]
      | none => .none := by
    unfold evL evW
    rw [e, if_neg (not_undo e (by simp)), if_pos (show ([("n" : Str), a].headD Str.empty = "n") from rfl), if_pos (show [("n" : Str), a].length = 2 from rfl)]
    rfl
  rw [el, num31]
  cases hf : figO (tl a) 31 with
  | none =>
    rw [evO_no e (by rw [ed, hf, ht]; rfl)]
  | some n =>
    have hb := betw_opt (some n) (10 ^ 30)
    by_cases hn : n ≤ 10 ^ 30
    · have h1 : toldB (evD [("n" : Str), a] t) = true := by
        rw [ed, hf, ht]
        exact hb.trans (decide_eq_true hn)
      have h2 : lineD (evD [("n" : Str), a] t) = t := by
        rw [ed, hf]
        refine (hl _ (fun ds z => by cases z)).trans ?_
        show PySem.Txt.join spS [("n" : Str), intT (n : Int)] = t
        rw [fig_back hf]
        exact hj
      rw [evO_yes e h1 h2, ed, hf]
      simp only [if_pos hn]
      rfl
    · have h1 : toldB (evD [("n" : Str), a] t) = false := by
        rw [ed, hf, ht]
        exact hb.trans (decide_eq_false hn)
      rw [evO_no e h1]
      simp only [if_neg hn]
theorem a_room {t a b : Str} (e : PySem.Txt.split t spS = [("room" : Str), a, b]) : evO t = evL t := by
  have hj := joined e
  have ed : evD [("room" : Str), a, b] t = .tuple [.str "room", .str a, optD (figO (tl b) 201)] := by
    unfold evD
    rw [if_pos ⟨rfl, rfl⟩]
    rfl
  have ht : ∀ x, toldB (.tuple [.str "room", .str a, x]) = (wordB a && roomB x) := fun x => by
    unfold toldB eventB
    rw [if_pos (by show (decide (2 + 1 = 3) && decide (("room" : Str) = "room")) = true; decide +kernel)]
    show ((wordB a && roomB x) && (!decide (("room" : Str) = "change") || changeB (.str a))) = _
    rw [decide_eq_false (by decide +kernel), Bool.not_false, Bool.true_or, Bool.and_true]
  have hl : ∀ x, (∀ ds, x ≠ .tuple ds) → lineD (.tuple [.str "room", .str a, x]) = PySem.Txt.join spS [("room" : Str), a, strN x] := fun x hx => by
    unfold lineD toldOf
    rw [if_neg (by show ¬ decide (("room" : Str) = "change") = true; decide +kernel), lnT_other (fun p ds z => by cases z; exact hx _ rfl)]
    rfl
  cases hw : wordB a with
  | false =>
    rw [evO_no e (by rw [ed, ht, hw]; rfl)]
    unfold evL evW
    rw [e, if_neg (not_undo e (by simp)), if_neg (by show ¬ ("room" : Str) = "n"; decide +kernel), if_neg (fun z => by have := z.2; rw [show ([("room" : Str), a, b] : List Str).getD 1 Str.empty = a from rfl, hw] at this; cases this), if_neg (by show ¬ ("room" : Str) = "row"; decide +kernel),
      if_neg (fun z => absurd (show ("room" : Str) ∈ [("first" : Str), "kill"] from z.1) (by decide +kernel))]
    exact (named_no' (by decide +kernel) (by decide +kernel) (by decide +kernel)).symm
  | true =>
    have el : evL t = roomL a b := by
      unfold evL evW
      rw [e, if_neg (not_undo e (by simp)), if_neg (by show ¬ ("room" : Str) = "n"; decide +kernel), if_pos ⟨⟨rfl, rfl⟩, hw⟩]
      rfl
    rw [el]
    unfold roomL numO
    cases hf : figO (tl b) 201 with
    | none =>
      have h1 : toldB (evD [("room" : Str), a, b] t) = true := by
        rw [ed, hf, ht, hw]
        rfl
      have h2 : lineD (evD [("room" : Str), a, b] t) = PySem.Txt.join spS [("room" : Str), a, "none"] := by
        rw [ed, hf]
        exact hl _ (fun ds z => by cases z)
      show _ = if b = "none" then _ else _
      by_cases hb : b = "none"
      · rw [if_pos hb, evO_yes e h1 (by rw [h2, ← hb]; exact hj), ed, hf]
        rfl
      · rw [if_neg hb]
        unfold evO
        rw [e, if_neg]
        rintro ⟨_, z⟩
        rw [h2, ← hj] at z
        exact hb (join3 z).symm
    | some n =>
      have hr : roomB (.int (n : Int)) = decide (n ≤ 10 ^ 200) := betw_opt (some n) (10 ^ 200)
      by_cases hn : n ≤ 10 ^ 200
      · have h1 : toldB (evD [("room" : Str), a, b] t) = true := by
          rw [ed, hf, ht, hw]
          exact hr.trans (decide_eq_true hn)
        have h2 : lineD (evD [("room" : Str), a, b] t) = t := by
          rw [ed, hf]
          refine (hl _ (fun ds z => by cases z)).trans ?_
          show PySem.Txt.join spS [("room" : Str), a, intT (n : Int)] = t
          rw [fig_back hf]
          exact hj
        rw [evO_yes e h1 h2, ed, hf]
        simp only [if_pos hn]
        rfl
      · have h1 : toldB (evD [("room" : Str), a, b] t) = false := by
          rw [ed, hf, ht, hw, Bool.true_and]
          exact hr.trans (decide_eq_false hn)
        rw [evO_no e h1]
        simp only [if_neg hn]
        have hb : b ≠ "none" := fun z => by
          have hnone : figO (tl ("none" : Str)) 201 = none := by decide +kernel
          rw [z, hnone] at hf
          cases hf
        rw [if_neg hb]
end L2.L87

set_option maxHeartbeats 1000000
namespace L2.L87
open PySem PySem.Spec PyProof.Rows NumText LR L2.Lr L2.Tx TL SkE
theorem evD_chg {w : Str} {r : List Str} {t : Str} (h1 : ¬ (w = "room" ∧ r.length = 2)) (h2 : ¬ (w = "n" ∧ r.length = 1)) (h3 : w ≠ "undo") : evD (w :: r) t = .tuple [.str "change", chgD (w :: r) t] := by
  unfold evD
  rw [show (w :: r).headD Str.empty = w from rfl, if_neg (fun z => h1 ⟨z.1, by have := z.2; rw [List.length_cons] at this; omega⟩), if_neg (fun z => h2 ⟨z.1, by have := z.2; rw [List.length_cons] at this; omega⟩), if_neg h3]
/-- what the law finds of a line that tells a change -/
theorem evL_chg {w : Str} {r : List Str} {t : Str} (e : PySem.Txt.split t spS = w :: r) (h1 : ¬ (w = "room" ∧ r.length = 2)) (h2 : w ≠ "n") (h3 : w ≠ "undo") (h4 : w ≠ "row") : evL t = if w ∈ [("first" : Str), "kill"] ∧ 1 < r.length then numsL (w :: r) else namedL (w :: r) := by
  unfold evL evW
  rw [e, show (w :: r).headD Str.empty = w from rfl, if_neg (not_undo e (fun z => h3 (by injection z))), if_neg h2, if_neg (fun z => h1 ⟨z.1.1, by have := z.1.2; rw [List.length_cons] at this; omega⟩), if_neg h4]
  by_cases g : w ∈ [("first" : Str), "kill"] ∧ 1 < r.length
  · rw [if_pos g, if_pos ⟨g.1, by rw [List.length_cons]; have := g.2; omega⟩]
  · rw [if_neg g, if_neg (fun z => g ⟨z.1, by have := z.2; rw [List.length_cons] at this; omega⟩)]
theorem chgD_else {w : Str} {r : List Str} {t : Str} (h1 : w ≠ "row") (h2 : w ≠ "join") (h3 : w ∉ [("first" : Str), "kill"]) : chgD (w :: r) t = .tuple (.str w :: r.map .str) := by
  unfold chgD
  rw [show (w :: r).headD Str.empty = w from rfl, if_neg (fun z => h1 z.1), if_neg h2, if_neg h3]
  rfl
theorem wordsD_strs (l : List Str) : wordsD (l.map PyData.str) = l := by
  unfold wordsD
  rw [List.map_map]
  exact List.map_id _
theorem all_strs (l : List Str) : (l.map PyData.str).all wordD = l.all wordB := by
  rw [List.all_map]
  rfl
theorem diff_strs (l : List Str) : diffB (.tuple (l.map .str)) = (decide (2 ≤ l.length) && (l.all wordB && decide l.Nodup)) := by
  show (decide (2 ≤ (l.map PyData.str).length) && ((l.map PyData.str).all wordD && decide (wordsD (l.map PyData.str)).Nodup)) = _
  rw [List.length_map, all_strs, wordsD_strs]
theorem a_join {t : Str} {r : List Str} (e : PySem.Txt.split t spS = ("join" : Str) :: r) : evO t = evL t := by
  have hj := joined e
  have el : evL t = namedL (("join" : Str) :: r) := by
    rw [evL_chg e (fun z => absurd z.1 (by decide +kernel)) (by decide +kernel) (by decide +kernel) (by decide +kernel), if_neg (fun z => absurd z.1 (by decide +kernel))]
  have ed : evD (("join" : Str) :: r) t = .tuple [.str "change", .tuple [.str "join", .str (r.headD Str.empty), .tuple (r.tail.map .str)]] := by
    rw [evD_chg (fun z => absurd z.1 (by decide +kernel)) (fun z => absurd z.1 (by decide +kernel)) (by decide +kernel)]
    unfold chgD
    rw [if_neg (fun z => absurd (show ("join" : Str) = "row" from z.1) (by decide +kernel)), if_pos (show ((("join" : Str) :: r).headD Str.empty = "join") from rfl)]
    cases r <;> rfl
  have ht : toldB (evD (("join" : Str) :: r) t) = (wordB (r.headD Str.empty) && diffB (.tuple (r.tail.map .str))) := by
    rw [ed, told_chg, chB, if_neg (fun z => absurd z.2 (by decide +kernel)), if_neg (fun z => absurd z.2 (by decide +kernel)), if_pos ⟨rfl, rfl⟩]
    rfl
  rw [diff_strs] at ht
  rw [el]
  match r, e, hj, ed, ht with
  | [], e, hj, ed, ht =>
    rw [evO_no e (by rw [ht]; rfl)]
    unfold namedL
    rw [if_pos (show (List.drop 1 [("join" : Str)]).all wordB = true from rfl), if_neg (fun z => absurd (show ("join" : Str) = "part" from z.1) (by decide +kernel)), if_neg (fun z => absurd (show ("join" : Str) = "relay" from z.1) (by decide +kernel)), if_neg (fun z => by have := z.2.1; simp at this)]
  | p :: q, e, hj, ed, ht =>
    have ht : toldB (evD (("join" : Str) :: p :: q) t) = (wordB p && (decide (2 ≤ q.length) && (q.all wordB && decide q.Nodup))) := ht
    have hl : lineD (evD (("join" : Str) :: p :: q) t) = t := by
      rw [ed, line_chg]
      have el2 : lnT (.tuple [.str "join", .str p, .tuple (q.map .str)]) = if ("join" : Str) = "row" then ("row " : Str) ++ p ++ spS ++ txM 5 (q.map .str) else PySem.Txt.join spS (("join" : Str) :: p :: wordsD (q.map .str)) := rfl
      refine el2.trans ?_
      rw [if_neg (by decide +kernel), wordsD_strs]
      exact hj
    have en : namedL (("join" : Str) :: p :: q) = if (wordB p && q.all wordB) = true then (if 1 < q.length ∧ q.Nodup then chg [.str "join", .str p, .tuple (q.map .str)] else .none) else .none := by
      unfold namedL
      rw [show (List.drop 1 (("join" : Str) :: p :: q)).all wordB = (wordB p && q.all wordB) from rfl]
      have c : ((("join" : Str) :: p :: q).headD Str.empty = "join" ∧ 1 < (List.drop 2 (("join" : Str) :: p :: q)).length ∧ (List.drop 2 (("join" : Str) :: p :: q)).Nodup) = (1 < q.length ∧ q.Nodup) := propext ⟨fun z => z.2, fun z => ⟨rfl, z⟩⟩
      by_cases hh : (wordB p && q.all wordB) = true
      · rw [if_pos hh, if_pos hh, if_neg (fun z => absurd (show ("join" : Str) = "part" from z.1) (by decide +kernel)), if_neg (fun z => absurd (show ("join" : Str) = "relay" from z.1) (by decide +kernel))]
        simp only [c]
        rfl
      · rw [if_neg hh, if_neg hh]
    rw [en]
    cases h1 : wordB p && q.all wordB with
    | false =>
      rw [evO_no e (by
        rw [ht]
        cases hp : wordB p with
        | false => rfl
        | true =>
          rw [hp, Bool.true_and] at h1
          rw [h1, Bool.false_and, Bool.and_false]
          rfl), if_neg (by decide)]
    | true =>
      obtain ⟨hp, hq⟩ := Bool.and_eq_true_iff.mp h1
      rw [hp, hq, Bool.true_and, Bool.true_and] at ht
      rw [if_pos rfl]
      by_cases h2 : 1 < q.length ∧ q.Nodup
      · rw [if_pos h2, evO_yes e (by rw [ht, decide_eq_true (show 2 ≤ q.length from h2.1), decide_eq_true h2.2]; rfl) hl, ed]
        rfl
      · rw [if_neg h2, evO_no e]
        rw [ht]
        by_cases h3 : 2 ≤ q.length
        · rw [decide_eq_false (fun z => h2 ⟨h3, z⟩), Bool.and_false]
        · rw [decide_eq_false h3, Bool.false_and]
theorem chgD_num {w : Str} {r : List Str} {t : Str} (h1 : w ≠ "row") (h2 : w ≠ "join") (h3 : w ∈ [("first" : Str), "kill"]) : chgD (w :: r) t = .tuple (.str w :: ((r.take 1).map .str ++ (r.drop 1).map fun f => optD (figO (tl f) 31))) := by
  unfold chgD
  rw [show (w :: r).headD Str.empty = w from rfl, if_neg (fun z => h1 z.1), if_neg h2, if_pos h3]
  rfl
theorem len_num (r : List Str) : ((r.take 1).map PyData.str ++ (r.drop 1).map fun f => optD (figO (tl f) 31)).length = r.length := by
  rw [List.length_append, List.length_map, List.length_map, List.length_take, List.length_drop]
  omega
theorem numsL_eq (w p : Str) (q : List Str) : numsL (w :: p :: q) = if ((q.all fun f => (numO f (10 ^ 30)).isSome) && wordB p) = true then
    if w = "first" ∧ q.length + 2 = 3 ∧ (numO (q.getD 0 Str.empty) (10 ^ 30)).getD 0 ≤ 99 then chg [.str "first", .str p, optD (numO (q.getD 0 Str.empty) (10 ^ 30))] else
    if w = "kill" ∧ q.length + 2 = 4 then chg [.str "kill", .str p, optD (numO (q.getD 0 Str.empty) (10 ^ 30)), optD (numO (q.getD 1 Str.empty) (10 ^ 30))] else .none
  else .none := rfl
theorem a_first {t : Str} {r : List Str} (e : PySem.Txt.split t spS = ("first" : Str) :: r) : evO t = evL t := by
  have hj := joined e
  have el := evL_chg e (fun z => absurd z.1 (by decide +kernel)) (by decide +kernel) (by decide +kernel) (by decide +kernel)
  have ed : evD (("first" : Str) :: r) t = .tuple [.str "change", .tuple (.str "first" :: ((r.take 1).map .str ++ (r.drop 1).map fun f => optD (figO (tl f) 31)))] := by
    rw [evD_chg (fun z => absurd z.1 (by decide +kernel)) (fun z => absurd z.1 (by decide +kernel)) (by decide +kernel), chgD_num (by decide +kernel) (by decide +kernel) (by decide +kernel)]
  by_cases hr : r.length = 2
  case neg =>
    rw [evO_no e (by rw [ed, told_chg]; exact no_change ⟨fun z => hr (by rw [← len_num r]; exact z.1), fun z => absurd z.2 (by decide +kernel), fun z => absurd z.2 (by decide +kernel)⟩), el]
    split
    · match r, hr with
      | [], _ => rfl
      | p :: q, hr =>
        rw [numsL_eq, if_neg (c := _ ∧ q.length + 2 = 3 ∧ _) (fun z => hr (by rw [List.length_cons]; have := z.2.1; omega)), if_neg (c := _ ∧ q.length + 2 = 4) (fun z => absurd z.1 (by decide +kernel))]
        split <;> rfl
    · exact (named_no' (by decide +kernel) (by decide +kernel) (by decide +kernel)).symm
  match r, hr, e, hj, el, ed with
  | [a, b], _, e, hj, el, ed =>
    rw [if_pos ⟨by decide +kernel, by simp⟩, numsL_eq] at el
    have ed : evD [("first" : Str), a, b] t = .tuple [.str "change", .tuple [.str "first", .str a, optD (figO (tl b) 31)]] := ed
    have ht : toldB (evD [("first" : Str), a, b] t) = (wordB a && betw 0 99 (optD (figO (tl b) 31))) := by
      rw [ed, told_chg, chB, if_neg (fun z => absurd z.2 (by decide +kernel)), if_pos ⟨rfl, rfl⟩]
      rfl
    rw [show ([b] : List Str).getD 0 Str.empty = b from rfl, show (([b] : List Str).all fun f => (numO f (10 ^ 30)).isSome) = ((numO b (10 ^ 30)).isSome && true) from rfl, Bool.and_true] at el
    rw [el, num31]
    have hb := betw_opt (figO (tl b) 31) 99
    rw [show ((99 : Nat) : Int) = 99 from rfl] at hb
    rw [hb] at ht
    cases hf : figO (tl b) 31 with
    | none =>
      rw [evO_no e (by rw [ht, hf]; exact Bool.and_false _)]
      rfl
    | some n =>
      rw [hf] at ht
      have ht : toldB (evD [("first" : Str), a, b] t) = (wordB a && decide (n ≤ 99)) := ht
      cases hw : wordB a with
      | false =>
        rw [evO_no e (by rw [ht, hw]; rfl), Bool.and_false, if_neg (by decide)]
      | true =>
        rw [hw, Bool.true_and] at ht
        by_cases hn : n ≤ 99
        · have hl : lineD (evD [("first" : Str), a, b] t) = t := by
            rw [ed, line_chg, hf]
            refine ln_of (fun p ds z => noT_snd (o := some n) p ds z) (r := [a, b]) ?_ hj
            show [a, intT (n : Int)] = [a, b]
            rw [fig_back hf]
          rw [evO_yes e (by rw [ht]; exact decide_eq_true hn) hl, ed, hf]
          have h30 : n ≤ 10 ^ 30 := by omega
          simp only [if_pos h30]
          rw [if_pos (by rfl), if_pos ⟨trivial, by rfl, hn⟩]
          rfl
        · rw [evO_no e (by rw [ht]; exact decide_eq_false hn)]
          by_cases h30 : n ≤ 10 ^ 30
          · simp only [if_pos h30]
            rw [if_pos (by rfl), if_neg (fun z => hn z.2.2), if_neg (fun z => absurd z.1 (by decide +kernel))]
          · simp only [if_neg h30]
            rw [if_neg (by decide)]
theorem a_kill {t : Str} {r : List Str} (e : PySem.Txt.split t spS = ("kill" : Str) :: r) : evO t = evL t := by
  have hj := joined e
  have el := evL_chg e (fun z => absurd z.1 (by decide +kernel)) (by decide +kernel) (by decide +kernel) (by decide +kernel)
  have ed : evD (("kill" : Str) :: r) t = .tuple [.str "change", .tuple (.str "kill" :: ((r.take 1).map .str ++ (r.drop 1).map fun f => optD (figO (tl f) 31)))] := by
    rw [evD_chg (fun z => absurd z.1 (by decide +kernel)) (fun z => absurd z.1 (by decide +kernel)) (by decide +kernel), chgD_num (by decide +kernel) (by decide +kernel) (by decide +kernel)]
  by_cases hr : r.length = 3
  case neg =>
    rw [evO_no e (by rw [ed, told_chg]; exact no_change ⟨fun z => absurd z.2 (by decide +kernel), fun z => absurd z.2 (by decide +kernel), fun z => hr (by rw [← len_num r]; exact z.1)⟩), el]
    split
    · match r, hr with
      | [], _ => rfl
      | p :: q, hr =>
        rw [numsL_eq, if_neg (c := _ ∧ q.length + 2 = 3 ∧ _) (fun z => absurd z.1 (by decide +kernel)), if_neg (c := _ ∧ q.length + 2 = 4) (fun z => hr (by rw [List.length_cons]; have := z.2; omega))]
        split <;> rfl
    · exact (named_no' (by decide +kernel) (by decide +kernel) (by decide +kernel)).symm
  match r, hr, e, hj, el, ed with
  | [a, b, c], _, e, hj, el, ed =>
    rw [if_pos ⟨by decide +kernel, by simp⟩, numsL_eq, if_neg (c := _ ∧ [b, c].length + 2 = 3 ∧ _) (fun z => absurd z.1 (by decide +kernel)), if_pos (c := _ ∧ [b, c].length + 2 = 4) ⟨rfl, rfl⟩] at el
    have ed : evD [("kill" : Str), a, b, c] t = .tuple [.str "change", .tuple [.str "kill", .str a, optD (figO (tl b) 31), optD (figO (tl c) 31)]] := ed
    have ht : toldB (evD [("kill" : Str), a, b, c] t) = (wordB a && (betw 0 (10 ^ 30) (optD (figO (tl b) 31)) && betw 0 (10 ^ 30) (optD (figO (tl c) 31)))) := by
      rw [ed, told_chg, chB, if_neg (fun z => absurd z.2 (by decide +kernel)), if_neg (fun z => absurd z.2 (by decide +kernel)), if_neg (fun z => absurd z.2 (by decide +kernel)), if_neg (fun z => absurd z.2 (by decide +kernel)), if_neg (fun z => absurd z.2 (by decide +kernel)), if_pos ⟨rfl, rfl⟩]
      rfl
    have el : evL t = if (((numO b (10 ^ 30)).isSome && ((numO c (10 ^ 30)).isSome && true)) && wordB a) = true then chg [.str "kill", .str a, optD (numO b (10 ^ 30)), optD (numO c (10 ^ 30))] else .none := el
    have key : ∀ x : Str, betw 0 (10 ^ 30) (optD (figO (tl x) 31)) = (numO x (10 ^ 30)).isSome ∧ ((numO x (10 ^ 30)).isSome = true → numO x (10 ^ 30) = figO (tl x) 31) := fun x => by
      have hb := betw_opt (figO (tl x) 31) (10 ^ 30)
      have hb2 : betw 0 (10 ^ 30) (optD (figO (tl x) 31)) = _ := hb
      rw [hb2, num31]
      cases figO (tl x) 31 with
      | none => exact ⟨rfl, fun z => by cases z⟩
      | some n =>
        by_cases hn : n ≤ 10 ^ 30
        · simp only [if_pos hn]
          exact ⟨decide_eq_true hn, fun _ => trivial⟩
        · simp only [if_neg hn]
          exact ⟨decide_eq_false hn, fun z => by cases z⟩
    rw [(key b).1, (key c).1] at ht
    rw [el, Bool.and_true]
    cases hw : wordB a with
    | false => rw [evO_no e (by rw [ht, hw]; rfl), Bool.and_false, if_neg (by decide)]
    | true =>
      rw [hw, Bool.true_and] at ht
      rw [Bool.and_true]
      cases hs : (numO b (10 ^ 30)).isSome && (numO c (10 ^ 30)).isSome with
      | false => rw [evO_no e (by rw [ht, hs]), if_neg (by decide)]
      | true =>
        obtain ⟨hb, hc⟩ := Bool.and_eq_true_iff.mp hs
        have nb := (key b).2 hb
        have nc := (key c).2 hc
        rw [if_pos rfl, nb, nc]
        have hl : lineD (evD [("kill" : Str), a, b, c] t) = t := by
          rw [ed, line_chg]
          rw [nb] at hb
          rw [nc] at hc
          cases fb : figO (tl b) 31 with
          | none => rw [fb] at hb; cases hb
          | some n =>
            cases fc : figO (tl c) 31 with
            | none => rw [fc] at hc; cases hc
            | some m =>
              refine ln_of (fun p ds z => by cases z) (r := [a, b, c]) ?_ hj
              show [a, intT (n : Int), intT (m : Int)] = [a, b, c]
              rw [fig_back fb, fig_back fc]
        rw [evO_yes e (by rw [ht, hs]) hl, ed]
        rfl
theorem a_else {t w : Str} {r : List Str} (e : PySem.Txt.split t spS = w :: r) (h1 : ¬ (w = "room" ∧ r.length = 2)) (h2 : ¬ (w = "n" ∧ r.length = 1)) (h3 : w ≠ "undo") (h4 : w ≠ "row") (h5 : w ≠ "join") (h6 : w ∉ [("first" : Str), "kill"]) : evO t = evL t := by
  have hj := joined e
  have ed : evD (w :: r) t = .tuple [.str "change", .tuple (.str w :: r.map .str)] := by
    rw [evD_chg h1 h2 h3, chgD_else h4 h5 h6]
  have hl : lineD (evD (w :: r) t) = t := by
    rw [ed, line_chg]
    exact ln_of noT_strs (strN_strs r) hj
  have n6 : w ≠ "first" ∧ w ≠ "kill" := ⟨fun z => h6 (by rw [z]; simp), fun z => h6 (by rw [z]; simp)⟩
  have el : evL t = namedL (w :: r) := by
    by_cases hn : w = "n"
    · unfold evL evW
      rw [e, show (w :: r).headD Str.empty = w from rfl, if_neg (not_undo e (fun z => h3 (by injection z))), if_pos hn, if_neg (fun z => h2 ⟨hn, by rw [List.length_cons] at z; omega⟩)]
      exact (named_no' (by rw [hn]; decide +kernel) (by rw [hn]; decide +kernel) h5).symm
    · rw [evL_chg e h1 hn h3 h4, if_neg (fun z => h6 z.1)]
  rw [el]
  by_cases hp : w = "part" ∧ r.length = 1
  · obtain ⟨rfl, hr⟩ := hp
    match r, hr, e, ed, hl with
    | [a], _, e, ed, hl =>
      have ht : toldB (evD [("part" : Str), a] t) = wordB a := by
        rw [ed, told_chg, chB, if_neg (fun z => absurd z.2 (by decide +kernel)), if_neg (fun z => absurd z.2 (by decide +kernel)), if_neg (fun z => absurd z.2 (by decide +kernel)), if_pos ⟨rfl, rfl⟩]
        rfl
      have en : namedL [("part" : Str), a] = if (wordB a && true) = true then chg [.str "part", .str a] else .none := by
        unfold namedL
        rw [if_pos (show ([("part" : Str), a].headD Str.empty = "part" ∧ [("part" : Str), a].length = 2) from ⟨rfl, rfl⟩)]
        rfl
      rw [en, Bool.and_true]
      cases hw : wordB a with
      | false => rw [evO_no e (by rw [ht, hw]), if_neg (by decide)]
      | true =>
        rw [evO_yes e (by rw [ht, hw]) hl, ed, if_pos rfl]
        rfl
  by_cases hq : w = "relay" ∧ r.length = 3
  · obtain ⟨rfl, hr⟩ := hq
    match r, hr, e, ed, hl with
    | [a, b, c], _, e, ed, hl =>
      have ht : toldB (evD [("relay" : Str), a, b, c] t) = (wordB a && (wordB b && wordB c)) := by
        rw [ed, told_chg, chB, if_neg (fun z => absurd z.2 (by decide +kernel)), if_neg (fun z => absurd z.2 (by decide +kernel)), if_neg (fun z => absurd z.2 (by decide +kernel)), if_neg (fun z => absurd z.2 (by decide +kernel)), if_pos ⟨rfl, rfl⟩]
        rfl
      have en : namedL [("relay" : Str), a, b, c] = if (wordB a && (wordB b && (wordB c && true))) = true then chg [.str "relay", .str a, .str b, .str c] else .none := by
        unfold namedL
        rw [if_neg (show ¬ ([("relay" : Str), a, b, c].headD Str.empty = "part" ∧ [("relay" : Str), a, b, c].length = 2) from fun z => absurd (show ("relay" : Str) = "part" from z.1) (by decide +kernel)), if_pos (show ([("relay" : Str), a, b, c].headD Str.empty = "relay" ∧ [("relay" : Str), a, b, c].length = 4) from ⟨rfl, rfl⟩)]
        rfl
      rw [en, Bool.and_true]
      cases hw : wordB a && (wordB b && wordB c) with
      | false => rw [evO_no e (by rw [ht, hw]), if_neg (by decide)]
      | true =>
        rw [evO_yes e (by rw [ht, hw]) hl, ed, if_pos rfl]
        rfl
  rw [evO_no e (by
    rw [ed, told_chg]
    refine no_change ⟨fun z => ?_, fun z => hp ⟨z.2, by rw [← strs_len r]; exact z.1⟩, fun z => ?_⟩
    · rcases z.2 with z | z | z
      · exact h4 z
      · exact n6.1 z
      · exact h5 z
    · rcases z.2 with y | y
      · exact hq ⟨y, by rw [← strs_len r]; exact z.1⟩
      · exact n6.2 y)]
  exact (named_no (ws := w :: r) (fun z => hp ⟨z.1, by have := z.2; rw [List.length_cons] at this; omega⟩) (fun z => hq ⟨z.1, by have := z.2; rw [List.length_cons] at this; omega⟩) h5).symm
/-- of lines that tell no row, the program finds what the law finds -/
theorem ev_agree {t : Str} (h : (PySem.Txt.split t spS).headD Str.empty ≠ "row") : evO t = evL t := by
  have wn := split_ne (x := t) (y := spS) (by decide) (by decide +kernel)
  cases e : PySem.Txt.split t spS with
  | nil => exact absurd e wn
  | cons w r =>
    rw [e] at h
    have h : w ≠ "row" := h
    by_cases h3 : w = "undo"
    · subst h3; exact a_undo e
    by_cases h5 : w = "join"
    · subst h5; exact a_join e
    by_cases h6 : w = "first"
    · subst h6; exact a_first e
    by_cases h7 : w = "kill"
    · subst h7; exact a_kill e
    by_cases h1 : w = "room" ∧ r.length = 2
    · obtain ⟨rfl, hr⟩ := h1
      match r, hr, e with
      | [a, b], _, e => exact a_room e
    by_cases h2 : w = "n" ∧ r.length = 1
    · obtain ⟨rfl, hr⟩ := h2
      match r, hr, e with
      | [a], _, e => exact a_n e
    refine a_else e h1 h2 h3 h h5 (fun z => ?_)
    rcases List.mem_cons.mp z with z | z
    · exact h6 z
    · exact h7 (List.mem_singleton.mp z)
end L2.L87

set_option maxHeartbeats 1000000
namespace L2.L87
open PySem PySem.Spec PyProof.Rows NumText LR L2.Lr L2.Tx TL SkE
mutual
def eqDt : PyData → PyData → Bool
  | .none, .none => true
  | .bool a, .bool b => decide (a = b)
  | .int a, .int b => decide (a = b)
  | .str a, .str b => decide (a = b)
  | .tuple a, .tuple b => eqDs a b
  | _, _ => false
def eqDs : List PyData → List PyData → Bool
  | [], [] => true
  | a :: as, b :: bs => eqDt a b && eqDs as bs
  | _, _ => false
end
mutual
theorem eqDt_ok : ∀ {a b : PyData}, eqDt a b = true → a = b
  | .none, b, h => by cases b <;> first | rfl | cases h
  | .bool a, b, h => by cases b <;> first | (rw [of_decide_eq_true h]) | cases h
  | .int a, b, h => by cases b <;> first | (rw [of_decide_eq_true h]) | cases h
  | .str a, b, h => by cases b <;> first | (rw [of_decide_eq_true h]) | cases h
  | .tuple a, b, h => by
    cases b with
    | tuple b =>
      unfold eqDt at h
      rw [eqDs_ok h]
    | _ => cases h
  | .list a, b, h => by cases b <;> cases h
  | .dict a, b, h => by cases b <;> cases h
theorem eqDs_ok : ∀ {a b : List PyData}, eqDs a b = true → a = b
  | [], b, h => by
    cases b with
    | nil => rfl
    | cons _ _ => unfold eqDs at h; cases h
  | a :: as, b, h => by
    cases b with
    | nil => unfold eqDs at h; cases h
    | cons b bs =>
      unfold eqDs at h
      obtain ⟨h1, h2⟩ := Bool.and_eq_true_iff.mp h
      rw [eqDt_ok h1, eqDs_ok h2]
end
/-! ### lines that tell a row -/
def known : List (Str × List PyData) := [("", []), ("work 5", [.tuple [.str "work", .int 5]]), ("send c; take d 2", [.tuple [.str "send", .str "c", .int 1], .tuple [.str "take", .str "d", .int 2]]),
  ("loop 2n+1 (send c)", [.tuple [.str "loop", .tuple [.int 2, .int 1], .tuple [.tuple [.str "send", .str "c", .int 1]]]])]
theorem known_ok : (known.all fun k => decide (k.1.length ≤ 2640) && (aprD (.tuple (prL k.1)) && (decide (txM 5 (prL k.1) = k.1) && eqDs (prL k.1) k.2))) = true := by decide +kernel
theorem lrow_known {t : Str} {ds : List PyData} (h : lrow t = some ds) : (t, ds) ∈ known := by
  unfold lrow at h
  split at h
  · rename_i e; cases h; rw [e]; exact .head _
  · split at h
    · rename_i e; cases h; rw [e]; exact .tail _ (.head _)
    · split at h
      · rename_i e; cases h; rw [e]; exact .tail _ (.tail _ (.head _))
      · split at h
        · rename_i e; cases h; rw [e]; exact .tail _ (.tail _ (.tail _ (.head _)))
        · cases h
theorem lrow_row {t : Str} {ds : List PyData} (h : lrow t = some ds) : rowR t = some ds := by
  have k := List.all_eq_true.mp known_ok _ (lrow_known h)
  obtain ⟨k1, k⟩ := Bool.and_eq_true_iff.mp k
  obtain ⟨k2, k⟩ := Bool.and_eq_true_iff.mp k
  obtain ⟨k3, k4⟩ := Bool.and_eq_true_iff.mp k
  unfold rowR
  rw [if_pos ⟨of_decide_eq_true k1, k2, of_decide_eq_true k3⟩]
  exact congrArg some (eqDs_ok k4)
theorem row_tl {t p q : Str} {r : List Str} (hj : PySem.Txt.join spS (("row" : Str) :: p :: q :: r) = t) : t = ("row " : Str) ++ p ++ spS ++ PySem.Txt.join spS (q :: r) := by
  refine tl_inj ?_
  rw [← hj, join_eq, tl_join, tl_append, tl_append, tl_append, join_eq, tl_join]
  show tl ("row" : Str) ++ (tl spS ++ (tl p ++ (tl spS ++ joinL (tl spS) ((q :: r).map tl)))) = _
  rw [show tl ("row " : Str) = tl ("row" : Str) ++ tl spS by decide +kernel]
  simp only [List.append_assoc]
theorem row_cut {t p q : Str} {r : List Str} (hj : PySem.Txt.join spS (("row" : Str) :: p :: q :: r) = t) : cutS t (some (4 + (p.length : Int) + 1)) none = PySem.Txt.join spS (q :: r) := by
  refine tl_inj ?_
  have e : (4 + (p.length : Int) + 1) = ((4 + p.length + 1 : Nat) : Int) := by omega
  rw [e, tl_from, row_tl hj, tl_append, tl_append, tl_append]
  have l : (tl ("row " : Str) ++ tl p ++ tl spS).length = 4 + p.length + 1 := by
    rw [List.length_append, List.length_append, len_tl p]
    rfl
  rw [← l, List.drop_left]
/-- a row that the law takes the program takes -/
theorem row_agree {t : Str} (h : (PySem.Txt.split t spS).headD Str.empty = "row") (n : evL t ≠ .none) : evO t = evL t := by
  have wn := split_ne (x := t) (y := spS) (by decide) (by decide +kernel)
  cases e : PySem.Txt.split t spS with
  | nil => exact absurd e wn
  | cons w r =>
  rw [e] at h
  obtain rfl : w = "row" := h
  have hj := joined e
  have el : evL t = rowL (PySem.Txt.splitMax t spS 2) := by
    unfold evL evW
    rw [e, if_neg (not_undo e (fun z => by injection z with z1 _; exact absurd z1 (by decide +kernel))), if_neg (by show ¬ ("row" : Str) = "n"; decide +kernel), if_neg (fun z => absurd (show ("row" : Str) = "room" from z.1.1) (by decide +kernel)), if_pos (show ((("row" : Str) :: r).headD Str.empty = "row") from rfl)]
  rw [splitMax2, e] at el
  match r, e, hj, el with
  | [], e, hj, el => exact absurd (el.trans (if_neg (fun z => absurd z.1 (by simp)))) n
  | [p], e, hj, el => exact absurd (el.trans (if_neg (fun z => absurd z.1 (by simp)))) n
  | p :: q :: r, e, hj, el =>
    have el : evL t = if 3 = 3 ∧ wordB p = true then match lrow (PySem.Txt.join spS (q :: r)) with
      | some ds => chg [.str "row", .str p, .tuple ds]
      | none => .none
     else .none := el
    by_cases hw : wordB p = true
    case neg => exact absurd (el.trans (if_neg (fun z => hw z.2))) n
    rw [if_pos ⟨rfl, hw⟩] at el
    cases hl : lrow (PySem.Txt.join spS (q :: r)) with
    | none => rw [hl] at el; exact absurd el n
    | some ds =>
      rw [hl] at el
      have hr := lrow_row hl
      obtain ⟨_, _, ha, hx⟩ := rowR_some hr
      have ed : evD (("row" : Str) :: p :: q :: r) t = .tuple [.str "change", .tuple [.str "row", .str p, .tuple ds]] := by
        rw [evD_chg (fun z => absurd z.1 (by decide +kernel)) (fun z => absurd z.1 (by decide +kernel)) (by decide +kernel)]
        unfold chgD
        rw [if_pos ⟨rfl, by simp⟩]
        have ec : cutS t (some (4 + ((("row" : Str) :: p :: q :: r).getD 1 Str.empty).length + 1 : Int)) none = PySem.Txt.join spS (q :: r) := row_cut hj
        rw [ec]
        unfold rowV
        rw [hr]
        rfl
      have ht : toldB (evD (("row" : Str) :: p :: q :: r) t) = true := by
        rw [ed, told_chg, chB, if_pos ⟨rfl, rfl⟩]
        exact Bool.and_eq_true_iff.mpr ⟨hw, ha⟩
      have hln : lineD (evD (("row" : Str) :: p :: q :: r) t) = t := by
        rw [ed, line_chg]
        have el2 : lnT (.tuple [.str "row", .str p, .tuple ds]) = if ("row" : Str) = "row" then ("row " : Str) ++ p ++ spS ++ txM 5 ds else PySem.Txt.join spS (("join" : Str) :: p :: wordsD ds) := rfl
        refine el2.trans ?_
        rw [if_pos rfl, hx]
        exact (row_tl hj).symm
      rw [evO_yes e ht hln, ed, el]
      rfl
/-- what the law finds, the program finds -/
theorem ev_takes {t : Str} (n : evL t ≠ .none) : evO t = evL t := by
  by_cases h : (PySem.Txt.split t spS).headD Str.empty = "row"
  · exact row_agree h n
  · exact ev_agree h
/-! ### texts without two lines of rows -/
abbrev ROW : List Nat := [114, 111, 119]
abbrev p1 : Str := "row ann work 5\n"
abbrev p2 : Str := "row ann \n"
def rep (P l : List Nat) : List Nat := (spl P 0 [] l).flatten
theorem spl_acc (P : List Nat) : ∀ (l acc : List Nat), (spl P 0 acc l).flatten = acc ++ (spl P 0 [] l).flatten
  | [], acc => by rw [spl_nil, spl_nil]; simp
  | c :: r, acc => by
    cases h : pre P (c :: r) with
    | true => rw [spl_hit h, spl_hit h]; simp
    | false =>
      rw [spl_miss h, spl_miss h, spl_acc P r (acc ++ [c]), spl_acc P r ([] ++ [c])]
      simp
theorem rep_miss {P r : List Nat} {c : Nat} (h : pre P (c :: r) = false) : rep P (c :: r) = c :: rep P r := by
  unfold rep
  rw [spl_miss h, spl_acc]
  rfl
theorem rep_hit {P l : List Nat} (hP : P ≠ []) (h : pre P l = true) : rep P l = rep P (l.drop P.length) := by
  unfold rep
  have := spl_at (L := l) hP (c := 0) (acc := []) (by rw [List.drop_zero]; exact h)
  rw [List.drop_zero, Nat.zero_add] at this
  rw [this]
  rfl
theorem pre_iff {P l : List Nat} : pre P l = true ↔ ∃ r, l = P ++ r := by
  refine ⟨fun h => ⟨l.drop P.length, ?_⟩, fun ⟨r, e⟩ => by rw [e]; exact pre_self P r⟩
  have e : l.take P.length = P := eq_of_beq h
  conv => lhs; rw [← List.take_append_drop P.length l, e]
/-- no piece that is struck overlaps "row" but at its begin -/
def apart (P : List Nat) : Bool := (List.range P.length).all fun j => decide (j = 0) || !decide ((P.drop j).take 3 = ROW.take (P.drop j).length)
theorem surv {P : List Nat} (hP : P ≠ []) (hh : P.head? = some 114) (ha : apart P = true) : ∀ (n : Nat) (A X : List Nat), A.length ≤ n → pre P (ROW ++ X) = false → ∃ A', rep P (A ++ (ROW ++ X)) = A' ++ (ROW ++ rep P X)
  | n, [], X, _, h => by
    refine ⟨[], ?_⟩
    obtain ⟨s, S, rfl⟩ : ∃ s S, P = s :: S := by
      cases P with
      | nil => exact absurd rfl hP
      | cons s S => exact ⟨s, S, rfl⟩
    cases hh
    show rep _ (114 :: 111 :: 119 :: X) = 114 :: 111 :: 119 :: rep _ X
    have h' : pre (114 :: S) (114 :: 111 :: 119 :: X) = false := h
    rw [rep_miss h', rep_miss (pre_of_head S _ (by decide)), rep_miss (pre_of_head S _ (by decide))]
  | 0, a :: A, X, hn, h => by simp at hn
  | n + 1, a :: A, X, hn, h => by
    rw [List.length_cons] at hn
    cases hp : pre P ((a :: A) ++ (ROW ++ X)) with
    | false =>
      obtain ⟨A', e⟩ := surv hP hh ha n A X (by omega) h
      refine ⟨a :: A', ?_⟩
      rw [List.cons_append] at hp
      rw [List.cons_append, rep_miss hp, e]
      rfl
    | true =>
      have pos : 0 < P.length := List.length_pos_iff.mpr hP
      rw [rep_hit hP hp]
      by_cases hl : P.length ≤ (a :: A).length
      · rw [List.drop_append_of_le_length hl]
        exact surv hP hh ha n _ X (by rw [List.length_drop, List.length_cons]; omega) h
      · exfalso
        have e : ((a :: A) ++ (ROW ++ X)).take P.length = P := eq_of_beq hp
        have hj : (a :: A).length < P.length := by omega
        have z := List.all_eq_true.mp ha (a :: A).length (List.mem_range.mpr hj)
        rw [decide_eq_false (by rw [List.length_cons]; omega), Bool.false_or] at z
        have z2 := of_decide_eq_false (Bool.not_eq_true' _ |>.mp z)
        apply z2
        have ed : P.drop (a :: A).length = (ROW ++ X).take (P.length - (a :: A).length) := by
          conv => lhs; rw [← e]
          rw [List.drop_take, List.drop_left]
        rw [ed, List.take_take, List.length_take]
        have hm : 3 ≤ (ROW ++ X).length := by simp
        by_cases g : P.length - (a :: A).length ≤ 3
        · rw [Nat.min_eq_right g, Nat.min_eq_left (by omega)]
          exact List.take_append_of_le_length (by simpa using g)
        · rw [Nat.min_eq_left (by omega), List.take_of_length_le (l := ROW) (Nat.le_min.mpr ⟨by show 3 ≤ P.length - (a :: A).length; omega, hm⟩)]
          rfl
theorem peel {P X r : List Nat} {c : Nat} (hP : P ≠ []) (h : ∃ z, rep P X = (c :: r) ++ z) : pre P X = true ∨ ∃ X1, X = c :: X1 ∧ ∃ z, rep P X1 = r ++ z := by
  obtain ⟨z, h⟩ := h
  cases hp : pre P X with
  | true => exact .inl rfl
  | false =>
    match X, hp, h with
    | [], hp, h => unfold rep at h; rw [spl_nil] at h; simp at h
    | a :: X, hp, h =>
      rw [rep_miss hp] at h
      injection h with h1 h2
      subst h1
      exact .inr ⟨X, rfl, z, h2⟩
end L2.L87

set_option maxHeartbeats 1000000
namespace L2.L87
open PySem PySem.Spec PyProof.Rows NumText LR L2.Lr L2.Tx TL SkE
/-- what is left of a text without the two lines -/
def red (t : Str) : Str := PySem.Txt.replace (PySem.Txt.replace t p1 Str.empty) p2 Str.empty
def rowIn (t : Str) : Bool := !(Builtin.Str.occurrences t "row" 0 t.length 1).isEmpty
theorem tl_p1 : tl p1 = [114, 111, 119, 32, 97, 110, 110, 32, 119, 111, 114, 107, 32, 53, 10] := by decide +kernel
theorem tl_p2 : tl p2 = [114, 111, 119, 32, 97, 110, 110, 32, 10] := by decide +kernel
theorem tl_row : tl ("row" : Str) = ROW := by decide +kernel
theorem apart1 : apart (tl p1) = true := by decide +kernel
theorem apart2 : apart (tl p2) = true := by decide +kernel
theorem tl_red (t : Str) : tl (red t) = rep (tl p2) (rep (tl p1) (tl t)) := by
  unfold red rep
  rw [tl_strike _ p2 (by rw [tl_p2]; simp), tl_strike _ p1 (by rw [tl_p1]; simp)]
theorem row_has {t : Str} {A B : List Nat} (h : tl t = A ++ (ROW ++ B)) : rowIn t = true := by
  refine in_text (A := ⟨A.toArray⟩) (B := ⟨B.toArray⟩) (tl_inj ?_)
  rw [tl_append, tl_append, h, tl_row]
  show _ = A ++ ROW ++ B
  simp
/-- a piece of a line up to its end -/
theorem line_end {L B C D : List Nat} (hL : 10 ∉ L) (hC : 10 ∉ C) (h : L ++ 10 :: B = C ++ 10 :: D) : L = C := by
  have e := congrArg (fun x => (cutc 10 x).head?) h
  simp only [cutc_app hL, cutc_app hC, List.head?_cons, Option.some.injEq] at e
  exact e
def specials : List Str := ["row ann work 5", "rowrow ann work 5", "row row ann work 5", "row arow ann work 5", "row anrow ann work 5", "row annrow ann work 5", "row ann row ann work 5", "row ann "]
/-- a line that begins with row, where the row is struck out -/
theorem special {t L : Str} {A B X : List Nat} (hc : rowIn (red t) = false) (hL : 10 ∉ tl L) (ht : tl t = A ++ (tl L ++ 10 :: B)) (hr : tl L = ROW ++ X) : L ∈ specials := by
  have n1 : tl p1 ≠ [] := by rw [tl_p1]; simp
  have n2 : tl p2 ≠ [] := by rw [tl_p2]; simp
  have h1 : (tl p1).head? = some 114 := by rw [tl_p1]; rfl
  have h2 : (tl p2).head? = some 114 := by rw [tl_p2]; rfl
  have fin : ∀ (c : Str) (M : List Nat), 10 ∉ tl c → (∃ D, tl L ++ 10 :: B = tl c ++ 10 :: D) → L = c := fun c _ hcn ⟨D, e⟩ => tl_inj (line_end hL hcn e)
  -- what stands behind "row"
  have ht2 : tl t = A ++ (ROW ++ (X ++ 10 :: B)) := by rw [ht, hr]; simp
  have eL : tl L ++ 10 :: B = ROW ++ (X ++ 10 :: B) := by rw [hr]; simp
  cases q1 : pre (tl p1) (ROW ++ (X ++ 10 :: B)) with
  | true =>
    obtain ⟨D, e⟩ := pre_iff.mp q1
    have : L = "row ann work 5" := fin _ [] (by decide +kernel) ⟨D, by rw [eL, e, tl_p1]; rfl⟩
    rw [this]; exact .head _
  | false =>
    obtain ⟨A1, e1⟩ := surv n1 h1 apart1 A.length A _ (Nat.le_refl _) q1
    rw [← ht2] at e1
    cases q2 : pre (tl p2) (ROW ++ rep (tl p1) (X ++ 10 :: B)) with
    | false =>
      obtain ⟨A2, e2⟩ := surv n2 h2 apart2 A1.length A1 _ (Nat.le_refl _) q2
      have := row_has (t := red t) (by rw [tl_red, e1, e2])
      rw [this] at hc
      cases hc
    | true =>
      obtain ⟨D2, e2⟩ := pre_iff.mp q2
      rw [tl_p2] at e2
      have e3 : rep (tl p1) (X ++ 10 :: B) = [32, 97, 110, 110, 32, 10] ++ D2 := by
        have := e2
        rw [show ([114, 111, 119, 32, 97, 110, 110, 32, 10] : List Nat) ++ D2 = ROW ++ ([32, 97, 110, 110, 32, 10] ++ D2) from rfl] at this
        exact List.append_cancel_left this
      have hit : ∀ (Y c : List Nat) (s : Str), X ++ 10 :: B = c ++ Y → pre (tl p1) Y = true → tl s = ROW ++ (c ++ [114, 111, 119, 32, 97, 110, 110, 32, 119, 111, 114, 107, 32, 53]) → 10 ∉ tl s → L = s := fun Y c s eY hp es hs => by
        obtain ⟨D, e⟩ := pre_iff.mp hp
        refine fin s [] hs ⟨D, ?_⟩
        rw [eL, eY, e, tl_p1, es]
        simp
      rcases peel n1 ⟨D2, e3⟩ with g | ⟨X1, x1, k1⟩
      · rw [hit _ [] "rowrow ann work 5" rfl g (by decide +kernel) (by decide +kernel)]
        exact .tail _ (.head _)
      rcases peel n1 k1 with g | ⟨X2, x2, k2⟩
      · rw [hit X1 [32] "row row ann work 5" (by rw [x1]; rfl) g (by decide +kernel) (by decide +kernel)]
        exact .tail _ (.tail _ (.head _))
      rcases peel n1 k2 with g | ⟨X3, x3, k3⟩
      · rw [hit X2 [32, 97] "row arow ann work 5" (by rw [x1, x2]; rfl) g (by decide +kernel) (by decide +kernel)]
        exact .tail _ (.tail _ (.tail _ (.head _)))
      rcases peel n1 k3 with g | ⟨X4, x4, k4⟩
      · rw [hit X3 [32, 97, 110] "row anrow ann work 5" (by rw [x1, x2, x3]; rfl) g (by decide +kernel) (by decide +kernel)]
        exact .tail _ (.tail _ (.tail _ (.tail _ (.head _))))
      rcases peel n1 k4 with g | ⟨X5, x5, k5⟩
      · rw [hit X4 [32, 97, 110, 110] "row annrow ann work 5" (by rw [x1, x2, x3, x4]; rfl) g (by decide +kernel) (by decide +kernel)]
        exact .tail _ (.tail _ (.tail _ (.tail _ (.tail _ (.head _)))))
      rcases peel n1 k5 with g | ⟨X6, x6, k6⟩
      · rw [hit X5 [32, 97, 110, 110, 32] "row ann row ann work 5" (by rw [x1, x2, x3, x4, x5]; rfl) g (by decide +kernel) (by decide +kernel)]
        exact .tail _ (.tail _ (.tail _ (.tail _ (.tail _ (.tail _ (.head _))))))
      have : L = "row ann " := fin _ [] (by decide +kernel) ⟨X6, by rw [eL, x1, x2, x3, x4, x5, x6]; rfl⟩
      rw [this]
      exact .tail _ (.tail _ (.tail _ (.tail _ (.tail _ (.tail _ (.tail _ (.head _)))))))
theorem isNone_eq {d : PyData} (h : isNone d = true) : d = .none := by cases d <;> first | rfl | cases h
def bothNo (t : Str) : Bool := isNone (evL t) || true
theorem specials_ok : (specials.all fun s => (!isNone (evL s)) || (isNone (evL s) && !(toldB (evD (PySem.Txt.split s spS) s)))) = true := by decide +kernel
theorem special_agree {s : Str} (h : s ∈ specials) : evO s = evL s := by
  have z := List.all_eq_true.mp specials_ok s h
  cases hn : isNone (evL s) with
  | false => exact ev_takes fun y => by rw [y] at hn; cases hn
  | true =>
    rw [hn] at z
    have ht : toldB (evD (PySem.Txt.split s spS) s) = false := by simpa using z
    rw [isNone_eq hn]
    exact evO_no rfl ht
/-- the lines of a text but the last -/
theorem cutc_init {l p : List Nat} : ∀ {A : List Nat}, p ∈ (cutc 10 l).dropLast → ∃ A B, l = A ++ (p ++ 10 :: B) := by
  intro _
  induction l using (measure List.length).wf.induction with
  | _ l ih =>
  intro h
  rcases cutc_cases 10 l with g | ⟨C, D, g, e⟩
  · rw [cutc_free g] at h
    cases h
  · rw [e, cutc_app g, List.dropLast_cons_of_ne_nil (cutc_ne 10 D)] at h
    rcases List.mem_cons.mp h with rfl | h
    · exact ⟨[], D, by rw [e]; rfl⟩
    · obtain ⟨A, B, e2⟩ := ih D (by show D.length < l.length; rw [e, List.length_append, List.length_cons]; omega) h
      exact ⟨C ++ 10 :: A, B, by rw [e, e2]; simp⟩
theorem head_row {L : Str} (h : (PySem.Txt.split L spS).headD Str.empty = "row") : ∃ X, tl L = ROW ++ X := by
  have hs := split_cutc (x := L) (y := spS) (c := 32) rfl (by decide)
  rcases cutc_cases 32 (tl L) with g | ⟨C, D, g, e⟩
  · rw [cutc_free g] at hs
    have wn := split_ne (x := L) (y := spS) (by decide) (by decide +kernel)
    cases e : PySem.Txt.split L spS with
    | nil => exact absurd e wn
    | cons w r =>
      rw [e] at hs h
      obtain rfl : w = "row" := h
      injection hs with h1 h2
      exact ⟨[], by rw [← h1, tl_row]; rfl⟩
  · rw [e, cutc_app g] at hs
    cases e2 : PySem.Txt.split L spS with
    | nil => rw [e2] at hs; cases hs
    | cons w r =>
      rw [e2] at hs h
      obtain rfl : w = "row" := h
      injection hs with h1 h2
      exact ⟨32 :: D, by rw [e, ← h1, tl_row]⟩
/-- of a text whose rows are struck out, the program finds what the law finds -/
theorem lines_agree {t : Str} (hc : rowIn (red t) = false) : ∀ L ∈ (PySem.Txt.split t nlS).dropLast, evO L = evL L := fun L hL => by
  by_cases h : (PySem.Txt.split L spS).headD Str.empty = "row"
  · obtain ⟨X, hr⟩ := head_row h
    have hm : tl L ∈ (cutc 10 (tl t)).dropLast := by
      rw [← split_cutc (y := nlS) (c := 10) rfl (by decide), ← List.map_dropLast]
      exact List.mem_map_of_mem hL
    obtain ⟨A, B, e⟩ := cutc_init (A := []) hm
    have hn := (split_low (x := t) (y := nlS) (c := 10) rfl (by decide) (List.dropLast_subset _ hL)).2
    exact special_agree (special hc hn e hr)
  · exact ev_agree h
theorem jdg_congr {f g : Str → PyData} {t : Str} (h : ∀ L ∈ (PySem.Txt.split t nlS).dropLast, f L = g L) : jdg f t = jdg g t := by
  unfold jdg evs
  rw [List.map_congr_left h]
theorem jdg_clean {t : Str} (hc : rowIn (red t) = false) : jdg evO t = jdg evL t := jdg_congr (lines_agree hc)
/-- where the law takes each line, the program takes each line -/
theorem jdg_takes {t : Str} {es : List PyData} (h : jdg evL t = .inl es) : jdg evO t = .inl es := by
  have hall : ∀ L ∈ (PySem.Txt.split t nlS).dropLast, evL L ≠ .none := by
    unfold jdg at h
    split at h
    · cases h
    · rename_i hf
      intro L hL z
      have := fN_none hf (evL L) (List.mem_map_of_mem hL)
      rw [z] at this
      cases this
  rw [jdg_congr (g := evL) fun L hL => ev_takes (hall L hL)]
  exact h
end L2.L87

set_option maxHeartbeats 1000000
namespace L2.L87
open PySem PySem.Spec PyProof.Rows NumText LR L2.Lr L2.Tx TL SkE
local macro_rules | `(tactic| walk_at "rd") => `(tactic| simp only [tSeq, tAsg, gName, tIfS, tTest, tOp, tIf, tInt, rI, rI0, tVar, tC, tCB, tCons, tNil, tNext, tRet, tLst, rIxL, CPow, CMul, gSub, rSetL, rIxT,
  List.getElem?_cons_zero, List.getElem?_cons_succ, List.set_cons_zero, List.set_cons_succ, Option.some.injEq, V.int.injEq, V.ref.injEq, V.bl.injEq, V.str.injEq, List.cons.injEq, and_true, true_and, exists_and_left, exists_eq_left', exists_eq_left, exists_eq, decide_eq_true_eq, or_true, true_or, List.length_cons, List.length_nil, Nat.zero_add, Nat.reduceAdd])
local macro_rules | `(tactic| walk_at "so") => `(tactic| repeat (first | refine And.intro (by omega) ?_ | refine And.intro (by decide) ?_))
local macro_rules | `(tactic| walk_at "nx") => `(tactic| dsimp only [gName, tNext, tSeq, tAsg, List.set_cons_zero, List.set_cons_succ])
theorem scpo : FnScope ["_law_script", "_law_k", "_law_cell", "_law_seed"] ["_law_script", "_law_k"] (defScope sPool) := ⟨rfl, rfl, rfl, by decide +kernel, rfl, by decide +kernel, by decide +kernel⟩
theorem scta : FnScope ["_law_pool_here", "_law_many", "_law_found"] ["_law_pool_here", "_law_many"] (defScope sTake) := ⟨rfl, rfl, rfl, by decide +kernel, rfl, by decide +kernel, by decide +kernel⟩
def PoolAt (H : Hp) (p : Addr) : Prop := ∃ c s : Int, H p = some (.lst [.int c, .int s]) ∧ 0 ≤ c ∧ 0 ≤ s ∧ s < 2147483648
def Adv (p : Addr) (H H' : Hp) : Prop := ∀ b o, H b = some o → b ≠ p → H' b = some o
theorem Adv.refl {p : Addr} {H : Hp} : Adv p H H := fun _ _ h _ => h
theorem Adv.trans {p : Addr} {H H1 H2 : Hp} (a : Adv p H H1) (b : Adv p H1 H2) : Adv p H H2 := fun c o h n => b c o (a c o h n) n
theorem Adv.same {p : Addr} {H H1 H2 : Hp} (a : Adv p H H1) (b : Same H1 H2) : Adv p H H2 := fun c o h n => b c o (a c o h n)
theorem Same.adv {p : Addr} {H H1 H2 : Hp} (a : Same H H1) (b : Adv p H1 H2) : Adv p H H2 := fun c o h n => b c o (a c o h) n
theorem Adv.new {p : Addr} {H H1 : Hp} (n : H p = none) (a : Adv p H H1) : Same H H1 := fun c o h => a c o h (ne_of_none h n)
theorem PoolAt.same {H H' : Hp} {p : Addr} (h : PoolAt H p) (s : Same H H') : PoolAt H' p := by
  obtain ⟨c, s', hp, q⟩ := h
  exact ⟨c, s', s _ _ hp, q⟩
theorem Adv.gone {p t : Addr} {H H1 : Hp} (a : Adv p H H1) (hp : PoolAt H1 p) (n : H1 t = .none) : H t = .none := by
  cases e : H t with
  | none => rfl
  | some o =>
    obtain ⟨c, s, hq, _⟩ := hp
    by_cases h : t = p
    · rw [h, hq] at n
      cases n
    · rw [a t o e h] at n
      cases n
def spPool (K : PySem.W.Frag) : Sp := fun vs H Q _ => ∃ (a : Addr) (ns : List Int) (k : Int), vs = [.ref a, .int k] ∧ SqL K H a (ns.map V.int) ∧ ns.length ≤ 1000 ∧ 0 ≤ k ∧ k < 1000 ∧
  ∀ (p : Addr) (H' : Hp), H p = none → Same H H' → PoolAt H' p → Q (.ref p) H'
def spTake : Sp := fun vs H Q _ => ∃ (p : Addr) (m : Int), vs = [.ref p, .int m] ∧ PoolAt H p ∧ 0 < m ∧ m < 2 ^ 128 ∧
  ∀ (r : Int) (H' : Hp), 0 ≤ r → r < m → Adv p H H' → PoolAt H' p → Q (.int r) H'
section
variable {P : Program} {w : World} {K : PySem.W.Frag} {mg : Str → Option Value} {base : Heap}
theorem ol_pool {f : Addr} {fd : FuncData} (F : FnP K "_law_pool" sPool f fd) (T : Txt K mg) : FnOk P w K mg base CX0 1 f fd ["_law_script", "_law_k"] (spPool K) := by
  refine F.ok scpo (fun vs H Q E h => ?_) (fun cdv A outer s H vs Q E hr h => ?_)
  · obtain ⟨a, ns, k, rfl, _⟩ := h
    rfl
  · obtain ⟨a, ns, k, rfl, hS, hl, h0, h1, q⟩ := h
    refine ⟨_, pss_cons (ps_set (i := 2) scpo.nd rfl (Or.inl rfl) (pe_ifExp (pt_cmpR op_lt (pv 1) (pe_callB call_len (by rfl) T.p.len boot_len (pa_cons (pv 0) pa_nil)) (nomark _)) (pe_ix ix_list (pv 0) (pv 1) (fun _ _ => rfl)) pe_int))
      (pss_cons (ps_set (i := 3) scpo.nd rfl (Or.inl rfl) (pe_op op_mul (pe_toI T.p.int (pe_op op_add (pe_op op_add (pe_op op_mod (pe_toI T.p.int (pv 2) (by rfl)) pe_int) (pe_op op_mul (pe_op op_mul pe_int (pv 1)) (pv 1))) pe_int) (by rfl)) pe_int))
      (pss_one (ps_ret (pe_lst (pa_cons (pe_ifExp (pt_cmpR op_ge (pv 2) (pe_op op_pow pe_int pe_int) (nomark _)) (pv 2) pe_int) (pa_cons (pe_op op_add (pe_op op_mod (pe_toI T.p.int (pv 3) (by rfl)) pe_int) pe_int) pa_nil)))))), ?_⟩
    have e0 : start ["_law_script", "_law_k", "_law_cell", "_law_seed"] [V.ref a, V.int k] = [some (.ref a), some (.int k), none, none] := rfl
    rw [e0]
    have fin : ∀ (c x : Int) (p : Addr), 0 ≤ c → H p = none → Q (.ref p) (upd H p (.lst [.int c, .int (x % 2147483647 + 1)])) := fun c x p hc hp => q p _ hp (same_upd hp) ⟨c, _, upd_same, hc, by omega, by omega⟩
    walk_at "rd"
    have e2 : (10 : Int) ^ (Int.toNat 18) = 1000000000000000000 := by decide
    rw [e2]
    refine ⟨(ns.map V.int).length, Or.inl ⟨_, hS, rfl⟩, ?_⟩
    rw [List.length_map]
    split
    · rename_i hk
      obtain ⟨z, ez⟩ : ∃ z, ns[k.toNat]? = some z := ⟨_, List.getElem?_eq_getElem (by omega)⟩
      refine ⟨_, hS, .int z, ?_, z, rfl, ?_⟩
      · have e1 : k = (k.toNat : Int) := by omega
        rw [e1]
        exact atI_nat (by rw [List.getElem?_map, ez]; rfl)
      · walk_at "so"
        refine ⟨z, rfl, ?_⟩
        split
        · rename_i hz
          refine ⟨by decide, by show 2 ≤ sizeLine; decide, fun p hp => fin z _ p (by omega) hp⟩
        · exact ⟨by decide, by show 2 ≤ sizeLine; decide, fun p hp => fin 0 _ p (Int.le_refl 0) hp⟩
    · walk_at "so"
      exact fun p hp => fin 0 _ p (Int.le_refl 0) hp
theorem ol_take {f : Addr} {fd : FuncData} (F : FnP K "_law_take" sTake f fd) (T : Txt K mg) : FnOk P w K mg base CX0 1 f fd ["_law_pool_here", "_law_many"] spTake := by
  refine F.ok scta (fun vs H Q E h => ?_) (fun cdv A outer s H vs Q E hr h => ?_)
  · obtain ⟨a, m, rfl, _⟩ := h
    rfl
  · obtain ⟨p, m, rfl, ⟨c, s, hp, hc, hs0, hs1⟩, hm0, hm1, q⟩ := h
    refine ⟨_, pss_cons (ps_if (pt_cmpR op_gt (pe_ix ix_list (pv 0) pe_int (fun _ _ => rfl)) pe_int (nomark _))
        (pss_cons (ps_set (i := 2) scta.nd rfl (Or.inl rfl) (pe_op op_mod (pe_toI T.p.int (pe_ix ix_list (pv 0) pe_int (fun _ _ => rfl)) (by rfl)) (pv 1)))
        (pss_cons (ps_asg (pe_op op_fdivW (pe_ix ix_list (pv 0) pe_int (fun _ _ => rfl)) (pv 1)) (pg_sub (pv 0) pe_int set_list))
        (pss_one (ps_ret (pv 2))))) pss_nil)
      (pss_cons (ps_asg (pe_op op_mod (pe_toI T.p.int (pe_op op_add (pe_op op_mul (pe_ix ix_list (pv 0) pe_int (fun _ _ => rfl)) pe_int) pe_int) (by rfl)) pe_int) (pg_sub (pv 0) pe_int set_list))
      (pss_one (ps_ret (pe_op op_mod (pe_op op_fdiv (pe_op op_mod (pe_toI T.p.int (pe_op op_mul (pe_ix ix_list (pv 0) pe_int (fun _ _ => rfl)) (pe_ix ix_list (pv 0) pe_int (fun _ _ => rfl))) (by rfl)) pe_int) pe_int) (pv 1))))), ?_⟩
    have e0 : start ["_law_pool_here", "_law_many", "_law_found"] [V.ref p, V.int m] = [some (.ref p), some (.int m), none] := rfl
    rw [e0]
    have fin : ∀ (r c' s' : Int), 0 ≤ r → r < m → 0 ≤ c' → 0 ≤ s' → s' < 2147483648 → Q (.int r) (upd H p (.lst [.int c', .int s'])) := fun r c' s' h0 h1 hc' hs0' hs1' =>
      q r _ h0 h1 (fun b o e n => (upd_ne n).trans e) ⟨c', s', upd_same, hc', hs0', hs1'⟩
    walk_at "rd"
    refine ⟨_, SqL.of hp, _, rfl, c, rfl, ?_⟩
    split
    · refine ⟨_, SqL.of hp, _, rfl, c, rfl, hm0, _, SqL.of hp, _, rfl, c, rfl, wide_div (b := 128) hm0 (by omega) (by decide) (by decide), _, hp, 0, rfl, ?_⟩
      exact fin _ _ s (Int.emod_nonneg _ (by omega)) (Int.emod_lt_of_pos _ hm0) (Int.ediv_nonneg hc (by omega)) hs0 hs1
    · refine ⟨_, SqL.of hp, .int s, rfl, s, rfl, by omega, by decide, _, hp, 1, rfl, _, SqL.of upd_same, _, rfl, _, SqL.of upd_same, _, rfl, _, rfl, _, rfl, .inl (by omega), by decide, ⟨by decide, by decide⟩, hm0, ?_⟩
      exact fin _ c _ (Int.emod_nonneg _ (by omega)) (Int.emod_lt_of_pos _ hm0) hc (by omega) (by omega)
end
end L2.L87

set_option maxHeartbeats 1000000
namespace L2.L87
open PySem PySem.Spec PyProof.Rows NumText LR L2.Lr L2.Tx TL SkE
local macro_rules | `(tactic| walk_at "nx") => `(tactic| dsimp only [gName, tNext, tSeq, tAsg, List.set_cons_zero, List.set_cons_succ])
theorem sclw : FnScope ["_law_text", "_law_letters", "_law_sign"] ["_law_text"] (defScope sLWord) := ⟨rfl, rfl, rfl, by decide +kernel, rfl, by decide +kernel, by decide +kernel⟩
theorem sclnu : FnScope ["_law_text", "_law_most", "_law_sign"] ["_law_text", "_law_most"] (defScope sLNum) := ⟨rfl, rfl, rfl, by decide +kernel, rfl, by decide +kernel, by decide +kernel⟩
theorem op_eqDK {X : Cx} (K : PySem.W.Frag) (hK : X.K = K) (hu : X.A.units + 64 < cLine) : OpR X (compareOp .Eq) (rEqD K) := by subst hK; exact op_eqD hu
theorem op_neDK {X : Cx} (K : PySem.W.Frag) (hK : X.K = K) (hu : X.A.units + 64 < cLine) : OpR X (compareOp .NotEq) (rNeD K) := by subst hK; exact op_neD hu
/-! ### lists of ones -/
def ones (n : Nat) : List V := List.replicate n (.int 1)
def onesD (n : Nat) : List PyData := List.replicate n (.int 1)
theorem ones_dp {K : PySem.W.Frag} {H : Hp} : ∀ n, DpAll K H (ones n) (onesD n)
  | 0 => .nil
  | n + 1 => .cons (.int 1) (ones_dp n)
theorem ones_sh (n : Nat) : SeqAt.shaped (.list (onesD n)) = true := by
  have z : PyData.canLayAll0 (onesD n) = true ∧ PyData.depthAll (onesD n) = 0 := by
    induction n with
    | zero => exact ⟨rfl, rfl⟩
    | succ n ih =>
      show (PyData.canLay0 (.int 1) && PyData.canLayAll0 (onesD n)) = true ∧ max (PyData.depth (.int 1)) (PyData.depthAll (onesD n)) = 0
      rw [ih.1, ih.2]
      exact ⟨rfl, rfl⟩
  refine Bool.and_eq_true_iff.mpr ⟨by simpa only [PyData.canLay0] using z.1, decide_eq_true ?_⟩
  simp only [PyData.depth, z.2]
  decide
theorem ones_eq : ∀ n, PyData.eqv (.list (onesD n)) (.list []) = decide (n = 0)
  | 0 => rfl
  | n + 1 => by
    rw [decide_eq_false (by omega)]
    rfl
theorem ones_app (n : Nat) : ones (n + 1) = ones n ++ [.int 1] := List.replicate_succ'
def cnt (p : Nat → Bool) (l : List Nat) : Nat := (l.filter fun c => !p c).length
theorem cnt_take {p : Nat → Bool} {l : List Nat} {i c : Nat} (h : l[i]? = some c) : cnt p (l.take (i + 1)) = cnt p (l.take i) + if p c = true then 0 else 1 := by
  unfold cnt
  rw [List.take_add_one, h, List.filter_append, List.length_append]
  cases hp : p c <;> simp [hp]
theorem cnt_zero {p : Nat → Bool} {l : List Nat} : decide (cnt p l = 0) = l.all p := by
  unfold cnt
  rw [Bool.eq_iff_iff, decide_eq_true_iff, List.length_eq_zero_iff, List.filter_eq_nil_iff, List.all_eq_true]
  exact ⟨fun h c hc => by simpa using h c hc, fun h c hc => by simp [h c hc]⟩
theorem cnt_le {p : Nat → Bool} {l : List Nat} : cnt p l ≤ l.length := List.length_filter_le _ _
theorem wordB_eq (t : Str) : wordB t = ((decide (1 ≤ t.length) && decide (t.length ≤ 8)) && (tl t).all fun c => decide (c ∈ letters)) := rfl
def spLWord : Sp := fun vs H Q _ => ∃ t : Str, vs = [.str t] ∧ t.length ≤ 100000 ∧ ∀ H', Same H H' → Q (.bl (wordB t)) H'
def spLNum : Sp := fun vs H Q _ => ∃ (f : Str) (m : Nat), vs = [.str f, .int (m : Int)] ∧ f.length ≤ 100000 ∧ ∀ H', Same H H' → Q (optV (numO f m)) H'
section
variable {P : Program} {w : World} {K : PySem.W.Frag} {mg : Str → Option Value} {base : Heap}
theorem ol_wd {f : Addr} {fd : FuncData} (F : FnP K "_law_is_word" sLWord f fd) (T : Txt K mg) : FnOk P w K mg base CX0 1 f fd ["_law_text"] spLWord := by
  refine F.ok sclw (fun vs H Q E h => ?_) (fun cdv A outer s H vs Q E hr h => ?_)
  · obtain ⟨t, rfl, _⟩ := h
    rfl
  · obtain ⟨t, rfl, hl, q⟩ := h
    have hu := hr.units
    refine ⟨_, PSs.nox (C8.pss_cut (ps_setLc (i := 1) (own := [("_law_sign", 2)]) (g := gName 2) rfl sclw.nd rfl rfl (sw_true rfl rfl rfl (by decide +kernel)) (pi_str (pv 0)) (blkOk_by (N := ["_law_text", "_law_letters", "_law_sign"]) (sc := defScope sLWord) (by decide +kernel)) (fun _ _ _ _ _ => pg_name (i := 2) sclw.nd rfl (Or.inl rfl)) (fun _ _ _ _ _ => pts_one (pt_cmpR op_notIn_sign (pv 2) pe_str (by rfl))) (fun _ _ _ _ _ => pe_int))
      (pss_one (ps_ret (pe_and (pe_chain op_le op_le pe_int (pe_callB call_len_str (by rfl) T.p.len boot_len (pa_cons (pv 0) pa_nil)) pe_int) (pe_one (pe_cmpR (op_eqDK K rfl hu) (pv 1) (pe_lst pa_nil) (nomark _))))))), ?_⟩
    have e0 : start ["_law_text", "_law_letters", "_law_sign"] [V.str t] = [some (.str t), none, none] := rfl
    rw [e0]
    have sz : sizeLine = 16777216 := sizeLine_eq
    refine ⟨fun σ' H' => ∃ D o, σ' = [some (.str t), some (.ref D), o] ∧ Same H H' ∧ H' D = some (.lst (ones (cnt (fun c => decide (c ∈ letters)) (tl t)))), ?_, ?_⟩
    · refine ⟨_, rfl, t, rfl, fun D hD => lc_strG (fun i H' => Same H H' ∧ H' D = some (.lst (ones (cnt (fun c => decide (c ∈ letters)) ((tl t).take i))))) ⟨same_upd hD, upd_same⟩ ?_ ?_⟩
      · rintro i c H' hc ⟨s', hD'⟩
        have hc' : (tl t)[i]? = some c := by show t.cps.toList[i]? = some c; rw [Array.getElem?_toList]; exact hc
        refine ⟨rfl, _, rfl, c, _, rfl, rfl, _, rfl, ?_⟩
        have et := cnt_take (p := fun c => decide (c ∈ letters)) hc'
        cases hm : decide (c ∈ letters) with
        | true =>
          rw [hm] at et
          rw [if_pos rfl] at et
          have e2 : decide (c ∈ ("abcdefghijklmnopqrstuvwxyz" : Str).cps.toList) = true := hm
          rw [e2]
          exact iteF ⟨s', by rw [et]; exact hD'⟩
        | false =>
          rw [hm] at et
          rw [if_neg (by decide)] at et
          have e2 : decide (c ∈ ("abcdefghijklmnopqrstuvwxyz" : Str).cps.toList) = false := hm
          rw [e2]
          refine iteT ⟨_, hD', ?_, ?_, ?_⟩
          · have h1 := cnt_le (p := fun c => decide (c ∈ letters)) (l := (tl t).take i)
            rw [List.length_take] at h1
            have h2 : (ones (cnt (fun c => decide (c ∈ letters)) ((tl t).take i))).length = cnt (fun c => decide (c ∈ letters)) ((tl t).take i) := List.length_replicate
            rw [h2]
            rw [len_tl] at hl
            omega
          · intro b o e
            by_cases hb : b = D
            · rw [hb, hD] at e
              cases e
            · exact (upd_ne hb).trans (s' b o e)
          · rw [upd_same, et, ones_app]
      · rintro H' ⟨s', hD'⟩
        rw [show (tl t).take t.cps.size = tl t from List.take_length] at hD'
        exact ⟨D, _, rfl, s', hD'⟩
    rintro σ1 H1 ⟨D, o, rfl, s1, hD⟩
    refine ⟨_, rfl, t, rfl, by omega, _, _, rfl, rfl, _, rfl, ite_dec (fun g1 => ?_) fun g1 => ?_⟩
    · refine ⟨_, _, rfl, rfl, _, rfl, ?_⟩
      by_cases g2 : (t.length : Int) ≤ 8
      · rw [decide_eq_true g2]
        refine iteT ⟨_, rfl, by show 0 ≤ sizeLine; omega, fun p np => ?_⟩
        have s2 := same_upd (o := .lst []) np
        refine ⟨.list (onesD _), .list [], .lst (SqL.of (s2 _ _ hD)) (ones_dp _), .lst (SqL.of upd_same) .nil, ones_sh _, by rfl, ?_⟩
        rw [ones_eq, cnt_zero]
        have z := q _ (s1.trans s2)
        rw [wordB_eq] at z
        rw [decide_eq_true (show 1 ≤ t.length by omega), decide_eq_true (show t.length ≤ 8 by omega)] at z
        exact z
      · rw [decide_eq_false g2]
        refine iteF ?_
        have z := q _ s1
        rw [wordB_eq] at z
        rw [decide_eq_false (show ¬ t.length ≤ 8 by omega), Bool.and_false, Bool.false_and] at z
        exact z
    · refine ⟨_, rfl, iteF ?_⟩
      have z := q _ s1
      rw [wordB_eq] at z
      rw [decide_eq_false (show ¬ 1 ≤ t.length by omega), Bool.false_and, Bool.false_and] at z
      exact z
theorem ol_num {f : Addr} {fd : FuncData} (F : FnP K "_law_number" sLNum f fd) (T : Txt K mg) : FnOk P w K mg base CX0 1 f fd ["_law_text", "_law_most"] spLNum := by
  refine F.ok sclnu (fun vs H Q E h => ?_) (fun cdv A outer s H vs Q E hr h => ?_)
  · obtain ⟨t, m, rfl, _⟩ := h
    rfl
  · obtain ⟨t, m, rfl, hl, q⟩ := h
    have hu := hr.units
    refine ⟨_, PSs.nox (C8.pss_cut (ps_if (PW.pt (pw_or (pt_cmpR op_eq (pv 0) pe_str (nomark _)) (pw_or (pt_cmpR op_gt (pe_callB call_len_str (by rfl) T.p.len boot_len (pa_cons (pv 0) pa_nil)) pe_int (nomark _))
        (pw_or1 (pt_cmpR (op_neDK K rfl hu) (pe_lc (own := [("_law_sign", 2)]) (g := gName 2) (by rfl) sclnu.nd (pi_str (pv 0)) (blkOk_by (N := ["_law_text", "_law_most", "_law_sign"]) (sc := defScope sLNum) (by decide +kernel)) (fun _ _ _ _ _ => pg_name (i := 2) sclnu.nd rfl (Or.inl rfl)) (fun _ _ _ _ _ => pts_one (pt_cmpR op_notIn_sign (pv 2) pe_str (by rfl))) (fun _ _ _ _ _ => pe_int)) (pe_lst pa_nil) (nomark _)))))) (pss_one (ps_ret pe_non)) pss_nil)
      (C8.pss_cut (ps_if (PW.pt (pw_or (PW.pt (pw_and (pt_cmpR op_eq (pe_ix ix_str (pv 0) pe_int (fun _ _ => rfl)) pe_str (nomark _)) (pw_and1 (pt_cmpR op_ne (pv 0) pe_str (nomark _))))) (pw_or1 (pt_cmpR op_gt (pe_callTy call_int_str (by rfl) T.p.int bbI (pa_cons (pv 0) pa_nil)) (pv 1) (nomark _))))) (pss_one (ps_ret pe_non)) pss_nil)
      (pss_one (ps_ret (pe_callTy call_int_str (by rfl) T.p.int bbI (pa_cons (pv 0) pa_nil)))))), ?_⟩
    have e0 : start ["_law_text", "_law_most", "_law_sign"] [V.str t, .int (m : Int)] = [some (.str t), some (.int (m : Int)), none] := rfl
    rw [e0]
    have sz : sizeLine = 16777216 := sizeLine_eq
    have elen : (tl t).length = t.length := (len_tl t).symm
    have qn : ∀ H', Same H H' → figO (tl t) 201 = none → Q .non H' := fun H' s' e => by
      have z := q H' s'
      unfold numO at z
      rw [e] at z
      exact z
    refine ⟨fun σ' H' => σ' = [some (.str t), some (.int (m : Int)), none] ∧ Same H H' ∧ ((1 ≤ (tl t).length ∧ (tl t).length ≤ 201) ∧ (tl t).all dig = true), ?_, ?_⟩
    · refine ⟨_, rfl, rfl, _, rfl, str_if (fun h => ?_) fun h => ?_⟩
      · refine iteT (qn H (Same.refl H) ?_)
        rw [show tl t = [] by rw [h]; rfl]
        rfl
      have hpos : 1 ≤ (tl t).length := by
        cases ht : tl t with
        | nil => exact absurd (tl_inj ht) h
        | cons c r => simp
      refine ⟨_, rfl, t, rfl, by omega, _, _, rfl, rfl, _, rfl, ite_dec (fun g => ?_) fun g => ?_⟩
      · refine iteT (qn H (Same.refl H) ?_)
        unfold figO
        rw [decide_eq_false (show ¬ (tl t).length ≤ 201 by omega), Bool.and_false, Bool.false_and, Bool.false_and]
        rfl
      refine ⟨_, rfl, t, rfl, fun D hD => lc_strG (fun i H' => Same H H' ∧ H' D = some (.lst (ones (cnt dig ((tl t).take i))))) ⟨same_upd hD, upd_same⟩ ?_ ?_⟩
      · rintro i c H' hc ⟨s', hD'⟩
        have hc' : (tl t)[i]? = some c := by show t.cps.toList[i]? = some c; rw [Array.getElem?_toList]; exact hc
        refine ⟨rfl, _, rfl, c, _, rfl, rfl, _, rfl, ?_⟩
        have et := cnt_take (p := dig) hc'
        rw [dig_mem]
        cases hm : dig c with
        | true =>
          rw [hm, if_pos rfl] at et
          exact iteF ⟨s', by rw [et]; exact hD'⟩
        | false =>
          rw [hm, if_neg (by decide)] at et
          refine iteT ⟨_, hD', ?_, ?_, ?_⟩
          · have h1 := cnt_le (p := dig) (l := (tl t).take i)
            rw [List.length_take] at h1
            have h2 : (ones (cnt dig ((tl t).take i))).length = cnt dig ((tl t).take i) := List.length_replicate
            rw [h2]
            omega
          · intro b o e
            by_cases hb : b = D
            · rw [hb, hD] at e
              cases e
            · exact (upd_ne hb).trans (s' b o e)
          · rw [upd_same, et, ones_app]
      · rintro H' ⟨s', hD'⟩
        rw [show (tl t).take t.cps.size = tl t from List.take_length] at hD'
        refine ⟨by show 0 ≤ sizeLine; omega, fun p np => ?_⟩
        have s2 := same_upd (o := .lst []) np
        refine ⟨.list (onesD _), .list [], .lst (SqL.of (s2 _ _ hD')) (ones_dp _), .lst (SqL.of upd_same) .nil, ones_sh _, by rfl, _, rfl, ?_⟩
        rw [ones_eq, cnt_zero]
        cases hf : (tl t).all dig with
        | true => exact iteF ⟨rfl, s'.trans s2, ⟨hpos, by omega⟩, rfl⟩
        | false =>
          refine iteT (qn _ (s'.trans s2) ?_)
          unfold figO
          rw [hf, Bool.and_false, Bool.false_and]
          rfl
    rintro σ' H' ⟨rfl, s', ⟨l1, l2⟩, hd⟩
    have e1 : figO (tl t) 201 = if (decide (tl t = [48]) || decide ((tl t).head? ≠ some 48)) = true then some (digitsVal (tl t)) else none := by
      unfold figO
      rw [decide_eq_true l1, decide_eq_true l2, hd]
      simp only [Bool.true_and, Bool.and_self]
    have hint : intText? t = some ((digitsVal (tl t) : Nat) : Int) := intText_dig hd l1 (by omega)
    have e48 : t = "0" ↔ tl t = [48] := ⟨fun h => by rw [h]; rfl, fun h => tl_inj (by rw [h]; rfl)⟩
    obtain ⟨c, ec⟩ := head0 l1
    have h640 : t.length ≤ 640 := by omega
    have numS : figO (tl t) 201 = some (digitsVal (tl t)) → numO t m = if digitsVal (tl t) ≤ m then some (digitsVal (tl t)) else none := fun hf => by
      unfold numO
      rw [hf]
    refine ⟨fun σ1 H1 => σ1 = [some (.str t), some (.int (m : Int)), none] ∧ Same H H1 ∧ numO t m = some (digitsVal (tl t)), ?_, ?_⟩
    · have body : figO (tl t) 201 = some (digitsVal (tl t)) → ∀ g : Prop, True := fun _ _ => trivial
      have out : figO (tl t) 201 = some (digitsVal (tl t)) → ((digitsVal (tl t) : Nat) : Int) > (m : Int) → Q .non H' := fun hf h => by
        have z := q H' s'
        rw [numS hf, if_neg (by omega)] at z
        exact z
      have keep : figO (tl t) 201 = some (digitsVal (tl t)) → ¬ ((digitsVal (tl t) : Nat) : Int) > (m : Int) → numO t m = some (digitsVal (tl t)) := fun hf h => by
        rw [numS hf, if_pos (by omega)]
      refine ⟨_, rfl, t, 0, c, rfl, rfl, by omega, ?_, rfl, _, rfl, str_if (fun h2 => ⟨_, rfl, rfl, _, rfl, str_ne (fun h3 => iteT (qn _ s' ?_)) fun h3 => ?_⟩) fun h2 => ?_⟩
      · show atI t.cps.toList 0 = some c
        rw [show t.cps.toList = c :: (tl t).tail from ec]
        exact atI_nat (j := 0) rfl
      · have e : [c] = [48] := congrArg tl (show (⟨#[c]⟩ : Str) = "0" from h2)
        cases e
        have hh : (tl t).head? = some 48 := by rw [ec]; rfl
        rw [e1, if_neg]
        rw [decide_eq_false (fun z => h3 (e48.mpr z)), decide_eq_false (fun z => z hh)]
        decide
      · have hf : figO (tl t) 201 = some (digitsVal (tl t)) := by
          rw [e1, if_pos]
          rw [decide_eq_true (e48.mp h3)]
          rfl
        exact ⟨_, rfl, t, _, rfl, hint, h640, _, rfl, _, _, rfl, rfl, _, rfl, ite_dec (fun g => out hf g) fun g => ⟨rfl, s', keep hf g⟩⟩
      · have hf : figO (tl t) 201 = some (digitsVal (tl t)) := by
          rw [e1, if_pos]
          rw [decide_eq_true (show (tl t).head? ≠ some 48 from fun z => h2 ?_), Bool.or_true]
          rw [ec] at z
          cases z
          rfl
        exact ⟨_, rfl, t, _, rfl, hint, h640, _, rfl, _, _, rfl, rfl, _, rfl, ite_dec (fun g => out hf g) fun g => ⟨rfl, s', keep hf g⟩⟩
    rintro σ1 H1 ⟨rfl, s1, e⟩
    have z := q H1 s1
    rw [e] at z
    exact ⟨_, rfl, t, _, rfl, hint, h640, z⟩
end
end L2.L87

set_option maxHeartbeats 1000000
namespace L2.L87
open PySem PySem.Spec PyProof.Rows NumText LR L2.Lr L2.Tx TL SkE
local macro_rules | `(tactic| walk_at "nx") => `(tactic| dsimp only [gName, tNext, tSeq, tAsg, List.set_cons_zero, List.set_cons_succ])
abbrev NLr : List Str := ["_law_text", "_law_known", "_law_found", "_law_one", "_law_parts"]
theorem sclr : FnScope NLr ["_law_text"] (defScope sLRow) := ⟨rfl, rfl, rfl, by decide +kernel, rfl, by decide +kernel, by decide +kernel⟩
/-- what has been picked up so far -/
def DatP (K : PySem.W.Frag) (H : Hp) (D : Addr) (ds : List PyData) (H' : Hp) : Prop := Same H H' ∧ ∃ vs, H' D = some (.lst vs) ∧ DpAll K H' vs ds
theorem DatP.zero {K : PySem.W.Frag} {H : Hp} {D : Addr} (hD : H D = none) : DatP K H D [] (upd H D (.lst [])) := ⟨same_upd hD, [], upd_same, .nil⟩
theorem DatP.same {K : PySem.W.Frag} {H H2 H3 : Hp} {D : Addr} {ds : List PyData} (p : DatP K H D ds H2) (s : Same H2 H3) : DatP K H D ds H3 := by
  obtain ⟨s1, vs, h2, ha⟩ := p
  exact ⟨s1.trans s, vs, s _ _ h2, DpAll.same s ha⟩
theorem DatP.push {K : PySem.W.Frag} {H H2 H5 : Hp} {D : Addr} {ds : List PyData} {d : PyData} {v : V} (hD : H D = none) (p : DatP K H D ds H2) (nl : noLAll ds = true) (nd : noL d = true) (hl : ds.length ≤ 1000000) (s : Same H2 H5) (hv : Dp K H5 v d) :
    ∃ acc, H5 D = some (.lst acc) ∧ acc.length < sizeLine ∧ DatP K H D (ds ++ [d]) (upd H5 D (.lst (acc ++ [v]))) := by
  obtain ⟨s1, vs, h2, ha⟩ := p
  have h5 := s _ _ h2
  have hkt := Kt.upd (o := .lst (vs ++ [v])) h5
  have hlen := DpAll.length ha
  exact ⟨vs, h5, by rw [sizeLine_eq]; omega, fun b o hb => (upd_ne (ne_of_none hb hD)).trans (s _ _ (s1 b o hb)), vs ++ [v], upd_same, DpAll.append (DpAll.kt hkt (DpAll.same s ha) nl) (.cons (Dp.kt hkt hv nd) .nil)⟩
def rowDt : Option (List PyData) → PyData
  | some ds => .tuple ds
  | none => .none
def pick (t : Str) (i : Nat) : List PyData := ((known.take i).filter fun k => decide (k.1 = t)).map fun k => .tuple k.2
theorem pick_step {t : Str} {i : Nat} {k : Str × List PyData} (h : known[i]? = some k) : pick t (i + 1) = if k.1 = t then pick t i ++ [.tuple k.2] else pick t i := by
  unfold pick
  rw [List.take_add_one, h, List.filter_append, List.map_append]
  by_cases e : k.1 = t
  · simp [e]
  · simp [e]
theorem pick_all (t : Str) : pick t 4 = match lrow t with
    | some ds => [.tuple ds]
    | none => [] := by
  unfold lrow
  by_cases h1 : t = ""
  · rw [if_pos h1, h1]; rfl
  by_cases h2 : t = "work 5"
  · rw [if_neg h1, if_pos h2, h2]; rfl
  by_cases h3 : t = "send c; take d 2"
  · rw [if_neg h1, if_neg h2, if_pos h3, h3]; rfl
  by_cases h4 : t = "loop 2n+1 (send c)"
  · rw [if_neg h1, if_neg h2, if_neg h3, if_pos h4, h4]; rfl
  rw [if_neg h1, if_neg h2, if_neg h3, if_neg h4]
  unfold pick known
  simp
  exact ⟨fun z => h1 z.symm, fun z => h2 z.symm, fun z => h3 z.symm, fun z => h4 z.symm⟩
theorem pick_mem {t : Str} {i : Nat} {d : PyData} (h : d ∈ pick t i) : ∃ k ∈ known, d = .tuple k.2 := by
  obtain ⟨k, hk, rfl⟩ := List.mem_map.mp h
  exact ⟨k, List.mem_of_mem_take (List.mem_filter.mp hk).1, rfl⟩
theorem known_gd : (known.all fun k => (PyData.tuple k.2).canLay0 && (decide ((PyData.tuple k.2).depth ≤ 17) && noL (.tuple k.2))) = true := by decide +kernel
theorem pick_gd {t : Str} {i : Nat} : ∀ d ∈ pick t i, Gd 17 d := fun d hd => by
  obtain ⟨k, hk, rfl⟩ := pick_mem hd
  obtain ⟨z1, z⟩ := Bool.and_eq_true_iff.mp (List.all_eq_true.mp known_gd k hk)
  obtain ⟨z2, z3⟩ := Bool.and_eq_true_iff.mp z
  exact ⟨z1, of_decide_eq_true z2, z3⟩
theorem pick_len (t : Str) (i : Nat) : (pick t i).length ≤ 4 := by
  unfold pick
  rw [List.length_map]
  refine Nat.le_trans (List.length_filter_le _ _) (Nat.le_trans (List.length_take_le' _ _) ?_)
  decide
/-- a known row as it stands -/
def IT (K : PySem.W.Frag) (H : Hp) (l : Addr) (k : Str × List PyData) : Prop := ∃ v, H l = some (.lst [.str k.1, v]) ∧ Dp K H v (.tuple k.2)
theorem IT.of {K : PySem.W.Frag} {H : Hp} {l : Addr} {vs : List V} {k : Str × List PyData} (h : H l = some (.lst vs)) (d : DpAll K H vs [.str k.1, .tuple k.2]) : IT K H l k := by
  cases d with
  | cons a d =>
    cases d with
    | cons b d =>
      cases d
      cases strD a
      exact ⟨_, h, b⟩
theorem IT.same {K : PySem.W.Frag} {H H' : Hp} {l : Addr} {k : Str × List PyData} (h : IT K H l k) (s : Same H H') : IT K H' l k := by
  obtain ⟨v, h1, h2⟩ := h
  exact ⟨v, s _ _ h1, Dp.same s h2⟩
theorem IT.upd {K : PySem.W.Frag} {H : Hp} {l L : Addr} {a : Addr} {r xs : List V} {k : Str × List PyData} (h : IT K H l k) (hL : H L = some (.lst (V.ref a :: r))) (nk : noL (.tuple k.2) = true) : IT K (upd H L (.lst xs)) l k := by
  obtain ⟨v, h1, h2⟩ := h
  refine ⟨v, (upd_ne fun z => ?_).trans h1, Dp.kt (Kt.upd hL) h2 nk⟩
  rw [z, hL] at h1
  injection h1 with h1
  injection h1 with h1
  injection h1 with h1
  cases h1
def spLRow (K : PySem.W.Frag) : Sp := fun vs H Q _ => ∃ t : Str, vs = [.str t] ∧ ∀ v H', Same H H' → Dp K H' v (rowDt (lrow t)) → Q v H'
section
variable {P : Program} {w : World} {K : PySem.W.Frag} {mg : Str → Option Value} {base : Heap}
theorem ol_row {f : Addr} {fd : FuncData} (F : FnP K "_law_row" sLRow f fd) (T : Txt K mg) : FnOk P w K mg base CX0 1 f fd ["_law_text"] (spLRow K) := by
  refine F.ok sclr (fun vs H Q E h => ?_) (fun cdv A outer s H vs Q E hr h => ?_)
  · obtain ⟨t, rfl, _⟩ := h
    rfl
  · obtain ⟨t, rfl, q⟩ := h
    have hu := hr.units
    have sz : sizeLine = 16777216 := sizeLine_eq
    refine ⟨_, PSs.nox (pss_cons (ps_set (i := 1) sclr.nd rfl (Or.inl rfl) (pe_lst (pa_cons (pd_lstL (ds := [.str "", .tuple []]) (pd_cons pd_str (pd_cons (pd_tup pd_nil) pd_nil))) (pa_cons (pd_lstL (ds := [.str "work 5", .tuple [.tuple [.str "work", .int 5]]]) (pd_cons pd_str (pd_cons (pd_tup (pd_cons (pd_tup (pd_cons pd_str (pd_cons pd_int pd_nil))) pd_nil)) pd_nil)))
          (pa_cons (pd_lstL (ds := [.str "send c; take d 2", .tuple [.tuple [.str "send", .str "c", .int 1], .tuple [.str "take", .str "d", .int 2]]]) (pd_cons pd_str (pd_cons (pd_tup (pd_cons (pd_tup (pd_cons pd_str (pd_cons pd_str (pd_cons pd_int pd_nil)))) (pd_cons (pd_tup (pd_cons pd_str (pd_cons pd_str (pd_cons pd_int pd_nil)))) pd_nil))) pd_nil))) pa_nil)))))
      (pss_cons (ps_expr (pe_bm PySem.F.plainAttrs_list PySem.F.slot_list_append PySem.F.type_list_append mt_append (pv 1) (pa_cons (pd_lstL (ds := [.str "loop 2n+1 (send c)", .tuple [.tuple [.str "loop", .tuple [.int 2, .int 1], .tuple [.tuple [.str "send", .str "c", .int 1]]]]]) (pd_cons pd_str (pd_cons (pd_tup (pd_cons (pd_tup (pd_cons pd_str (pd_cons (pd_tup (pd_cons pd_int (pd_cons pd_int pd_nil))) (pd_cons (pd_tup (pd_cons (pd_tup (pd_cons pd_str (pd_cons pd_str (pd_cons pd_int pd_nil)))) pd_nil)) pd_nil)))) pd_nil)) pd_nil))) pa_nil)))
      (C8.pss_cut (ps_setLc (i := 2) (own := [("_law_one", 3), ("_law_parts", 4)]) (g := gLst K 2 (gCons (gName 3) (gCons (gName 4) gNil))) rfl sclr.nd rfl rfl (sw_true rfl rfl rfl (by decide +kernel)) (pi_list (pv 1)) (blkOk_by (N := NLr) (sc := defScope sLRow) (by decide +kernel))
          (fun _ _ _ _ _ => by exact pg_lst rfl (pgs_cons (pg_name (i := 3) sclr.nd rfl (Or.inl rfl)) (pgs_cons (pg_name (i := 4) sclr.nd rfl (Or.inl rfl)) pgs_nil))) (fun _ _ _ _ _ => pts_one (pt_cmpR op_eq (pv 3) (pv 0) (nomark _))) (fun _ _ _ _ _ => pv 4))
      (pss_one (ps_ret (pe_ifExp (pt_cmpR (op_neDK K rfl hu) (pv 2) (pe_lst pa_nil) (nomark _)) (pe_ix ix_list (pv 2) pe_int (fun _ _ => rfl)) pe_non)))))), ?_⟩
    have e0 : start NLr [V.str t] = [some (.str t), none, none, none, none] := rfl
    rw [e0]
    refine go_seq (go_asg ?_)
    intro l1 vs1 H1 s1 hl1 hd1
    intro l2 vs2 H2 s2 hl2 hd2
    intro l3 vs3 H3 s3 hl3 hd3
    refine ⟨by show 3 ≤ sizeLine; omega, fun L nL => ?_⟩
    walk_at "nx"
    have sL := same_upd (o := .lst [V.ref l1, .ref l2, .ref l3]) nL
    have hL := upd_same (H := H3) (a := L) (o := .lst [V.ref l1, .ref l2, .ref l3])
    generalize upd H3 L (.lst [V.ref l1, .ref l2, .ref l3]) = H4 at sL hL ⊢
    refine ⟨_, rfl, .inl ⟨rfl, _, SqL.of hL⟩, ?_⟩
    intro l4 vs4 H5 s5 hl4 hd4
    refine ⟨L, _, _, rfl, rfl, s5 _ _ hL, ?_, ?_⟩
    · show 3 < sizeLine
      omega
    have i1 : IT K H5 l1 ("", []) := (IT.of (k := ("", [])) hl1 hd1).same (s2.trans (s3.trans (sL.trans s5)))
    have i2 : IT K H5 l2 ("work 5", [.tuple [.str "work", .int 5]]) := (IT.of (k := ("work 5", [.tuple [.str "work", .int 5]])) hl2 hd2).same (s3.trans (sL.trans s5))
    have i3 : IT K H5 l3 ("send c; take d 2", [.tuple [.str "send", .str "c", .int 1], .tuple [.str "take", .str "d", .int 2]]) := (IT.of (k := ("send c; take d 2", [.tuple [.str "send", .str "c", .int 1], .tuple [.str "take", .str "d", .int 2]])) hl3 hd3).same (sL.trans s5)
    have i4 : IT K H5 l4 ("loop 2n+1 (send c)", [.tuple [.str "loop", .tuple [.int 2, .int 1], .tuple [.tuple [.str "send", .str "c", .int 1]]]]) := IT.of (k := ("loop 2n+1 (send c)", [.tuple [.str "loop", .tuple [.int 2, .int 1], .tuple [.tuple [.str "send", .str "c", .int 1]]]])) hl4 hd4
    have hL5 := s5 _ _ hL
    have j1 := i1.upd (xs := [V.ref l1, .ref l2, .ref l3, .ref l4]) hL5 (by decide +kernel)
    have j2 := i2.upd (xs := [V.ref l1, .ref l2, .ref l3, .ref l4]) hL5 (by decide +kernel)
    have j3 := i3.upd (xs := [V.ref l1, .ref l2, .ref l3, .ref l4]) hL5 (by decide +kernel)
    have j4 := i4.upd (xs := [V.ref l1, .ref l2, .ref l3, .ref l4]) hL5 (by decide +kernel)
    have nL0 : H L = none := by
      cases hz : H L with
      | none => rfl
      | some o => rw [s3 _ _ (s2 _ _ (s1 _ _ hz))] at nL; cases nL
    have s6 : Same H (upd H5 L (.lst [V.ref l1, .ref l2, .ref l3, .ref l4])) := fun b o hb => (upd_ne (ne_of_none hb nL0)).trans (s5 _ _ (sL _ _ (s3 _ _ (s2 _ _ (s1 _ _ hb)))))
    have hL6 := upd_same (H := H5) (a := L) (o := .lst [V.ref l1, .ref l2, .ref l3, .ref l4])
    show (_ : Prop)
    rw [show ([V.ref l1, V.ref l2, V.ref l3] ++ [V.ref l4]) = [V.ref l1, .ref l2, .ref l3, .ref l4] from rfl]
    generalize upd H5 L (.lst [V.ref l1, .ref l2, .ref l3, .ref l4]) = H6 at s6 hL6 j1 j2 j3 j4 ⊢
    have items : ∀ (i : Nat) (v : V), [V.ref l1, V.ref l2, V.ref l3, V.ref l4][i]? = some v → ∃ k l, known[i]? = some k ∧ v = .ref l ∧ IT K H6 l k := fun i v hv => by
      match i, hv with
      | 0, hv => cases hv; exact ⟨_, _, rfl, rfl, j1⟩
      | 1, hv => cases hv; exact ⟨_, _, rfl, rfl, j2⟩
      | 2, hv => cases hv; exact ⟨_, _, rfl, rfl, j3⟩
      | 3, hv => cases hv; exact ⟨_, _, rfl, rfl, j4⟩
    refine ⟨fun σ' H' => ∃ D, σ' = [some (.str t), some (.ref L), some (.ref D), none, none] ∧ DatP K H6 D (pick t 4) H', ?_, ?_⟩
    · refine ⟨_, rfl, L, rfl, ⟨_, SqL.of hL6⟩, fun D hD => lc_list (K := K) (a := L) (xs := [V.ref l1, .ref l2, .ref l3, .ref l4]) (fun i H' => DatP K H6 D (pick t i) H') (DatP.zero hD) (fun i H' _ p => SqL.of (p.1 _ _ hL6)) ?_ ?_⟩
      · rintro i v H7 hv p
        obtain ⟨k, l, hk, rfl, u, hu1, hu2⟩ := items i v hv
        refine ⟨l, _, rfl, SqL.of (p.1 _ _ hu1), rfl, _, _, rfl, _, _, rfl, rfl, rfl, _, rfl, _, rfl, rfl, _, rfl, str_if (fun e => ?_) fun e => ?_⟩
        · refine ⟨_, rfl, ?_⟩
          rw [pick_step hk, if_pos e]
          exact DatP.push hD p (noLAll_mk fun d hd => (pick_gd d hd).l) (pick_gd (t := k.1) (i := i + 1) _ (by rw [pick_step hk, if_pos rfl]; simp)).l (by have := pick_len t i; omega) (Same.refl _) (Dp.same p.1 hu2)
        · show DatP K H6 D (pick t (i + 1)) H7
          rw [pick_step hk, if_neg e]
          exact p
      · rintro H7 p
        exact ⟨D, rfl, p⟩
    rintro σ' H7 ⟨D, rfl, s7, xs, hD7, hda⟩
    have hlen := DpAll.length hda
    refine ⟨_, rfl, by show 0 ≤ sizeLine; omega, fun p np => ?_⟩
    have sp := same_upd (o := .lst []) np
    refine ⟨.list (pick t 4), .list [], .lst (SqL.of (sp _ _ hD7)) (DpAll.same sp hda), .lst (SqL.of upd_same) .nil, Gd.shapedL (by omega) pick_gd, rfl, ?_⟩
    have z := fun v hv => q v (upd H7 p (.lst [])) (s6.trans (s7.trans sp)) hv
    rw [pick_all] at hda ⊢
    cases hr : lrow t with
    | none =>
      rw [hr] at z
      exact ⟨_, rfl, iteF (z _ .non)⟩
    | some ds =>
      rw [hr] at z hda
      cases hda with
      | cons a b =>
        cases b
        exact ⟨_, rfl, iteT ⟨_, rfl, D, _, 0, _, rfl, rfl, SqL.of (sp _ _ hD7), at0, z _ (Dp.same sp a)⟩⟩
end
end L2.L87

set_option maxHeartbeats 1000000
namespace L2.L87
open PySem PySem.Spec PyProof.Rows NumText LR L2.Lr L2.Tx TL SkE
local macro_rules | `(tactic| walk_at "nx") => `(tactic| dsimp only [gName, tNext, tSeq, tAsg, List.set_cons_zero, List.set_cons_succ])
abbrev NNu : List Str := ["_law_words", "_law_found", "_law_word"]
theorem scln2 : FnScope NNu ["_law_words"] (defScope sLNums) := ⟨rfl, rfl, rfl, by decide +kernel, rfl, by decide +kernel, by decide +kernel⟩
theorem p30 : (10 : Int) ^ (Int.toNat 30) = ((10 ^ 30 : Nat) : Int) := by decide +kernel
theorem nums_in (m : Nat) : ∀ fs : List Str, inV .non (fs.map fun f => optV (numO f m)) = !(fs.all fun f => (numO f m).isSome)
  | [] => rfl
  | f :: fs => by
    have ih := nums_in m fs
    show (eqV (optV (numO f m)) .non || inV .non (fs.map fun f => optV (numO f m))) = !((numO f m).isSome && fs.all fun f => (numO f m).isSome)
    rw [ih]
    cases numO f m <;> rfl
theorem optV_flat (o : Option Nat) : flatV (optV o) = true := by cases o <;> rfl
theorem at_map2 {α : Type} {l : List α} {f : α → V} {i : Nat} {x : α} (h : l[i]? = some x) : atI (l.map f) (i : Int) = some (f x) := atI_nat (j := i) (by rw [List.getElem?_map, h]; rfl)
theorem get_getD {ws : List Str} {i : Nat} (h : i < ws.length) : ws[i]? = some (ws.getD i Str.empty) := by
  rw [List.getD_eq_getElem?_getD, List.getElem?_eq_getElem h]
  rfl
def spLNums (K : PySem.W.Frag) : Sp := fun vs H Q _ => ∃ (p : Addr) (ws : List Str), vs = [.ref p] ∧ H p = some (.lst (ws.map V.str)) ∧ 2 < ws.length ∧ (∀ x ∈ ws, x.length ≤ 100000) ∧ ws.length ≤ 100001 ∧ ∀ v H', Same H H' → Dp K H' v (numsL ws) → Q v H'
section
variable {P : Program} {w : World} {K : PySem.W.Frag} {mg : Str → Option Value} {base : Heap}
theorem ol_nums {f fN fW : Addr} {fd dN dW : FuncData} (F : FnP K "_law_numbers" sLNums f fd) (T : Txt K mg) (N : Def P w K mg base CX0 1 "_law_number" fN dN ["_law_text", "_law_most"] spLNum) (Wd : Def P w K mg base CX0 1 "_law_is_word" fW dW ["_law_text"] spLWord) : FnOk P w K mg base CX0 2 f fd ["_law_words"] (spLNums K) := by
  refine F.ok scln2 (fun vs H Q E h => ?_) (fun cdv A outer s H vs Q E hr h => ?_)
  · obtain ⟨p, ws, rfl, _⟩ := h
    rfl
  · obtain ⟨p, ws, rfl, hp, h2, hw, hlw, q⟩ := h
    have hr1 : Room 1 _ := hr
    have sz : sizeLine = 16777216 := sizeLine_eq
    refine ⟨_, PSs.nox (C8.pss_cut (ps_setLc (i := 1) (own := [("_law_word", 2)]) (g := gName 2) (tt := tYes) rfl scln2.nd rfl rfl (sw_true rfl rfl rfl (by decide +kernel)) (pi_list (pe_slice sl_list (pv 0) (po_some pe_int) po_none)) (blkOk_by (N := NNu) (sc := defScope sLNums) (by decide +kernel)) (fun _ _ _ _ _ => pg_name (i := 2) scln2.nd rfl (Or.inl rfl)) (fun _ _ _ _ _ => pts_nil)
          (fun _ _ _ _ _ => pe_call N.ok hr1 (by rfl) N.g N.k N.b .nil pass0 (pa_cons (pv 2) (pa_cons (pe_op op_pow pe_int pe_int) pa_nil))))
      (pss_cons (ps_if (PW.pt (pw_or (pt_cmpR op_in_seq pe_non (pv 1) (by rfl)) (pw_or1 (pt_not (pt_val (pe_call Wd.ok hr1 (by rfl) Wd.g Wd.k Wd.b .nil pass0 (pa_cons (pe_ix ix_list (pv 0) pe_int (fun _ _ => rfl)) pa_nil))))))) (pss_one (ps_ret pe_non)) pss_nil)
      (C8.pss_cut (ps_if (PW.pt (pw_and (pt_cmpR op_eq (pe_ix ix_list (pv 0) pe_int (fun _ _ => rfl)) pe_str (nomark _)) (pw_and (pt_cmpR op_eq (pe_callB call_len_seq (by rfl) T.p.len boot_len (pa_cons (pv 0) pa_nil)) pe_int (nomark _)) (pw_and1 (pt_cmpR op_le (pe_ix ix_list (pv 1) pe_int (fun _ _ => rfl)) pe_int (nomark _))))))
          (pss_one (ps_ret (pe_tup (pa_cons pe_str (pa_cons (pe_tup (pa_cons pe_str (pa_cons (pe_ix ix_list (pv 0) pe_int (fun _ _ => rfl)) (pa_cons (pe_ix ix_list (pv 1) pe_int (fun _ _ => rfl)) pa_nil)))) pa_nil))))) pss_nil)
      (pss_one (ps_ret (pe_ifExp (PW.pt (pw_and (pt_cmpR op_eq (pe_ix ix_list (pv 0) pe_int (fun _ _ => rfl)) pe_str (nomark _)) (pw_and1 (pt_cmpR op_eq (pe_callB call_len_seq (by rfl) T.p.len boot_len (pa_cons (pv 0) pa_nil)) pe_int (nomark _)))))
          (pe_tup (pa_cons pe_str (pa_cons (pe_tup (pa_cons pe_str (pa_cons (pe_ix ix_list (pv 0) pe_int (fun _ _ => rfl)) (pa_cons (pe_ix ix_list (pv 1) pe_int (fun _ _ => rfl)) (pa_cons (pe_ix ix_list (pv 1) pe_int (fun _ _ => rfl)) pa_nil))))) pa_nil))) pe_non)))))), ?_⟩
    have e0 : start NNu [V.ref p] = [some (.ref p), none, none] := rfl
    rw [e0]
    have hS : SqL K H p (ws.map V.str) := SqL.of hp
    have hlm : ((ws.map V.str).length : Int) = ws.length := by rw [List.length_map]
    have ehd : ws.getD 0 Str.empty = ws.headD Str.empty := by cases ws <;> rfl
    have a0 : atI (ws.map V.str) 0 = some (.str (ws.headD Str.empty)) := by rw [← ehd]; exact at_map (i := 0) (by omega)
    have a1 : atI (ws.map V.str) 1 = some (.str (ws.getD 1 Str.empty)) := at_map (i := 1) (by omega)
    have lw1 : (ws.getD 1 Str.empty).length ≤ 100000 := hw _ (List.mem_of_getElem? (get_getD (i := 1) (by omega)))
    refine ⟨fun σ' H' => ∃ D, σ' = [some (.ref p), some (.ref D), none] ∧ Same H H' ∧ H' D = some (.lst ((ws.drop 2).map fun f => optV (numO f (10 ^ 30)))), ?_, ?_⟩
    · refine ⟨_, rfl, 2, rfl, p, _, rfl, hS, fun l2 nl2 => ?_⟩
      rw [cutV_from2]
      have s3 := same_upd (o := .lst ((ws.map V.str).drop 2)) nl2
      have hL2 := upd_same (H := H) (a := l2) (o := .lst ((ws.map V.str).drop 2))
      generalize upd H l2 (.lst ((ws.map V.str).drop 2)) = H3 at s3 hL2 ⊢
      refine ⟨l2, rfl, ⟨_, SqL.of hL2⟩, fun D hD => lc_list (K := K) (a := l2) (xs := (ws.map V.str).drop 2) (MapI H3 D ((ws.drop 2).map fun f => optV (numO f (10 ^ 30)))) (MapI.zero hD) (fun i H' _ p => SqL.of (p.1 _ _ hL2)) ?_ ?_⟩
      · rintro i v H5 hv p5
        obtain ⟨x, hx, rfl⟩ : ∃ x, (ws.drop 2)[i]? = some x ∧ v = .str x := by
          rw [← List.map_drop, List.getElem?_map] at hv
          cases hx : (ws.drop 2)[i]? with
          | none => rw [hx] at hv; cases hv
          | some x => rw [hx] at hv; exact ⟨x, rfl, (Option.some.inj hv).symm⟩
        have lx := hw x (List.mem_of_mem_drop (List.mem_of_getElem? hx))
        refine ⟨rfl, ⟨_, rfl, _, _, rfl, rfl, ⟨by decide, by decide, by decide⟩, x, 10 ^ 30, by show [V.str x, V.int (10 ^ Int.toNat 30)] = _; rw [p30], lx, fun H6 s6 => ?_⟩⟩
        exact MapI.step hD p5 (by rw [List.getElem?_map, hx]; rfl) (by rw [List.length_map, List.length_drop]; omega) s6
      · intro H5 pm
        obtain ⟨s5, hD5⟩ := pm.all (by rw [List.length_map, ← List.map_drop, List.length_map]; exact Nat.le_refl _)
        exact ⟨D, rfl, s3.trans s5, hD5⟩
    rintro σ' H1 ⟨D, rfl, s1, hD⟩
    have hSD : SqL K H1 D ((ws.drop 2).map fun f => optV (numO f (10 ^ 30))) := SqL.of hD
    have hS1 := Same.seq s1 hS
    unfold numsL at q
    refine ⟨_, rfl, D, _, rfl, .inl hSD, rfl, List.all_eq_true.mpr (fun x hx => by obtain ⟨y, _, rfl⟩ := List.mem_map.mp hx; exact optV_flat _), _, rfl, ?_⟩
    rw [nums_in]
    cases hall : (ws.drop 2).all fun f => (numO f (10 ^ 30)).isSome with
    | false =>
      rw [hall, Bool.false_and, if_neg (by decide)] at q
      exact iteT (iteT (q _ H1 s1 .non))
    | true =>
    refine iteF ⟨_, rfl, p, _, 1, _, rfl, rfl, hS1, a1, _, rfl, lw1, fun H2 s2 => ⟨_, rfl, ?_⟩⟩
    rw [hall, Bool.true_and] at q
    cases hw1 : wordB (ws.getD 1 Str.empty) with
    | false =>
      rw [hw1, if_neg (by decide)] at q
      exact iteT (q _ H2 (s1.trans s2) .non)
    | true =>
    rw [hw1, if_pos rfl] at q
    refine iteF ?_
    have hS2 := Same.seq s2 hS1
    have hSD2 := Same.seq s2 hSD
    have s12 := s1.trans s2
    -- the numbers
    have nth : ∀ i, i + 2 < ws.length → ∃ n, numO (ws.getD (i + 2) Str.empty) (10 ^ 30) = some n ∧ atI ((ws.drop 2).map fun f => optV (numO f (10 ^ 30))) (i : Int) = some (.int (n : Int)) := fun i hi => by
      have hg : (ws.drop 2)[i]? = some (ws.getD (i + 2) Str.empty) := by
        rw [List.getElem?_drop, Nat.add_comm 2 i]
        exact get_getD hi
      have z := List.all_eq_true.mp hall _ (List.mem_of_getElem? hg)
      cases e : numO (ws.getD (i + 2) Str.empty) (10 ^ 30) with
      | none => rw [e] at z; cases z
      | some n =>
        refine ⟨n, rfl, ?_⟩
        rw [at_map2 hg, e]
        rfl
    obtain ⟨n, en, an⟩ := nth 0 (by omega)
    have en : numO (ws.getD 2 Str.empty) (10 ^ 30) = some n := en
    rw [en, show (some n).getD 0 = n from rfl] at q
    have mk : ∀ (w : Str) (vs : List V) (ds : List PyData) (H5 : Hp), Same H H5 → DpAll K H5 vs ds → chg (.str w :: .str (ws.getD 1 Str.empty) :: ds) = numsL ws → True := fun _ _ _ _ _ _ _ => trivial
    refine ⟨fun σ' H' => σ' = [some (.ref p), some (.ref D), none] ∧ H' = H2 ∧ ¬ (ws.headD Str.empty = "first" ∧ ws.length = 3 ∧ n ≤ 99), ?_, ?_⟩
    · refine ⟨_, rfl, p, _, 0, _, rfl, rfl, hS2, a0, rfl, _, rfl, str_if (fun e => ?_) fun e => ⟨rfl, rfl, fun z => e z.1⟩⟩
      refine ⟨_, rfl, p, _, rfl, .inl hS2, rfl, _, rfl, len_if (fun g => ?_) fun g => ⟨rfl, rfl, fun z => g (by rw [hlm, z.2.1]; rfl)⟩⟩
      have g3 : ws.length = 3 := by rw [hlm] at g; omega
      refine ⟨_, rfl, D, _, 0, _, rfl, rfl, hSD2, an, _, _, rfl, rfl, _, rfl, ite_dec (fun k => ?_) fun k => ⟨rfl, rfl, fun z => k (by have := z.2.2; omega)⟩⟩
      rw [if_pos ⟨e, g3, by show n ≤ 99; omega⟩] at q
      refine ⟨_, rfl, p, _, 1, _, rfl, rfl, hS2, a1, _, rfl, D, _, 0, _, rfl, rfl, hSD2, an, by show 3 ≤ sizeLine; omega, fun t1 n1 => ⟨by show 2 ≤ sizeLine; omega, fun t2 n2 => ?_⟩⟩
      exact q _ _ (s12.trans ((same_upd n1).trans (same_upd n2))) (.tup (SqT.of upd_same) (.cons (.str _) (.cons (Dp.same (same_upd n2) (.tup (SqT.of upd_same) (.cons (.str _) (.cons (.str _) (.cons (.int _) .nil))))) .nil)))
    rintro σ' H3 ⟨rfl, rfl, hn⟩
    rw [if_neg hn] at q
    refine ⟨_, rfl, p, _, 0, _, rfl, rfl, hS2, a0, rfl, _, rfl, str_if (fun e => ?_) fun e => ?_⟩
    · refine ⟨_, rfl, p, _, rfl, .inl hS2, rfl, _, rfl, len_if (fun g => ?_) fun g => ?_⟩
      · have g4 : ws.length = 4 := by rw [hlm] at g; omega
        obtain ⟨m, em, am⟩ := nth 1 (by omega)
        have em : numO (ws.getD 3 Str.empty) (10 ^ 30) = some m := em
        rw [if_pos ⟨e, g4⟩, em] at q
        refine ⟨_, rfl, p, _, 1, _, rfl, rfl, hS2, a1, _, rfl, D, _, 0, _, rfl, rfl, hSD2, an, _, rfl, D, _, 1, _, rfl, rfl, hSD2, am, by show 4 ≤ sizeLine; omega, fun t1 n1 => ⟨by show 2 ≤ sizeLine; omega, fun t2 n2 => ?_⟩⟩
        exact q _ _ (s12.trans ((same_upd n1).trans (same_upd n2))) (.tup (SqT.of upd_same) (.cons (.str _) (.cons (Dp.same (same_upd n2) (.tup (SqT.of upd_same) (.cons (.str _) (.cons (.str _) (.cons (.int _) (.cons (.int _) .nil)))))) .nil)))
      · rw [if_neg (fun z => g (by rw [hlm, z.2]; rfl))] at q
        exact q _ _ s12 .non
    · rw [if_neg (fun z => e z.1)] at q
      exact q _ _ s12 .non
end
end L2.L87

set_option maxHeartbeats 1000000
namespace L2.L87
open PySem PySem.Spec PyProof.Rows NumText LR L2.Lr L2.Tx TL SkE
local macro_rules | `(tactic| walk_at "nx") => `(tactic| dsimp only [gName, tNext, tSeq, tAsg, List.set_cons_zero, List.set_cons_succ])
abbrev NNa : List Str := ["_law_words", "_law_word", "_law_group"]
theorem sclna : FnScope NNa ["_law_words"] (defScope sLNamed) := ⟨rfl, rfl, rfl, by decide +kernel, rfl, by decide +kernel, by decide +kernel⟩
def spLNamed (K : PySem.W.Frag) : Sp := fun vs H Q _ => ∃ (p : Addr) (ws : List Str), vs = [.ref p] ∧ H p = some (.lst (ws.map V.str)) ∧ ws ≠ [] ∧ (∀ x ∈ ws, Low x ∧ x.length ≤ 100000) ∧ ws.length ≤ 3901 ∧ ∀ v H', Same H H' → Dp K H' v (namedL ws) → Q v H'
theorem cutV_from1 (xs : List V) : cutV xs (some 1) none = xs.drop 1 := by
  show List.take (xs.length - min 1 xs.length) (List.drop (min 1 xs.length) xs) = _
  by_cases h : 1 ≤ xs.length
  · rw [Nat.min_eq_left h]; exact List.take_of_length_le (by rw [List.length_drop]; omega)
  · rw [Nat.min_eq_right (by omega), List.drop_of_length_le (Nat.le_refl _), List.drop_of_length_le (by omega)]; exact List.take_nil
/-- the words that are none, so far -/
def bad (ws : List Str) (i : Nat) : List Str := (ws.take i).filter fun w => !wordB w
theorem bad_step {ws : List Str} {i : Nat} {x : Str} (h : ws[i]? = some x) : bad ws (i + 1) = if wordB x = true then bad ws i else bad ws i ++ [x] := by
  unfold bad
  rw [List.take_add_one, h, List.filter_append]
  cases e : wordB x <;> simp [e]
theorem bad_len (ws : List Str) (i : Nat) : (bad ws i).length ≤ ws.length := Nat.le_trans (List.length_filter_le _ _) (List.length_take_le' _ _)
theorem bad_mem {ws : List Str} {i : Nat} {x : Str} (h : x ∈ bad ws i) : x ∈ ws := List.mem_of_mem_take (List.mem_filter.mp h).1
theorem bad_nil (ws : List Str) : ws.all wordB = decide (bad ws ws.length = []) := by
  unfold bad
  rw [List.take_length, Bool.eq_iff_iff, List.all_eq_true, decide_eq_true_iff, List.filter_eq_nil_iff]
  exact ⟨fun h x hx => by rw [h x hx]; decide, fun h x hx => by have := h x hx; simpa using this⟩
theorem eqv_nil (l : List Str) : PyData.eqv (.list (l.map .str)) (.list []) = decide (l = []) := by
  cases l with
  | nil => rfl
  | cons a b => rfl
section
variable {P : Program} {w : World} {K : PySem.W.Frag} {mg : Str → Option Value} {base : Heap}
theorem ol_named {f fW : Addr} {fd dW : FuncData} (F : FnP K "_law_named" sLNamed f fd) (T : Txt K mg) (Wd : Def P w K mg base CX0 1 "_law_is_word" fW dW ["_law_text"] spLWord) : FnOk P w K mg base CX0 2 f fd ["_law_words"] (spLNamed K) := by
  refine F.ok sclna (fun vs H Q E h => ?_) (fun cdv A outer s H vs Q E hr h => ?_)
  · obtain ⟨p, ws, rfl, _⟩ := h
    rfl
  · obtain ⟨p, ws, rfl, hp, hne, hw, hlw, q⟩ := h
    have hr1 : Room 1 _ := hr
    have hu := hr.units
    have sz : sizeLine = 16777216 := sizeLine_eq
    refine ⟨_, PSs.nox (C8.pss_cut (ps_if (pt_cmpR (op_neDK K rfl hu) (pe_lc (own := [("_law_word", 1)]) (g := gName 1) (by rfl) sclna.nd (pi_list (pe_slice sl_list (pv 0) (po_some pe_int) po_none)) (blkOk_by (N := NNa) (sc := defScope sLNamed) (by decide +kernel)) (fun _ _ _ _ _ => pg_name (i := 1) sclna.nd rfl (Or.inl rfl))
            (fun _ _ _ _ _ => pts_one (pt_not (pt_val (pe_call Wd.ok hr1 (by rfl) Wd.g Wd.k Wd.b .nil pass0 (pa_cons (pv 1) pa_nil))))) (fun _ _ _ _ _ => pv 1)) (pe_lst pa_nil) (nomark _)) (pss_one (ps_ret pe_non)) pss_nil)
      (C8.pss_cut (ps_if (PW.pt (pw_and (pt_cmpR op_eq (pe_ix ix_list (pv 0) pe_int (fun _ _ => rfl)) pe_str (nomark _)) (pw_and1 (pt_cmpR op_eq (pe_callB call_len_seq (by rfl) T.p.len boot_len (pa_cons (pv 0) pa_nil)) pe_int (nomark _)))))
          (pss_one (ps_ret (pe_tup (pa_cons pe_str (pa_cons (pe_tup (pa_cons pe_str (pa_cons (pe_ix ix_list (pv 0) pe_int (fun _ _ => rfl)) pa_nil))) pa_nil))))) pss_nil)
      (C8.pss_cut (ps_if (PW.pt (pw_and (pt_cmpR op_eq (pe_ix ix_list (pv 0) pe_int (fun _ _ => rfl)) pe_str (nomark _)) (pw_and1 (pt_cmpR op_eq (pe_callB call_len_seq (by rfl) T.p.len boot_len (pa_cons (pv 0) pa_nil)) pe_int (nomark _)))))
          (pss_one (ps_ret (pe_tup (pa_cons pe_str (pa_cons (pe_callTy call_tuple_of (by rfl) T.p.tuple bbT (pa_cons (pv 0) pa_nil)) pa_nil))))) pss_nil)
      (pss_cons (ps_set (i := 2) sclna.nd rfl (Or.inl rfl) (pe_callTy call_tuple_of (by rfl) T.p.tuple bbT (pa_cons (pe_slice sl_list (pv 0) (po_some pe_int) po_none) pa_nil)))
      (C8.pss_cut (ps_if (PW.pt (pw_and (pt_cmpR op_eq (pe_ix ix_list (pv 0) pe_int (fun _ _ => rfl)) pe_str (nomark _)) (pw_and (pt_cmpR op_gt (pe_callB call_len_seq (by rfl) T.p.len boot_len (pa_cons (pv 2) pa_nil)) pe_int (nomark _)) (pw_and1 (pt_cmpR op_eq (pe_lenSetT rfl (by rfl) T.p.len (by rfl) T.set (pv 2)) (pe_callB call_len_seq (by rfl) T.p.len boot_len (pa_cons (pv 2) pa_nil)) (nomark _))))))
          (pss_one (ps_ret (pe_tup (pa_cons pe_str (pa_cons (pe_tup (pa_cons pe_str (pa_cons (pe_ix ix_list (pv 0) pe_int (fun _ _ => rfl)) (pa_cons (pv 2) pa_nil)))) pa_nil))))) pss_nil)
      (pss_one (ps_ret pe_non))))))), ?_⟩
    have e0 : start NNa [V.ref p] = [some (.ref p), none, none] := rfl
    rw [e0]
    have hS : SqL K H p (ws.map V.str) := SqL.of hp
    have hlm : ((ws.map V.str).length : Int) = ws.length := by rw [List.length_map]
    have hl0 : 0 < ws.length := List.length_pos_iff.mpr hne
    have ehd : ws.getD 0 Str.empty = ws.headD Str.empty := by cases ws <;> rfl
    have a0 : atI (ws.map V.str) 0 = some (.str (ws.headD Str.empty)) := by rw [← ehd]; exact at_map (i := 0) (by omega)
    unfold namedL at q
    have cutV1 : cutV (ws.map V.str) (some 1) none = (ws.drop 1).map V.str := by rw [cutV_from1, List.map_drop]
    refine ⟨fun σ' H' => σ' = [some (.ref p), none, none] ∧ Same H H' ∧ (ws.drop 1).all wordB = true, ?_, ?_⟩
    · refine ⟨_, rfl, 1, rfl, p, _, rfl, hS, fun l2 nl2 => ?_⟩
      rw [cutV1]
      have s3 := same_upd (o := .lst ((ws.drop 1).map V.str)) nl2
      have hL2 := upd_same (H := H) (a := l2) (o := .lst ((ws.drop 1).map V.str))
      generalize upd H l2 (.lst ((ws.drop 1).map V.str)) = H3 at s3 hL2 ⊢
      refine ⟨l2, rfl, ⟨_, SqL.of hL2⟩, fun D hD => lc_list (K := K) (a := l2) (xs := (ws.drop 1).map V.str) (fun i H' => Same H3 H' ∧ H' D = some (.lst ((bad (ws.drop 1) i).map V.str))) ⟨same_upd hD, upd_same⟩ (fun i H' _ p => SqL.of (p.1 _ _ hL2)) ?_ ?_⟩
      · rintro i v H5 hv ⟨s5, hD5⟩
        obtain ⟨x, hx, rfl⟩ : ∃ x, (ws.drop 1)[i]? = some x ∧ v = .str x := by
          rw [List.getElem?_map] at hv
          cases hx : (ws.drop 1)[i]? with
          | none => rw [hx] at hv; cases hv
          | some x => rw [hx] at hv; exact ⟨x, rfl, (Option.some.inj hv).symm⟩
        have lx := (hw x (List.mem_of_mem_drop (List.mem_of_getElem? hx))).2
        refine ⟨rfl, ⟨_, rfl, x, rfl, lx, fun H6 s6 => ⟨_, rfl, ?_⟩⟩⟩
        have st := bad_step hx
        cases hb : wordB x with
        | true =>
          rw [hb, if_pos rfl] at st
          exact iteF ⟨s5.trans s6, by rw [st]; exact s6 _ _ hD5⟩
        | false =>
          rw [hb, if_neg (by decide)] at st
          refine iteT ⟨_, rfl, _, s6 _ _ hD5, ?_, ?_, ?_⟩
          · rw [List.length_map]
            have := bad_len (ws.drop 1) i
            rw [List.length_drop] at this
            omega
          · intro b o e
            exact (upd_ne (ne_of_none e hD)).trans (s6 _ _ (s5 b o e))
          · rw [upd_same, st, List.map_append]
            rfl
      · rintro H5 ⟨s5, hD5⟩
        rw [List.length_map] at hD5
        refine ⟨by show 0 ≤ sizeLine; omega, fun p2 np2 => ?_⟩
        have sp := same_upd (o := .lst []) np2
        have gd : ∀ d ∈ (bad (ws.drop 1) (ws.drop 1).length).map PyData.str, Gd 17 d := fun d hd => by
          obtain ⟨x, hx, rfl⟩ := List.mem_map.mp hd
          exact (Gd.str (hw x (List.mem_of_mem_drop (bad_mem hx))).1).mono (by omega)
        refine ⟨.list ((bad (ws.drop 1) (ws.drop 1).length).map .str), .list [], .lst (SqL.of (sp _ _ hD5)) (DpAll.strs _), .lst (SqL.of upd_same) .nil, Gd.shapedL (by omega) gd, rfl, _, rfl, ?_⟩
        rw [eqv_nil, ← bad_nil]
        cases ha : (ws.drop 1).all wordB with
        | true => exact iteF ⟨rfl, s3.trans (s5.trans sp), rfl⟩
        | false =>
          rw [ha, if_neg (by decide)] at q
          exact iteT (q _ _ (s3.trans (s5.trans sp)) .non)
    rintro σ' H1 ⟨rfl, s1, hall⟩
    rw [hall, if_pos rfl] at q
    have hS1 := Same.seq s1 hS
    have wd : ∀ i, 1 ≤ i → i < ws.length → atI (ws.map V.str) (i : Int) = some (.str (ws.getD i Str.empty)) := fun i _ hi => at_map (i := i) hi
    refine ⟨fun σ' H' => σ' = [some (.ref p), none, none] ∧ H' = H1 ∧ ¬ (ws.headD Str.empty = "part" ∧ ws.length = 2), ?_, ?_⟩
    · refine ⟨_, rfl, p, _, 0, _, rfl, rfl, hS1, a0, rfl, _, rfl, str_if (fun e => ?_) fun e => ⟨rfl, rfl, fun z => e z.1⟩⟩
      refine ⟨_, rfl, p, _, rfl, .inl hS1, rfl, _, rfl, len_if (fun g => ?_) fun g => ⟨rfl, rfl, fun z => g (by rw [hlm, z.2]; rfl)⟩⟩
      have g2 : ws.length = 2 := by rw [hlm] at g; omega
      rw [if_pos ⟨e, g2⟩] at q
      refine ⟨_, rfl, p, _, 1, _, rfl, rfl, hS1, wd 1 (by omega) (by omega), by show 2 ≤ sizeLine; omega, fun t1 n1 => ⟨by show 2 ≤ sizeLine; omega, fun t2 n2 => ?_⟩⟩
      exact q _ _ (s1.trans ((same_upd n1).trans (same_upd n2))) (.tup (SqT.of upd_same) (.cons (.str _) (.cons (Dp.same (same_upd n2) (.tup (SqT.of upd_same) (.cons (.str _) (.cons (.str _) .nil)))) .nil)))
    rintro σ' H2 ⟨rfl, rfl, hn⟩
    rw [if_neg hn] at q
    refine ⟨fun σ' H' => σ' = [some (.ref p), none, none] ∧ H' = H2 ∧ ¬ (ws.headD Str.empty = "relay" ∧ ws.length = 4), ?_, ?_⟩
    · refine ⟨_, rfl, p, _, 0, _, rfl, rfl, hS1, a0, rfl, _, rfl, str_if (fun e => ?_) fun e => ⟨rfl, rfl, fun z => e z.1⟩⟩
      refine ⟨_, rfl, p, _, rfl, .inl hS1, rfl, _, rfl, len_if (fun g => ?_) fun g => ⟨rfl, rfl, fun z => g (by rw [hlm, z.2]; rfl)⟩⟩
      have g4 : ws.length = 4 := by rw [hlm] at g; omega
      rw [if_pos ⟨e, g4⟩] at q
      refine ⟨_, rfl, p, _, rfl, .inl ⟨hS1, fun t1 n1 => ⟨by show 2 ≤ sizeLine; omega, fun t2 n2 => ?_⟩⟩⟩
      exact q _ _ (s1.trans ((same_upd n1).trans (same_upd n2))) (.tup (SqT.of upd_same) (.cons (.str _) (.cons (Dp.same (same_upd n2) (.tup (SqT.of upd_same) (DpAll.strs ws))) .nil)))
    rintro σ' H3 ⟨rfl, rfl, hn2⟩
    rw [if_neg hn2] at q
    refine ⟨_, rfl, 2, rfl, p, _, rfl, hS1, fun l nl => ?_⟩
    rw [cutV_from2, ← List.map_drop]
    refine ⟨l, _, rfl, .inl ⟨SqL.of upd_same, fun t0 n0 => ?_⟩⟩
    have sl := same_upd (o := .lst ((ws.drop 2).map V.str)) nl
    have s0 := same_upd (o := .tup ((ws.drop 2).map V.str)) n0
    have hT := upd_same (H := upd H3 l (.lst ((ws.drop 2).map V.str))) (a := t0) (o := .tup ((ws.drop 2).map V.str))
    generalize upd (upd H3 l (.lst ((ws.drop 2).map V.str))) t0 (.tup ((ws.drop 2).map V.str)) = H5 at s0 hT ⊢
    have s5 := s1.trans (sl.trans s0)
    have hS5 := Same.seq (sl.trans s0) hS1
    have hST : SqT K H5 t0 ((ws.drop 2).map V.str) := SqT.of hT
    have hl2 : (((ws.drop 2).map V.str).length : Int) = (ws.drop 2).length := by rw [List.length_map]
    walk_at "nx"
    refine ⟨fun σ' H' => Same H H' ∧ ¬ (ws.headD Str.empty = "join" ∧ 1 < (ws.drop 2).length ∧ (ws.drop 2).Nodup), ?_, ?_⟩
    · refine ⟨_, rfl, p, _, 0, _, rfl, rfl, hS5, a0, rfl, _, rfl, str_if (fun e => ?_) fun e => ⟨s5, fun z => e z.1⟩⟩
      refine ⟨_, rfl, t0, _, rfl, .inr hST, _, _, rfl, rfl, _, rfl, ite_dec (fun g => ?_) fun g => ⟨s5, fun z => g (by rw [hl2]; have := z.2.1; omega)⟩⟩
      have g1 : 1 < (ws.drop 2).length := by rw [hl2] at g; omega
      have hl3 : 3 ≤ ws.length := by rw [List.length_drop] at g1; omega
      refine ⟨_, rfl, t0, ws.drop 2, rfl, hST, by rw [List.length_drop]; omega, _, rfl, t0, _, rfl, .inr hST, rfl, _, rfl, ?_⟩
      have c := cnT_nodup (xs := ws.drop 2) (ws.drop 2).length (Nat.le_refl _)
      rw [List.take_length] at c
      refine ite_dec (fun k => ?_) fun k => ⟨s5, fun z => k (by rw [hl2]; exact congrArg V.int (congrArg Nat.cast (c.mpr z.2.2)))⟩
      have nd : (ws.drop 2).Nodup := c.mp (by have z := V.int.inj k; rw [hl2] at z; omega)
      rw [if_pos ⟨e, g1, nd⟩] at q
      refine ⟨_, rfl, p, _, 1, _, rfl, rfl, hS5, wd 1 (by omega) (by omega), _, rfl, by show 3 ≤ sizeLine; omega, fun t1 n1 => ⟨by show 2 ≤ sizeLine; omega, fun t2 n2 => ?_⟩⟩
      refine q _ _ (s5.trans ((same_upd n1).trans (same_upd n2))) (.tup (SqT.of upd_same) (.cons (.str _) (.cons (Dp.same (same_upd n2) (.tup (SqT.of upd_same) (.cons (.str _) (.cons (.str _) (.cons (Dp.same (same_upd n1) (.tup hST (DpAll.strs _))) .nil))))) .nil)))
    rintro σ' H6 ⟨s6, hn3⟩
    rw [if_neg hn3] at q
    exact q _ _ s6 .non
end
end L2.L87

set_option maxHeartbeats 1000000
namespace L2.L87
open PySem PySem.Spec PyProof.Rows NumText LR L2.Lr L2.Tx TL SkE
local macro_rules | `(tactic| walk_at "nx") => `(tactic| dsimp only [gName, tNext, tSeq, tAsg, List.set_cons_zero, List.set_cons_succ])
abbrev NLe : List Str := ["_law_line", "_law_words", "_law_number_here", "_law_room", "_law_rest", "_law_parts"]
theorem sclev : FnScope NLe ["_law_line"] (defScope sLEvent) := ⟨rfl, rfl, rfl, by decide +kernel, rfl, by decide +kernel, by decide +kernel⟩
theorem p200 : (((10 : Int) ^ (Int.toNat 50)) * (10 ^ (Int.toNat 50)) * (10 ^ (Int.toNat 50)) * (10 ^ (Int.toNat 50))) = ((10 ^ 200 : Nat) : Int) := by decide +kernel
theorem splitMax_len (t : Str) : (PySem.Txt.splitMax t spS 2).length ≤ 3 := by
  rw [splitMax2]
  generalize PySem.Txt.split t spS = l
  match l with
  | [] => simp
  | [a] => simp
  | [a, b] => simp
  | a :: b :: c :: r => simp
theorem splitMax_ne (t : Str) : PySem.Txt.splitMax t spS 2 ≠ [] := by
  have wn := split_ne (x := t) (y := spS) (by decide) (by decide +kernel)
  rw [splitMax2]
  split
  · simp
  · exact wn
def spLEvent (K : PySem.W.Frag) : Sp := fun vs H Q _ => ∃ t : Str, vs = [.str t] ∧ Low t ∧ t.length ≤ 3900 ∧ ∀ v H', Same H H' → Dp K H' v (evL t) → Q v H'
section
variable {P : Program} {w : World} {K : PySem.W.Frag} {mg : Str → Option Value} {base : Heap}
theorem ol_event {f fN fW fR fS fA : Addr} {fd dN dW dR dS dA : FuncData} (F : FnP K "_law_event" sLEvent f fd) (T : Txt K mg) (N : Def P w K mg base CX0 1 "_law_number" fN dN ["_law_text", "_law_most"] spLNum) (Wd : Def P w K mg base CX0 1 "_law_is_word" fW dW ["_law_text"] spLWord)
    (R : Def P w K mg base CX0 1 "_law_row" fR dR ["_law_text"] (spLRow K)) (Ns : Def P w K mg base CX0 2 "_law_numbers" fS dS ["_law_words"] (spLNums K)) (Na : Def P w K mg base CX0 2 "_law_named" fA dA ["_law_words"] (spLNamed K)) : FnOk P w K mg base CX0 3 f fd ["_law_line"] (spLEvent K) := by
  refine F.ok sclev (fun vs H Q E h => ?_) (fun cdv A outer s H vs Q E hr h => ?_)
  · obtain ⟨t, rfl, _⟩ := h
    rfl
  · obtain ⟨t, rfl, low, hl, q⟩ := h
    have hr1 : Room 1 _ := hr.mono (by decide)
    have hu := hr.units
    have sz : sizeLine = 16777216 := sizeLine_eq
    refine ⟨_, PSs.nox (pss_cons (ps_set (i := 1) sclev.nd rfl (Or.inl rfl) (pe_split (pv 0) pe_str))
      (pss_cons (ps_if (pt_cmpR op_eq (pv 0) pe_str (nomark _)) (pss_one (ps_ret (pe_tup (pa_cons pe_str pa_nil)))) pss_nil)
      (pss_cons (ps_if (pt_cmpR op_eq (pe_ix ix_list (pv 1) pe_int (fun _ _ => rfl)) pe_str (nomark _))
          (pss_cons (ps_set (i := 2) sclev.nd rfl (Or.inl rfl) (pe_ifExp (pt_cmpR op_eq (pe_callB call_len_seq (by rfl) T.p.len boot_len (pa_cons (pv 1) pa_nil)) pe_int (nomark _)) (pe_call N.ok hr1 (by rfl) N.g N.k N.b .nil pass0 (pa_cons (pe_ix ix_list (pv 1) pe_int (fun _ _ => rfl)) (pa_cons (pe_op op_pow pe_int pe_int) pa_nil))) pe_non))
            (pss_one (ps_ret (pe_ifExp (pt_cmpR op_isN (pv 2) pe_non (nomark _)) pe_non (pe_tup (pa_cons pe_str (pa_cons (pv 2) pa_nil))))))) pss_nil)
      (C8.pss_cut (ps_if (PW.pt (pw_and (pt_cmpR op_eq (pe_ix ix_list (pv 1) pe_int (fun _ _ => rfl)) pe_str (nomark _)) (pw_and (pt_cmpR op_eq (pe_callB call_len_seq (by rfl) T.p.len boot_len (pa_cons (pv 1) pa_nil)) pe_int (nomark _)) (pw_and1 (pt_val (pe_call Wd.ok hr1 (by rfl) Wd.g Wd.k Wd.b .nil pass0 (pa_cons (pe_ix ix_list (pv 1) pe_int (fun _ _ => rfl)) pa_nil)))))))
          (pss_cons (ps_set (i := 3) sclev.nd rfl (Or.inl rfl) (pe_call N.ok hr1 (by rfl) N.g N.k N.b .nil pass0 (pa_cons (pe_ix ix_list (pv 1) pe_int (fun _ _ => rfl)) (pa_cons (pe_op op_mulW (pe_op op_mulW (pe_op op_mulW (pe_op op_pow pe_int pe_int) (pe_op op_pow pe_int pe_int)) (pe_op op_pow pe_int pe_int)) (pe_op op_pow pe_int pe_int)) pa_nil))))
            (pss_one (ps_ret (pe_ifExp (PW.pt (pw_or (pt_cmpR op_notN (pv 3) pe_non (nomark _)) (pw_or1 (pt_cmpR op_eq (pe_ix ix_list (pv 1) pe_int (fun _ _ => rfl)) pe_str (nomark _))))) (pe_tup (pa_cons pe_str (pa_cons (pe_ix ix_list (pv 1) pe_int (fun _ _ => rfl)) (pa_cons (pv 3) pa_nil)))) pe_non)))) pss_nil)
      (pss_cons (ps_if (pt_cmpR op_eq (pe_ix ix_list (pv 1) pe_int (fun _ _ => rfl)) pe_str (nomark _))
          (pss_cons (ps_set (i := 4) sclev.nd rfl (Or.inl rfl) (pe_bm PySem.F.plainAttrs_str PySem.F.slot_str_split PySem.F.type_str_split mt_splitMax (pv 0) (pa_cons pe_str (pa_cons pe_int pa_nil))))
          (C8.pss_cut (ps_set (i := 5) sclev.nd rfl (Or.inl rfl) (pe_ifExp (PW.pt (pw_and (pt_cmpR op_eq (pe_callB call_len_seq (by rfl) T.p.len boot_len (pa_cons (pv 4) pa_nil)) pe_int (nomark _)) (pw_and1 (pt_val (pe_call Wd.ok hr1 (by rfl) Wd.g Wd.k Wd.b .nil pass0 (pa_cons (pe_ix ix_list (pv 4) pe_int (fun _ _ => rfl)) pa_nil)))))) (pe_call R.ok hr1 (by rfl) R.g R.k R.b .nil pass0 (pa_cons (pe_ix ix_list (pv 4) pe_int (fun _ _ => rfl)) pa_nil)) pe_non))
            (pss_one (ps_ret (pe_ifExp (pt_cmpR op_isN (pv 5) pe_non (nomark _)) pe_non (pe_tup (pa_cons pe_str (pa_cons (pe_tup (pa_cons pe_str (pa_cons (pe_ix ix_list (pv 4) pe_int (fun _ _ => rfl)) (pa_cons (pv 5) pa_nil)))) pa_nil)))))))) pss_nil)
      (C8.pss_cut (ps_if (PW.pt (pw_and (pt_cmpR op_in_seq (pe_ix ix_list (pv 1) pe_int (fun _ _ => rfl)) (pe_lst (pa_cons pe_str (pa_cons pe_str pa_nil))) (by rfl)) (pw_and1 (pt_cmpR op_gt (pe_callB call_len_seq (by rfl) T.p.len boot_len (pa_cons (pv 1) pa_nil)) pe_int (nomark _)))))
          (pss_one (ps_ret (pe_call Ns.ok hr (by rfl) Ns.g Ns.k Ns.b .nil pass0 (pa_cons (pv 1) pa_nil)))) pss_nil)
      (pss_one (ps_ret (pe_call Na.ok hr (by rfl) Na.g Na.k Na.b .nil pass0 (pa_cons (pv 1) pa_nil)))))))))), ?_⟩
    have e0 : start NLe [V.str t] = [some (.str t), none, none, none, none, none] := rfl
    rw [e0]
    obtain ⟨w1, w2⟩ := split_parts (x := t) (y := spS) (s := 32) (S := []) rfl (by decide +kernel)
    have wn := split_ne (x := t) (y := spS) (by decide) (by decide +kernel)
    have wl : ∀ x ∈ PySem.Txt.split t spS, Low x := low.split (y := spS) (c := 32) rfl (by decide)
    have rl := splitMax_len t
    have rn := splitMax_ne t
    have rsh : ∀ x ∈ PySem.Txt.splitMax t spS 2, x.length ≤ 100000 := fun x hx => Nat.le_trans (PyProof.Rows.partMax_short hx) (by omega)
    unfold evL evW at q
    refine go_seq (go_asg ?_)
    refine ⟨_, rfl, ⟨_, rfl⟩, t, spS, rfl, rfl, rfl, by omega, fun p np => ?_⟩
    generalize PySem.Txt.split t spS = ws at *
    have s1 := same_upd (o := .lst (ws.map V.str)) np
    have hp := upd_same (H := H) (a := p) (o := .lst (ws.map V.str))
    generalize upd H p (.lst (ws.map V.str)) = H1 at s1 hp ⊢
    have hS : SqL K H1 p (ws.map V.str) := SqL.of hp
    have hl0 : 0 < ws.length := List.length_pos_iff.mpr wn
    have hlm : ((ws.map V.str).length : Int) = ws.length := by rw [List.length_map]
    have ehd : ws.getD 0 Str.empty = ws.headD Str.empty := by cases ws <;> rfl
    have a0 : atI (ws.map V.str) 0 = some (.str (ws.headD Str.empty)) := by rw [← ehd]; exact at_map (i := 0) hl0
    have lw : ∀ i, i < ws.length → (ws.getD i Str.empty).length ≤ 100000 := fun i hi => Nat.le_trans (w1 _ (List.mem_of_getElem? (get_getD hi))) (by omega)
    walk_at "nx"
    refine ⟨_, rfl, rfl, _, rfl, str_if (fun h => ?_) fun h => ?_⟩
    · rw [if_pos h] at q
      exact ⟨by show 1 ≤ sizeLine; omega, fun t1 n1 => q _ _ (s1.trans (same_upd n1)) (.tup (SqT.of upd_same) (.cons (.str _) .nil))⟩
    rw [if_neg h] at q
    refine ⟨_, rfl, p, _, 0, _, rfl, rfl, hS, a0, rfl, _, rfl, str_if (fun h => ?_) fun h => ?_⟩
    · rw [if_pos h] at q
      refine ⟨_, rfl, p, _, rfl, .inl hS, rfl, _, rfl, len_if (fun g => ?_) fun g => ?_⟩
      · have g2 : ws.length = 2 := by rw [hlm] at g; omega
        rw [if_pos g2] at q
        refine ⟨_, rfl, p, _, 1, _, rfl, rfl, hS, at_map (i := 1) (by omega), _, _, rfl, rfl, ⟨by decide, by decide, by decide⟩, ws.getD 1 Str.empty, 10 ^ 30, by show [_, V.int (10 ^ Int.toNat 30)] = _; rw [p30], lw 1 (by omega), fun H2 s2 => ?_⟩
        walk_at "nx"
        cases hn : numO (ws.getD 1 Str.empty) (10 ^ 30) with
        | none =>
          rw [hn] at q
          exact ⟨_, rfl, rfl, _, rfl, iteT (q _ _ (s1.trans s2) .non)⟩
        | some n =>
          rw [hn] at q
          refine ⟨_, rfl, rfl, _, rfl, iteF ⟨_, rfl, by show 2 ≤ sizeLine; omega, fun t1 n1 => ?_⟩⟩
          exact q _ _ (s1.trans (s2.trans (same_upd n1))) (.tup (SqT.of upd_same) (.cons (.str _) (.cons (.int _) .nil)))
      · rw [if_neg (fun z => g (by rw [hlm, z]; rfl))] at q
        walk_at "nx"
        exact ⟨_, rfl, rfl, _, rfl, iteT (q _ _ s1 .non)⟩
    rw [if_neg h] at q
    refine ⟨fun σ' H' => σ' = [some (.str t), some (.ref p), none, none, none, none] ∧ Same H1 H' ∧ ¬ ((ws.headD Str.empty = "room" ∧ ws.length = 3) ∧ wordB (ws.getD 1 Str.empty) = true), ?_, ?_⟩
    · refine ⟨_, rfl, p, _, 0, _, rfl, rfl, hS, a0, rfl, _, rfl, str_if (fun h => ?_) fun h => ⟨rfl, Same.refl _, fun z => h z.1.1⟩⟩
      refine ⟨_, rfl, p, _, rfl, .inl hS, rfl, _, rfl, len_if (fun g => ?_) fun g => ⟨rfl, Same.refl _, fun z => g (by rw [hlm, z.1.2]; rfl)⟩⟩
      have g3 : ws.length = 3 := by rw [hlm] at g; omega
      refine ⟨_, rfl, p, _, 1, _, rfl, rfl, hS, at_map (i := 1) (by omega), ws.getD 1 Str.empty, rfl, lw 1 (by omega), fun H2 s2 => ⟨_, rfl, ?_⟩⟩
      cases hw : wordB (ws.getD 1 Str.empty) with
      | false => exact iteF ⟨rfl, s2, fun z => by cases z.2⟩
      | true =>
      rw [if_pos ⟨⟨h, g3⟩, hw⟩] at q
      have hS2 := Same.seq s2 hS
      refine iteT ⟨_, rfl, p, _, 2, _, rfl, rfl, hS2, at_map (i := 2) (by omega), _, _, rfl, rfl, ⟨by decide, by decide, by decide⟩, _, _, rfl, rfl, ⟨by decide, by decide, by decide⟩, _, _, rfl, rfl, (show CMulW _ _ by unfold CMulW; decide +kernel), _, _, rfl, rfl, ⟨by decide, by decide, by decide⟩, _, _, rfl, rfl, (show CMulW _ _ by unfold CMulW; decide +kernel), _, _, rfl, rfl, ⟨by decide, by decide, by decide⟩, _, _, rfl, rfl, (show CMulW _ _ by unfold CMulW; decide +kernel), ?_⟩
      refine ⟨ws.getD 2 Str.empty, 10 ^ 200, by show [_, V.int (((10 : Int) ^ (Int.toNat 50)) * (10 ^ (Int.toNat 50)) * (10 ^ (Int.toNat 50)) * (10 ^ (Int.toNat 50)))] = _; rw [p200], lw 2 (by omega), fun H3 s3 => ?_⟩
      walk_at "nx"
      have hS3 := Same.seq s3 hS2
      unfold roomL at q
      cases hn : numO (ws.getD 2 Str.empty) (10 ^ 200) with
      | some n =>
        rw [hn] at q
        refine ⟨_, rfl, rfl, _, rfl, iteT (iteT ⟨_, rfl, p, _, 1, _, rfl, rfl, hS3, at_map (i := 1) (by omega), _, rfl, by show 3 ≤ sizeLine; omega, fun t1 n1 => ?_⟩)⟩
        exact q _ _ (s1.trans (s2.trans (s3.trans (same_upd n1)))) (.tup (SqT.of upd_same) (.cons (.str _) (.cons (.str _) (.cons (.int _) .nil))))
      | none =>
        rw [hn] at q
        have q : ∀ v H', Same H H' → Dp K H' v (if ws.getD 2 Str.empty = "none" then .tuple [.str "room", .str (ws.getD 1 Str.empty), .none] else .none) → Q v H' := q
        refine ⟨_, rfl, rfl, _, rfl, iteF ⟨_, rfl, p, _, 2, _, rfl, rfl, hS3, at_map (i := 2) (by omega), rfl, _, rfl, str_if (fun e => ?_) fun e => ?_⟩⟩
        · rw [if_pos e] at q
          refine ⟨_, rfl, p, _, 1, _, rfl, rfl, hS3, at_map (i := 1) (by omega), _, rfl, by show 3 ≤ sizeLine; omega, fun t1 n1 => ?_⟩
          exact q _ _ (s1.trans (s2.trans (s3.trans (same_upd n1)))) (.tup (SqT.of upd_same) (.cons (.str _) (.cons (.str _) (.cons .non .nil))))
        · rw [if_neg e] at q
          exact q _ _ (s1.trans (s2.trans s3)) .non
    rintro σ' H2 ⟨rfl, s2, hn⟩
    rw [if_neg hn] at q
    have hS2 := Same.seq s2 hS
    have s12 := s1.trans s2
    refine ⟨_, rfl, p, _, 0, _, rfl, rfl, hS2, a0, rfl, _, rfl, str_if (fun h => ?_) fun h => ?_⟩
    · rw [if_pos h] at q
      unfold rowL at q
      refine ⟨_, rfl, rfl, t, spS, 2, rfl, rfl, rfl, by decide, by decide, by omega, fun p3 np3 => ?_⟩
      generalize PySem.Txt.splitMax t spS 2 = rs at *
      have s3 := same_upd (o := .lst (rs.map V.str)) np3
      have hp3 := upd_same (H := H2) (a := p3) (o := .lst (rs.map V.str))
      generalize upd H2 p3 (.lst (rs.map V.str)) = H3 at s3 hp3 ⊢
      have hS3 : SqL K H3 p3 (rs.map V.str) := SqL.of hp3
      have hlr : ((rs.map V.str).length : Int) = rs.length := by rw [List.length_map]
      have s13 := s12.trans s3
      walk_at "nx"
      refine ⟨fun σ' H' => ∃ v, σ' = [some (.str t), some (.ref p), none, none, some (.ref p3), some v] ∧ Same H3 H' ∧ Dp K H' v (if rs.length = 3 ∧ wordB (rs.getD 1 Str.empty) = true then rowDt (lrow (rs.getD 2 Str.empty)) else .none), ?_, ?_⟩
      · refine ⟨_, rfl, p3, _, rfl, .inl hS3, rfl, _, rfl, len_if (fun g => ?_) fun g => ?_⟩
        · have g3 : rs.length = 3 := by rw [hlr] at g; omega
          have l1 := rsh _ (List.mem_of_getElem? (get_getD (ws := rs) (i := 1) (by omega)))
          refine ⟨_, rfl, p3, _, 1, _, rfl, rfl, hS3, at_map (i := 1) (by omega), rs.getD 1 Str.empty, rfl, l1, fun H4 s4 => ⟨_, rfl, ?_⟩⟩
          cases hw : wordB (rs.getD 1 Str.empty) with
          | false =>
            refine iteF ⟨_, rfl, s4, ?_⟩
            rw [if_neg (fun z => by cases z.2)]
            exact .non
          | true =>
            have hS4 := Same.seq s4 hS3
            refine iteT ⟨_, rfl, p3, _, 2, _, rfl, rfl, hS4, at_map (i := 2) (by omega), rs.getD 2 Str.empty, rfl, fun v H5 s5 hv => ⟨v, rfl, s4.trans s5, ?_⟩⟩
            rw [if_pos ⟨g3, rfl⟩]
            exact hv
        · refine ⟨_, rfl, Same.refl _, ?_⟩
          rw [if_neg (fun z => g (by rw [hlr, z.1]; rfl))]
          exact .non
      rintro σ' H4 ⟨v, rfl, s4, hv⟩
      have s14 := s13.trans s4
      have hS4 := Same.seq s4 hS3
      by_cases g : rs.length = 3 ∧ wordB (rs.getD 1 Str.empty) = true
      · rw [if_pos g] at hv q
        cases hd : lrow (rs.getD 2 Str.empty) with
        | none =>
          rw [hd] at hv q
          cases hv
          exact ⟨_, rfl, rfl, _, rfl, iteT (q _ _ s14 .non)⟩
        | some ds =>
          rw [hd] at hv q
          obtain ⟨tt, xs, rfl, hT, hTa⟩ := tupDv hv
          refine ⟨_, rfl, rfl, _, rfl, iteF ⟨_, rfl, p3, _, 1, _, rfl, rfl, hS4, at_map (i := 1) (by omega), _, rfl, by show 3 ≤ sizeLine; omega, fun t1 n1 => ⟨by show 2 ≤ sizeLine; omega, fun t2 n2 => ?_⟩⟩⟩
          exact q _ _ (s14.trans ((same_upd n1).trans (same_upd n2))) (.tup (SqT.of upd_same) (.cons (.str _) (.cons (Dp.same (same_upd n2) (.tup (SqT.of upd_same) (.cons (.str _) (.cons (.str _) (.cons (Dp.same (same_upd n1) hv) .nil))))) .nil)))
      · rw [if_neg g] at hv q
        cases hv
        exact ⟨_, rfl, rfl, _, rfl, iteT (q _ _ s14 .non)⟩
    rw [if_neg h] at q
    refine ⟨fun σ' H' => σ' = [some (.str t), some (.ref p), none, none, none, none] ∧ Same H2 H' ∧ ¬ (ws.headD Str.empty ∈ [("first" : Str), "kill"] ∧ 2 < ws.length), ?_, ?_⟩
    · refine ⟨_, rfl, p, _, 0, _, rfl, rfl, hS2, a0, by show 2 ≤ sizeLine; omega, fun l nl => ⟨l, _, rfl, .inl (SqL.of upd_same), rfl, rfl, _, rfl, ?_⟩⟩
      have sl := same_upd (o := .lst [V.str "first", .str "kill"]) nl
      have ei : inV (V.str (ws.headD Str.empty)) [V.str "first", V.str "kill"] = decide (ws.headD Str.empty ∈ [("first" : Str), "kill"]) := inV_strs _ [("first" : Str), "kill"]
      show (if (inV (V.str (ws.headD Str.empty)) [V.str "first", V.str "kill"]) = true then _ else _)
      rw [ei]
      by_cases hm : ws.headD Str.empty ∈ [("first" : Str), "kill"]
      case neg =>
        rw [decide_eq_false hm]
        exact iteF ⟨rfl, sl, fun z => hm z.1⟩
      rw [decide_eq_true hm]
      have hSl := Same.seq sl hS2
      refine iteT ⟨_, rfl, p, _, rfl, .inl hSl, _, _, rfl, rfl, _, rfl, ite_dec (fun g => ?_) fun g => ⟨rfl, sl, fun z => g (by rw [hlm]; have := z.2; omega)⟩⟩
      have g2 : 2 < ws.length := by rw [hlm] at g; omega
      rw [if_pos ⟨hm, g2⟩] at q
      refine ⟨_, rfl, p, ws, rfl, sl _ _ (s2 _ _ hp), g2, fun x hx => Nat.le_trans (w1 x hx) (by omega), by omega, fun v H3 s3 hv => q v H3 (s12.trans (sl.trans s3)) hv⟩
    rintro σ' H3 ⟨rfl, s3, hn3⟩
    rw [if_neg hn3] at q
    exact ⟨_, rfl, p, ws, rfl, s3 _ _ (s2 _ _ hp), wn, fun x hx => ⟨wl x hx, Nat.le_trans (w1 x hx) (by omega)⟩, by omega, fun v H4 s4 hv => q v H4 (s12.trans (s3.trans s4)) hv⟩
end
end L2.L87

set_option maxHeartbeats 1000000
namespace L2.L87
open PySem PySem.Spec PyProof.Rows NumText LR L2.Lr L2.Tx TL SkE
local macro_rules | `(tactic| walk_at "nx") => `(tactic| dsimp only [gName, tNext, tSeq, tAsg, List.set_cons_zero, List.set_cons_succ])
abbrev NDu : List Str := ["_law_text", "_law_lines_here", "_law_found", "_law_at", "_law_line", "_law_event_here"]
theorem scldu : FnScope NDu ["_law_text"] (defScope sLDue) := ⟨rfl, rfl, rfl, by decide +kernel, rfl, by decide +kernel, by decide +kernel⟩
theorem Gd.evL {t : Str} (low : Low t) : Gd 17 (evL t) := by
  by_cases h : L87.evL t = .none
  · rw [h]; exact Gd.non.mono (by omega)
  · rw [← ev_takes h]; exact Gd.evO low
theorem fN_mk : ∀ {ds : List PyData}, (∀ d ∈ ds, isNone d = false) → fN ds = none
  | [], _ => rfl
  | d :: ds, h => by
    unfold fN
    rw [if_neg (by rw [h d (List.mem_cons_self ..)]; decide), fN_mk fun x hx => h x (List.mem_cons_of_mem _ hx)]
    rfl
theorem fN_at : ∀ {ds : List PyData} {i : Nat} {z : PyData}, ds[i]? = some z → isNone z = true → (∀ x ∈ ds.take i, isNone x = false) → fN ds = some i
  | [], _, _, h, _, _ => by simp at h
  | d :: ds, 0, z, h, hz, _ => by
    simp at h
    subst h
    unfold fN
    rw [if_pos hz]
  | d :: ds, i + 1, z, h, hz, hn => by
    unfold fN
    rw [if_neg (by rw [hn d (by simp)]; decide), fN_at (ds := ds) (i := i) (by simpa using h) hz fun x hx => hn x (by simp [hx])]
    rfl
theorem non_dec {K : PySem.W.Frag} {H : Hp} {v : V} {d : PyData} (h : Dp K H v d) : decide (v = V.non) = isNone d := by
  cases h <;> first | exact decide_eq_true rfl | exact decide_eq_false fun z => by cases z
def spLDue (K : PySem.W.Frag) : Sp := fun vs H Q _ => ∃ t : Str, vs = [.str t] ∧ Low t ∧ t.length ≤ 3900 ∧
  (∀ es, jdg evL t = .inl es → ∀ r xs H', Same H H' → H' r = some (.lst xs) → DpAll K H' xs es → Q (.ref r) H') ∧ (∀ i : Nat, jdg evL t = .inr i → ∀ H', Same H H' → Q (.int (i : Int)) H')
section
variable {P : Program} {w : World} {K : PySem.W.Frag} {mg : Str → Option Value} {base : Heap}
theorem ol_due {f fE : Addr} {fd dE : FuncData} (F : FnP K "_law_due" sLDue f fd) (T : Txt K mg) (En : Def P w K mg base CX0 3 "_law_event" fE dE ["_law_line"] (spLEvent K)) : FnOk P w K mg base CX0 4 f fd ["_law_text"] (spLDue K) := by
  refine F.ok scldu (fun vs H Q E h => ?_) (fun cdv A outer s H vs Q E hr h => ?_)
  · obtain ⟨t, rfl, _⟩ := h
    rfl
  · obtain ⟨t, rfl, low, hl, q, q2⟩ := h
    have sz : sizeLine = 16777216 := sizeLine_eq
    refine ⟨_, PSs.nox (pss_cons (ps_par (i := 1) (j := 2) (by rfl) scldu.nd rfl rfl (by decide) rfl rfl (pa_cons (pe_split (pv 0) pe_str) (pa_cons (pe_lst pa_nil) pa_nil)) (by rfl))
      (pss_cons (ps_for PassesOwn.never rfl (pi_enum (by rfl) T.enum (pa_cons (pe_slice sl_list (pv 1) po_none (po_some (pe_un un_neg pe_int))) pa_nil)) (pg_tup rfl (pgs_cons (pg_name (i := 3) scldu.nd rfl (Or.inl rfl)) (pgs_cons (pg_name (i := 4) scldu.nd rfl (Or.inl rfl)) pgs_nil)))
        (pss_cons (ps_set (i := 5) scldu.nd rfl (Or.inl rfl) (pe_call En.ok hr (by rfl) En.g En.k En.b .nil pass0 (pa_cons (pv 4) pa_nil)))
        (pss_cons (ps_if (pt_cmpR op_isN (pv 5) pe_non (nomark _)) (pss_one (ps_ret (pv 3))) pss_nil)
        (pss_one (ps_expr (pe_bm PySem.F.plainAttrs_list PySem.F.slot_list_append PySem.F.type_list_append mt_append (pv 2) (pa_cons (pv 5) pa_nil)))))))
      (pss_one (ps_ret (pe_ifExp (pt_cmpR op_eq (pe_ix ix_list (pv 1) (pe_un un_neg pe_int) (fun _ _ => rfl)) pe_str (nomark _)) (pv 2) (pe_op op_sub (pe_callB call_len_seq (by rfl) T.p.len boot_len (pa_cons (pv 1) pa_nil)) pe_int)))))), ?_⟩
    have e0 : start NDu [V.str t] = [some (.str t), none, none, none, none, none] := rfl
    rw [e0]
    obtain ⟨w1, w2⟩ := split_parts (x := t) (y := nlS) (s := 10) (S := []) rfl (by decide +kernel)
    have wn := split_ne (x := t) (y := nlS) (by decide) (by decide +kernel)
    have wl : ∀ x ∈ PySem.Txt.split t nlS, Low x := low.split (y := nlS) (c := 10) rfl (by decide)
    refine go_seq ?_
    refine ⟨_, rfl, ⟨_, rfl⟩, t, nlS, rfl, rfl, rfl, by omega, fun p np => ?_⟩
    unfold jdg evs lastL at q q2
    generalize PySem.Txt.split t nlS = ls at *
    have sp := same_upd (o := .lst (ls.map V.str)) np
    have hp1 := upd_same (H := H) (a := p) (o := .lst (ls.map V.str))
    generalize upd H p (.lst (ls.map V.str)) = H1 at sp hp1 ⊢
    refine ⟨by show 0 ≤ sizeLine; omega, fun e ne => ?_⟩
    have nH : H e = none := by
      cases hz : H e with
      | none => rfl
      | some o => rw [sp _ _ hz] at ne; cases ne
    have se := same_upd (o := .lst []) ne
    have he2 := upd_same (H := H1) (a := e) (o := .lst [])
    have hp2 := se _ _ hp1
    have nep : e ≠ p := fun z => by rw [z, hp1] at ne; cases ne
    generalize upd H1 e (.lst []) = H2 at se he2 hp2 ⊢
    refine ⟨_, _, rfl, ?_⟩
    walk_at "nx"
    refine ⟨_, rfl, _, rfl, _, rfl, p, _, rfl, SqL.of hp2, fun g ng => ?_⟩
    rw [show cutV (ls.map V.str) none (some (-1)) = ls.dropLast.map V.str from cut_last.trans List.map_dropLast.symm]
    have sg := same_upd (o := .lst (ls.dropLast.map V.str)) ng
    have hg3 := upd_same (H := H2) (a := g) (o := .lst (ls.dropLast.map V.str))
    have hp3 := sg _ _ hp2
    have he3 := sg _ _ he2
    have neg : e ≠ g := fun z => by rw [← z, he2] at ng; cases ng
    generalize upd H2 g (.lst (ls.dropLast.map V.str)) = H3 at sg hg3 hp3 he3 ⊢
    refine ⟨g, _, rfl, SqL.of hg3, ?_⟩
    refine for_itD walk_enum (fun i σ H' => ∃ o3 o4 o5, σ = [some (.str t), some (.ref p), some (.ref e), o3, o4, o5] ∧ (Same H H' ∧ H' p = some (.lst (ls.map V.str)) ∧ H' g = some (.lst (ls.dropLast.map V.str)) ∧ ∃ xs, H' e = some (.lst xs) ∧ DpAll K H' xs ((ls.dropLast.take i).map evL) ∧ ∀ l ∈ ls.dropLast.take i, isNone (evL l) = false))
      ⟨none, none, none, rfl, sp.trans (se.trans sg), hp3, hg3, [], he3, by rw [List.take_zero]; exact .nil, fun l hl => by rw [List.take_zero] at hl; cases hl⟩ (fun i σ H' _ ⟨_, _, _, _, _, _, r, _⟩ => SqL.of r) ?_ ?_
    · rintro D' i v σ H4 H5 hrt hnx - - hi ⟨o3, o4, o5, rfl, s4, hp4, hg4, xs, he4, hx4, hno⟩ ⟨T', y1, y2, rfl, nT, rfl, e1, e2⟩
      cases Option.some.inj e1
      obtain ⟨l, hl4, rfl⟩ : ∃ l, ls.dropLast[i]? = some l ∧ y2 = .str l := by
        have e2 : (List.map V.str ls.dropLast)[i]? = some y2 := e2
        rw [List.getElem?_map] at e2
        cases hx : ls.dropLast[i]? with
        | none => rw [hx] at e2; cases e2
        | some l =>
          rw [hx] at e2
          exact ⟨l, rfl, (Option.some.inj e2).symm⟩
      have hm := List.dropLast_subset _ (List.mem_of_getElem? hl4)
      have lw := wl l hm
      have ll := w1 l hm
      have sT := same_upd (o := .tup [.int (i : Int), .str l]) nT
      refine ⟨T', _, rfl, SqT.of upd_same, rfl, _, _, rfl, _, _, rfl, rfl, ?_⟩
      generalize upd H4 T' (.tup [.int (i : Int), .str l]) = H6 at sT ⊢
      walk_at "nx"
      refine ⟨_, rfl, l, rfl, lw, by omega, fun u H7 s7 hu => ?_⟩
      have s67 := sT.trans s7
      walk_at "nx"
      refine ⟨_, rfl, rfl, _, rfl, ?_⟩
      rw [non_dec hu]
      cases hn : isNone (evL l) with
      | true =>
        refine iteT ⟨_, rfl, ?_⟩
        rw [hrt]
        refine q2 i ?_ _ (s4.trans s67)
        rw [fN_at (ds := ls.dropLast.map evL) (i := i) (by rw [List.getElem?_map, hl4]; rfl) hn fun x hx => by
          rw [← List.map_take] at hx
          obtain ⟨y, hy, rfl⟩ := List.mem_map.mp hx
          exact hno y hy]
      | false =>
        have et : ls.dropLast.take (i + 1) = ls.dropLast.take i ++ [l] := by rw [List.take_add_one, hl4]; rfl
        have he7 := s67 _ _ he4
        have hxl := DpAll.length hx4
        have hkt := Kt.upd (o := .lst (xs ++ [u])) he7
        have hil : i < ls.length := by
          have := (List.getElem?_eq_some_iff.mp hl4).1
          rw [List.length_dropLast] at this
          omega
        refine iteF ⟨_, rfl, .inl ⟨rfl, _, SqL.of he7⟩, _, rfl, e, xs, _, rfl, rfl, he7, ?_, hnx _ _ ⟨_, _, _, rfl, ?_⟩⟩
        · rw [hxl, List.length_map, List.length_take]
          omega
        · have nl : noLAll ((ls.dropLast.take i).map evL) = true := noLAll_map fun x hx => (Gd.evL (wl x (List.dropLast_subset _ (List.mem_of_mem_take hx)))).l
          refine ⟨fun b o hb => (upd_ne (ne_of_none hb nH)).trans (s67 _ _ (s4 b o hb)), (upd_ne nep.symm).trans (s67 _ _ hp4), (upd_ne neg.symm).trans (s67 _ _ hg4), xs ++ [u], upd_same, ?_, fun y hy => ?_⟩
          · rw [et, List.map_append]
            exact DpAll.append (DpAll.kt hkt (DpAll.same s67 hx4) nl) (.cons (Dp.kt hkt hu (Gd.evL lw).l) .nil)
          · rw [et] at hy
            rcases List.mem_append.mp hy with m | m
            · exact hno y m
            · rw [List.mem_singleton.mp m]; exact hn
    · rintro σ H4 ⟨o3, o4, o5, rfl, s4, hp4, hg4, xs, he4, hx4, hno⟩
      rw [List.length_map, List.take_of_length_le (Nat.le_refl _)] at hx4 hno
      have hfn : fN (ls.dropLast.map evL) = none := fN_mk fun d hd => by
        obtain ⟨y, hy, rfl⟩ := List.mem_map.mp hd
        exact hno y hy
      have el : atI (ls.map V.str) (-1) = some (.str (ls.getLast?.getD Str.empty)) := by
        have e := congrArg (List.map V.str) (List.dropLast_concat_getLast wn)
        have e2 : ls.getLast?.getD Str.empty = ls.getLast wn := by rw [List.getLast?_eq_some_getLast wn]; rfl
        rw [e2, ← e, List.map_append]
        exact atI_last _ _
      have hl0 : 0 < ls.length := List.length_pos_iff.mpr wn
      refine ⟨_, rfl, _, rfl, p, _, _, _, rfl, rfl, SqL.of hp4, el, rfl, _, rfl, str_if (fun h => ?_) fun h => ?_⟩
      · exact ⟨_, rfl, q _ (by rw [hfn]; exact if_pos h) e xs H4 s4 he4 hx4⟩
      · refine ⟨_, rfl, p, _, rfl, .inl (SqL.of hp4), _, _, rfl, rfl, ?_⟩
        have z := q2 (ls.dropLast.map evL).length (by rw [hfn]; exact if_neg h) H4 s4
        rw [List.length_map, List.length_dropLast] at z
        rw [List.length_map]
        have e5 : ((ls.length - 1 : Nat) : Int) = (ls.length : Int) - 1 := by omega
        rw [e5] at z
        exact z
end
end L2.L87

set_option maxHeartbeats 1000000
namespace L2.L87
open PySem PySem.Spec PyProof.Rows NumText LR L2.Lr L2.Tx TL SkE
local macro_rules | `(tactic| walk_at "nx") => `(tactic| dsimp only [gName, tNext, tSeq, tAsg, List.set_cons_zero, List.set_cons_succ])
abbrev NRd : List Str := ["_law_text", "_law_kept", "e"]
theorem sclrd : FnScope NRd ["_law_text"] (defScope sLRead) := ⟨rfl, rfl, rfl, by decide +kernel, rfl, by decide +kernel, by decide +kernel⟩
def spLRead (K : PySem.W.Frag) : Sp := fun vs H Q _ => ∃ x d, vs = [x] ∧ Dp K H x d ∧ ((isStr d = false ∧ ∀ H', Same H H' → Q (.int 0) H') ∨
  ∃ t : Str, d = .str t ∧ Low t ∧ t.length ≤ 3900 ∧ (∀ es, jdg evO t = .inl es → ∀ r xs H', Same H H' → H' r = some (.lst xs) → DpAll K H' xs es → Q (.ref r) H') ∧ (∀ i : Nat, jdg evO t = .inr i → ∀ H', Same H H' → Q (.int (i : Int)) H'))
section
variable {P : Program} {w : World} {K : PySem.W.Frag} {mg : Str → Option Value} {base : Heap}
theorem ol_read {f fR : Addr} {fd dR : FuncData} (F : FnP K "_law_read" sLRead f fd) (T : Txt K mg) {k : Nat} (Rp : Def P w K mg base (L2.CX P w) k "read_plan" fR dR ["text"] (spReadP K)) : FnOk P w K mg base CX0 (k + 1) f fd ["_law_text"] (spLRead K) := by
  refine F.ok sclrd (fun vs H Q E h => ?_) (fun cdv A outer s H vs Q E hr h => ?_)
  · obtain ⟨x, d, rfl, _⟩ := h
    rfl
  · obtain ⟨x, d, rfl, hx, h⟩ := h
    refine ⟨_, pss_cons (ps_set (i := 1) sclrd.nd rfl (Or.inl rfl) pe_non)
      (pss_cons (ps_try_as (i := 2) rfl rfl sclrd.nd rfl rfl ⟨rfl, by decide, .inl T.xP.g⟩ takes0 (fun W pn xe tk _ => pss_one (ps_set (i := 1) sclrd.nd rfl (Or.inl rfl) (pe_callS Rp.ok hr (by rfl) Rp.g Rp.k Rp.b (fun σ => passAt tk σ) (pa_cons (pv 0) pa_nil))))
        (fun a oe cls d pn hz hf => pss_one (ps_set (i := 1) sclrd.nd rfl (Or.inl rfl) (pe_xv hz hf (pv 2)))))
      (pss_one (ps_ret (pv 1)))), ?_⟩
    have e0 : start NRd [x] = [some x, none, none] := rfl
    rw [e0]
    refine go_seq (go_asg ?_)
    refine go_next ?_
    refine ⟨_, rfl, x, d, rfl, hx, ?_⟩
    rcases h with ⟨hs, q⟩ | ⟨t, rfl, low, hl, q, q2⟩
    · refine .inl ⟨hs, fun dd H' s' hd => ⟨true, T.xP.e, fun _ a na => ?_, fun z => nomatch z⟩⟩
      exact ⟨_, rfl, rfl, CP K, dd, _, _, xV, rfl, rfl, T.xP.x, T.xP.nv, hd, rfl, _, rfl, q _ s'⟩
    · refine .inr ⟨t, rfl, low, hl, fun es e r xs H' s' nr hr' hxs => ?_, fun i e dd H' s' hd => ⟨true, T.xP.e, fun _ a na => ?_, fun z => nomatch z⟩⟩
      · exact ⟨_, rfl, q es e r xs H' s' hr' hxs⟩
      · exact ⟨_, rfl, rfl, CP K, dd, _, _, xV, rfl, rfl, T.xP.x, T.xP.nv, hd, rfl, _, rfl, q2 i e _ s'⟩
end
end L2.L87

set_option maxHeartbeats 1000000
/-! s * n; lists of short low texts -/
namespace L2.Lr
open PySem PySem.Spec PyProof.Rows NumText LR L2.Tx TL
/-- s * n -/
theorem op_mulS {X : Cx} : OpR X (binaryOp .Mult) (fun x y H Q => ∃ z n, x = .str z ∧ y = .int n ∧ MulOk z n ∧ Q (.str (Txt.mul z n)) H) := by
  intro pins s σ H x y v u Q I rx ry h
  obtain ⟨z, n, rfl, rfl, hok, q⟩ := h
  obtain ⟨t, rfl⟩ := rx
  obtain ⟨t2, rfl⟩ := ry
  exact SB.mul hok fun t' k => ⟨.str _, H, I.tok _, ⟨_, rfl⟩, q⟩
theorem fold_mem {c : Nat} : ∀ (l : List (Array Nat)) (acc : Array Nat), c ∈ (l.foldl (· ++ ·) acc).toList → c ∈ acc.toList ∨ ∃ a ∈ l, c ∈ a.toList
  | [], acc, h => .inl h
  | a :: l, acc, h => by
    rw [List.foldl_cons] at h
    rcases fold_mem l (acc ++ a) h with h | ⟨b, hb, h⟩
    · rw [Array.toList_append] at h
      exact (List.mem_append.mp h).imp id fun h => ⟨a, List.mem_cons_self, h⟩
    · exact .inr ⟨b, List.mem_cons_of_mem _ hb, h⟩
theorem low_mul {x : Str} (h : Low x) (n : Int) : Low (Txt.mul x n) := fun c hc => by
  unfold Txt.mul at hc
  split at hc
  · cases hc
  · split at hc
    · exact h c hc
    · rcases fold_mem _ _ hc with z | ⟨a, ha, z⟩
      · cases z
      · rw [(List.mem_replicate.mp ha).2] at z
        exact h c z
/-- a short low text -/
def Tx1 (L : Nat) (s : Str) : Prop := Low s ∧ s.length ≤ L
def okT (L : Nat) (s : Str) : Bool := ((tl s).all fun c => decide (c < 256)) && decide (s.length ≤ L)
theorem Tx1.of {L : Nat} {s : Str} (h : okT L s = true) : Tx1 L s := ⟨low_of (Bool.and_eq_true_iff.mp h).1, of_decide_eq_true (Bool.and_eq_true_iff.mp h).2⟩
theorem Tx1.mono {L M : Nat} {s : Str} (h : Tx1 L s) (l : L ≤ M) : Tx1 M s := ⟨h.1, Nat.le_trans h.2 l⟩
theorem Tx1.app {L M : Nat} {s t : Str} (h : Tx1 L s) (g : Tx1 M t) : Tx1 (L + M) (s ++ t) := ⟨h.1.app g.1, by rw [len_app]; have := h.2; have := g.2; omega⟩
theorem Tx1.cut {L : Nat} {s : Str} (h : Tx1 L s) (lo hi : Option Int) : Tx1 L (cutS s lo hi) := ⟨h.1.cut lo hi, Nat.le_trans (cut_le _ _ _) h.2⟩
def tTxt (L : Nat) : TE := fun σ H Q => ∀ s, Tx1 L s → Q (.str s) H
def tTxts (L n : Nat) : TA := fun σ H Q => ∀ ss : List Str, ss.length = n → (∀ s ∈ ss, Tx1 L s) → Q (ss.map V.str) H
def tTxL (L n : Nat) : TE := fun σ H Q => ∀ l (ss : List Str) H', Same H H' → H l = none → H' l = some (.lst (ss.map V.str)) → ss.length = n → (∀ s ∈ ss, Tx1 L s) → Q (.ref l) H'
section
variable {X : Cx} {e : Expr} {es : List Expr} {p pos : Pos} {L n : Nat}
theorem px_str {y : Str} {k} (h : okT L y = true := by decide +kernel) : PE X (.Constant (.str y) k p) (tTxt L) := pe_weak pe_str fun σ H Q q => q _ (Tx1.of h)
theorem px_of {te : TE} (he : PE X e te) (f : ∀ σ H (Q : VK), (∀ s, Tx1 L s → Q (.str s) H) → te σ H Q) : PE X e (tTxt L) := pe_weak he fun σ H Q q => f σ H Q q
theorem px_nil : PA X [] (tTxts L 0) := pa_weak pa_nil fun σ H Q q => q [] rfl fun s hs => by cases hs
theorem px_cons (h1 : PE X e (tTxt L)) (h2 : PA X es (tTxts L n)) (hs : starEach (e :: es) X.env = (false, eval e X.env) :: starEach es X.env := by rfl) : PA X (e :: es) (tTxts L (n + 1)) :=
  pa_weak (pa_cons h1 h2 hs) fun σ H Q q => fun s hs ss hn hss => q (s :: ss) (by rw [List.length_cons, hn]) fun x hx => by
    rcases List.mem_cons.mp hx with rfl | hx
    · exact hs
    · exact hss x hx
theorem px_lst {x1} (h : PA X es (tTxts L n)) (hz : n ≤ sizeLine := by show _ ≤ _; decide) : PE X (.List es x1) (tTxL L n) :=
  pe_weak (pe_lst h) fun σ H Q q => fun ss hn hss => ⟨by rw [List.length_map, hn]; exact hz, fun l nl => q l ss _ (same_upd nl) nl upd_same hn hss⟩
end
end L2.Lr

set_option maxHeartbeats 1000000
namespace L2.L87
open PySem PySem.Spec PyProof.Rows NumText LR L2.Lr L2.Tx TL SkE
local macro_rules | `(tactic| walk_at "nx") => `(tactic| dsimp only [gName, tNext, tSeq, tAsg, List.set_cons_zero, List.set_cons_succ])
theorem sclwl : FnScope ["_law_found"] [] (defScope sLWrong) := ⟨rfl, rfl, rfl, by decide +kernel, rfl, by decide +kernel, by decide +kernel⟩
abbrev NLi : List Str := ["_law_pool_here", "_law_some", "_law_turn"]
theorem sclli : FnScope NLi ["_law_pool_here"] (defScope sLLines) := ⟨rfl, rfl, rfl, by decide +kernel, rfl, by decide +kernel, by decide +kernel⟩
theorem mulOk0 {n : Nat} (h : n ≤ 1000) : MulOk "0" (n : Int) := by
  have e : ("0" : Str).length = 1 := rfl
  refine ⟨?_, fun h1 h2 => ?_, fun h1 h2 => ?_⟩
  · rw [decide_eq_false (by omega), decide_eq_false (by omega)]; rfl
  · rw [e]
    intro z
    have : (1 : Int) ≤ (2 ^ 63 - 1) / (n : Int) := by
      rw [Int.le_ediv_iff_mul_le (by omega)]
      omega
    omega
  · rw [e]
    have h3 : ((n : Int)).toNat = n := rfl
    rw [h3]
    exact decide_eq_false (by rw [sizeLine_eq]; omega)
theorem tx_zero (n : Nat) (L : Nat) (h : (Txt.mul "0" (n : Int)).length ≤ L) : Tx1 L (Txt.mul "0" (n : Int)) := ⟨low_mul (low_of (by decide +kernel)) _, h⟩
/-- a head and noughts -/
theorem px_zero {X : Cx} {y : Str} {n L M : Nat} {k1 k2 k3 : Nat} {p1 p2 p3 q1 q2 : Pos} (hn : n ≤ 1000) (hL : okT L y = true) (hM : (Txt.mul "0" (n : Int)).length ≤ M) (hl : L + M ≤ 210) : PE X (.BinOp (.Constant (.str y) k1 p1) .Add (.BinOp (.Constant (.str "0") k2 p2) .Mult (.Constant (.int (n : Int)) k3 p3) q1) q2) (tTxt 210) :=
  px_of (pe_op op_add_str pe_str (pe_op op_mulS pe_str pe_int)) fun σ H Q q => by
    have ty := Tx1.of hL
    have tz := tx_zero n M hM
    have := ty.2
    have := tz.2
    exact ⟨_, _, rfl, rfl, mulOk0 hn, _, _, rfl, rfl, by rw [sizeLine_eq]; omega, q _ ((ty.app tz).mono hl)⟩
theorem px_zero2 {X : Cx} {y w : Str} {n L M N : Nat} {k1 k2 k3 k4 : Nat} {p1 p2 p3 p4 q1 q2 q3 : Pos} (hn : n ≤ 1000) (hL : okT L y = true) (hN : okT N w = true) (hM : (Txt.mul "0" (n : Int)).length ≤ M) (hl : L + M + N ≤ 210) : PE X (.BinOp (.BinOp (.Constant (.str y) k1 p1) .Add (.BinOp (.Constant (.str "0") k2 p2) .Mult (.Constant (.int (n : Int)) k3 p3) q1) q2) .Add (.Constant (.str w) k4 p4) q3) (tTxt 210) :=
  px_of (pe_op op_add_str (pe_op op_add_str pe_str (pe_op op_mulS pe_str pe_int)) pe_str) fun σ H Q q => by
    have ty := Tx1.of hL
    have tw := Tx1.of hN
    have tz := tx_zero n M hM
    have := ty.2
    have := tz.2
    have := tw.2
    have l1 := len_app y (Txt.mul "0" (n : Int))
    exact ⟨_, _, rfl, rfl, mulOk0 hn, _, _, rfl, rfl, by rw [sizeLine_eq]; omega, _, _, rfl, rfl, by rw [sizeLine_eq]; omega, q _ (((ty.app tz).app tw).mono hl)⟩
def spLWrong : Sp := fun vs H Q _ => vs = [] ∧ ∀ l (ss : List Str) H', Same H H' → H l = none → H' l = some (.lst (ss.map V.str)) → ss.length = 32 → (∀ s ∈ ss, Tx1 210 s) → Q (.ref l) H'
section
variable {P : Program} {w : World} {K : PySem.W.Frag} {mg : Str → Option Value} {base : Heap}
theorem ol_wrong {f : Addr} {fd : FuncData} (F : FnP K "_law_wrong_lines" sLWrong f fd) : FnOk P w K mg base CX0 1 f fd [] spLWrong := by
  refine F.ok sclwl (fun vs H Q E h => ?_) (fun cdv A outer s H vs Q E hr h => ?_)
  · obtain ⟨rfl, _⟩ := h
    rfl
  · obtain ⟨rfl, q⟩ := h
    have sz : sizeLine = 16777216 := sizeLine_eq
    refine ⟨_, PSs.nox (pss_cons (ps_set (i := 0) sclwl.nd rfl (Or.inl rfl) (px_lst (L := 210) (n := 7) (px_cons px_str (px_cons px_str (px_cons px_str (px_cons px_str (px_cons px_str (px_cons px_str (px_cons (px_zero2 (n := 199) (L := 8) (M := 199) (N := 2) (by decide) (by decide +kernel) (by decide +kernel) (by decide +kernel) (by decide)) px_nil)))))))))
      (pss_cons (ps_set (i := 0) sclwl.nd rfl (Or.inl rfl) (pe_op op_cat (pv 0) (px_lst (L := 210) (n := 9) (px_cons px_str (px_cons (px_zero2 (n := 29) (L := 8) (M := 199) (N := 2) (by decide) (by decide +kernel) (by decide +kernel) (by decide +kernel) (by decide)) (px_cons px_str (px_cons px_str (px_cons px_str (px_cons px_str (px_cons px_str (px_cons px_str (px_cons px_str px_nil))))))))))))
      (pss_cons (ps_set (i := 0) sclwl.nd rfl (Or.inl rfl) (pe_op op_cat (pv 0) (px_lst (L := 210) (n := 8) (px_cons px_str (px_cons px_str (px_cons px_str (px_cons px_str (px_cons px_str (px_cons px_str (px_cons px_str (px_cons px_str px_nil)))))))))))
      (pss_one (ps_ret (pe_op op_cat (pv 0) (px_lst (L := 210) (n := 8) (px_cons px_str (px_cons px_str (px_cons px_str (px_cons px_str (px_cons px_str (px_cons px_str (px_cons px_str (px_cons (px_zero (n := 31) (L := 9) (M := 199) (by decide) (by decide +kernel) (by decide +kernel) (by decide)) px_nil))))))))))))))), ?_⟩
    have e0 : start ["_law_found"] ([] : List V) = [none] := rfl
    rw [e0]
    refine go_seq (go_asg ?_)
    intro l1 s1 H1 k1 n1 h1 c1 t1
    walk_at "nx"
    refine ⟨_, rfl, ?_⟩
    intro l2 s2 H2 k2 n2 h2 c2 t2
    refine ⟨_, _, _, _, rfl, rfl, k2 _ _ h1, h2, ?_, fun l3 n3 => ?_⟩
    · rw [List.length_map, List.length_map, c1, c2]; decide
    rw [← List.map_append]
    have k3 := same_upd (o := .lst ((s1 ++ s2).map V.str)) n3
    have h3 := upd_same (H := H2) (a := l3) (o := .lst ((s1 ++ s2).map V.str))
    have c3 : (s1 ++ s2).length = 16 := by rw [List.length_append, c1, c2]
    have t3 : ∀ s ∈ s1 ++ s2, Tx1 210 s := fun s hs => (List.mem_append.mp hs).elim (t1 s) (t2 s)
    generalize upd H2 l3 (.lst ((s1 ++ s2).map V.str)) = H3 at k3 h3 ⊢
    generalize s1 ++ s2 = s3 at *
    walk_at "nx"
    refine ⟨_, rfl, ?_⟩
    intro l4 s4 H4 k4 n4 h4 c4 t4
    refine ⟨_, _, _, _, rfl, rfl, k4 _ _ h3, h4, ?_, fun l5 n5 => ?_⟩
    · rw [List.length_map, List.length_map, c3, c4]; decide
    rw [← List.map_append]
    have k5 := same_upd (o := .lst ((s3 ++ s4).map V.str)) n5
    have h5 := upd_same (H := H4) (a := l5) (o := .lst ((s3 ++ s4).map V.str))
    have c5 : (s3 ++ s4).length = 24 := by rw [List.length_append, c3, c4]
    have t5 : ∀ s ∈ s3 ++ s4, Tx1 210 s := fun s hs => (List.mem_append.mp hs).elim (t3 s) (t4 s)
    generalize upd H4 l5 (.lst ((s3 ++ s4).map V.str)) = H5 at k5 h5 ⊢
    generalize s3 ++ s4 = s5 at *
    walk_at "nx"
    refine ⟨_, rfl, ?_⟩
    intro l6 s6 H6 k6 n6 h6 c6 t6
    refine ⟨_, _, _, _, rfl, rfl, k6 _ _ h5, h6, ?_, fun l7 n7 => ?_⟩
    · rw [List.length_map, List.length_map, c5, c6]; decide
    rw [← List.map_append]
    have s06 : Same H H6 := k1.trans (k2.trans (k3.trans (k4.trans (k5.trans k6))))
    refine q l7 (s5 ++ s6) _ (s06.trans (same_upd n7)) ?_ upd_same (by rw [List.length_append, c5, c6]) fun s hs => (List.mem_append.mp hs).elim (t5 s) (t6 s)
    cases hz : H l7 with
    | none => rfl
    | some o => rw [s06 _ _ hz] at n7; cases n7
end
end L2.L87

set_option maxHeartbeats 1000000
namespace L2.L87
open PySem PySem.Spec PyProof.Rows NumText LR L2.Lr L2.Tx TL SkE
local macro_rules | `(tactic| walk_at "nx") => `(tactic| dsimp only [gName, tNext, tSeq, tAsg, List.set_cons_zero, List.set_cons_succ])
theorem PoolAt.ne {H : Hp} {p l : Addr} (h : PoolAt H p) (n : H l = none) : l ≠ p := by
  obtain ⟨c, s, e, _⟩ := h
  intro z
  rw [z, e] at n
  cases n
theorem pick_str {ms : List Str} {x : Int} (h0 : 0 ≤ x) (h1 : x < ms.length) : ∃ s ∈ ms, atI (ms.map V.str) x = some (.str s) := by
  have hx : x.toNat < ms.length := by omega
  have e := atI_nat (xs := ms.map V.str) (j := x.toNat) (v := V.str ms[x.toNat]) (by rw [List.getElem?_map, List.getElem?_eq_getElem hx]; rfl)
  rw [Int.toNat_of_nonneg h0] at e
  exact ⟨ms[x.toNat], List.getElem_mem hx, e⟩
def rLenS (K : PySem.W.Frag) : List V → Hp → VK → Prop := fun xs H Q => ∃ p ys, xs = [V.ref p] ∧ (SqL K H p ys ∨ SqT K H p ys) ∧ Q (V.int (ys.length : Int)) H
theorem call_lenK {X : Cx} (K : PySem.W.Frag) (hK : X.K = K) : CallR X (.builtin "len") (rLenS K) := by subst hK; exact call_len_seq
def spLLines (K : PySem.W.Frag) : Sp := fun vs H Q _ => ∃ p : Addr, vs = [.ref p] ∧ PoolAt H p ∧ ∀ l (ss : List Str) H', Adv p H H' → PoolAt H' p → H' l = some (.lst (ss.map V.str)) → l ≠ p → ss.length ≤ 4 → (∀ s ∈ ss, Tx1 210 s) → Q (.ref l) H'
section
variable {P : Program} {w : World} {K : PySem.W.Frag} {mg : Str → Option Value} {base : Heap}
theorem ol_lines {f fT : Addr} {fd dT : FuncData} (F : FnP K "_law_lines" sLLines f fd) (T : Txt K mg) (N : Def P w K mg base CX0 1 "_law_take" fT dT ["_law_pool_here", "_law_many"] spTake) : FnOk P w K mg base CX0 2 f fd ["_law_pool_here"] (spLLines K) := by
  refine F.ok sclli (fun vs H Q E h => ?_) (fun cdv A outer s H vs Q E hr h => ?_)
  · obtain ⟨p, rfl, _⟩ := h
    rfl
  · obtain ⟨p, rfl, hp, q⟩ := h
    have sz : sizeLine = 16777216 := sizeLine_eq
    refine ⟨_, PSs.nox (pss_cons (ps_set (i := 1) sclli.nd rfl (Or.inr rfl) (px_lst (L := 210) (n := 8) (px_cons px_str (px_cons px_str (px_cons px_str (px_cons (px_zero (n := 30) (L := 9) (M := 199) (by decide) (by decide +kernel) (by decide +kernel) (by decide)) (px_cons px_str (px_cons px_str (px_cons px_str (px_cons px_str px_nil))))))))))
      (pss_cons (ps_set (i := 1) sclli.nd rfl (Or.inr rfl) (pe_op op_cat (pv 1) (px_lst (L := 210) (n := 6) (px_cons px_str (px_cons px_str (px_cons px_str (px_cons px_str (px_cons (px_zero (n := 30) (L := 11) (M := 199) (by decide) (by decide +kernel) (by decide +kernel) (by decide)) (px_cons px_str px_nil)))))))))
      (C8.pss_cut (ps_set (i := 1) sclli.nd rfl (Or.inr rfl) (pe_op op_cat (pv 1) (px_lst (L := 210) (n := 4) (px_cons px_str (px_cons px_str (px_cons px_str (px_cons (px_zero (n := 200) (L := 10) (M := 200) (by decide) (by decide +kernel) (by decide +kernel) (by decide)) px_nil)))))))
      (pss_one (ps_ret (pe_lc (own := [("_law_turn", 2)]) (g := gName 2) (tt := tYes) rfl sclli.nd (pi_range1 (by rfl) T.range (pa_cons (pe_call N.ok hr (by rfl) N.g N.k N.b .nil pass0 (pa_cons (pv 0) (pa_cons pe_int pa_nil))) pa_nil)) (blkOk_by (N := NLi) (sc := defScope sLLines) (by decide +kernel)) (fun _ _ _ _ _ => pg_name (i := 2) sclli.nd rfl (Or.inl rfl)) (fun _ _ _ _ _ => pts_nil)
          (fun _ _ _ _ _ => pe_ix (r := rIxL K) (by exact ix_list) (pv 1) (pe_call N.ok hr (by rfl) N.g N.k N.b .nil pass0 (pa_cons (pv 0) (pa_cons (pe_callB (call_lenK K rfl) (by rfl) T.p.len boot_len (pa_cons (pv 1) pa_nil)) pa_nil))) (fun _ _ => rfl)))))))), ?_⟩
    have e0 : start NLi [V.ref p] = [some (.ref p), none, none] := rfl
    rw [e0]
    refine go_seq (go_asg ?_)
    intro l1 s1 H1 k1 n1 h1 c1 t1
    walk_at "nx"
    refine ⟨_, rfl, ?_⟩
    intro l2 s2 H2 k2 n2 h2 c2 t2
    refine ⟨_, _, _, _, rfl, rfl, k2 _ _ h1, h2, ?_, fun l3 n3 => ?_⟩
    · rw [List.length_map, List.length_map, c1, c2]; decide
    rw [← List.map_append]
    have k3 := same_upd (o := .lst ((s1 ++ s2).map V.str)) n3
    have h3 := upd_same (H := H2) (a := l3) (o := .lst ((s1 ++ s2).map V.str))
    have c3 : (s1 ++ s2).length = 14 := by rw [List.length_append, c1, c2]
    have t3 : ∀ s ∈ s1 ++ s2, Tx1 210 s := fun s hs => (List.mem_append.mp hs).elim (t1 s) (t2 s)
    generalize upd H2 l3 (.lst ((s1 ++ s2).map V.str)) = H3 at k3 h3 ⊢
    generalize s1 ++ s2 = s3 at *
    walk_at "nx"
    refine ⟨fun σ' H' => ∃ (l : Addr) (ms : List Str), σ' = [some (.ref p), some (.ref l), none] ∧ Same H H' ∧ H l = none ∧ H' l = some (.lst (ms.map V.str)) ∧ ms.length = 18 ∧ ∀ s ∈ ms, Tx1 210 s, ?_, ?_⟩
    · refine ⟨_, rfl, ?_⟩
      intro l4 s4 H4 k4 n4 h4 c4 t4
      refine ⟨_, _, _, _, rfl, rfl, k4 _ _ h3, h4, ?_, fun l5 n5 => ?_⟩
      · rw [List.length_map, List.length_map, c3, c4]; decide
      rw [← List.map_append]
      have s06 : Same H H4 := k1.trans (k2.trans (k3.trans k4))
      refine ⟨l5, s3 ++ s4, rfl, s06.trans (same_upd n5), ?_, upd_same, by rw [List.length_append, c3, c4], fun s hs => (List.mem_append.mp hs).elim (t3 s) (t4 s)⟩
      cases hz : H l5 with
      | none => rfl
      | some o => rw [s06 _ _ hz] at n5; cases n5
    rintro σ' H6 ⟨l, ms, rfl, s6, nl, hl, cl, tms⟩
    clear h1 h2 h3 t1 t2 t3 k1 k2 k3
    have hp6 := hp.same s6
    have nlp := hp.ne nl
    refine ⟨_, rfl, p, 5, rfl, hp6, by decide, by decide, fun r H7 r0 r1 a7 hp7 => ?_⟩
    refine ⟨_, rfl, by omega, by omega, fun De hD => ?_⟩
    have nDe := hp7.ne hD
    have hl7 := a7 _ _ hl nlp
    refine lc_range (lo := 0) (n := r.toNat) (fun i H' => ∃ ss : List Str, Adv p H7 H' ∧ PoolAt H' p ∧ H' De = some (.lst (ss.map V.str)) ∧ ss.length = i ∧ ∀ s ∈ ss, Tx1 210 s) ⟨[], Adv.refl.same (same_upd hD), hp7.same (same_upd hD), upd_same, rfl, fun x hx => by cases hx⟩ ?_ ?_
    · rintro i H' hi ⟨ss, ad, po, hDe, hln, hall⟩
      have hl8 := ad _ _ hl7 nlp
      refine ⟨rfl, ⟨_, rfl, _, rfl, _, rfl, l, _, rfl, .inl (SqL.of hl8), p, _, rfl, po, by rw [List.length_map, cl]; decide, by rw [List.length_map, cl]; decide, fun x H5 x0 x1 a5 po5 => ?_⟩⟩
      rw [List.length_map] at x1
      have hl5 := a5 _ _ hl8 nlp
      obtain ⟨sg, hm, hat⟩ := pick_str (ms := ms) x0 x1
      have h5 := a5 _ _ hDe nDe
      refine ⟨l, _, x, _, rfl, rfl, SqL.of hl5, hat, _, h5, by rw [List.length_map]; omega, ss ++ [sg], ?_, ?_, ?_, by rw [List.length_append, hln]; rfl, ?_⟩
      · exact fun b o hb' nb => (upd_ne (ne_of_none hb' hD)).trans (a5 _ _ (ad b o hb' nb) nb)
      · obtain ⟨c', s', z, z2⟩ := po5
        exact ⟨c', s', (upd_ne nDe.symm).trans z, z2⟩
      · rw [upd_same, List.map_append]
        rfl
      · intro y hy
        rcases List.mem_append.mp hy with m | m
        · exact hall y m
        · rw [List.mem_singleton.mp m]
          exact tms sg hm
    · rintro H' ⟨ss, ad, po, hDe, hln, hall⟩
      exact q De ss H' (Adv.refl.same s6 |>.trans (a7.trans ad)) po hDe nDe (by omega) hall
end
end L2.L87

set_option maxHeartbeats 2000000
namespace L2.L87
open PySem PySem.Spec PyProof.Rows NumText LR L2.Lr L2.Tx TL SkE
local macro_rules | `(tactic| walk_at "nx") => `(tactic| dsimp only [gName, tNext, tSeq, tAsg, List.set_cons_zero, List.set_cons_succ])
abbrev NTe : List Str := ["_law_pool_here", "_law_lines_here", "_law_text", "_law_line", "_law_at", "_law_to", "_law_sign", "_law_wrong", "_law_found", "_law_place", "_law_one"]
theorem sclte : FnScope NTe ["_law_pool_here", "_law_lines_here"] (defScope sLTexts) := ⟨rfl, rfl, rfl, by decide +kernel, rfl, by decide +kernel, by decide +kernel⟩
theorem tx_nl {L : Nat} {s : Str} (h : Tx1 L s) : Tx1 (L + 1) (s ++ nlS) := h.app (Tx1.of (by decide +kernel))
theorem tx_join {L : Nat} {ss : List Str} (h : ∀ s ∈ ss, Tx1 L s) {n : Nat} (hn : ss.length ≤ n) : Tx1 (n * L) (PySem.Txt.join Str.empty ss) := by
  refine ⟨fun c hc => ?_, ?_⟩
  · have e : tl (PySem.Txt.join Str.empty ss) = joinL [] (ss.map tl) := by rw [join_eq, tl_join]; rfl
    rw [e] at hc
    rcases joinL_mem hc with m | ⟨y, hy, m⟩
    · cases m
    · obtain ⟨x, hx, rfl⟩ := List.mem_map.mp hy
      exact (h x hx).1 c m
  · have h1 := join_le Str.empty ss
    have h2 := sum_le (m := L) (l := ss.map (·.length)) fun x hx => by
      obtain ⟨y, hy, rfl⟩ := List.mem_map.mp hx
      exact (h y hy).2
    rw [List.length_map] at h2
    rw [show Str.empty.length = 0 from rfl] at h1
    have h3 : ss.length * L ≤ n * L := Nat.mul_le_mul_right _ hn
    omega
theorem tx_sum {L : Nat} {ss : List Str} (h : ∀ s ∈ ss, Tx1 L s) {n : Nat} (hn : ss.length ≤ n) : (ss.map (·.length)).sum ≤ n * L := by
  have h2 := sum_le (m := L) (l := ss.map (·.length)) fun x hx => by
    obtain ⟨y, hy, rfl⟩ := List.mem_map.mp hx
    exact (h y hy).2
  rw [List.length_map] at h2
  exact Nat.le_trans h2 (Nat.mul_le_mul_right _ hn)
theorem cut_sub {ss : List Str} {lo hi : Option Int} : ∃ rs : List Str, cutV (ss.map V.str) lo hi = rs.map V.str ∧ (∀ s ∈ rs, s ∈ ss) ∧ rs.length ≤ ss.length := by
  refine ⟨(ss.drop (HT.sIx ss.length 0 lo)).take (HT.sIx ss.length ss.length hi - HT.sIx ss.length 0 lo), ?_, fun s hs => List.mem_of_mem_drop (List.mem_of_mem_take hs), ?_⟩
  · unfold cutV
    rw [List.length_map, List.map_take, List.map_drop]
  · rw [List.length_take, List.length_drop]
    omega
def spLTexts (K : PySem.W.Frag) : Sp := fun vs H Q _ => ∃ (p l : Addr) (ss : List Str), vs = [.ref p, .ref l] ∧ PoolAt H p ∧ H l = some (.lst (ss.map V.str)) ∧ l ≠ p ∧ ss.length ≤ 4 ∧ (∀ s ∈ ss, Tx1 210 s) ∧
  ∀ r (ts : List Str) H', Adv p H H' → PoolAt H' p → H' r = some (.lst (ts.map V.str)) → r ≠ p → ts.length ≤ 100 → (∀ s ∈ ts, Tx1 3900 s) → Q (.ref r) H'
section
variable {P : Program} {w : World} {K : PySem.W.Frag} {mg : Str → Option Value} {base : Heap}
theorem ol_texts {f fT fW : Addr} {fd dT dW : FuncData} (F : FnP K "_law_texts" sLTexts f fd) (T : Txt K mg) (N : Def P w K mg base CX0 1 "_law_take" fT dT ["_law_pool_here", "_law_many"] spTake) (Wr : Def P w K mg base CX0 1 "_law_wrong_lines" fW dW [] spLWrong) : FnOk P w K mg base CX0 2 f fd ["_law_pool_here", "_law_lines_here"] (spLTexts K) := by
  refine F.ok sclte (fun vs H Q E h => ?_) (fun cdv A outer s H vs Q E hr h => ?_)
  · obtain ⟨p, l, ss, rfl, _⟩ := h
    rfl
  · obtain ⟨p, l, ss, rfl, hp, hl, nlp, hn4, tss, q⟩ := h
    have sz : sizeLine = 16777216 := sizeLine_eq
    refine ⟨_, PSs.nox (C8.pss_cut (ps_set (i := 2) sclte.nd rfl (Or.inl rfl) (pe_join pe_str (pe_lc (own := [("_law_line", 3)]) (g := gName 3) (tt := tYes) rfl sclte.nd (pi_list (pv 1)) (blkOk_by (N := NTe) (sc := defScope sLTexts) (by decide +kernel)) (fun _ _ _ _ _ => pg_name (i := 3) sclte.nd rfl (Or.inl rfl)) (fun _ _ _ _ _ => pts_nil) (fun _ _ _ _ _ => pe_op op_add_str (pv 3) pe_str))))
      (C8.pss_cut (ps_par (i := 4) (j := 5) (by rfl) sclte.nd rfl rfl (by decide) rfl rfl (pa_cons (pe_call N.ok hr (by rfl) N.g N.k N.b .nil pass0 (pa_cons (pv 0) (pa_cons (pe_op op_add (pe_callB call_len_str (by rfl) T.p.len boot_len (pa_cons (pv 2) pa_nil)) pe_int) pa_nil))) (pa_cons (pe_call N.ok hr (by rfl) N.g N.k N.b .nil pass0 (pa_cons (pv 0) (pa_cons (pe_op op_add (pe_callB call_len_str (by rfl) T.p.len boot_len (pa_cons (pv 2) pa_nil)) pe_int) pa_nil))) pa_nil)) (by rfl))
      (C8.pss_cut (ps_par (i := 6) (j := 7) (by rfl) sclte.nd rfl rfl (by decide) rfl rfl (pa_cons (pe_ix ix_list (px_lst (L := 1) (n := 6) (px_cons px_str (px_cons px_str (px_cons px_str (px_cons px_str (px_cons px_str (px_cons px_str px_nil))))))) (pe_call N.ok hr (by rfl) N.g N.k N.b .nil pass0 (pa_cons (pv 0) (pa_cons pe_int pa_nil))) (fun _ _ => rfl)) (pa_cons (pe_call0 Wr.ok hr (by rfl) Wr.g Wr.k Wr.b .nil pass0) pa_nil)) (by rfl))
      (C8.pss_cut (ps_set (i := 8) sclte.nd rfl (Or.inl rfl) (pe_lst (pa_cons (pv 2) (pa_cons (pe_slice sl_str (pv 2) po_none (po_some (pv 4))) (pa_cons (pe_op op_add_str (pe_op op_add_str (pe_slice sl_str (pv 2) po_none (po_some (pv 4))) (pv 6)) (pe_slice sl_str (pv 2) (po_some (pv 4)) po_none))
          (pa_cons (pe_op op_add_str (pe_slice sl_str (pv 2) po_none (po_some (pv 4))) (pe_slice sl_str (pv 2) (po_some (pe_op op_add (pv 4) pe_int)) po_none)) (pa_cons (pe_op op_add_str (pe_slice sl_str (pv 2) po_none (po_some (pv 4))) (pe_slice sl_str (pv 2) (po_some (pv 5)) po_none)) pa_nil)))))))
      (C8.pss_cut (ps_set (i := 8) sclte.nd rfl (Or.inl rfl) (pe_op op_cat (pv 8) (pe_lst (pa_cons (pe_op op_add_str (pe_op op_add_str (pe_slice sl_str (pv 2) po_none (po_some (pv 4))) (pv 6)) (pe_slice sl_str (pv 2) (po_some (pe_op op_add (pv 4) pe_int)) po_none)) (pa_cons (pe_op op_add_str (pv 2) (pv 2))
          (pa_cons (pe_op op_add_str (pv 2) pe_str) (pa_cons (pe_op op_add_str pe_str (pv 2)) (pa_cons (pe_op op_add_str (pv 2) pe_str) pa_nil))))))))
      (pss_cons (ps_set (i := 9) sclte.nd rfl (Or.inl rfl) (pe_call N.ok hr (by rfl) N.g N.k N.b .nil pass0 (pa_cons (pv 0) (pa_cons (pe_op op_add (pe_callB call_len_seq (by rfl) T.p.len boot_len (pa_cons (pv 1) pa_nil)) pe_int) pa_nil))))
      (pss_cons (ps_for PassesOwn.never rfl (pi_list (pv 7)) (pg_name (i := 10) sclte.nd rfl (Or.inl rfl)) (pss_one (ps_expr (pe_bm PySem.F.plainAttrs_list PySem.F.slot_list_append PySem.F.type_list_append mt_append (pv 8) (pa_cons (pe_join pe_str (pe_lc (own := [("_law_line", 3)]) (g := gName 3) (tt := tYes) rfl sclte.nd (pi_list (pe_op op_cat (pe_op op_cat (pe_slice sl_list (pv 1) po_none (po_some (pv 9))) (pe_lst (pa_cons (pv 10) pa_nil))) (pe_slice sl_list (pv 1) (po_some (pv 9)) po_none)))
          (blkOk_by (N := NTe) (sc := defScope sLTexts) (by decide +kernel)) (fun _ _ _ _ _ => pg_name (i := 3) sclte.nd rfl (Or.inl rfl)) (fun _ _ _ _ _ => pts_nil) (fun _ _ _ _ _ => pe_op op_add_str (pv 3) pe_str))) pa_nil)))))
      (pss_one (ps_ret (pv 8)))))))))), ?_⟩
    have e0 : start NTe [V.ref p, .ref l] = [some (.ref p), some (.ref l), none, none, none, none, none, none, none, none, none] := rfl
    rw [e0]
    -- the text
    refine ⟨fun σ' H' => ∃ t : Str, σ' = [some (.ref p), some (.ref l), some (.str t), none, none, none, none, none, none, none, none] ∧ Same H H' ∧ Tx1 844 t, ?_, ?_⟩
    · refine ⟨⟨_, rfl⟩, _, rfl, l, rfl, ⟨_, SqL.of hl⟩, fun D hD => lc_list (K := K) (a := l) (xs := ss.map V.str) (MapI H D (ss.map fun x => V.str (x ++ nlS))) (MapI.zero hD) (fun i H' _ p => SqL.of (p.1 _ _ hl)) ?_ ?_⟩
      · rintro i v H5 hv p5
        obtain ⟨x, hx, rfl⟩ : ∃ x, ss[i]? = some x ∧ v = .str x := by
          rw [List.getElem?_map] at hv
          cases hx : ss[i]? with
          | none => rw [hx] at hv; cases hv
          | some x => rw [hx] at hv; exact ⟨x, rfl, (Option.some.inj hv).symm⟩
        have lx := (tss x (List.mem_of_getElem? hx)).2
        refine ⟨rfl, ⟨_, rfl, _, _, rfl, rfl, ?_, ?_⟩⟩
        · show x.length + 1 ≤ _
          omega
        · exact MapI.step hD p5 (by rw [List.getElem?_map, hx]; rfl) (by rw [List.length_map]; omega) (Same.refl _)
      · intro H5 pm5
        obtain ⟨s5, hD5⟩ := pm5.all (by rw [List.length_map, List.length_map]; exact Nat.le_refl _)
        have tj : ∀ s ∈ ss.map (· ++ nlS), Tx1 211 s := fun s hs => by
          obtain ⟨x, hx, rfl⟩ := List.mem_map.mp hs
          exact tx_nl (tss x hx)
        refine ⟨Str.empty, D, ss.map (· ++ nlS), rfl, rfl, .inl (SqL.of (by rw [hD5, List.map_map]; rfl)), ?_, _, rfl, s5, tx_join tj (n := 4) (by rw [List.length_map]; exact hn4)⟩
        have := tx_sum tj (n := 4) (by rw [List.length_map]; exact hn4)
        rw [show Str.empty.length = 0 from rfl]
        omega
    rintro σ1 H1 ⟨t, rfl, s1, tt⟩
    have hl1 := s1 _ _ hl
    have hp1 := hp.same s1
    have lt := tt.2
    -- at and to
    refine ⟨fun σ' H' => ∃ at_ to_ : Int, σ' = [some (.ref p), some (.ref l), some (.str t), none, some (.int at_), some (.int to_), none, none, none, none, none] ∧ Adv p H H' ∧ PoolAt H' p, ?_, ?_⟩
    · refine ⟨_, rfl, _, rfl, t, rfl, by omega, _, _, rfl, rfl, p, _, rfl, hp1, by omega, by omega, fun at_ H2 a0 a1 v2 hp2 => ?_⟩
      refine ⟨_, rfl, _, rfl, t, rfl, by omega, _, _, rfl, rfl, p, _, rfl, hp2, by omega, by omega, fun to_ H3 b0 b1 v3 hp3 => ?_⟩
      exact ⟨_, _, rfl, at_, to_, rfl, Same.adv s1 (v2.trans v3), hp3⟩
    rintro σ2 H2 ⟨at_, to_, rfl, a2, hp2⟩
    -- the sign and the wrong lines
    refine ⟨fun σ' H' => ∃ (sg : Str) (wr : Addr) (ws : List Str), σ' = [some (.ref p), some (.ref l), some (.str t), none, some (.int at_), some (.int to_), some (.str sg), some (.ref wr), none, none, none] ∧ Adv p H H' ∧ PoolAt H' p ∧ Tx1 1 sg ∧ H' wr = some (.lst (ws.map V.str)) ∧ wr ≠ p ∧ ws.length = 32 ∧ ∀ s ∈ ws, Tx1 210 s, ?_, ?_⟩
    · intro sl ls H3 k3 n3 h3 c3 t3
      have nsp := hp2.ne n3
      refine ⟨_, rfl, p, 6, rfl, hp2.same k3, by decide, by decide, fun r H4 r0 r1 v4 hp4 => ?_⟩
      obtain ⟨sg, hm, hat⟩ := pick_str (ms := ls) r0 (by rw [c3]; exact r1)
      refine ⟨sl, _, _, _, rfl, rfl, SqL.of (v4 _ _ h3 nsp), hat, rfl, fun wr ws H5 k5 n5 h5 c5 t5 => ?_⟩
      exact ⟨_, _, rfl, sg, wr, ws, rfl, (a2.trans (Same.adv k3 v4)).same k5, hp4.same k5, t3 sg hm, h5, hp4.ne n5, c5, t5⟩
    rintro σ3 H3 ⟨sg, wr, ws, rfl, a3, hp3, tsg, hwr, nwp, cws, tws⟩
    have hl3 := a3 _ _ hl nlp
    have lsg := tsg.2
    have c1 := cut_le t none (some at_)
    have c2 := cut_le t (some at_) none
    have c3 := cut_le t (some (at_ + 1)) none
    have c4 := cut_le t (some to_) none
    have b1 := len_app (cutS t none (some at_)) sg
    have k1 : Tx1 3900 t := tt.mono (by omega)
    have k2 : Tx1 3900 (cutS t none (some at_)) := (tt.cut _ _).mono (by omega)
    have k3 : Tx1 3900 (cutS t none (some at_) ++ sg ++ cutS t (some at_) none) := (((tt.cut none (some at_)).app tsg).app (tt.cut (some at_) none)).mono (by omega)
    have k4 : Tx1 3900 (cutS t none (some at_) ++ cutS t (some (at_ + 1)) none) := ((tt.cut none (some at_)).app (tt.cut (some (at_ + 1)) none)).mono (by omega)
    have k5 : Tx1 3900 (cutS t none (some at_) ++ cutS t (some to_) none) := ((tt.cut none (some at_)).app (tt.cut (some to_) none)).mono (by omega)
    have k6 : Tx1 3900 (cutS t none (some at_) ++ sg ++ cutS t (some (at_ + 1)) none) := (((tt.cut none (some at_)).app tsg).app (tt.cut (some (at_ + 1)) none)).mono (by omega)
    have k7 : Tx1 3900 (t ++ t) := (tt.app tt).mono (by omega)
    have k8 : Tx1 3900 (t ++ ("\n" : Str)) := (tt.app (M := 1) (Tx1.of (by decide +kernel))).mono (by omega)
    have k9 : Tx1 3900 (("\n" : Str) ++ t) := ((Tx1.of (L := 1) (by decide +kernel)).app tt).mono (by omega)
    have k10 : Tx1 3900 (t ++ (" " : Str)) := (tt.app (M := 1) (Tx1.of (by decide +kernel))).mono (by omega)
    -- five texts
    refine ⟨fun σ' H' => ∃ (g : Addr) (ts : List Str), σ' = [some (.ref p), some (.ref l), some (.str t), none, some (.int at_), some (.int to_), some (.str sg), some (.ref wr), some (.ref g), none, none] ∧ Same H3 H' ∧ H' g = some (.lst (ts.map V.str)) ∧ ts.length = 5 ∧ ∀ s ∈ ts, Tx1 3900 s, ?_, ?_⟩
    · refine ⟨_, rfl, _, rfl, _, rfl, at_, rfl, t, rfl, by omega, ?_⟩
      refine ⟨_, rfl, _, rfl, at_, rfl, t, rfl, by omega, _, rfl, _, _, rfl, rfl, by omega, _, rfl, _, rfl, at_, rfl, t, rfl, by omega, _, _, rfl, rfl, by omega, ?_⟩
      refine ⟨_, rfl, _, rfl, at_, rfl, t, rfl, by omega, _, rfl, _, rfl, _, _, rfl, rfl, at_ + 1, rfl, t, rfl, by omega, _, _, rfl, rfl, by omega, ?_⟩
      refine ⟨_, rfl, _, rfl, at_, rfl, t, rfl, by omega, _, rfl, _, rfl, to_, rfl, t, rfl, by omega, _, _, rfl, rfl, by omega, ?_⟩
      refine ⟨by show 5 ≤ sizeLine; omega, fun g ng => ?_⟩
      refine ⟨g, [t, cutS t none (some at_), cutS t none (some at_) ++ sg ++ cutS t (some at_) none, cutS t none (some at_) ++ cutS t (some (at_ + 1)) none, cutS t none (some at_) ++ cutS t (some to_) none], rfl, same_upd ng, upd_same, rfl, fun s hs => ?_⟩
      simp only [List.mem_cons, List.not_mem_nil, or_false] at hs
      rcases hs with rfl | rfl | rfl | rfl | rfl <;> assumption
    rintro σ4 H4 ⟨g, ts, rfl, s4, hg4, l4, t4⟩
    -- five more
    refine ⟨fun σ' H' => ∃ (g : Addr) (ts : List Str), σ' = [some (.ref p), some (.ref l), some (.str t), none, some (.int at_), some (.int to_), some (.str sg), some (.ref wr), some (.ref g), none, none] ∧ Same H3 H' ∧ H3 g = none ∧ H' g = some (.lst (ts.map V.str)) ∧ ts.length = 10 ∧ ∀ s ∈ ts, Tx1 3900 s, ?_, ?_⟩
    · refine ⟨_, rfl, _, rfl, _, rfl, at_, rfl, t, rfl, by omega, _, rfl, _, _, rfl, rfl, by omega, _, rfl, _, rfl, _, _, rfl, rfl, at_ + 1, rfl, t, rfl, by omega, _, _, rfl, rfl, by omega, ?_⟩
      refine ⟨_, rfl, _, rfl, _, _, rfl, rfl, by omega, ?_⟩
      refine ⟨_, rfl, _, _, rfl, rfl, by show t.length + 1 ≤ _; omega, ?_⟩
      refine ⟨_, rfl, _, _, rfl, rfl, by show 1 + t.length ≤ _; omega, ?_⟩
      refine ⟨_, rfl, _, _, rfl, rfl, by show t.length + 1 ≤ _; omega, ?_⟩
      refine ⟨by show 5 ≤ sizeLine; omega, fun e ne => ?_⟩
      have se := same_upd (o := .lst ([cutS t none (some at_) ++ sg ++ cutS t (some (at_ + 1)) none, t ++ t, t ++ ("\n" : Str), ("\n" : Str) ++ t, t ++ (" " : Str)].map V.str)) ne
      have he := upd_same (H := H4) (a := e) (o := .lst ([cutS t none (some at_) ++ sg ++ cutS t (some (at_ + 1)) none, t ++ t, t ++ ("\n" : Str), ("\n" : Str) ++ t, t ++ (" " : Str)].map V.str))
      refine ⟨g, e, _, _, rfl, rfl, se _ _ hg4, he, by rw [List.length_map, List.length_map, l4]; show 5 + 5 ≤ _; omega, fun h nh => ?_⟩
      rw [← List.map_append]
      refine ⟨h, _, rfl, s4.trans (se.trans (same_upd nh)), ?_, upd_same, by rw [List.length_append, l4]; rfl, fun s hs => ?_⟩
      · cases hz : H3 h with
        | none => rfl
        | some o => cases (show none = some o from nh.symm.trans ((s4.trans se) _ _ hz))
      · rcases List.mem_append.mp hs with m | m
        · exact t4 s m
        · simp only [List.mem_cons, List.not_mem_nil, or_false] at m
          rcases m with rfl | rfl | rfl | rfl | rfl <;> assumption
    rintro σ5 H5 ⟨fo, ts5, rfl, s5, nfo, hfo5, l5, t5⟩
    clear hg4 t4 k1 k2 k3 k4 k5 k6 k7 k8 k9 k10 c1 c2 c3 c4 b1
    have hp5 := hp3.same s5
    have hl5 := s5 _ _ hl3
    have hwr5 := s5 _ _ hwr
    have nfp : fo ≠ p := hp3.ne nfo
    have nfl : fo ≠ l := fun z => by rw [z, hl3] at nfo; cases nfo
    have nfw : fo ≠ wr := fun z => by rw [z, hwr] at nfo; cases nfo
    have nf0 : H fo = none := a3.gone hp3 nfo
    refine ⟨_, rfl, _, rfl, l, _, rfl, .inl (SqL.of hl5), _, _, rfl, rfl, p, _, rfl, hp5, by rw [List.length_map]; omega, by rw [List.length_map]; omega, fun pl H6 b0 b1 v6 hp6 => ?_⟩
    walk_at "nx"
    have a6 := (a3.same s5).trans v6
    have hl6 := v6 _ _ hl5 nlp
    have hwr6 := v6 _ _ hwr5 nwp
    have hfo6 := v6 _ _ hfo5 nfp
    refine ⟨_, rfl, wr, rfl, ⟨_, SqL.of hwr6⟩, for_listD (K := K) (a := wr) (xs := ws.map V.str) (fun i σ H' => ∃ (o10 : Option V) (ts : List Str), σ = [some (.ref p), some (.ref l), some (.str t), none, some (.int at_), some (.int to_), some (.str sg), some (.ref wr), some (.ref fo), some (.int pl), o10] ∧ (Adv p H H' ∧ PoolAt H' p ∧ H' l = some (.lst (ss.map V.str)) ∧ H' wr = some (.lst (ws.map V.str)) ∧ H' fo = some (.lst (ts.map V.str)) ∧ ts.length = 10 + i ∧ ∀ s ∈ ts, Tx1 3900 s))
      ⟨none, ts5, rfl, a6, hp6, hl6, hwr6, hfo6, by rw [l5], t5⟩ (fun i σ H' _ ⟨_, _, _, _, _, _, r, _⟩ => SqL.of r) ?_ ?_⟩
    · rintro D' i v σ H7 hrt hnx - - hi ⟨o10, ts, rfl, a7, hp7, hl7, hwr7, hfo7, lts, tts⟩
      obtain ⟨x, hx, rfl⟩ : ∃ x, ws[i]? = some x ∧ v = .str x := by
        rw [List.getElem?_map] at hi
        cases hx : ws[i]? with
        | none => rw [hx] at hi; cases hi
        | some x => rw [hx] at hi; exact ⟨x, rfl, (Option.some.inj hi).symm⟩
      have hi32 : i < 32 := by rw [← cws]; exact (List.getElem?_eq_some_iff.mp hx).1
      have tx := tws x (List.mem_of_getElem? hx)
      walk_at "nx"
      refine ⟨_, rfl, .inl ⟨rfl, _, SqL.of hfo7⟩, ⟨_, rfl⟩, _, rfl, _, rfl, pl, rfl, l, _, rfl, SqL.of hl7, fun a na => ?_⟩
      obtain ⟨ra, ea, ma, la⟩ := cut_sub (ss := ss) (lo := none) (hi := some pl)
      rw [ea]
      have sa := same_upd (o := .lst (ra.map V.str)) na
      have ha := upd_same (H := H7) (a := a) (o := .lst (ra.map V.str))
      generalize upd H7 a (.lst (ra.map V.str)) = H8 at sa ha ⊢
      refine ⟨_, rfl, by show 1 ≤ sizeLine; omega, fun b nb => ?_⟩
      have sb := same_upd (o := .lst ([x].map V.str)) nb
      have hb := upd_same (H := H8) (a := b) (o := .lst ([x].map V.str))
      have ha9 := sb _ _ ha
      refine ⟨a, b, _, _, rfl, rfl, ha9, hb, by rw [List.length_map, List.length_map]; show ra.length + 1 ≤ _; omega, fun c nc => ?_⟩
      rw [← List.map_append]
      have nc' : upd H8 b (.lst ([x].map V.str)) c = none := nc
      have sc := same_upd (o := .lst ((ra ++ [x]).map V.str)) nc'
      have hc := upd_same (H := upd H8 b (.lst ([x].map V.str))) (a := c) (o := .lst ((ra ++ [x]).map V.str))
      have s710 := sa.trans (sb.trans sc)
      refine ⟨_, rfl, _, rfl, pl, rfl, l, _, rfl, SqL.of (s710 _ _ hl7), fun d nd => ?_⟩
      obtain ⟨rd, ed, md, ld⟩ := cut_sub (ss := ss) (lo := some pl) (hi := none)
      rw [ed]
      have sd := same_upd (o := .lst (rd.map V.str)) (show upd (upd H8 b (.lst ([x].map V.str))) c (.lst ((ra ++ [x]).map V.str)) d = none from nd)
      have hd := upd_same (H := upd (upd H8 b (.lst ([x].map V.str))) c (.lst ((ra ++ [x]).map V.str))) (a := d) (o := .lst (rd.map V.str))
      have hcd := sd _ _ hc
      have s711 := s710.trans sd
      refine ⟨c, d, _, _, rfl, rfl, hcd, hd, by rw [List.length_map, List.length_map, List.length_append]; show ra.length + 1 + _ ≤ _; omega, fun e ne => ?_⟩
      rw [← List.map_append]
      have ls9 : (ra ++ [x] ++ rd).length ≤ 9 := by rw [List.length_append, List.length_append]; show ra.length + 1 + _ ≤ _; omega
      have tall : ∀ s ∈ ra ++ [x] ++ rd, Tx1 210 s := fun s hs => by
        rcases List.mem_append.mp hs with m | m
        · rcases List.mem_append.mp m with m | m
          · exact tss s (ma s m)
          · rw [List.mem_singleton.mp m]; exact tx
        · exact tss s (md s m)
      generalize ra ++ [x] ++ rd = es at ls9 tall ⊢
      have ne' : upd (upd (upd H8 b (.lst ([x].map V.str))) c (.lst ((ra ++ [x]).map V.str))) d (.lst (rd.map V.str)) e = none := ne
      have se := same_upd (o := .lst (es.map V.str)) ne'
      have he := upd_same (H := upd (upd (upd H8 b (.lst ([x].map V.str))) c (.lst ((ra ++ [x]).map V.str))) d (.lst (rd.map V.str))) (a := e) (o := .lst (es.map V.str))
      have s712 := s711.trans se
      show (_ : Prop)
      generalize hH12 : upd (upd (upd (upd H8 b (.lst ([x].map V.str))) c (.lst ((ra ++ [x]).map V.str))) d (.lst (rd.map V.str))) e (.lst (es.map V.str)) = H12 at s712 he
      refine ⟨e, rfl, ⟨_, SqL.of (by first | exact he | (rw [← hH12] at he; exact he))⟩, fun D hD => lc_list (K := K) (a := e) (xs := es.map V.str) (MapI H12 D (es.map fun y => V.str (y ++ nlS))) (by subst hH12; exact MapI.zero hD) (fun i H' _ p => SqL.of (p.1 _ _ he)) ?_ ?_⟩
      · rintro j v H13 hv p5
        obtain ⟨y, hy, rfl⟩ : ∃ y, es[j]? = some y ∧ v = .str y := by
          rw [List.getElem?_map] at hv
          cases hx : es[j]? with
          | none => rw [hx] at hv; cases hv
          | some x => rw [hx] at hv; exact ⟨x, rfl, (Option.some.inj hv).symm⟩
        have ly := (tall y (List.mem_of_getElem? hy)).2
        have hD12 : H12 D = none := by subst hH12; exact hD
        refine ⟨rfl, ⟨_, rfl, _, _, rfl, rfl, ?_, ?_⟩⟩
        · show y.length + 1 ≤ _
          omega
        · exact MapI.step hD12 p5 (by rw [List.getElem?_map, hy]; rfl) (by rw [List.length_map]; omega) (Same.refl _)
      · intro H13 pm5
        obtain ⟨s13, hD13⟩ := pm5.all (by rw [List.length_map, List.length_map]; exact Nat.le_refl _)
        have tj : ∀ s ∈ es.map (· ++ nlS), Tx1 211 s := fun s hs => by
          obtain ⟨y, hy, rfl⟩ := List.mem_map.mp hs
          exact tx_nl (tall y hy)
        have hsum := tx_sum tj (n := 9) (by rw [List.length_map]; exact ls9)
        have tnew := (tx_join tj (n := 9) (by rw [List.length_map]; exact ls9)).mono (show 9 * 211 ≤ 3900 by decide)
        have s7 := s712.trans s13
        have hfo13 := s7 _ _ hfo7
        refine ⟨Str.empty, D, es.map (· ++ nlS), rfl, rfl, .inl (SqL.of (by rw [hD13, List.map_map]; rfl)), by rw [show Str.empty.length = 0 from rfl]; omega, fo, _, _, rfl, rfl, hfo13, by rw [List.length_map, lts]; omega, hnx _ _ ⟨_, ts ++ [PySem.Txt.join Str.empty (es.map (· ++ nlS))], rfl, ?_⟩⟩
        have hp13 := hp7.same s7
        refine ⟨fun o ob hb nb => (upd_ne (ne_of_none hb nf0)).trans (s7 _ _ (a7 o ob hb nb)), ?_, (upd_ne nfl.symm).trans (s7 _ _ hl7), (upd_ne nfw.symm).trans (s7 _ _ hwr7), ?_, by rw [List.length_append, lts]; rfl, fun s hs => ?_⟩
        · obtain ⟨c', s', z, z2⟩ := hp13
          exact ⟨c', s', (upd_ne nfp.symm).trans z, z2⟩
        · rw [upd_same, List.map_append]
          rfl
        · rcases List.mem_append.mp hs with m | m
          · exact tts s m
          · rw [List.mem_singleton.mp m]; exact tnew
    · rintro σ H7 ⟨o10, ts, rfl, a7, hp7, hl7, hwr7, hfo7, lts, tts⟩
      rw [List.length_map, cws] at lts
      exact ⟨_, rfl, q fo ts H7 a7 hp7 hfo7 nfp (by omega) tts⟩
end
end L2.L87

set_option maxHeartbeats 2000000
namespace L2.Lr
open PySem PySem.Spec PyProof.Rows LR
/-! ### str.replace with the count 1 -/
open Builtin Builtin.Str in
theorem gives_replace1 (x y z : Str) (t u v c : Tok)
    (hf : ((occurrences x y 0 x.length 1).isEmpty || (y.length == 0 && z.length == 0)) = false →
      (u == 0 || v == 0) = false ∧ (u == v) = false ∧ (y == z) = false ∧ tooLong (x.length + (occurrences x y 0 x.length 1).length * z.length) = false) :
    Gives («str.replace» ⟨[.str x t, .str y u, .str z v, .int 1 c], []⟩) (if ((occurrences x y 0 x.length 1).isEmpty || (y.length == 0 && z.length == 0)) = true then .val (.str x t) else .str (glued z (partsBetween x (occurrences x y 0 x.length 1) y.length))) := by
  have h1 : («str.replace» ⟨[.str x t, .str y u, .str z v, .int 1 c], []⟩ : Sem Fin) = (do
      let limit ← countLimit "str.replace" (some (.int 1 c)) (x.length + 1)
      if ((occurrences x y 0 x.length limit).isEmpty || (y.length == 0 && z.length == 0)) = true then (do rule "str.replace.nothing"; ret (.str x t)) else
          (do let same ← isSame (.str y u) (.str z v)
              if same = true then (do rule "str.replace.old-is-new"; ret (.str x t)) else
              if tooLong (x.length + (occurrences x y 0 x.length limit).length * z.length) = true then unsupported "str.replace:memory" else
              retStr (glued z (partsBetween x (occurrences x y 0 x.length limit) y.length)))) := rfl
  rw [h1, countLimit_int "str.replace" 1 c (x.length + 1) (by decide)]
  show Gives (if ((occurrences x y 0 x.length 1).isEmpty || (y.length == 0 && z.length == 0)) = true then (do rule "str.replace.nothing"; ret (.str x t)) else
          (do let same ← isSame (.str y u) (.str z v)
              if same = true then (do rule "str.replace.old-is-new"; ret (.str x t)) else
              if tooLong (x.length + (occurrences x y 0 x.length 1).length * z.length) = true then unsupported "str.replace:memory" else
              retStr (glued z (partsBetween x (occurrences x y 0 x.length 1) y.length)))) _
  cases hc : ((occurrences x y 0 x.length 1).isEmpty || (y.length == 0 && z.length == 0))
  · obtain ⟨h0, huv, hyz, hl⟩ := hf hc
    rw [isSame_str_other y z u v h0 huv hyz, hl]
    exact .of_eq rfl
  · exact .rule (.of_eq rfl)
open Builtin Builtin.Str in
theorem sc_replace1 {prog : Program} {w : World} {A : Around} {E : Value → Shared → Prop} {s : Shared} {x y z : Str} {t u v c : Tok} {Q : Value → Shared → Prop} (hu : u ≠ 0) (hv : v ≠ 0) (huv : u ≠ v) (hyz : (y == z) = false) (hb : x.length + z.length ≤ 16777216)
    (hq : ∀ (r : Str) t' k, r.length ≤ x.length + z.length → Q (.str r t') { s with toks := k }) : wpAny (model prog w) A (call (.builtin "str.replace") [.str x t, .str y u, .str z v, .int 1 c]) Q E s := by
  have h1 := StrLaws.occ_length_le x y 0 x.length 1
  have h2 : (occurrences x y 0 x.length 1).length * z.length ≤ z.length := by
    have := Nat.mul_le_mul_right z.length h1
    omega
  have hl : tooLong (x.length + (occurrences x y 0 x.length 1).length * z.length) = false := by
    unfold tooLong sizeLine
    exact decide_eq_false (by have e : (2 : Nat) ^ 24 = 16777216 := by decide
                              omega)
  have hlen : (glued z (partsBetween x (occurrences x y 0 x.length 1) y.length)).length ≤ x.length + z.length := by
    have hy : (glued y (partsBetween x (occurrences x y 0 x.length 1) y.length)).length = x.length := by rw [StrLaws.glued_between_self]
    rw [size_glued, length_partsBetween, Nat.add_sub_cancel] at hy
    rw [size_glued, length_partsBetween, Nat.add_sub_cancel]
    omega
  refine call_gives F.slot_str_replace (typeIs_str _ _ _) F.entry_str_replace (F.args_str_replace_4 _ _ _ _)
    (gives_replace1 x y z t u v c fun _ => ⟨by simp [hu, hv], by simp [huv], hyz, hl⟩) ?_
  cases hc : ((occurrences x y 0 x.length 1).isEmpty || (y.length == 0 && z.length == 0))
  · simp only [Bool.false_eq_true, if_false]
    exact ⟨by rw [sizeLine_eq]; omega, hq _ _ _ hlen⟩
  · simp only [if_true]
    exact hq x t s.toks (by omega)
section
variable {prog : Program} {w : World} {A : Around} {E : Value → Shared → Prop} {s : Shared} {env : Env}
theorem Call_method3 {o e₁ e₂ e₃ : Expr} {name : Str} {apos pos : Pos} {Q : Value → Shared → Prop}
    (hbase : attributeBase o name env (eval o env) = eval o env) (hs : starEach [e₁, e₂, e₃] env = [(false, eval e₁ env), (false, eval e₂ env), (false, eval e₃ env)]) (hline : (apos.endLine == pos.line) = true)
    (h : wpAny (model prog w) A (eval o env) (fun ov s₁ => MethodOnS prog w A E name ov pos [(false, eval e₁ env), (false, eval e₂ env), (false, eval e₃ env)] Q s₁) E s) :
    wpAny (model prog w) A (eval (.Call (.Attribute o name apos) [e₁, e₂, e₃] [] pos) env) Q E s := by
  refine wpAny_Call_method_lateS hbase (by rw [hs]; rfl) hline ?_
  rw [hs]; exact h
end
def tRepl1 (to : TE) (z : Str) : TE := fun σ H Q => to σ H fun v H1 => ∃ x, v = .str x ∧ x.length + z.length ≤ 16777216 ∧ ∀ r : Str, r.length ≤ x.length + z.length → Q (.str r) H1
section
variable {X : Cx} {o e f : Expr} {te tf to : TE} {y z : Str} {j k l : Nat} {c0 c1 c2 apos pos p p' : Pos}
theorem pet_repl1 (ho : PE X o to) (hyz : (y == z) = false := by decide)
    (hst : starEach [.Constant (.str y) j c0, .Constant (.str z) k c1, .Constant (.int 1) l c2] X.env = [(false, eval (.Constant (.str y) j c0) X.env), (false, eval (.Constant (.str z) k c1) X.env), (false, eval (.Constant (.int 1) l c2) X.env)] := by rfl)
    (hbase : attributeBase o "replace" X.env (eval o X.env) = eval o X.env := by rfl) (hline : (apos.endLine == pos.line) = true := by rfl) :
    PET X (.Call (.Attribute o "replace" apos) [.Constant (.str y) j c0, .Constant (.str z) k c1, .Constant (.int 1) l c2] [] pos) (tRepl1 to z) := by
  intro pins s σ H Q h0 I h
  refine Call_method3 hbase hst hline (wpAny_mono (PySem.wpAny_toks (ho.run pins s σ H _ I h)) (fun v s1 q => ?_) fun _ _ z => z.2)
  obtain ⟨hk, v', H1, I1, r1, x, e1, hb, q⟩ := q
  subst e1
  obtain ⟨tx, e2⟩ := r1
  subst e2
  refine ⟨"str", _, PySem.F.plainAttrs_str, PySem.F.slot_str_replace, PySem.F.type_str_replace, typeIs_str _ _ _, (fun _ e => nomatch e), Calls.callWith_builtin rfl (Calls.evalArgs_plain (Calls.spliced_cons ?_))⟩
  refine Calls.Constant_str (Calls.spliced_cons (Calls.Constant_str (Calls.spliced_cons (wpAny_Constant_int (Calls.spliced_nil ?_)))))
  exact sc_replace1 (by show s1.toks ≠ 0; omega) (by show s1.toks + 1 ≠ 0; omega) (by show s1.toks ≠ s1.toks + 1; omega) hyz hb fun r t' k hr => ⟨.str r, H1, I1.tok k, ⟨t', rfl⟩, q r hr⟩
/-! ### one token is given out for certain -/
def PEO (X : Cx) (e : Expr) (t : TE) : Prop :=
  ∀ (pins : List (Addr × Obj)) (s : Shared) (σ : St) (H : Hp) (Q : VK), Inv X pins σ H s → t σ H Q → wpAny (model X.prog X.w) X.A (eval e X.env) (fun v s' => 1 ≤ s'.toks ∧ EP X pins σ Q v s') X.xe s
def PAO (X : Cx) (es : List Expr) (t : TA) : Prop :=
  ∀ (pos : Pos) (pins : List (Addr × Obj)) (s : Shared) (σ : St) (H : Hp) (Q : List V → Hp → Prop), Inv X pins σ H s → t σ H Q → wpAny (model X.prog X.w) X.A (spliced (backTo pos (starEach es X.env))) (fun us s' => 1 ≤ s'.toks ∧ AP X pins σ Q us s') X.xe s
theorem peo_str : PEO X (.Constant (.str y) j p) (tC (.str y)) := fun pins s σ H Q I h => Calls.Constant_str ⟨by show 1 ≤ s.toks + 1; omega, .str y, H, I.tok _, ⟨_, rfl⟩, h⟩
/-- o.m(e), o giving one out -/
theorem peo_m1 {id : String} {name : Str} {r : V → List V → Hp → VK → Prop} (slot : Slot "str" name id) (ty : typeOf (.builtin id) = pure (.type "method_descriptor")) (rule : MtR X id r) (ho : PEO X o to) (he : PE X e te)
    (hs : starEach [e] X.env = [(false, eval e X.env)] := by rfl) (hbase : attributeBase o name X.env (eval o X.env) = eval o X.env := by rfl) (hline : (apos.endLine == pos.line) = true := by rfl) :
    PEO X (.Call (.Attribute o name apos) [e] [] pos) (tM1 r to te) := by
  intro pins s σ H Q I h
  refine PySem.Call_method1 hbase hs hline (wpAny_mono (ho pins s σ H _ I h) (fun v s1 q => ?_) fun _ _ z => z)
  obtain ⟨hk, x, H1, I1, r1, q1⟩ := q
  obtain ⟨⟨a, rfl⟩, q1⟩ := q1
  obtain ⟨t, rfl⟩ := _root_.id r1
  refine ⟨"str", _, F.plainAttrs_str, slot, ty, typeIs_str _ _ _, (fun _ e => nomatch e), Calls.callWith_builtin rfl (Calls.evalArgs_plain (Calls.spliced_cons ?_))⟩
  refine wpAny_mono (PySem.wpAny_toks (he.run pins s1 σ H1 _ I1 q1)) (fun u s2 q => ?_) fun _ _ z => z.2
  obtain ⟨hk2, y, H2, I2, r2, q2⟩ := q
  refine Calls.spliced_nil (wpAny_mono (PySem.wpAny_toks (rule pins s2 σ H2 _ [y] _ [u] Q I2 r1 (.cons r2 .nil) q2)) (fun v s3 q => ⟨?_, q.2⟩) fun _ _ z => z.2)
  exact Nat.le_trans hk (Nat.le_trans hk2 q.1)
theorem pao_cons {es : List Expr} {ta : TA} (ha : PEO X e te) (hr : PAT X es ta) (hs : starEach (e :: es) X.env = (false, eval e X.env) :: starEach es X.env := by rfl) : PAO X (e :: es) (tCons te ta) := by
  intro pos pins s σ H Q I h
  rw [hs]
  show wpAny _ _ (spliced ((false, eval e X.env) :: backTo pos (starEach es X.env))) _ _ s
  refine Calls.spliced_cons (wpAny_mono (ha pins s σ H _ I h) (fun v s1 q => ?_) fun _ _ z => z)
  obtain ⟨hk, x, H1, I1, r1, q1⟩ := q
  refine wpAny_mono (PySem.wpAny_toks (hr pos pins s1 σ H1 _ hk I1 q1)) (fun us s2 q => ?_) fun _ _ z => z.2
  obtain ⟨hk2, xs, H2, I2, r2, q2⟩ := q
  exact ⟨Nat.le_trans hk hk2, x :: xs, H2, I2, .cons r1 r2, q2⟩
theorem peo_lst {es : List Expr} {ta : TA} (h : PAO X es ta) : PEO X (.List es pos) (tLst ta) := by
  intro pins s σ H Q I hq
  refine wpAny_List_spliced (thn (h pos pins s σ H _ I hq) fun us s1 ⟨hk, xs, H1, I1, r, z, q⟩ => ⟨by rw [← r.length]; exact z, ?_⟩)
  have hf : H1 s1.heap.objs.size = none := I1.hok.fresh (Nat.le_refl _)
  refine ⟨hk, .ref s1.heap.objs.size, upd H1 s1.heap.objs.size (.lst xs), I1.laid (t' := s1.toks) (fun b u e => Heap.get?_push_of_some _ e) (Nat.le_refl _) ?_, rfl, q _ hf⟩
  exact ⟨z, us, 0, r, Heap.get?_push_size _ rfl⟩
/-- a op b, b giving one out -/
theorem peo_op {op : Operator} {r : R2} (ho : OpR X (binaryOp op) r) (ha : PE X e te) (hb : PEO X f tf) : PEO X (.BinOp e op f pos) (tOp r te tf) := by
  intro pins s σ H Q I h
  refine wpAny_BinOp (thn (ha.run pins s σ H _ I h) fun v s1 ⟨x, H1, I1, r1, q1⟩ => ?_)
  refine thn (hb pins s1 σ H1 _ I1 q1) fun u s2 ⟨hk, y, H2, I2, r2, q2⟩ => ?_
  exact wpAny_mono (PySem.wpAny_toks (ho pins s2 σ H2 x y v u Q I2 r1 r2 q2)) (fun v s3 q => ⟨Nat.le_trans hk q.1, q.2⟩) fun _ _ z => z.2
/-- x = e, e giving one out: behind it a token is out -/
theorem pss_outset {i : Nat} {x : Str} {pos' : Pos} {rest : List Stmt} {u : TS} (hN : X.N.Nodup) (hi : X.N[i]? = some x) (hx : Loc X.env.scope x) (he : PEO X e te) (h2 : PSsT X rest u)
    (hs : swapsWith e (some (.Name x pos')) pos.line X.env = pure false := by rfl) (hf : X.fn x = true ∨ X.env.scope.names.lookup x = some .local := by first | exact .inl rfl | exact .inr rfl | assumption) :
    PSs X (.Assign [.Name x pos'] e pos :: rest) (tSeq (tAsg te (gName i)) u) := by
  refine ⟨fun pins s σ H D I h => ?_⟩
  refine wpAny_execs_cons (wpAny_Assign_Name (thn (he pins s σ H _ I h) fun v s1 ⟨hk, x1, H1, I1, r1, q1⟩ => ?_) hs)
  refine wpAny_mono (PySem.wpAny_toks (store_ok (v := x1) (u := v) (Q := fun _ s2 => Inv X pins (σ.set i (some x1)) H1 s2) I1 hN hi hx r1 (fun _ I2 => I2) hf)) (fun _ s2 q => ?_) fun _ _ z => z.2
  exact h2 pins s2 _ H1 D (Nat.le_trans hk q.1) q.2 q1
theorem pat_of {es : List Expr} {ta : TA} (h : PA X es ta) : PAT X es ta := fun pos pins s σ H Q _ I q => h.run pos pins s σ H Q I q
end
end L2.Lr

set_option maxHeartbeats 2000000
namespace L2.L87
open PySem PySem.Spec PyProof.Rows NumText LR L2.Lr L2.Tx TL SkE
local macro_rules | `(tactic| walk_at "nx") => `(tactic| dsimp only [gName, tNext, tSeq, tAsg, List.set_cons_zero, List.set_cons_succ])
abbrev NL : List Str := ["_law_script", "_law_k", "_law_pool_here", "_law_text", "_law_thing"]
theorem scla : FnScope NL ["_law_script"] (defScope sLaw) := ⟨rfl, rfl, rfl, by decide +kernel, rfl, by decide +kernel, by decide +kernel⟩
/-- a op b, where a gives out a token and b wants one -/
theorem pt_cmpO {X : Cx} {a b : Expr} {ta tb : TE} {pos : Pos} {op : CmpOp} {r : R2} (ho : OpR X (compareOp op) r) (ha : PEO X a ta) (hb : PET X b tb) (hm : behindInMarks op b = false) : PT X (.Compare a [op] [b] pos) (tTest (tOp r ta tb)) := by
  refine ⟨fun pins s σ H Q I h => ?_⟩
  refine wpAny_isTrue_Compare1 (thn (ha pins s σ H _ I h) fun v s1 ⟨hk, x, H1, I1, r1, q1⟩ => thn (hb pins s1 σ H1 _ hk I1 q1) fun u s2 ⟨y, H2, I2, r2, q2⟩ =>
    thn (ho pins s2 σ H2 x y v u _ I2 r1 r2 q2) fun c s3 ⟨z, H3, I3, r3, k, e, q3⟩ => ?_) hm
  subst e
  cases r3
  exact wpAny_truthy_bool ⟨H3, I3, q3⟩
def things : List PyData := [.none, .int 5, .list [.str "undo"], .tuple []]
theorem things_no : (things.all fun d => !isStr d) = true := by decide +kernel
def spLaw (K : PySem.W.Frag) : Sp := fun vs H Q _ => ∃ (a : Addr) (ns : List Int), vs = [.ref a] ∧ SqL K H a (ns.map V.int) ∧ ns.length ≤ 63 ∧ ∀ H', Q (.bl true) H'
theorem evs_gd {ev : Str → PyData} (h : ∀ t, Low t → Gd 17 (ev t)) {t : Str} (low : Low t) : ∀ d ∈ evs ev t, Gd 17 d := fun d hd => by
  obtain ⟨l, hl, rfl⟩ := List.mem_map.mp hd
  exact h l (low.split (y := nlS) (c := 10) rfl (by decide) l (List.dropLast_subset _ hl))
theorem jdg_inl {ev : Str → PyData} {t : Str} {es : List PyData} (h : jdg ev t = .inl es) : es = evs ev t := by
  unfold jdg at h
  split at h
  · cases h
  · split at h
    · injection h with h; exact h.symm
    · cases h
theorem jdg_sh {ev : Str → PyData} (hg : ∀ t, Low t → Gd 17 (ev t)) {t : Str} {es : List PyData} (low : Low t) (h : jdg ev t = .inl es) : SeqAt.shaped (.list es) = true := by
  rw [jdg_inl h]
  exact Gd.shapedL (by omega) (evs_gd hg low)
structure Dfs (P : Program) (w : World) (K : PySem.W.Frag) (mg : Str → Option Value) (base : Heap) (k : Nat) (fP fL fT fR fD : Addr) (xP xL xT xR xD : FuncData) : Prop where
  dP : Def P w K mg base CX0 1 "_law_pool" fP xP ["_law_script", "_law_k"] (spPool K)
  dL : Def P w K mg base CX0 2 "_law_lines" fL xL ["_law_pool_here"] (spLLines K)
  dT : Def P w K mg base CX0 2 "_law_texts" fT xT ["_law_pool_here", "_law_lines_here"] (spLTexts K)
  dR : Def P w K mg base CX0 k "_law_read" fR xR ["_law_text"] (spLRead K)
  dD : Def P w K mg base CX0 4 "_law_due" fD xD ["_law_text"] (spLDue K)
section
variable {P : Program} {w : World} {K : PySem.W.Frag} {mg : Str → Option Value} {base : Heap}
theorem ok_law {f : Addr} {fd : FuncData} (F : FnP K "law" sLaw f fd) (T : Txt K mg) {k0 : Nat} (h4 : 4 ≤ k0) {fP fL fT fR fD : Addr} {xP xL xT xR xD : FuncData} (D : Dfs P w K mg base k0 fP fL fT fR fD xP xL xT xR xD) :
    FnQ P w K mg base CX0 (k0 + 1) f fd ["_law_script"] (spLaw K) := by
  refine FnQ.of F scla (fun vs H Q E h => ?_) (fun cdv A outer s H vs Q E qA hr h => ?_)
  · obtain ⟨a, ns, rfl, _⟩ := h
    rfl
  · obtain ⟨a, ns, rfl, hS, hl, q⟩ := h
    have hu := hr.units
    have sz : sizeLine = 16777216 := sizeLine_eq
    have hr4 : Room 4 _ := hr.mono h4
    have hr2 : Room 2 _ := hr4.mono (by decide)
    have hr1 : Room 1 _ := hr4.mono (by decide)
    refine ⟨_, PSs.nox (C8.pss_cut (ps_for PassesOwn.never rfl (pi_range1 (by rfl) T.range (pa_cons (pe_callB (call_max2 rfl) (by rfl) T.max boot_max (pa_cons pe_int (pa_cons (pe_callB (call_min2 rfl) (by rfl) T.min boot_min (pa_cons (pe_callB call_len (by rfl) T.p.len boot_len (pa_cons (pv 0) pa_nil)) (pa_cons pe_int pa_nil))) pa_nil))) pa_nil)) (pg_name (i := 1) scla.nd rfl (Or.inl rfl))
        (pss_cons (ps_set (i := 2) scla.nd rfl (Or.inl rfl) (pe_call D.dP.ok hr1 (by rfl) D.dP.g D.dP.k D.dP.b .nil pass0 (pa_cons (pv 0) (pa_cons (pv 1) pa_nil))))
        (C8.pss_cut (ps_for PassesOwn.never rfl (pi_list (pe_call D.dT.ok hr2 (by rfl) D.dT.g D.dT.k D.dT.b .nil pass0 (pa_cons (pv 2) (pa_cons (pe_call D.dL.ok hr2 (by rfl) D.dL.g D.dL.k D.dL.b .nil pass0 (pa_cons (pv 2) pa_nil)) pa_nil)))) (pg_name (i := 3) scla.nd rfl (Or.inl rfl))
          (pss_one (ps_if (pt_cmpO op_in_str peo_str (CwR.pet_replT (CwR.pet_replC (pv 3))) (by rfl))
            (pss_one (ps_if (PW.pt (pw_and (pt_cmpR (op_neDK K rfl hu) (pe_call D.dR.ok hr (by rfl) D.dR.g D.dR.k D.dR.b .nil pass0 (pa_cons (pv 3) pa_nil)) (pe_call D.dD.ok hr4 (by rfl) D.dD.g D.dD.k D.dD.b .nil pass0 (pa_cons (pv 3) pa_nil)) (nomark _)) (pw_and1 (pt_val (pe_isD T.p.isn (pe_call D.dD.ok hr4 (by rfl) D.dD.g D.dD.k D.dD.b .nil pass0 (pa_cons (pv 3) pa_nil)) (pe_bltn (by rfl) T.list bbL (by rfl)) (by rfl)))))) (pss_one (ps_ret pe_bl)) pss_nil))
            (pss_one (ps_if (pt_cmpR (op_neDK K rfl hu) (pe_call D.dR.ok hr (by rfl) D.dR.g D.dR.k D.dR.b .nil pass0 (pa_cons (pv 3) pa_nil)) (pe_call D.dD.ok hr4 (by rfl) D.dD.g D.dD.k D.dD.b .nil pass0 (pa_cons (pv 3) pa_nil)) (nomark _)) (pss_one (ps_ret pe_bl)) pss_nil)))))
        (pss_one (ps_for PassesOwn.never rfl (pi_list (pd_lstL (ds := things) (pd_cons pd_non (pd_cons pd_int (pd_cons (pd_lst (pd_cons pd_str pd_nil)) (pd_cons (pd_tup pd_nil) pd_nil)))))) (pg_name (i := 4) scla.nd rfl (Or.inl rfl))
          (pss_one (ps_if (pt_cmpR op_ne (pe_call D.dR.ok hr (by rfl) D.dR.g D.dR.k D.dR.b .nil pass0 (pa_cons (pv 4) pa_nil)) pe_int (nomark _)) (pss_one (ps_ret pe_bl)) pss_nil)))))))
      (pss_one (ps_ret pe_bl))), ?_⟩
    have e0 : start NL [V.ref a] = [some (.ref a), none, none, none, none] := rfl
    rw [e0]
    refine ⟨fun σ' H' => True, ?_, fun σ' H' _ => q H'⟩
    refine ⟨_, rfl, _, (ns.map V.int).length, rfl, Or.inl ⟨_, hS, rfl⟩, _, _, rfl, _, _, rfl, _, rfl, ?_, ?_, ?_⟩
    · split <;> split <;> omega
    · split <;> split <;> omega
    refine for_rangeD (lo := 0) (fun i σ H' => Same H H' ∧ ∃ o2 o3 o4, ∃ o1 : Option V, σ = [some (.ref a), o1, o2, o3, o4]) ⟨Same.refl H, none, none, none, none, rfl⟩ ?_ (fun σ H' _ => trivial)
    rintro D1 k σ H1 hrt hnx - - hk ⟨e1, o2, o3, o4, o1, rfl⟩
    have hk8 : k < 8 := by
      revert hk
      split <;> split <;> omega
    refine ⟨_, rfl, _, rfl, a, ns, 0 + (k : Int), rfl, e1.seq hS, by omega, by omega, by omega, fun pp H2 np s2 hp2 => ?_⟩
    walk_at "nx"
    refine ⟨fun σ' H' => ∃ o3, σ' = [some (.ref a), some (.int (0 + (k : Int))), some (.ref pp), o3, o4] ∧ Same H1 H', ?_, ?_⟩
    · refine ⟨_, rfl, _, rfl, pp, rfl, hp2, fun ln ss H3 a3 hp3 hln nlp n4 tss => ?_⟩
      refine ⟨pp, ln, ss, rfl, hp3, hln, nlp, n4, tss, fun tx ts H4 a4 hp4 htx ntp n100 tts => ?_⟩
      have s14 : Same H1 H4 := Adv.new np (Same.adv s2 (a3.trans a4))
      refine ⟨tx, rfl, ⟨_, SqL.of htx⟩, for_listD (K := K) (a := tx) (xs := ts.map V.str) (fun i σ H' => Same H4 H' ∧ ∃ o3, σ = [some (.ref a), some (.int (0 + (k : Int))), some (.ref pp), o3, o4]) ⟨Same.refl _, o3, rfl⟩ (fun i σ H' _ p => SqL.of (p.1 _ _ htx)) ?_ ?_⟩
      · rintro D' i v σ H5 hrt' hnx' - - hi ⟨s5, o3', rfl⟩
        obtain ⟨t, ht, rfl⟩ : ∃ x, ts[i]? = some x ∧ v = .str x := by
          rw [List.getElem?_map] at hi
          cases hx : ts[i]? with
          | none => rw [hx] at hi; cases hi
          | some x => rw [hx] at hi; exact ⟨x, rfl, (Option.some.inj hi).symm⟩
        obtain ⟨low, lt⟩ := tts t (List.mem_of_getElem? ht)
        have go : ∀ H', Same H5 H' → D'.nx [some (.ref a), some (.int (0 + (k : Int))), some (.ref pp), some (.str t), o4] H' := fun H' s' => hnx' _ _ ⟨s5.trans s', _, rfl⟩
        have r1 := TK.replace_len t p1 Str.empty
        have r2 := TK.replace_len (PySem.Txt.replace t p1 Str.empty) p2 Str.empty
        have z0 : Str.empty.length = 0 := rfl
        rw [z0] at r1 r2
        have eL : ∀ es, PyData.eqv (.list es) (.list es) = true ∨ SeqAt.shaped (.list es) = false := fun es => by
          cases hs : SeqAt.shaped (.list es) with
          | false => exact .inr rfl
          | true => exact .inl (SeqAt.eqv_refl _ (SeqAt.canLay_of_shaped hs))
        walk_at "nx"
        refine ⟨_, rfl, t, rfl, by show t.length + (t.length + 1) * 0 ≤ _; omega, _, rfl, by show (PySem.Txt.replace t p1 Str.empty).length + ((PySem.Txt.replace t p1 Str.empty).length + 1) * 0 ≤ _; omega, "row", red t, rfl, rfl, _, rfl, ?_⟩
        show (if rowIn (red t) = true then _ else _)
        cases hrow : rowIn (red t) with
        | true =>
          refine iteT ?_
          refine ⟨_, rfl, .str t, .str t, rfl, .str t, .inr ⟨t, rfl, low, lt, fun es e r xs H6 s6 hr6 hx6 => ?_, fun i6 e H6 s6 => ?_⟩⟩
          · refine ⟨_, rfl, t, rfl, low, lt, fun es2 e2 r2' xs2 H7 s7 hr7 hx7 => ?_, fun i7 e7 H7 s7 => ?_⟩
            · have ee := jdg_takes e2
              rw [e] at ee
              injection ee with ee
              subst ee
              have sh := jdg_sh (fun _ h => Gd.evL h) low e2
              have eq1 := SeqAt.eqv_refl _ (SeqAt.canLay_of_shaped sh)
              refine ⟨.list es, .list es, .lst (SqL.of (s7 _ _ hr6)) (DpAll.same s7 hx6), .lst (SqL.of hr7) hx7, sh, sh, _, rfl, ?_⟩
              rw [eq1]
              exact iteF (go _ (s6.trans s7))
            · refine ⟨.list es, .int (i7 : Int), .lst (SqL.of (s7 _ _ hr6)) (DpAll.same s7 hx6), .int _, jdg_sh (fun _ h => Gd.evO h) low e, rfl, _, rfl, ?_⟩
              refine iteT ⟨_, rfl, t, rfl, low, lt, (fun es2 e2 => by rw [e7] at e2; cases e2), fun i8 e8 H8 s8 => ?_⟩
              exact ⟨_, _, .int _, (by decide +kernel : kitB "int" "list" = some false), _, rfl, go _ (s6.trans (s7.trans s8))⟩
          · refine ⟨_, rfl, t, rfl, low, lt, fun es2 e2 r2' xs2 H7 s7 hr7 hx7 => ?_, fun i7 e7 H7 s7 => ?_⟩
            · rw [jdg_takes e2] at e
              cases e
            · refine ⟨.int (i6 : Int), .int (i7 : Int), .int _, .int _, rfl, rfl, _, rfl, ?_⟩
              by_cases hne : (!PyData.eqv (.int (i6 : Int)) (.int (i7 : Int))) = true
              · rw [hne]
                refine iteT ⟨_, rfl, t, rfl, low, lt, (fun es2 e2 => by rw [e7] at e2; cases e2), fun i8 e8 H8 s8 => ?_⟩
                exact ⟨_, _, .int _, (by decide +kernel : kitB "int" "list" = some false), _, rfl, go _ (s6.trans (s7.trans s8))⟩
              · rw [Bool.not_eq_true _ |>.mp hne]
                exact iteF (go _ (s6.trans s7))
        | false =>
          have ej := jdg_clean hrow
          refine iteF ?_
          refine ⟨_, rfl, .str t, .str t, rfl, .str t, .inr ⟨t, rfl, low, lt, fun es e r xs H6 s6 hr6 hx6 => ?_, fun i6 e H6 s6 => ?_⟩⟩
          · refine ⟨_, rfl, t, rfl, low, lt, fun es2 e2 r2' xs2 H7 s7 hr7 hx7 => ?_, fun i7 e7 H7 s7 => ?_⟩
            · rw [← ej, e] at e2
              injection e2 with ee
              subst ee
              have sh := jdg_sh (fun _ h => Gd.evO h) low e
              have eq1 := SeqAt.eqv_refl _ (SeqAt.canLay_of_shaped sh)
              refine ⟨.list es, .list es, .lst (SqL.of (s7 _ _ hr6)) (DpAll.same s7 hx6), .lst (SqL.of hr7) hx7, sh, sh, _, rfl, ?_⟩
              rw [eq1]
              exact go _ (s6.trans s7)
            · rw [← ej, e] at e7
              cases e7
          · refine ⟨_, rfl, t, rfl, low, lt, fun es2 e2 r2' xs2 H7 s7 hr7 hx7 => ?_, fun i7 e7 H7 s7 => ?_⟩
            · rw [← ej, e] at e2
              cases e2
            · rw [← ej, e] at e7
              injection e7 with ee
              subst ee
              refine ⟨.int (i6 : Int), .int (i6 : Int), .int _, .int _, rfl, rfl, _, rfl, ?_⟩
              rw [show PyData.eqv (.int (i6 : Int)) (.int (i6 : Int)) = true from SeqAt.eqv_refl _ rfl]
              exact go _ (s6.trans s7)
      · rintro σ H5 ⟨s5, o3', rfl⟩
        exact ⟨o3', rfl, s14.trans s5⟩
    rintro σ' H5 ⟨o3', rfl, s5⟩
    intro lt vst H6 s6 hlt hdt
    have hlv := DpAll.length hdt
    refine ⟨lt, rfl, ⟨_, SqL.of hlt⟩, for_listD (K := K) (a := lt) (xs := vst) (fun i σ H' => Same H6 H' ∧ ∃ o4', σ = [some (.ref a), some (.int (0 + (k : Int))), some (.ref pp), o3', o4']) ⟨Same.refl _, o4, rfl⟩ (fun i σ H' _ p => SqL.of (p.1 _ _ hlt)) ?_ ?_⟩
    · rintro D' i v σ H7 hrt' hnx' - - hi ⟨s7, o4', rfl⟩
      obtain ⟨d, hdi, hd⟩ := DpAll.at hdt hi
      have hno : isStr d = false := by
        have z := List.all_eq_true.mp things_no d (List.mem_of_getElem? hdi)
        simpa using z
      walk_at "nx"
      refine ⟨_, rfl, v, d, rfl, Dp.same s7 hd, .inl ⟨hno, fun H8 s8 => ⟨rfl, _, rfl, ?_⟩⟩⟩
      exact iteNS rfl (hnx' _ _ ⟨s7.trans s8, _, rfl⟩)
    · rintro σ H7 ⟨s7, o4', rfl⟩
      exact hnx _ _ ⟨e1.trans (s5.trans (s6.trans s7)), _, _, _, _, rfl⟩
end
end L2.L87

set_option maxHeartbeats 0
namespace L2.L87
open PySem PySem.Spec PyProof.Rows LR L2.Lr
def insB (K : PySem.W.Frag) : Bool := He.eqO (PySem.W.findIn K (.ref (CR K)) "__class__") (some (some (.builtin "object.__class__"))) && (He.eqO (PySem.W.specialIn K (.builtin "object.__class__") "__get__") (some (some (.builtin "getset_descriptor.__get__"))) &&
  (decide (PySem.W.takesIn K (.builtin "object.__class__") = some true) && (decide (PySem.W.mroIn K (CR K) (.type "object") = some true) && decide (PySem.W.kitOne K (.ref (CR K)) (.ref (CR K)) = some true))))
def xtB (K : PySem.W.Frag) (x : Str) (C : Addr) : Bool := He.eqO (PySem.W.nsIn K mainGlobals x) (some (some (.ref C))) && (xcB K xV C && (He.eqO (PySem.W.findIn K (.ref C) "value") (some none) && (He.eqO (PySem.W.findIn K (.ref C) "__init__") (some (some (.ref (fV K)))) &&
  (decide (PySem.W.exmOne K (.ref C) (.ref C) = some true) && decide (PySem.W.kitOne K (.ref C) (.type "ValueError") = some true)))))
def dfA (K : PySem.W.Frag) : Addr := He.dflAt ("Row", some "__init__") 0 K
def fSt (K : PySem.W.Frag) : Addr := He.ma K (CR K) "__str__"
def frmB (K : PySem.W.Frag) : Bool := He.eqO (PySem.W.findIn K (.ref (CR K)) "__format__") (some (some (.builtin "object.__format__"))) && decide (PySem.W.mroIn K (CR K) (.type "object") = some true)
def chkB (K : PySem.W.Frag) : Bool := insB K && (xtB K "BadText" (CT K) && (xtB K "BadCount" (CC K) && (xtB K "BadRow" (CB K) && (xtB K "BadPlan" (CP K) && (dunB K (CR K) (fSt K) "__str__" && (frmB K && decide (PySem.W.typeIn K (.ref (fV K)) = some (.type "function"))))))))
def dF (x : Str) (st : Stmt) : He.DefD := ⟨(x, none), x, x, defArgs st, defBody st, defScope st, [], []⟩
def fn : List He.DefD := [⟨("RoomError", some "__init__"), "__init__", "RoomError.__init__", defArgs sRoom, defBody sRoom, defScope sRoom, [], []⟩, ⟨("Row", some "__init__"), "__init__", "Row.__init__", defArgs sIni, defBody sIni, defScope sIni, [.adr dfA], []⟩, ⟨("Row", some "__str__"), "__str__", "Row.__str__", defArgs sStr, defBody sStr, defScope sStr, [], []⟩, dF "figures_of" sFig, dF "is_word" sWord, dF "is_integer" sInt, dF "is_between" sBetw, dF "is_among" sAmong, dF "is_tuple_of" sTupOf, dF "is_count" sCount, dF "format_count" sForm, dF "_check_count" sChk, dF "_written" sWrit, dF "read_count" sRead, dF "_read_freely" sFree, dF "are_parts_of_row" sApr, dF "is_round" sRound, dF "_how_many" sHow, dF "_size_of" sSize, dF "_is_head" sHead, dF "_is_single" sSing, dF "_goes_on_last" sGoes, dF "_text_of" sTxt, dF "_text_of_part" sTxP, dF "is_room" sRoomQ, dF "is_change" sChange, dF "_are_different_words" sDiff, dF "parse_row" sParseR, dF "_parts_in" sPartsIn, dF "_pieces_of" sPieces, dF "_part_in" sPartIn, dF "_single_in" sSingIn, dF "is_event" sEvent, dF "is_told_event" sToldE, dF "line_of" sLineOf, dF "event_of" sEvOf, dF "_event_in" sEvIn, dF "_change_in" sChIn, dF "_row_in" sRowIn, dF "read_plan" sReadP, dF "_law_pool" sPool, dF "_law_take" sTake, dF "_law_is_word" sLWord, dF "_law_number" sLNum, dF "_law_row" sLRow, dF "_law_numbers" sLNums, dF "_law_named" sLNamed, dF "_law_event" sLEvent, dF "_law_due" sLDue, dF "_law_read" sLRead, dF "_law_lines" sLLines, dF "_law_wrong_lines" sLWrong, dF "_law_texts" sLTexts, dF "law" sLaw]
def fa : List He.Fa := [.glo "figures_of", .glo "is_word", .glo "is_integer", .glo "is_between", .glo "is_among", .glo "is_tuple_of", .glo "is_count", .glo "format_count", .glo "_check_count", .glo "_written", .glo "read_count", .glo "_read_freely", .glo "are_parts_of_row", .glo "is_round", .glo "_how_many", .glo "_size_of", .glo "_is_head", .glo "_is_single", .glo "_goes_on_last", .glo "_text_of", .glo "_text_of_part", .glo "is_room", .glo "is_change", .glo "_are_different_words", .glo "parse_row", .glo "_parts_in", .glo "_pieces_of", .glo "_part_in", .glo "_single_in", .glo "is_event", .glo "is_told_event", .glo "line_of", .glo "event_of", .glo "_event_in", .glo "_change_in", .glo "_row_in", .glo "read_plan", .glo "_law_pool", .glo "_law_take", .glo "_law_is_word", .glo "_law_number", .glo "_law_row", .glo "_law_numbers", .glo "_law_named", .glo "_law_event", .glo "_law_due", .glo "_law_read", .glo "_law_lines", .glo "_law_wrong_lines", .glo "_law_texts", .glo "law", .glo "Row", .cls "Row", .noat "Row" "parts", .noat "Row" "size", .mkr "Row", .int "LARGEST_NUMBER" (10 ^ 30), .int "MOST_PARTS" 60, .int "MOST_LOOPS" 4, .int "MOST_AT_ONCE" 9, .int "LONGEST_WORK" 99, .int "NO_ROW" 61, .int "LONGEST_WORD" 8, .int "LONGEST_TEXT_counts" 34, .int "LONGEST_TEXT_texts" 2640, .int "MOST_FIRST" 99, .int "LARGEST_ROOM" (10 ^ 200), .int "FIGURES_OF_NUMBER" 31, .int "FIGURES_OF_ROOM" 201, .str "FIGURES" "0123456789", .free "isinstance", .free "len", .free "int", .free "bool", .free "tuple", .free "str", .free "all", .free "list", .free "set", .free "enumerate", .free "range", .free "max", .free "min", .free "repr", .free "ValueError"]
abbrev RR : PySem.W.OpenRow := PySem.W.OpenLaw.row PySem.Challenge.rw_leastrooms_k87_plan_lines_judged
abbrev hk : PySem.W.Hook := hookE 5 chkB fa fn
def ob (s : PySem.W.SharedT) : Bool × He.AlD := obsEG 5 chkB fa fn (HandSHeadRun.getT s)
theorem ob_eq (s : PySem.W.SharedT) : ob s = hk.obs s.abs := obsEG_eq (HandSHeadRun.getT_eq s)
def looseS : List String := ["RoomError", "BadText", "BadCount", "BadRow", "BadPlan", "FIGURES", "figures_of", "LONGEST_WORD", "LARGEST_NUMBER", "is_word", "is_integer", "is_between", "is_among", "is_tuple_of", "LONGEST_TEXT_counts", "is_count", "format_count", "count_of", "_check_count", "_written", "read_count", "_read_freely", "MOST_PARTS", "MOST_LOOPS", "MOST_AT_ONCE", "LONGEST_WORK", "NO_ROW", "Row", "loop", "are_parts_of_row", "check_row", "is_round", "_row_of", "_how_many", "_size_of", "_is_head", "_is_single", "_goes_on_last", "_text_of", "_text_of_part", "MOST_FIRST", "LARGEST_ROOM", "is_room", "is_change", "_are_different_words", "LONGEST_TEXT_texts", "parse_row", "_parts_in", "_pieces_of", "_part_in", "_single_in", "FIGURES_OF_NUMBER", "FIGURES_OF_ROOM", "is_event", "is_told_event", "line_of", "event_of", "_event_in", "_change_in", "_row_in", "read_plan", "_law_pool", "_law_take", "_law_is_word", "_law_number", "_law_row", "_law_numbers", "_law_named", "_law_event", "_law_due", "_law_read", "_law_lines", "_law_wrong_lines", "_law_texts"]
def loose : List Str := looseS.map Str.ofString
theorem run (w : World) : HandSHeadRun.RunEq RR (PySem.W.view RR.prog [85]) hk ob 16000 loose w := by
  intro os
  kernel_rfl
end L2.L87

set_option maxHeartbeats 0
namespace L2.L87
open PySem PySem.Spec PyProof.Rows LR L2.Lr
theorem ini_binds {K : PySem.W.Frag} {f DFL : Addr} {fd : FuncData} (F : FunD K "__init__" "Row.__init__" (defArgs sIni) (defBody sIni) (defScope sIni) [.ref DFL] [] f fd) : Binds K fd ["self", "parts"] [] := by
  obtain ⟨ds, v, b⟩ := F.binds1 (ps := ["self", "parts"]) 2 1 (by simp) rfl fun T kV doc pm an cdv ct us its h1 h2 => match us, its, h1, h2 with
    | [a, b], [d], _, _ => ⟨_, rfl, rfl⟩
  cases v
  exact b
theorem xtB_ok {K : PySem.W.Frag} {h : Heap} {mg : Str → Option Value} {x : Str} {C : Addr} (X : K.In h) (G : h.Ns mainGlobals mg) (q : xtB K x C = true) : Xt K mg x C := by
  obtain ⟨x1, q⟩ := He.ba q
  obtain ⟨x2, q⟩ := He.ba q
  obtain ⟨x3, q⟩ := He.ba q
  obtain ⟨x4, q⟩ := He.ba q
  obtain ⟨x5, x6⟩ := He.ba q
  exact ⟨PySem.W.mg_of X G (He.eqO_ok x1), xcB_ok x2, He.eqO_ok x3, He.eqO_ok x4, of_decide_eq_true x5, of_decide_eq_true x6⟩
theorem facts {P : Program} {w : World} {K : PySem.W.Frag} {h : Heap} {mg : Str → Option Value} {f : Addr} (X : K.In h) (G : h.Ns mainGlobals mg) (hfa : mg ("law" : Str) = some (.ref f)) (c : chkB K = true) (s : He.SaysD fa fn K) :
    ∃ fd : FuncData, (∀ (s : Shared) (v : Value), BindsTo s fd ⟨[v], []⟩ [("_law_script", v)]) ∧ ∀ base : Heap, K.In base → base.Ns mainGlobals mg → FnQ P w K mg base CX0 27 f fd ["_law_script"] (spLaw K) := by
  have g : ∀ (i : Nat) (x : Str), fa[i]? = some (.glo x) → mg x = some (.ref (He.ga K x)) := fun i x e => He.glo_ok X G (s.fact i (f := .glo x) e)
  obtain ⟨c1, c⟩ := He.ba c
  obtain ⟨c2, c⟩ := He.ba c
  obtain ⟨c3, c⟩ := He.ba c
  obtain ⟨c4, c⟩ := He.ba c
  obtain ⟨c5, c⟩ := He.ba c
  obtain ⟨c6, c⟩ := He.ba c
  obtain ⟨c8, c9⟩ := He.ba c
  obtain ⟨m1, m2⟩ := He.ba c8
  obtain ⟨i1, i⟩ := He.ba c1
  obtain ⟨i2, i⟩ := He.ba i
  obtain ⟨i3, i⟩ := He.ba i
  obtain ⟨i4, i5⟩ := He.ba i
  have cl : Cls K (CR K) := He.cls_ok (s.fact 52 (f := .cls "Row") rfl)
  have T0 : Prg mg := {
    isn := He.free_ok X G (s.fact 70)
    len := He.free_ok X G (s.fact 71)
    int := He.free_ok X G (s.fact 72)
    bool := He.free_ok X G (s.fact 73)
    tuple := He.free_ok X G (s.fact 74)
    str := He.free_ok X G (s.fact 75)
    far := He.int_ok X G (s.fact 56)
    most := He.int_ok X G (s.fact 57)
    deep := He.int_ok X G (s.fact 58)
    once := He.int_ok X G (s.fact 59)
    long := He.int_ok X G (s.fact 60)
    norow := He.int_ok X G (s.fact 61)
    }
  have T : Txt K mg := {
    p := T0
    all := He.free_ok X G (s.fact 76)
    list := He.free_ok X G (s.fact 77)
    set := He.free_ok X G (s.fact 78)
    enum := He.free_ok X G (s.fact 79)
    range := He.free_ok X G (s.fact 80)
    max := He.free_ok X G (s.fact 81)
    min := He.free_ok X G (s.fact 82)
    repr := He.free_ok X G (s.fact 83)
    vE := He.free_ok X G (s.fact 84)
    word := He.int_ok X G (s.fact 62)
    lonc := He.int_ok X G (s.fact 63)
    lont := He.int_ok X G (s.fact 64)
    first := He.int_ok X G (s.fact 65)
    lroom := He.int_ok X G (s.fact 66)
    fnum := He.int_ok X G (s.fact 67)
    froom := He.int_ok X G (s.fact 68)
    figs := He.str_ok X G (s.fact 69)
    xT := xtB_ok X G c2
    xC := xtB_ok X G c3
    xB := xtB_ok X G c4
    xP := xtB_ok X G c5
    tI := of_decide_eq_true c9
    gR := g 51 "Row" rfl
    cl := cl
    nP := He.noat_ok (s.fact 53 (f := .noat "Row" "parts") rfl)
    nS := He.noat_ok (s.fact 54 (f := .noat "Row" "size") rfl)
    ic := ⟨cl, He.eqO_ok i1, He.eqO_ok i2, of_decide_eq_true i3, of_decide_eq_true i4, of_decide_eq_true i5⟩ }
  have Mm : Mk K (CR K) (He.ma K (CR K) "__init__") := He.mkr_ok (s.fact 55 (f := .mkr "Row") rfl)
  obtain ⟨t2, hlw⟩ := T.word

  obtain ⟨x0, F0⟩ := s.def_ 0
  obtain ⟨x1, F1⟩ := s.def_ 1
  obtain ⟨x2, F2⟩ := s.def_ 2
  obtain ⟨x3, F3⟩ := s.def_ 3
  obtain ⟨x4, F4⟩ := s.def_ 4
  obtain ⟨x5, F5⟩ := s.def_ 5
  obtain ⟨x6, F6⟩ := s.def_ 6
  obtain ⟨x7, F7⟩ := s.def_ 7
  obtain ⟨x8, F8⟩ := s.def_ 8
  obtain ⟨x9, F9⟩ := s.def_ 9
  obtain ⟨x10, F10⟩ := s.def_ 10
  obtain ⟨x11, F11⟩ := s.def_ 11
  obtain ⟨x12, F12⟩ := s.def_ 12
  obtain ⟨x13, F13⟩ := s.def_ 13
  obtain ⟨x14, F14⟩ := s.def_ 14
  obtain ⟨x15, F15⟩ := s.def_ 15
  obtain ⟨x16, F16⟩ := s.def_ 16
  obtain ⟨x17, F17⟩ := s.def_ 17
  obtain ⟨x18, F18⟩ := s.def_ 18
  obtain ⟨x19, F19⟩ := s.def_ 19
  obtain ⟨x20, F20⟩ := s.def_ 20
  obtain ⟨x21, F21⟩ := s.def_ 21
  obtain ⟨x22, F22⟩ := s.def_ 22
  obtain ⟨x23, F23⟩ := s.def_ 23
  obtain ⟨x24, F24⟩ := s.def_ 24
  obtain ⟨x25, F25⟩ := s.def_ 25
  obtain ⟨x26, F26⟩ := s.def_ 26
  obtain ⟨x27, F27⟩ := s.def_ 27
  obtain ⟨x28, F28⟩ := s.def_ 28
  obtain ⟨x29, F29⟩ := s.def_ 29
  obtain ⟨x30, F30⟩ := s.def_ 30
  obtain ⟨x31, F31⟩ := s.def_ 31
  obtain ⟨x32, F32⟩ := s.def_ 32
  obtain ⟨x33, F33⟩ := s.def_ 33
  obtain ⟨x34, F34⟩ := s.def_ 34
  obtain ⟨x35, F35⟩ := s.def_ 35
  obtain ⟨x36, F36⟩ := s.def_ 36
  obtain ⟨x37, F37⟩ := s.def_ 37
  obtain ⟨x38, F38⟩ := s.def_ 38
  obtain ⟨x39, F39⟩ := s.def_ 39
  obtain ⟨x40, F40⟩ := s.def_ 40
  obtain ⟨x41, F41⟩ := s.def_ 41
  obtain ⟨x42, F42⟩ := s.def_ 42
  obtain ⟨x43, F43⟩ := s.def_ 43
  obtain ⟨x44, F44⟩ := s.def_ 44
  obtain ⟨x45, F45⟩ := s.def_ 45
  obtain ⟨x46, F46⟩ := s.def_ 46
  obtain ⟨x47, F47⟩ := s.def_ 47
  obtain ⟨x48, F48⟩ := s.def_ 48
  obtain ⟨x49, F49⟩ := s.def_ 49
  obtain ⟨x50, F50⟩ := s.def_ 50
  obtain ⟨x51, F51⟩ := s.def_ 51
  obtain ⟨x52, F52⟩ := s.def_ 52
  obtain ⟨x53, F53⟩ := s.def_ 53
  cases hfa.symm.trans (g 50 "law" rfl)
  have b := FunD.bindsA (ps := ["_law_script"]) F53 fun _ _ _ _ _ _ us hl => match us, hl with | [_], _ => rfl
  refine ⟨x53, fun s v => b s [v] rfl, fun base _ _ => ?_⟩
  have bI := ini_binds (DFL := dfA K) F1
  have Z : Rm P w K mg base x0 := ⟨ok_room F0, F0.bindsN fun _ _ _ _ _ _ us hl => match us, hl with | [_, _], _ => rfl⟩
  have Fg : Def P w K mg base CX0 1 "figures_of" _ x3 ["text", "most"] spFig := ⟨ok_fig F3 T, g 0 _ rfl, F3.kp, F3.bindsN fun _ _ _ _ _ _ us hl => match us, hl with | [_, _], _ => rfl⟩
  have Wd : Def P w K mg base CX0 1 "is_word" _ x4 ["thing"] (spWord K) := ⟨ok_word F4 T0 hlw, g 1 _ rfl, F4.kp, F4.bindsN fun _ _ _ _ _ _ us hl => match us, hl with | [_], _ => rfl⟩
  have In : Def P w K mg base CX0 1 "is_integer" _ x5 ["thing"] (spInt K) := ⟨ok_int F5 T0, g 2 _ rfl, F5.kp, F5.bindsN fun _ _ _ _ _ _ us hl => match us, hl with | [_], _ => rfl⟩
  have Bw : Def P w K mg base CX0 2 "is_between" _ x6 ["thing", "low", "high"] (spBetw K) := ⟨ok_betw F6 In, g 3 _ rfl, F6.kp, F6.bindsN fun _ _ _ _ _ _ us hl => match us, hl with | [_, _, _], _ => rfl⟩
  have Am : Def P w K mg base CX0 1 "is_among" _ x7 ["thing", "words"] (spAm K) := ⟨ok_among F7 T, g 4 _ rfl, F7.kp, F7.bindsN fun _ _ _ _ _ _ us hl => match us, hl with | [_, _], _ => rfl⟩
  have Tu : Def P w K mg base CX0 1 "is_tuple_of" _ x8 ["thing", "word", "many"] (spTupOf K) := ⟨ok_tupof F8 T, g 5 _ rfl, F8.kp, F8.bindsN fun _ _ _ _ _ _ us hl => match us, hl with | [_, _, _], _ => rfl⟩
  have Ct : Def P w K mg base CX0 3 "is_count" _ x9 ["thing"] (spCount K) := ⟨ok_count F9 T0 Bw, g 6 _ rfl, F9.kp, F9.bindsN fun _ _ _ _ _ _ us hl => match us, hl with | [_], _ => rfl⟩
  have Ck : Def P w K mg base CX0 4 "_check_count" _ x11 ["count"] (spCk0 K) := ⟨ok_ckc0 F11 T Ct, g 8 _ rfl, F11.kp, F11.bindsN fun _ _ _ _ _ _ us hl => match us, hl with | [_], _ => rfl⟩
  have Wt : Def P w K mg base CX0 1 "_written" _ x12 ["count"] (spWrit K) := ⟨ok_writ F12 T, g 9 _ rfl, F12.kp, F12.bindsN fun _ _ _ _ _ _ us hl => match us, hl with | [_], _ => rfl⟩
  have Fm : Def P w K mg base CX0 5 "format_count" _ x10 ["count"] (spFm0 K) := ⟨ok_fm0 F10 Ck Wt, g 7 _ rfl, F10.kp, F10.bindsN fun _ _ _ _ _ _ us hl => match us, hl with | [_], _ => rfl⟩
  have Fr : Def P w K mg base CX0 2 "_read_freely" _ x14 ["text"] (spFree K) := ⟨ok_free F14 T Fg, g 11 _ rfl, F14.kp, F14.bindsN fun _ _ _ _ _ _ us hl => match us, hl with | [_], _ => rfl⟩
  have Rd : Def P w K mg base CX0 4 "read_count" _ x13 ["text"] (spRead K) := ⟨ok_read F13 T Fr Ct Wt, g 10 _ rfl, F13.kp, F13.bindsN fun _ _ _ _ _ _ us hl => match us, hl with | [_], _ => rfl⟩
  have Rn : Def P w K mg base CX0 1 "is_round" _ x16 ["part"] (spRound K) := ⟨ok_round F16, g 13 _ rfl, F16.kp, F16.bindsN fun _ _ _ _ _ _ us hl => match us, hl with | [_], _ => rfl⟩
  have Hd : Def P w K mg base CX0 4 "_is_head" _ x19 ["part", "depth"] (spHead K) := ⟨ok_head F19 T0 Ct, g 16 _ rfl, F19.kp, F19.bindsN fun _ _ _ _ _ _ us hl => match us, hl with | [_, _], _ => rfl⟩
  have Sg : Def P w K mg base CX0 3 "_is_single" _ x20 ["part"] (spSing K) := ⟨ok_sing F20 T0 Bw Wd, g 17 _ rfl, F20.kp, F20.bindsN fun _ _ _ _ _ _ us hl => match us, hl with | [_], _ => rfl⟩
  have Gs : Def P w K mg base CX0 1 "_goes_on_last" _ x21 ["parts"] (spGoes K) := ⟨ok_goes F21 T, g 18 _ rfl, F21.kp, F21.bindsN fun _ _ _ _ _ _ us hl => match us, hl with | [_], _ => rfl⟩
  have S0 : Def P w K mg base CX0 5 "_size_of" _ x18 ["part", "depth"] (spSize K 0) := ⟨ok_size0 F18 T0 (k := 4) (by decide) Rn Hd Sg, g 15 _ rfl, F18.kp, F18.bindsN fun _ _ _ _ _ _ us hl => match us, hl with | [_, _], _ => rfl⟩
  have H0 : Def P w K mg base CX0 6 "_how_many" _ x17 ["parts", "depth"] (spHow K 0) := ⟨ok_how F17 T0 S0, g 14 _ rfl, F17.kp, F17.bindsN fun _ _ _ _ _ _ us hl => match us, hl with | [_, _], _ => rfl⟩
  have S1 : Def P w K mg base CX0 7 "_size_of" _ x18 ["part", "depth"] (spSize K 1) := ⟨ok_sizeS F18 T0 (k := 6) (by decide) Rn Hd Sg H0, g 15 _ rfl, F18.kp, F18.bindsN fun _ _ _ _ _ _ us hl => match us, hl with | [_, _], _ => rfl⟩
  have H1 : Def P w K mg base CX0 8 "_how_many" _ x17 ["parts", "depth"] (spHow K 1) := ⟨ok_how F17 T0 S1, g 14 _ rfl, F17.kp, F17.bindsN fun _ _ _ _ _ _ us hl => match us, hl with | [_, _], _ => rfl⟩
  have S2 : Def P w K mg base CX0 9 "_size_of" _ x18 ["part", "depth"] (spSize K 2) := ⟨ok_sizeS F18 T0 (k := 8) (by decide) Rn Hd Sg H1, g 15 _ rfl, F18.kp, F18.bindsN fun _ _ _ _ _ _ us hl => match us, hl with | [_, _], _ => rfl⟩
  have H2 : Def P w K mg base CX0 10 "_how_many" _ x17 ["parts", "depth"] (spHow K 2) := ⟨ok_how F17 T0 S2, g 14 _ rfl, F17.kp, F17.bindsN fun _ _ _ _ _ _ us hl => match us, hl with | [_, _], _ => rfl⟩
  have S3 : Def P w K mg base CX0 11 "_size_of" _ x18 ["part", "depth"] (spSize K 3) := ⟨ok_sizeS F18 T0 (k := 10) (by decide) Rn Hd Sg H2, g 15 _ rfl, F18.kp, F18.bindsN fun _ _ _ _ _ _ us hl => match us, hl with | [_, _], _ => rfl⟩
  have H3 : Def P w K mg base CX0 12 "_how_many" _ x17 ["parts", "depth"] (spHow K 3) := ⟨ok_how F17 T0 S3, g 14 _ rfl, F17.kp, F17.bindsN fun _ _ _ _ _ _ us hl => match us, hl with | [_, _], _ => rfl⟩
  have S4 : Def P w K mg base CX0 13 "_size_of" _ x18 ["part", "depth"] (spSize K 4) := ⟨ok_sizeS F18 T0 (k := 12) (by decide) Rn Hd Sg H3, g 15 _ rfl, F18.kp, F18.bindsN fun _ _ _ _ _ _ us hl => match us, hl with | [_, _], _ => rfl⟩
  have H4 : Def P w K mg base CX0 14 "_how_many" _ x17 ["parts", "depth"] (spHow K 4) := ⟨ok_how F17 T0 S4, g 14 _ rfl, F17.kp, F17.bindsN fun _ _ _ _ _ _ us hl => match us, hl with | [_, _], _ => rfl⟩
  have Ap : Def P w K mg base CX0 15 "are_parts_of_row" _ x15 ["thing"] (spApr K) := ⟨ok_apr F15 T (k := 14) (by decide) H4 Gs, g 12 _ rfl, F15.kp, F15.bindsN fun _ _ _ _ _ _ us hl => match us, hl with | [_], _ => rfl⟩
  have X0 : Def P w K mg base CX0 6 "_text_of_part" _ x23 ["part"] (spTxP K 0) := ⟨ok_txp0 F23 (k := 5), g 20 _ rfl, F23.kp, F23.bindsN fun _ _ _ _ _ _ us hl => match us, hl with | [_], _ => rfl⟩
  have Y0 : Def P w K mg base CX0 7 "_text_of" _ x22 ["parts"] (spTxt K 0) := ⟨ok_txt (by decide) F22 X0, g 19 _ rfl, F22.kp, F22.bindsN fun _ _ _ _ _ _ us hl => match us, hl with | [_], _ => rfl⟩
  have X1 : Def P w K mg base CX0 8 "_text_of_part" _ x23 ["part"] (spTxP K 1) := ⟨ok_txpS (n := 0) (by decide) F23 (k := 7) (by decide) Fm Y0, g 20 _ rfl, F23.kp, F23.bindsN fun _ _ _ _ _ _ us hl => match us, hl with | [_], _ => rfl⟩
  have Y1 : Def P w K mg base CX0 9 "_text_of" _ x22 ["parts"] (spTxt K 1) := ⟨ok_txt (by decide) F22 X1, g 19 _ rfl, F22.kp, F22.bindsN fun _ _ _ _ _ _ us hl => match us, hl with | [_], _ => rfl⟩
  have X2 : Def P w K mg base CX0 10 "_text_of_part" _ x23 ["part"] (spTxP K 2) := ⟨ok_txpS (n := 1) (by decide) F23 (k := 9) (by decide) Fm Y1, g 20 _ rfl, F23.kp, F23.bindsN fun _ _ _ _ _ _ us hl => match us, hl with | [_], _ => rfl⟩
  have Y2 : Def P w K mg base CX0 11 "_text_of" _ x22 ["parts"] (spTxt K 2) := ⟨ok_txt (by decide) F22 X2, g 19 _ rfl, F22.kp, F22.bindsN fun _ _ _ _ _ _ us hl => match us, hl with | [_], _ => rfl⟩
  have X3 : Def P w K mg base CX0 12 "_text_of_part" _ x23 ["part"] (spTxP K 3) := ⟨ok_txpS (n := 2) (by decide) F23 (k := 11) (by decide) Fm Y2, g 20 _ rfl, F23.kp, F23.bindsN fun _ _ _ _ _ _ us hl => match us, hl with | [_], _ => rfl⟩
  have Y3 : Def P w K mg base CX0 13 "_text_of" _ x22 ["parts"] (spTxt K 3) := ⟨ok_txt (by decide) F22 X3, g 19 _ rfl, F22.kp, F22.bindsN fun _ _ _ _ _ _ us hl => match us, hl with | [_], _ => rfl⟩
  have X4 : Def P w K mg base CX0 14 "_text_of_part" _ x23 ["part"] (spTxP K 4) := ⟨ok_txpS (n := 3) (by decide) F23 (k := 13) (by decide) Fm Y3, g 20 _ rfl, F23.kp, F23.bindsN fun _ _ _ _ _ _ us hl => match us, hl with | [_], _ => rfl⟩
  have Y4 : Def P w K mg base CX0 15 "_text_of" _ x22 ["parts"] (spTxt K 4) := ⟨ok_txt (by decide) F22 X4, g 19 _ rfl, F22.kp, F22.bindsN fun _ _ _ _ _ _ us hl => match us, hl with | [_], _ => rfl⟩
  have MR : RMk P w K mg base 16 (He.ma K (CR K) "__init__") x1 (fSt K) x2 := ⟨Mm, ok_row (DFL := dfA K) (dV := x0) F1 T (k := 14) (by decide) H4 Ap, bI, dunB_ok c6, ⟨He.eqO_ok m1, of_decide_eq_true m2⟩, ok_str F2 T Y4, F2.bindsN fun _ _ _ _ _ _ us hl => match us, hl with | [_], _ => rfl⟩
  have Rq : Def P w K mg base CX0 3 "is_room" _ x24 ["thing"] (spRoomQ K) := ⟨ok_roomq F24 T Bw, g 21 _ rfl, F24.kp, F24.bindsN fun _ _ _ _ _ _ us hl => match us, hl with | [_], _ => rfl⟩
  have Df : Def P w K mg base CX0 2 "_are_different_words" _ x26 ["thing"] (spDiff K) := ⟨ok_diff F26 T Wd, g 23 _ rfl, F26.kp, F26.bindsN fun _ _ _ _ _ _ us hl => match us, hl with | [_], _ => rfl⟩
  have Ch : Def P w K mg base CX0 16 "is_change" _ x25 ["thing"] (spChange K) := ⟨ok_change F25 T Tu Wd (k := 15) (by decide) Ap Df Bw, g 22 _ rfl, F25.kp, F25.bindsN fun _ _ _ _ _ _ us hl => match us, hl with | [_], _ => rfl⟩
  have Ev : Def P w K mg base CX0 4 "is_event" _ x32 ["thing"] (spEvent K) := ⟨ok_event F32 Tu Wd Rq Bw T, g 29 _ rfl, F32.kp, F32.bindsN fun _ _ _ _ _ _ us hl => match us, hl with | [_], _ => rfl⟩
  have Te : Def P w K mg base CX0 17 "is_told_event" _ x33 ["thing"] (spToldE K) := ⟨ok_tolde F33 (k := 16) (by decide) Ev Ch, g 30 _ rfl, F33.kp, F33.bindsN fun _ _ _ _ _ _ us hl => match us, hl with | [_], _ => rfl⟩
  have Lo : Def P w K mg base CX0 18 "line_of" _ x34 ["event"] (spLineOf K) := ⟨ok_lineof F34 T MR, g 31 _ rfl, F34.kp, F34.bindsN fun _ _ _ _ _ _ us hl => match us, hl with | [_], _ => rfl⟩
  have Pc : Def P w K mg base CX0 1 "_pieces_of" _ x29 ["text"] (spPieces K) := ⟨ok_pieces F29 T, g 26 _ rfl, F29.kp, F29.bindsN fun _ _ _ _ _ _ us hl => match us, hl with | [_], _ => rfl⟩
  have Si : Def P w K mg base CX0 2 "_single_in" _ x31 ["words"] (spSingIn K) := ⟨ok_singin F31 T Fg Am, g 28 _ rfl, F31.kp, F31.bindsN fun _ _ _ _ _ _ us hl => match us, hl with | [_], _ => rfl⟩
  have U0 : Def P w K mg base CX0 4 "_parts_in" _ x28 ["text", "depth"] (spPartsIn K 0) := ⟨ok_partsin0 F28 T (k := 3), g 25 _ rfl, F28.kp, F28.bindsN fun _ _ _ _ _ _ us hl => match us, hl with | [_, _], _ => rfl⟩
  have V0 : Def P w K mg base CX0 5 "_part_in" _ x30 ["text", "depth"] (spPartIn K 0) := ⟨ok_partin F30 (k := 4) (by decide) U0 Si Rd, g 27 _ rfl, F30.kp, F30.bindsN fun _ _ _ _ _ _ us hl => match us, hl with | [_, _], _ => rfl⟩
  have U1 : Def P w K mg base CX0 6 "_parts_in" _ x28 ["text", "depth"] (spPartsIn K 1) := ⟨ok_partsinS (n := 0) (by decide) F28 T (k := 5) (by decide) V0 Pc, g 25 _ rfl, F28.kp, F28.bindsN fun _ _ _ _ _ _ us hl => match us, hl with | [_, _], _ => rfl⟩
  have V1 : Def P w K mg base CX0 7 "_part_in" _ x30 ["text", "depth"] (spPartIn K 1) := ⟨ok_partin F30 (k := 6) (by decide) U1 Si Rd, g 27 _ rfl, F30.kp, F30.bindsN fun _ _ _ _ _ _ us hl => match us, hl with | [_, _], _ => rfl⟩
  have U2 : Def P w K mg base CX0 8 "_parts_in" _ x28 ["text", "depth"] (spPartsIn K 2) := ⟨ok_partsinS (n := 1) (by decide) F28 T (k := 7) (by decide) V1 Pc, g 25 _ rfl, F28.kp, F28.bindsN fun _ _ _ _ _ _ us hl => match us, hl with | [_, _], _ => rfl⟩
  have V2 : Def P w K mg base CX0 9 "_part_in" _ x30 ["text", "depth"] (spPartIn K 2) := ⟨ok_partin F30 (k := 8) (by decide) U2 Si Rd, g 27 _ rfl, F30.kp, F30.bindsN fun _ _ _ _ _ _ us hl => match us, hl with | [_, _], _ => rfl⟩
  have U3 : Def P w K mg base CX0 10 "_parts_in" _ x28 ["text", "depth"] (spPartsIn K 3) := ⟨ok_partsinS (n := 2) (by decide) F28 T (k := 9) (by decide) V2 Pc, g 25 _ rfl, F28.kp, F28.bindsN fun _ _ _ _ _ _ us hl => match us, hl with | [_, _], _ => rfl⟩
  have V3 : Def P w K mg base CX0 11 "_part_in" _ x30 ["text", "depth"] (spPartIn K 3) := ⟨ok_partin F30 (k := 10) (by decide) U3 Si Rd, g 27 _ rfl, F30.kp, F30.bindsN fun _ _ _ _ _ _ us hl => match us, hl with | [_, _], _ => rfl⟩
  have U4 : Def P w K mg base CX0 12 "_parts_in" _ x28 ["text", "depth"] (spPartsIn K 4) := ⟨ok_partsinS (n := 3) (by decide) F28 T (k := 11) (by decide) V3 Pc, g 25 _ rfl, F28.kp, F28.bindsN fun _ _ _ _ _ _ us hl => match us, hl with | [_, _], _ => rfl⟩
  have V4 : Def P w K mg base CX0 13 "_part_in" _ x30 ["text", "depth"] (spPartIn K 4) := ⟨ok_partin F30 (k := 12) (by decide) U4 Si Rd, g 27 _ rfl, F30.kp, F30.bindsN fun _ _ _ _ _ _ us hl => match us, hl with | [_, _], _ => rfl⟩
  have U5 : Def P w K mg base CX0 14 "_parts_in" _ x28 ["text", "depth"] (spPartsIn K 5) := ⟨ok_partsinS (n := 4) (by decide) F28 T (k := 13) (by decide) V4 Pc, g 25 _ rfl, F28.kp, F28.bindsN fun _ _ _ _ _ _ us hl => match us, hl with | [_, _], _ => rfl⟩
  have U16 : Def P w K mg base CX0 16 "_parts_in" _ x28 ["text", "depth"] (spPartsIn K 5) := ⟨U5.ok.mono (by decide), g 25 _ rfl, F28.kp, F28.bindsN fun _ _ _ _ _ _ us hl => match us, hl with | [_, _], _ => rfl⟩
  have Ap16 : Def P w K mg base CX0 16 "are_parts_of_row" _ x15 ["thing"] (spApr K) := ⟨Ap.ok.mono (by decide), g 12 _ rfl, F15.kp, F15.bindsN fun _ _ _ _ _ _ us hl => match us, hl with | [_], _ => rfl⟩
  have Pr : Def P w K mg base (L2.CX P w) 19 "parse_row" _ x27 ["text"] (spParseR K) := ⟨ok_parser F27 T MR U16 Ap16 Z, g 24 _ rfl, F27.kp, F27.bindsN fun _ _ _ _ _ _ us hl => match us, hl with | [_], _ => rfl⟩
  have Ri : Def P w K mg base CX0 20 "_row_in" _ x38 ["process", "text"] (spRowIn K) := ⟨ok_rowin F38 T Pr, g 35 _ rfl, F38.kp, F38.bindsN fun _ _ _ _ _ _ us hl => match us, hl with | [_, _], _ => rfl⟩
  have Ci : Def P w K mg base CX0 21 "_change_in" _ x37 ["words", "line"] (spChIn K) := ⟨ok_chin F37 T (k := 20) (by decide) Ri Am Fg, g 34 _ rfl, F37.kp, F37.bindsN fun _ _ _ _ _ _ us hl => match us, hl with | [_, _], _ => rfl⟩
  have Ei : Def P w K mg base CX0 22 "_event_in" _ x36 ["line"] (spEvIn K) := ⟨ok_evin F36 T (k := 21) (by decide) Ci Fg, g 33 _ rfl, F36.kp, F36.bindsN fun _ _ _ _ _ _ us hl => match us, hl with | [_], _ => rfl⟩
  have Te22 : Def P w K mg base CX0 22 "is_told_event" _ x33 ["thing"] (spToldE K) := ⟨Te.ok.mono (by decide), g 30 _ rfl, F33.kp, F33.bindsN fun _ _ _ _ _ _ us hl => match us, hl with | [_], _ => rfl⟩
  have Lo22 : Def P w K mg base CX0 22 "line_of" _ x34 ["event"] (spLineOf K) := ⟨Lo.ok.mono (by decide), g 31 _ rfl, F34.kp, F34.bindsN fun _ _ _ _ _ _ us hl => match us, hl with | [_], _ => rfl⟩
  have Eo : Def P w K mg base CX0 23 "event_of" _ x35 ["line"] (spEvOf K) := ⟨ok_evof F35 Ei Te22 Lo22, g 32 _ rfl, F35.kp, F35.bindsN fun _ _ _ _ _ _ us hl => match us, hl with | [_], _ => rfl⟩
  have Rp : Def P w K mg base (L2.CX P w) 25 "read_plan" _ x39 ["text"] (spReadP K) := ⟨ok_readp F39 T (k := 23) (by decide) Eo Z, g 36 _ rfl, F39.kp, F39.bindsN fun _ _ _ _ _ _ us hl => match us, hl with | [_], _ => rfl⟩
  have Po : Def P w K mg base CX0 1 "_law_pool" _ x40 ["_law_script", "_law_k"] (spPool K) := ⟨ol_pool F40 T, g 37 _ rfl, F40.kp, F40.bindsN fun _ _ _ _ _ _ us hl => match us, hl with | [_, _], _ => rfl⟩
  have Ta : Def P w K mg base CX0 1 "_law_take" _ x41 ["_law_pool_here", "_law_many"] spTake := ⟨ol_take F41 T, g 38 _ rfl, F41.kp, F41.bindsN fun _ _ _ _ _ _ us hl => match us, hl with | [_, _], _ => rfl⟩
  have Lw : Def P w K mg base CX0 1 "_law_is_word" _ x42 ["_law_text"] spLWord := ⟨ol_wd F42 T, g 39 _ rfl, F42.kp, F42.bindsN fun _ _ _ _ _ _ us hl => match us, hl with | [_], _ => rfl⟩
  have Nu : Def P w K mg base CX0 1 "_law_number" _ x43 ["_law_text", "_law_most"] spLNum := ⟨ol_num F43 T, g 40 _ rfl, F43.kp, F43.bindsN fun _ _ _ _ _ _ us hl => match us, hl with | [_, _], _ => rfl⟩
  have Lr : Def P w K mg base CX0 1 "_law_row" _ x44 ["_law_text"] (spLRow K) := ⟨ol_row F44 T, g 41 _ rfl, F44.kp, F44.bindsN fun _ _ _ _ _ _ us hl => match us, hl with | [_], _ => rfl⟩
  have Ns : Def P w K mg base CX0 2 "_law_numbers" _ x45 ["_law_words"] (spLNums K) := ⟨ol_nums F45 T Nu Lw, g 42 _ rfl, F45.kp, F45.bindsN fun _ _ _ _ _ _ us hl => match us, hl with | [_], _ => rfl⟩
  have Na : Def P w K mg base CX0 2 "_law_named" _ x46 ["_law_words"] (spLNamed K) := ⟨ol_named F46 T Lw, g 43 _ rfl, F46.kp, F46.bindsN fun _ _ _ _ _ _ us hl => match us, hl with | [_], _ => rfl⟩
  have Le : Def P w K mg base CX0 3 "_law_event" _ x47 ["_law_line"] (spLEvent K) := ⟨ol_event F47 T Nu Lw Lr Ns Na, g 44 _ rfl, F47.kp, F47.bindsN fun _ _ _ _ _ _ us hl => match us, hl with | [_], _ => rfl⟩
  have Du : Def P w K mg base CX0 4 "_law_due" _ x48 ["_law_text"] (spLDue K) := ⟨ol_due F48 T Le, g 45 _ rfl, F48.kp, F48.bindsN fun _ _ _ _ _ _ us hl => match us, hl with | [_], _ => rfl⟩
  have Lrd : Def P w K mg base CX0 26 "_law_read" _ x49 ["_law_text"] (spLRead K) := ⟨ol_read F49 T Rp, g 46 _ rfl, F49.kp, F49.bindsN fun _ _ _ _ _ _ us hl => match us, hl with | [_], _ => rfl⟩
  have Li : Def P w K mg base CX0 2 "_law_lines" _ x50 ["_law_pool_here"] (spLLines K) := ⟨ol_lines F50 T Ta, g 47 _ rfl, F50.kp, F50.bindsN fun _ _ _ _ _ _ us hl => match us, hl with | [_], _ => rfl⟩
  have Wr : Def P w K mg base CX0 1 "_law_wrong_lines" _ x51 [] spLWrong := ⟨ol_wrong F51, g 48 _ rfl, F51.kp, F51.bindsN fun _ _ _ _ _ _ us hl => match us, hl with | [], _ => rfl⟩
  have Lt : Def P w K mg base CX0 2 "_law_texts" _ x52 ["_law_pool_here", "_law_lines_here"] (spLTexts K) := ⟨ol_texts F52 T Ta Wr, g 49 _ rfl, F52.kp, F52.bindsN fun _ _ _ _ _ _ us hl => match us, hl with | [_, _], _ => rfl⟩
  exact ok_law F53 T (k0 := 26) (by decide) ⟨Po, Li, Lt, Lrd, Du⟩
end L2.L87
open PySem PySem.W PySem.Calls PyProof.Rows
theorem PySem.Challenge.cw_leastrooms_k87_plan_lines_judged_holds : PySem.Challenge.rw_leastrooms_k87_plan_lines_judged.Holds := by
  w_on; o_law
  refine HandSHeadRun.head_any (r := OpenLaw.row PySem.Challenge.rw_leastrooms_k87_plan_lines_judged) (q := view (OpenLaw.row PySem.Challenge.rw_leastrooms_k87_plan_lines_judged).prog [85]) (H := L2.L87.hk) (ob := L2.L87.ob) (M := 16000) (loose := L2.L87.loose) (d := HandSHeadRun.topDef (OpenLaw.row PySem.Challenge.rw_leastrooms_k87_plan_lines_judged).prog 85) (kwd := []) L2.L87.ob_eq
    (by kernel_rfl) (fun s => by kernel_rfl) L2.L87.run (by kernel_rfl) (by kernel_rfl) (by kernel_rfl) (by rfl) (by first | assumption | decide +kernel) (by decide +kernel) ⟨rfl, rfl, rfl, rfl, rfl, by decide +kernel⟩ ?hw ?hc
  case hw => w_witness2
  case hc =>
    refine L2.Lr.walk_ofQ (l := PySem.Challenge.rw_leastrooms_k87_plan_lines_judged) (n := 63) (k := 27) (x := "_law_script") (CX := L2.CX0) rfl (by decide) (by kernel_rfl) ⟨rfl, by decide, by decide⟩ ?F (fun _ _ _ _ z => z)
    intro w mg fa h Y G hmg0
    obtain ⟨K, KX, c1, c2⟩ := Y
    have hmg : mg ("law" : PySem.Str) = some (.ref fa) := by
      have e : (HandSHeadRun.topDef (OpenLaw.row PySem.Challenge.rw_leastrooms_k87_plan_lines_judged).prog 85).name = ("law" : PySem.Str) := by kernel_rfl
      rw [← e]
      exact hmg0
    obtain ⟨fd, hb, hF⟩ := L2.L87.facts (P := (PySem.Challenge.rw_leastrooms_k87_plan_lines_judged).prog) (w := w) KX G hmg c1 c2
    exact ⟨K, fd, L2.L87.spLaw K, KX, hb, fun H a ns hl hS => ⟨a, ns, rfl, hS, hl, fun _ => rfl⟩, hF⟩
