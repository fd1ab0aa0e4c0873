import PyProof.Rows.All
import Wide.All
import OpenK.AllK
import Wide.FinOn
import KE.KExcInit
import KE.KExcIs
import KE.KIsAll
import HandS.ForMost
import HandS.ForSpec
import HandS.ExcInit
import HandS.ExcValue
import HandS.ExcIs
import HandS.Wide
import HandS.Defaults
import HandS.HeadHook2
import HandS.ExcOwn
import HandS.Head0
import HandS.Head1
import HandS.Head2
import HandS.HeadEnd
import HandS.HeadHook1
import KE.KStateDown
import PySem.Challenge.RW_leastrooms_k05_exceptions_apart
set_option Elab.async false
set_option linter.all false
set_option maxRecDepth 100000
set_option maxHeartbeats 4000000
/-! own exceptions under ValueError, KeyError, RuntimeError, as values -/
namespace LR
open PySem PySem.W PySem.Calls PyProof.Rows Builtin Builtin.ObjectAttr
/-- a family of own exceptions: the built-in class that makes them, and the end of their mro -/
structure Kd where
  B : String
  nid : String
  iid : String
  bmB : List Value
  tl : List Value
  F : ExcBaseFacts B nid iid bmB
  hB : tl.contains (.type B) = true
  hA : tl.contains (.type "AttributeError") = false
  hN : tl.contains (.type "NameError") = false
  hO : tl.contains (.type "object") = true
  hE : tl.contains (.type "BaseException") = true
  pass : ∀ self, refuseLoop self "__setattr__" tl = pure ()
def tlV : List Value := [.type "ValueError", .type "Exception", .type "BaseException", .type "object"]
def tlK : List Value := [.type "KeyError", .type "LookupError", .type "Exception", .type "BaseException", .type "object"]
def tlR : List Value := [.type "RuntimeError", .type "Exception", .type "BaseException", .type "object"]
def xV : Kd := ⟨_, _, _, _, tlV, F.excBase_ValueError, by decide +kernel, by decide +kernel, by decide +kernel, by decide +kernel, by decide +kernel, fun self => F.store_ValueError.passes self⟩
def xK : Kd := ⟨_, _, _, _, tlK, F.excBase_LookupError, by decide +kernel, by decide +kernel, by decide +kernel, by decide +kernel, by decide +kernel, fun self => by kernel_rfl⟩
def xR : Kd := ⟨_, _, _, _, tlR, F.excBase_RuntimeError, by decide +kernel, by decide +kernel, by decide +kernel, by decide +kernel, by decide +kernel, fun self => F.store_RuntimeError.passes self⟩

section
variable {M : Model} {A : Around} {E : Value → Shared → Prop} {h : Heap} {g : Array GenState} {d : Drawn} {t : Nat} {os : OsState}
variable {nm q : Str} {C N : Addr} {bs bm : List Value} {hdct : Bool} {sn : List Str} {sub : List Value} {ab : Bool} {col : Option Bool} {dd : Option Addr} {k0 k1 k2 k3 k5 : Option Value}
theorem Kd.has (k : Kd) (ht : excTail k.tl bm = true) (X : String) {b : Bool} (e : k.tl.contains (.type X) = b) : (Value.ref C :: bm).contains (.type X) = b := by
  rw [List.contains_cons, excTail_contains X bm ht, e]
  cases b <;> rfl
theorem chk_new (k : Kd) (ht : excTail k.tl bm = true) {rest : List Value} {Q : Unit → Shared → Prop}
    (hC : h.get? C = some (excClassObj nm q C N bs bm hdct sn sub ab col dd k0 k1 k2 k3 k5 k.nid)) (hq : Q () ⟨h, g, d, t, os⟩) :
    wpAny M A (checkBuiltinCall k.nid ⟨.ref C :: rest, []⟩) Q E ⟨h, g, d, t, os⟩ := by
  have c1 : (Value.ref C :: bm).contains (.type k.B) = true := k.has ht _ k.hB
  have nst := k.F.noStar
  simp only [checkBuiltinCall, k.F.newKind, k.F.newSplit, k.F.newRow]
  repeat (first
    | refine wpAny_loadPart_at hC ?_
    | (refine wpAny_isSubtype_exc hC ?_; rw [c1])
    | refine wpAny_staticBase_exc hC ?_
    | refine wpAny_madeBy_exc hC ?_
    | simp only [bne_self_eq_false, Bool.false_eq_true, if_false]
    | wp_step)
  exact hq
end
section
variable {prog : Program} {w : World} {A : Around} {E : Value → Shared → Prop} {R : Result → Shared → Prop} {h : Heap} {g : Array GenState} {d : Drawn} {t : Nat} {os : OsState}
variable {nm q : Str} {C N : Addr} {bs bm : List Value} {hdct : Bool} {sn : List Str} {sub : List Value} {ab : Bool} {col : Option Bool} {dd : Option Addr} {k0 k1 k2 k3 k5 : Option Value}
theorem run_new (k : Kd) (ht : excTail k.tl bm = true) {rest : List Value}
    (hC : h.get? C = some (excClassObj nm q C N bs bm hdct sn sub ab col dd k0 k1 k2 k3 k5 k.nid))
    (hq : R (.ok (.ret (.ref (h.objs.size + 1)))) ⟨(h.push (kdv_tup rest)).push (HandSPX.excO C h.objs.size), g, d, t, os⟩) (hr : rest.length ≤ sizeLine) :
    codeAny (model prog w) A (.builtin k.nid ⟨.ref C :: rest, []⟩) R ⟨h, g, d, t, os⟩ := by
  have en := k.F.ends
  have c1 : (Value.ref C :: bm).contains (.type k.B) = true := k.has ht _ k.hB
  have c2 : (Value.ref C :: bm).contains (.type "AttributeError") = false := k.has ht _ k.hA
  have c3 : (Value.ref C :: bm).contains (.type "NameError") = false := k.has ht _ k.hN
  refine codeAny_builtinAt k.F.entry ?_
  unfold Builtin.«BaseException.__new__»
  refine PySem.wpAt_bind ?_
  show PySem.wpAt _ _ _ (stack >>= _) _ _ _
  refine PySem.wpAt_bind (PySem.wpAt_stack fun p below => PySem.wpAt_of_wpAny ?_)
  wp_walk
  refine PySem.wpAt_of_wpAny ?_
  rw [k.F.owner]
  repeat (first
    | with_reducible refine wpAny_madeHere_exc k.F.canon hC ?_
    | with_reducible refine wpAny_loadPart_at hC ?_
    | (with_reducible refine wpAny_isSubtype_exc hC ?_; first | rw [c1] | rw [c2] | rw [c3])
    | wp_step)
  show R _ _
  rw [Heap.size_push]
  exact hq
theorem run_type (k : Kd) (ht : excTail k.tl bm = true) {rest : List Value} {fI : Addr} {Q : Fin → Shared → Prop}
    (hC : h.get? C = some (excClassObj nm q C N bs bm hdct sn sub ab col dd k0 k1 k2 k3 k5 k.nid))
    (hi : Looks (model prog w) h (typeLookup (.ref C) "__init__") (some (.ref fI))) (hb : ∀ self, Looks (model prog w) h (bindSpecial (.ref fI) self) (.ref fI, [self])) (hr : rest.length ≤ sizeLine)
    (hq : codeAny (model prog w) A (.call (.ref fI) ⟨.ref (h.objs.size + 1) :: rest, []⟩)
      (fun r s' => match r with | .ok (.ret v) => v = .none ∧ Q (.done (.ret (.ref (h.objs.size + 1)))) s' | .ok _ => False | .error e => E e s')
      ⟨(h.push (kdv_tup rest)).push (HandSPX.excO C h.objs.size), g, d, t, os⟩) :
    wpAny (model prog w) A (Builtin.«type.__call__» ⟨.ref C :: rest, []⟩) Q E ⟨h, g, d, t, os⟩ := by
  repeat (first
    | with_reducible refine wpAny_loadPart_at hC ?_
    | with_reducible refine wpAny_madeBy_exc hC ?_
    | wp_step)
  refine codeAny_call_builtin_code (Code.quiet_builtin _ k.F.quiet) (chk_new k ht hC (run_new k ht hC ?_ hr))
  show wpAny _ _ _ _ _ _
  have kp : ∀ b o, h.get? b = some o → ((h.push (kdv_tup rest)).push (HandSPX.excO C h.objs.size)).get? b = some o := fun b o e =>
    Heap.get?_push_of_some _ (Heap.get?_push_of_some _ e)
  have hC1 := kp _ _ hC
  have hnew : ((h.push (kdv_tup rest)).push (HandSPX.excO C h.objs.size)).get? (h.objs.size + 1) = some (HandSPX.excO C h.objs.size) := by heap_get
  have self1 : (Value.ref C :: bm).contains (.ref C) = true := by simp
  have i1 := hi.keeps kp
  have b1 := (hb (.ref (h.objs.size + 1))).keeps kp
  unfold isInstance
  repeat (first
    | with_reducible refine wpAny_loadPart_at hnew ?_
    | (with_reducible refine wpAny_isSubtype_exc hC1 ?_; rw [self1])
    | wp_step)
  show wpAny _ _ (typeLookup (.ref C) _) _ _ _
  refine i1.at (wpAny_holding (wpAny_bind (b1.at ?_)))
  refine wpAny_bind (wpAny_call (codeAny_mono hq fun r s' z => ?_))
  rcases r with e | (v | _ | _ | _) <;> first | exact z | exact z.elim | skip
  obtain ⟨rfl, z⟩ := z
  first
    | exact wpAny_pure (wpAny_pure z)
    | (wp_walk; exact z)
/-- C(rest), C with an own __init__ at fI -/
theorem run_class (k : Kd) (ht : excTail k.tl bm = true) {rest : List Value} {fI : Addr}
    (hC : h.get? C = some (excClassObj nm q C N bs bm hdct sn sub ab col dd k0 k1 k2 k3 k5 k.nid))
    (hi : Looks (model prog w) h (typeLookup (.ref C) "__init__") (some (.ref fI))) (hb : ∀ self, Looks (model prog w) h (bindSpecial (.ref fI) self) (.ref fI, [self])) (hr : rest.length ≤ sizeLine)
    (hq : codeAny (model prog w) (A.under (.builtin "type.__call__" ⟨.ref C :: rest, []⟩)) (.call (.ref fI) ⟨.ref (h.objs.size + 1) :: rest, []⟩) (InitBack (h.objs.size + 1) R)
      ⟨(h.push (kdv_tup rest)).push (HandSPX.excO C h.objs.size), g, d, t, os⟩) :
    codeAny (model prog w) A (.call (.ref C) ⟨rest, []⟩) R ⟨h, g, d, t, os⟩ := by
  have f1 := tc_lookup
  have f2 := tc_bind (.ref C)
  have hTy : (⟨h, g, d, t, os⟩ : Shared).TypeIs (.ref C) "type" := ⟨_, hC, rfl⟩
  refine codeAny_of_tree ?_
  show wpAny _ _ (callAny (.ref C) _) _ _ _
  repeat (any_goals (first
    | assumption
    | with_reducible refine wpAny_loadPart_at hC ?_
    | wp_step))
  refine ⟨rfl, codeAny_call_builtin_at (Code.quiet_builtin _ (by decide +kernel)) entry_typeCall (wpAny_check_type_call_sub hC (run_type k ht hC hi hb hr ?_))⟩
  refine codeAny_mono hq fun r s' z => ?_
  rcases r with e | (v | _ | _ | _) <;> exact z
end
end LR

set_option maxHeartbeats 4000000
namespace LR
open PySem PySem.W PySem.Calls PyProof.Rows Builtin Builtin.ObjectAttr
theorem sfK : StoreFacts "KeyError" tlK "object.__setattr__" "object" :=
  { F.store_object with
    mro := by kernel_rfl
    hasOwner := by decide +kernel
    passes := fun self => xK.pass self
    slot := .of (owner := "object") (n := "__setattr__")
      (by rw [typeLookup_type, builtinLookup_eq_fast]; kernel_rfl)
      (by decide +kernel) (by decide +kernel) (by decide +kernel)
      (by first
          | exact .inl (by decide +kernel)
          | exact .inr (by decide +kernel))
      (by rw [isSubtype_type]; kernel_rfl) }
/-- a store by the object's own rule is known for the family -/
def Kd.SF (k : Kd) : Prop := ∃ B, StoreFacts B k.tl "object.__setattr__" "object"
theorem sV : xV.SF := ⟨_, F.store_ValueError⟩
theorem sK : xK.SF := ⟨_, sfK⟩
theorem sR : xR.SF := ⟨_, F.store_RuntimeError⟩
/-- what the written part says of an exception class at C -/
structure XC (K : Frag) (k : Kd) (C : Addr) : Prop where
  cls : ∃ nm q N bs bm sn sub ab col dd k0 k1 k2 k3 k5, K.lookup C = some (excClassObj nm q C N bs bm true sn sub ab col dd k0 k1 k2 k3 k5 k.nid) ∧ excTail k.tl bm = true
  sa : findIn K (.ref C) "__setattr__" = some (some (.builtin "object.__setattr__"))
  ga : findIn K (.ref C) "__getattribute__" = some (some (.builtin "BaseException.__getattribute__"))
  gg : findIn K (.ref C) "__getattr__" = some none
  cl : findIn K (.ref C) "__class__" = some (some (.builtin "object.__class__"))
  kC : keepIn K (.ref C) = true
section
variable {K : Frag} {k : Kd} {C : Addr}
theorem XC.cd (T : XC K k C) : ∃ cd bm, clsIn K C = some cd ∧ cd.mro = .ref C :: bm ∧ excTail k.tl bm = true ∧ cd.hasDict = true := by
  obtain ⟨nm, q, N, bs, bm, sn, sub, ab, col, dd, k0, k1, k2, k3, k5, hC, hb⟩ := T.cls
  exact ⟨_, bm, by unfold clsIn; rw [hC], rfl, hb, rfl⟩
theorem XC.isC (T : XC K k C) : (clsIn K C).isSome = true := by
  obtain ⟨cd, bm, h, _⟩ := T.cd
  rw [h]; rfl
theorem XC.hd (T : XC K k C) : hasDictIn K C = true := by
  obtain ⟨cd, bm, h, _, _, hd⟩ := T.cd
  unfold hasDictIn; rw [h]; exact hd
theorem XC.over (T : XC K k C) : excOver K C k.tl = true := by
  obtain ⟨cd, bm, h, hm, hb, _⟩ := T.cd
  unfold excOver; rw [h]
  simp [hm, hb]
theorem XC.sub (T : XC K k C) (X : String) (e : k.tl.contains (.type X) = true) : mroIn K C (.type X) = some true := by
  obtain ⟨cd, bm, h, hm, hb, _⟩ := T.cd
  unfold mroIn
  rw [h, Option.bind_some, hm]
  show some ((Value.ref C :: bm).contains (.type X)) = some true
  rw [k.has hb X e]
theorem XC.tyC (T : XC K k C) : typeIn K (.ref C) = some (.type "type") := by
  obtain ⟨nm, q, N, bs, bm, sn, sub, ab, col, dd, k0, k1, k2, k3, k5, hC, hb⟩ := T.cls
  show Option.map (fun x => x.cls) (List.lookup C K) = _
  rw [hC]; rfl
end
theorem noTake {K : Frag} {C : Addr} {f : Str} (h : findIn K (.ref C) f = some none) : takerIn K C f = some none := by
  unfold takerIn; rw [h]; rfl
section
variable {prog : Program} {w : World} {A : Around} {E : Value → Shared → Prop} {R : Result → Shared → Prop} {hp : Heap} {g : Array GenState} {d : Drawn} {t : Nat} {os : OsState}
variable {K : Frag} {k : Kd} {C x : Addr} {name : Str} {tk : Tok} {v : Value} {fv : Array Value}
theorem osa_first (S : k.SF) (T : XC K k C) (X : K.In hp) (hx : hp.get? x = some { cls := .ref C, data := .fields fv }) (hno : findIn K (.ref C) name = some none)
    (hq : ∀ h' tk' dx, (∀ b o, b ≠ x → hp.get? b = some o → h'.get? b = some o) → hp.objs.size ≤ dx → dx ≠ x → h'.get? x = some { cls := .ref C, dict := some dx, data := .fields fv } →
      h'.Ns1 dx (fun y => if y = name then some v else none) → R (.ok (.ret .none)) ⟨h', g, d, tk', os⟩) :
    codeAny (model prog w) A (.call (.builtin "object.__setattr__") ⟨[.ref x, .str name tk, v], []⟩) R ⟨hp, g, d, t, os⟩ := by
  obtain ⟨B, SF⟩ := S
  obtain ⟨cd, bm, hcd, hm, hb, hh⟩ := T.cd
  have I : InstAt hp x { cls := .ref C, data := .fields fv } C none := ⟨hx, rfl, rfl, trivial⟩
  have nx : x ≠ hp.objs.size := Nat.ne_of_lt (Heap.lt_size hx)
  have hcls : Looks (model prog w) hp (classData C) cd := looks_clsIn X hcd
  refine osa_openX (s := ⟨hp, g, d, t, os⟩) (r := none) SF X I T.over (noTake hno) fun b => ?_
  obtain ⟨nm, bs, mro, ns, qn, hd, sn, sb, ab, col, del⟩ := cd
  dsimp only at hh
  subst hh
  dsimp only
  unfold storeInOwnDict ownDictForStores
  repeat (first
    | with_reducible refine HandSPX.store_in_new ?_ ?_
    | with_reducible refine wpAny_loadPart_at hx ?_
    | with_reducible refine hcls.at ?_
    | wp_step)
  · exact ⟨_, #[], _, (Heap.get?_update_ne _ _ _ _ nx.symm).trans (Heap.get?_push_at rfl rfl), rfl, fun e he => absurd he (by simp), fun _ => rfl⟩
  · intro h' tk' hn' hs
    have hx1 : (hp.push { cls := .type "dict", data := .dict #[] }).get? x = some { cls := .ref C, data := .fields fv } := Heap.get?_push_of_some _ hx
    refine hq h' tk' hp.objs.size (fun b o ne ho => ?_) (Nat.le_refl _) nx.symm ?_ hn'
    · have z1 := Heap.get?_push_of_some { cls := .type "dict", data := .dict #[] } ho
      have z2 := hs.2 b (Nat.ne_of_lt (Heap.lt_size ho))
      exact z2.trans ((Heap.get?_update_ne _ _ _ _ ne).trans z1)
    · exact (hs.2 x nx).trans (Heap.get?_update_self _ hx1 rfl)
theorem osa_later {dx : Addr} {m0 : Str → Option Value} {nl : List Str} (S : k.SF) (T : XC K k C) (X : K.In hp) (hx : hp.get? x = some { cls := .ref C, dict := some dx, data := .fields fv })
    (hns : hp.Ns1 dx m0) (hw : Within m0 nl) (hz : nl.length ≤ 1000) (hno : findIn K (.ref C) name = some none)
    (hq : ∀ h' tk', (∀ b o, b ≠ dx → hp.get? b = some o → h'.get? b = some o) → h'.Ns1 dx (fun y => if y = name then some v else m0 y) → R (.ok (.ret .none)) ⟨h', g, d, tk', os⟩) :
    codeAny (model prog w) A (.call (.builtin "object.__setattr__") ⟨[.ref x, .str name tk, v], []⟩) R ⟨hp, g, d, t, os⟩ := by
  obtain ⟨B, SF⟩ := S
  obtain ⟨cd, bm, hcd, hm, hb, hh⟩ := T.cd
  obtain ⟨oD, _, _, hoD, _, _⟩ := hns.count hw
  have I : InstAt hp x { cls := .ref C, dict := some dx, data := .fields fv } C (some oD) := ⟨hx, rfl, rfl, hoD⟩
  have hcls : Looks (model prog w) hp (classData C) cd := looks_clsIn X hcd
  refine osa_openX (s := ⟨hp, g, d, t, os⟩) (r := none) SF X I T.over (noTake hno) fun b => ?_
  obtain ⟨nm, bs, mro, ns, qn, hd, sn, sb, ab, col, del⟩ := cd
  dsimp only at hh
  subst hh
  dsimp only
  unfold storeInOwnDict ownDictForStores
  repeat (first
    | with_reducible refine OEX.store_in_old hns hw hz ?_
    | with_reducible refine wpAny_loadPart_at hx ?_
    | with_reducible refine hcls.at ?_
    | wp_step)
  intro h' tk' hn' hs
  exact hq h' tk' (fun b o ne ho => (hs.2 b ne).trans ho) hn'
end
end LR

set_option maxHeartbeats 4000000
namespace L2.Lr
open PySem PySem.Spec PyProof.Rows LR
/-- at a: an exception of the class at C, its dict (none as yet | at d) -/
def xo (a C : Addr) (d : Option Addr) : HO := .ext fun h => ∃ fv : Array Value, h.get? a = some ({ cls := .ref C, dict := d, data := .fields fv } : Obj)
theorem xo_at {P : Program} {w : World} {H : Hp} {h : Heap} {a C : Addr} {d : Option Addr} (hok : HOk P w H h) (e : H a = some (xo a C d)) : ∃ fv : Array Value, h.get? a = some ({ cls := .ref C, dict := d, data := .fields fv } : Obj) := by
  have z : ObjOk P w H h a (xo a C d) := hok a _ e
  exact z.1
theorem xo_ok {P : Program} {w : World} {H : Hp} {h : Heap} {a C : Addr} {d : Option Addr} {fv : Array Value} (e : h.get? a = some ({ cls := .ref C, dict := d, data := .fields fv } : Obj)) : ObjOk P w H h a (xo a C d) :=
  ⟨⟨fv, e⟩, ⟨_, e⟩, fun h1 h2 ⟨f1, q⟩ keep => ⟨f1, keep _ q⟩⟩
theorem xo_ne {a C : Addr} {d : Option Addr} {o : HO} (n : ∀ φ, HO.ext φ ≠ o) : xo a C d ≠ o := n _
section
variable {X : Cx} {pins : List (Addr × Obj)} {σ : St} {H : Hp} {s : Shared} {a C dx : Addr} {f : Str} {y : V} {u : Value} {fs : List (Str × V)} {Q : Unit → Shared → Prop} {E : Value → Shared → Prop} {A : Around} {k : Kd}
/-- self.f = y, the first field -/
theorem st_first (S : k.SF) (T : XC X.K k C) (I : Inv X pins σ H s) (e : H a = some (xo a C none)) (hno : PySem.W.findIn X.K (.ref C) f = some none) (ry : RelV y u)
    (go : ∀ dx s', H dx = none → dx ≠ a → Inv X pins σ (upd (upd H dx (exd dx [(f, y)])) a (xo a C (some dx))) s' → Q () s') : wpAny (model X.prog X.w) A (setAttr (.ref a) f u) Q E s := by
  obtain ⟨fv, ho⟩ := xo_at I.hok e
  obtain ⟨hp, g, d, t, os⟩ := s
  refine PySem.W.set_plain I.kIn (ox := { cls := .ref C, dict := none, data := .fields fv }) (od := none) ⟨ho, rfl, rfl, trivial⟩ T.sa (osa_first S T I.kIn ho hno fun h' tk' dx kk dn dne hx hn => ?_)
  have fresh : H dx = none := I.hok.fresh dn
  have old : ∀ {b : Addr} {o : Obj}, hp.get? b = some o → b ≠ dx := fun {b o} q => Nat.ne_of_lt (Nat.lt_of_lt_of_le (Heap.lt_size q) dn)
  have off : ∀ {b : Addr}, H b = none → b ≠ a := fun {b} n z => by
    rw [z, e] at n
    cases n
  have own : ∀ {b c : Addr}, H b = some (.own c) → b ≠ a := fun {b c} q => at_ne e q (xo_ne fun _ z => by cases z)
  have tup : ∀ {b : Addr} {xs : List V}, H b = some (.tup xs) → b ≠ a := fun {b xs} q => at_ne e q (xo_ne fun _ z => by cases z)
  have frz : ∀ {b : Addr} {o : Obj} {v : HO}, H b = some (.frz o v) → b ≠ a := fun {b o v} q => at_ne e q (xo_ne fun _ z => by cases z)
  have tbl : ∀ {b : Addr} {ps : Array Value}, H b = some (.tbl ps) → b ≠ a := fun {b ps} q => at_ne e q (xo_ne fun _ z => by cases z)
  have U : Un X.fs [] H (upd (upd H dx (exd dx [(f, y)])) a (xo a C (some dx))) hp h' :=
    ⟨fun b o q n _ _ => kk b o (off n) q, fun b o q n _ _ => ⟨o.slots, kk b o (off n) q⟩,
     fun b o q n _ => (upd_ne (off n)).trans ((upd_ne (old q)).trans n),
     fun b o q _ => (Classical.em (b = a)).elim (fun hb => hb.symm ▸ (⟨_, hx⟩ : ∃ o', h'.get? a = some o')) fun hb => ⟨o, kk b o hb q⟩,
     fun b xs q => (upd_ne (tup q)).trans ((upd_ne (ne_of_none q fresh)).trans q),
     fun b o v q => (upd_ne (frz q)).trans ((upd_ne (ne_of_none q fresh)).trans q),
     fun b ps q => ⟨#[], by rw [upd_ne (tbl q), upd_ne (ne_of_none q fresh), q]; simp⟩⟩
  refine go dx _ fresh dne (I.un (t' := tk') U fun b o q => ?_)
  by_cases hb : b = a
  · subst hb
    cases upd_same.symm.trans q
    exact xo_ok hx
  · rw [upd_ne hb] at q
    by_cases hd : b = dx
    · subst hd
      cases upd_same.symm.trans q
      exact exd_ok hn (relO_put (fs := []) ry fun g => True.intro)
    · rw [upd_ne hd] at q
      refine (I.hok b o q).stay (fun c v hc z => kk c v ?_ z) (fun c hc => (upd_ne (own hc)).trans ((upd_ne (ne_of_none hc fresh)).trans hc)) fun c xs hc => (upd_ne (tup hc)).trans ((upd_ne (ne_of_none hc fresh)).trans hc)
      rcases hc with hc | hc
      · rw [hc]; exact hb
      · exact own hc
/-- self.f = y, a later field -/
theorem st_later (S : k.SF) (T : XC X.K k C) (I : Inv X pins σ H s) (e : H a = some (xo a C (some dx))) (ed : H dx = some (exd dx fs)) (hl : fs.length ≤ 900) (hno : PySem.W.findIn X.K (.ref C) f = some none) (ry : RelV y u)
    (go : ∀ s', Inv X pins σ (upd H dx (exd dx ((f, y) :: fs))) s' → Q () s') : wpAny (model X.prog X.w) A (setAttr (.ref a) f u) Q E s := by
  obtain ⟨fv, ho⟩ := xo_at I.hok e
  obtain ⟨mA, hns, rel⟩ := exd_at I.hok ed
  have hw := within_of rel
  obtain ⟨hp, g, d, t, os⟩ := s
  obtain ⟨oD, _, _, hoD, _, _⟩ := hns.count hw
  refine PySem.W.set_plain I.kIn (ox := { cls := .ref C, dict := some dx, data := .fields fv }) (od := some oD) ⟨ho, rfl, rfl, hoD⟩ T.sa (osa_later S T I.kIn ho hns hw (by rw [List.length_map]; omega) hno fun h' tk' kk hn => ?_)
  have there : ∃ o, h'.get? dx = some o := by
    obtain ⟨o, _, _, e', _⟩ := hn
    exact ⟨o, e'⟩
  exact go _ (I.write (t' := tk') (x := dx) (e := dx) (o := exd dx ((f, y) :: fs)) (by rw [ed]; exact True.intro) (.inl rfl) kk there (exd_ok hn (relO_put ry rel)))
end
/-! ### readings -/
/-- self.f = e -/
def tStX (K : PySem.W.Frag) (f : Str) (to te : TE) : TS := fun D σ H => te σ H fun y H1 => to σ H1 fun x H2 => ∃ (a C : Addr) (k : Kd), x = .ref a ∧ k.SF ∧ XC K k C ∧ PySem.W.findIn K (.ref C) f = some none ∧
  ((H2 a = some (xo a C none) ∧ ∀ dx, H2 dx = none → dx ≠ a → D.nx σ (upd (upd H2 dx (exd dx [(f, y)])) a (xo a C (some dx)))) ∨
    ∃ (dx : Addr) (fs : List (Str × V)), H2 a = some (xo a C (some dx)) ∧ H2 dx = some (exd dx fs) ∧ fs.length ≤ 900 ∧ D.nx σ (upd H2 dx (exd dx ((f, y) :: fs))))
/-- C(e, ..), C's __init__ keeping sp: the new exception as a value -/
def tMkX (C : Addr) (sp : Sp) (dvs : List V) (ta : TA) : TE := fun σ H Q => ta σ H fun vs H1 => vs.length ≤ 1000 ∧ ∀ a, H1 a = none → sp (.ref a :: (vs ++ dvs)) (upd H1 a (xo a C none)) (fun v H2 => v = .non ∧ Q (.ref a) H2) (fun _ _ _ => False)
/-- e.n of such an exception -/
def tAtX (K : PySem.W.Frag) (n : Str) (te : TE) : TE := fun σ H Q => te σ H fun x H1 => ∃ (a C dx : Addr) (fs : List (Str × V)) (v : V) (k : Kd), x = .ref a ∧ H1 a = some (xo a C (some dx)) ∧ H1 dx = some (exd dx fs) ∧ XC K k C ∧
  PySem.W.findIn K (.ref C) n = some none ∧ fs.lookup n = some v ∧ Q v H1
/-- isinstance(e, c) -/
def rIsX (K : PySem.W.Frag) : List V → Hp → VK → Prop := fun xs H Q => ∃ (a C : Addr) (d : Option Addr) (k : Kd) (c : V) (cv : Value) (b : Bool), xs = [.ref a, c] ∧ (∀ u, RelV c u → u = cv) ∧ H a = some (xo a C d) ∧
  (∀ dx, d = some dx → ∃ o, H dx = some o) ∧ XC K k C ∧ PySem.W.kitOne K (.ref C) cv = some b ∧ Q (.bl b) H
theorem oc_get {K : PySem.W.Frag} : PySem.W.specialIn K (.builtin "object.__class__") "__get__" = some (some (.builtin "getset_descriptor.__get__")) := by kernel_rfl
theorem oc_take {K : PySem.W.Frag} : PySem.W.takesIn K (.builtin "object.__class__") = some true := by kernel_rfl
section
variable {X : Cx} {o e : Expr} {es : List Expr} {to te : TE} {ta : TA} {f : Str} {p p' p1 p2 pos : Pos}
theorem inst_of {pins : List (Addr × Obj)} {σ : St} {H : Hp} {s : Shared} {a C : Addr} {d : Option Addr} (I : Inv X pins σ H s) (e : H a = some (xo a C d)) (hd : ∀ dx, d = some dx → ∃ o, H dx = some o) :
    ∃ (ox : Obj) (od : Option Obj), PySem.W.InstAt s.heap a ox C od ∧ ∀ dx, d = some dx → ∃ q, od = some q ∧ s.heap.get? dx = some q := by
  obtain ⟨fv, ho⟩ := xo_at I.hok e
  cases d with
  | none => exact ⟨_, none, ⟨ho, rfl, rfl, trivial⟩, fun dx z => by cases z⟩
  | some dx =>
    obtain ⟨q, hq⟩ := hd dx rfl
    obtain ⟨ob, hb⟩ : ∃ ob, s.heap.get? dx = some ob := by
      have z := (I.hok dx q hq).lt
      cases r : s.heap.get? dx with
      | some ob => exact ⟨ob, rfl⟩
      | none => exact absurd r (by
          have zz := I.hok dx q hq
          cases q with
          | lst xs => obtain ⟨_, _, _, _, e1⟩ := zz; rw [e1]; simp
          | tup xs => obtain ⟨_, _, _, o1, e1, _⟩ := zz; rw [e1]; simp
          | dK kvs => obtain ⟨_, _, _, _, o1, _, _, e1, _⟩ := zz; rw [e1]; simp
          | dT kvs => obtain ⟨_, _, _, _, o1, _, _, e1, _⟩ := zz; rw [e1]; simp
          | set S n => obtain ⟨o1, _, _, _, e1, _⟩ := zz; rw [e1]; simp
          | ins C1 d1 f1 => obtain ⟨_, _, _, e1, _⟩ := zz; rw [e1]; simp
          | own y => obtain ⟨_, e1⟩ := zz; rw [e1]; simp
          | xd fs => obtain ⟨_, ⟨_, _, _, e1, _⟩, _⟩ := zz; rw [e1]; simp
          | rng lo hi => obtain ⟨_, _, _, e1⟩ := zz; rw [e1]; simp
          | frz ob u => obtain ⟨e1, _⟩ := zz; rw [e1]; simp
          | tbl ps => have e1 : s.heap.get? dx = some _ := zz; rw [e1]; simp
          | met f1 y => have e1 : s.heap.get? dx = some _ := zz; rw [e1]; simp
          | ext φ => obtain ⟨_, ⟨_, e1⟩, _⟩ := zz; rw [e1]; simp)
    exact ⟨_, some ob, ⟨ho, rfl, rfl, hb⟩, fun dy z => by cases z; exact ⟨ob, rfl, hb⟩⟩
theorem ps_stX (ho : PE X o to) (he : PE X e te) (hs : swapsWith e (some (.Attribute o f p')) pos.line X.env = pure false := by rfl) : PS X (.Assign [.Attribute o f p'] e pos) (tStX X.K f to te) := by
  refine ⟨fun pins s σ H D I hh => plainObj_wpAny_Assign_Attribute (thn (he.run pins s σ H _ I hh) fun v s1 ⟨y, H1, I1, r1, q1⟩ => thn (ho.run pins s1 σ H1 _ I1 q1) fun u s2 ⟨x, H2, I2, r2, q⟩ => ?_) hs⟩
  obtain ⟨a, C, k, rfl, S, T, hno, q⟩ := q
  cases (show u = Value.ref a from r2)
  rcases q with ⟨ea, q⟩ | ⟨dx, fs, ea, ed, hl, q⟩
  · exact st_first S T I2 ea hno r1 fun dx s' n ne J => ⟨σ, _, J, q dx n ne⟩
  · exact st_later S T I2 ea ed hl hno r1 fun s' J => ⟨σ, _, J, q⟩
theorem pe_mkX {CX : CXT} {x : Str} {C fI : Addr} {j : Nat} {fd : FuncData} {ps : List Str} {sp : Sp} {ds : List Value} {dvs : List V} {k : Kd} (T : XC X.K k C) (iC : PySem.W.findIn X.K (.ref C) "__init__" = some (some (.ref fI))) (tI : PySem.W.typeIn X.K (.ref fI) = some (.type "function"))
    (F1 : FnOk X.prog X.w X.K X.mg X.base CX j fI fd ps sp) (hr : Room (j + 1) X.A) (hb : Binds X.K fd ps ds) (hd : Vals dvs ds) (hx : Passes CX X (fun _ _ _ => False)) (hg : Gl X x) (hm : X.mg x = some (.ref C)) (ha : PA X (e :: es) ta)
    (hdb : (x == ("__debug__" : Str)) = false := by decide) (he : starEach (e :: es) X.env = (false, eval e X.env) :: starEach es X.env := by rfl) (hpl : (backTo pos (starEach es X.env)).any (·.1) = false := by rfl) :
    PE X (.Call (.Name x p) (e :: es) [] pos) (tMkX C sp dvs ta) := by
  refine ⟨fun pins s σ H Q I hh => ?_⟩
  obtain ⟨nm, q, N, bs, bm, sn, sub, ab, col, dd, k0, k1, k2, k3, k5, hC, hbm⟩ := T.cls
  refine wpAny_Call_Name_kw (ld_glob I hg hm ?_ hdb)
  refine PySem.W.callWith_K (h₀ := X.base) I.ok.mod.kin T.kC (thn (ha.run pos pins s σ H _ I hh) fun us s1 ⟨vs, H1, I1, r1, hz, q1⟩ => ⟨I1.kIn, ?_⟩) he hpl
  show wpAny _ _ (call (.ref C) us) _ _ _
  obtain ⟨hp, g, dr, tk, os⟩ := s1
  obtain ⟨na, ena⟩ : ∃ na, na = hp.objs.size + 1 := ⟨_, rfl⟩
  have hsz : hp.objs.size ≤ na := by omega
  have hn : H1 na = none := I1.hok.fresh hsz
  have hq := q1 na hn
  obtain ⟨G, eG⟩ : ∃ G, G = (hp.push (PySem.W.kdv_tup us)).push (PySem.HandSPX.excO C hp.objs.size) := ⟨_, rfl⟩
  have kk : ∀ b o, hp.get? b = some o → G.get? b = some o := fun b o e1 => by rw [eG]; exact Heap.get?_push_of_some _ (Heap.get?_push_of_some _ e1)
  have there : G.get? na = some (PySem.HandSPX.excO C hp.objs.size) := by rw [eG, ena]; heap_get
  have I2 : Inv X pins σ (upd H1 na (xo na C none)) ⟨G, g, dr, tk, os⟩ := I1.laid (t' := tk) (a := na) (o := xo na C none) (h' := G) kk hsz (xo_ok there)
  have r2 : Vals (V.ref na :: (vs ++ dvs)) (Value.ref na :: (us ++ ds)) := .cons rfl (r1.append hd)
  have hl : (Value.ref na :: us ++ ds).length = ps.length := by
    have e1 := r2.length
    rw [F1.len _ _ _ _ hq] at e1
    exact e1.symm
  have hus : us.length ≤ sizeLine := by
    rw [← Paired.length r1, sizeLine_eq]
    omega
  refine wpAny_call (run_class k hbm (I1.kIn _ _ hC) (PySem.W.looks_findIn I1.kIn iC) (fun self => PySem.W.bind_fn I1.kIn self tI) hus ?_)
  rw [← eG, ← ena]
  refine codeAny_mono (F1.run _ X.stack _ _ ⟨Value.ref na :: us, []⟩ (Value.ref na :: (us ++ ds)) _ _ (fun _ _ _ => False) (hr.make C us []) (I2.env0.make C us []) (hb _ (Value.ref na :: us) I2.kIn hl) r2 hq) fun r s' hq' => ?_
  cases r with
  | error er => exact hx pins σ _ _ er s' I2 hq'
  | ok fl =>
    cases fl with
    | ret u =>
      obtain ⟨v, H2, os2, bare2, un2, hok2, rv, ev, q2⟩ := hq'
      subst ev
      exact ⟨rv, .ref na, H2, I2.call' (ch := []) os2 un2 hok2 bare2 fun b z => absurd z (by simp), rfl, q2⟩
    | next => exact False.elim hq'
    | brk => exact False.elim hq'
    | cont => exact False.elim hq'
theorem pe_atX {n : Str} (he : PE X e te) (hb : attributeBase e n X.env (eval e X.env) = eval e X.env := by rfl) : PE X (.Attribute e n pos) (tAtX X.K n te) := by
  refine ⟨fun pins s σ H Q I hh => attr_of hb (thn (he.run pins s σ H _ I hh) fun u s1 ⟨x, H1, I1, rx, q⟩ => ?_)⟩
  obtain ⟨a, C, dx, fs, v, k, rfl, ea, ed, T, hno, l, q⟩ := q
  cases (show u = Value.ref a from rx)
  obtain ⟨ox, od, J, hd⟩ := inst_of I1 ea fun d z => by cases z; exact ⟨_, ed⟩
  obtain ⟨ob, eo, ho⟩ := hd dx rfl
  obtain ⟨mA, hns, hr⟩ := exd_at I1.hok ed
  obtain ⟨o2, ho2, hl⟩ := lookIn_ns hns
  cases ho.symm.trans ho2
  subst eo
  obtain ⟨z, hz, rz⟩ := RelO.some_of (v := v) (o := mA n) (by rw [← l]; exact hr n)
  exact HandSPX.exc_get I1.kIn J T.ga T.gg (T.sub "BaseException" k.hE) (PySem.W.findObj_own T.hd hno rfl (by rw [hl, hz])) (handed_of rz) ⟨v, H1, I1.tok _, rz, q⟩
theorem call_isX : CallR X (.builtin "isinstance") (rIsX X.K) := by
  intro pins s σ H xs us Q I r q
  obtain ⟨a, C, d, k, c, cv, b, rfl, hcv, ea, hd, T, e, q⟩ := q
  cases r with
  | cons rx rr =>
    cases rr with
    | cons rt rr =>
      cases rr
      cases rx
      cases hcv _ rt
      obtain ⟨ox, od, J, _⟩ := inst_of I ea hd
      exact PySem.W.kia_one (PySem.W.kitx_exc T.isC T.ga T.gg (T.sub "BaseException" k.hE) T.cl oc_get oc_take (T.sub "object" k.hO)) I.kIn J e (fun z => nomatch z) fun tk => ⟨.bl b, H, I.kept (t' := tk) fun _ _ z => z, rfl, q⟩
end
end L2.Lr

set_option maxHeartbeats 4000000
namespace L2.Lr
open PySem PySem.Spec PyProof.Rows LR
/-! ### facts of a class, reckoned -/
def clB (K : PySem.W.Frag) (k : Kd) (C : Addr) : Bool := match K.lookup C with
  | some ⟨.type "type", _, .cls cd, sl⟩ => (match cd.mro, sl.toList with
    | .ref C' :: bm, [_, _, _, _, some (.builtin n), _] => C' == C && n == k.nid && !cd.hasDel && cd.hasDict && PySem.W.excTail k.tl bm
    | _, _ => false)
  | _ => false
theorem clB_ok {K : PySem.W.Frag} {k : Kd} {C : Addr} (q : clB K k C = true) : ∃ nm qn N bs bm sn sub ab col dd k0 k1 k2 k3 k5, K.lookup C = some (excClassObj nm qn C N bs bm true sn sub ab col dd k0 k1 k2 k3 k5 k.nid) ∧ PySem.W.excTail k.tl bm = true := by
  unfold clB at q
  split at q
  · rename_i dd cd sl ho
    split at q
    · rename_i C' bm k0 k1 k2 k3 n k5 hm hs
      simp only [Bool.and_eq_true, beq_iff_eq, Bool.not_eq_true'] at q
      obtain ⟨⟨⟨⟨rfl, rfl⟩, hdel⟩, hdict⟩, ht⟩ := q
      obtain ⟨nm, bs, mro, ns, qn, hd, sn, sub, ab, col, del⟩ := cd
      dsimp only at hm hdel hdict
      subst hm hdel hdict
      have es : sl = #[k0, k1, k2, k3, some (.builtin k.nid), k5] := by
        rw [← hs]
      subst es
      exact ⟨nm, qn, ns, bs, bm, sn, sub, ab, col, dd, k0, k1, k2, k3, k5, ho, ht⟩
    · cases q
  · cases q
def xcB (K : PySem.W.Frag) (k : Kd) (C : Addr) : Bool := clB K k C && (He.eqO (PySem.W.findIn K (.ref C) "__setattr__") (some (some (.builtin "object.__setattr__"))) && (He.eqO (PySem.W.findIn K (.ref C) "__getattribute__") (some (some (.builtin "BaseException.__getattribute__"))) &&
  (He.eqO (PySem.W.findIn K (.ref C) "__getattr__") (some none) && (He.eqO (PySem.W.findIn K (.ref C) "__class__") (some (some (.builtin "object.__class__"))) && PySem.W.keepIn K (.ref C)))))
theorem xcB_ok {K : PySem.W.Frag} {k : Kd} {C : Addr} (q : xcB K k C = true) : XC K k C := by
  obtain ⟨q1, q⟩ := He.ba q
  obtain ⟨q2, q⟩ := He.ba q
  obtain ⟨q3, q⟩ := He.ba q
  obtain ⟨q4, q⟩ := He.ba q
  obtain ⟨q5, q6⟩ := He.ba q
  exact ⟨clB_ok q1, He.eqO_ok q2, He.eqO_ok q3, He.eqO_ok q4, He.eqO_ok q5, q6⟩
/-! ### exceptions as the heap holds them -/
/-- at a: an exception of the class at C with these fields (none: no dict) -/
def ExF (H : Hp) (a C : Addr) : Option (List (Str × V)) → Prop
  | some fs => ∃ d, H a = some (xo a C (some d)) ∧ H d = some (exd d fs)
  | none => H a = some (xo a C none)
theorem ExF.same {H H' : Hp} {a C : Addr} {o : Option (List (Str × V))} (e : ExF H a C o) (s : Same H H') : ExF H' a C o := by
  cases o with
  | none => exact s _ _ e
  | some fs =>
    obtain ⟨d, e1, e2⟩ := e
    exact ⟨d, s _ _ e1, s _ _ e2⟩
theorem ExF.obj {H : Hp} {a C : Addr} {o : Option (List (Str × V))} (e : ExF H a C o) : ∃ d, H a = some (xo a C d) ∧ ∀ dx, d = some dx → ∃ u, H dx = some u := by
  cases o with
  | none => exact ⟨none, e, fun dx z => by cases z⟩
  | some fs =>
    obtain ⟨d, e1, e2⟩ := e
    exact ⟨some d, e1, fun dx z => by cases z; exact ⟨_, e2⟩⟩
theorem same_upd {H : Hp} {p : Addr} {o : HO} (n : H p = none) : Same H (upd H p o) := fun b u e => (upd_ne (ne_of_none e n)).trans e
theorem pe_weak {X : Cx} {e : Expr} {t t' : TE} (h : PE X e t) (i : ∀ σ H Q, t' σ H Q → t σ H Q) : PE X e t' := ⟨fun pins s σ H Q I q => h.run pins s σ H Q I (i σ H Q q)⟩
theorem pt_weak {X : Cx} {e : Expr} {t t' : TT} (h : PT X e t) (i : ∀ σ H Q, t' σ H Q → t σ H Q) : PT X e t' := ⟨fun pins s σ H Q I q => h.run pins s σ H Q I (i σ H Q q)⟩
theorem pa_weak {X : Cx} {es : List Expr} {t t' : TA} (h : PA X es t) (i : ∀ σ H Q, t' σ H Q → t σ H Q) : PA X es t' := ⟨fun p pins s σ H Q I q => h.run p pins s σ H Q I (i σ H Q q)⟩
/-- C(y): the new exception keeps y -/
def tNew (C : Addr) (te : TE) : TE := fun σ H Q => te σ H fun y H1 => ∀ a H', Same H1 H' → H1 a = none → ExF H' a C (some [("value", y)]) → Q (.ref a) H'
/-- C(z, y): .. keeps both -/
def tNew2 (C : Addr) (tz ty : TE) : TE := fun σ H Q => tz σ H fun z H1 => ty σ H1 fun y H2 => ∀ a H', Same H2 H' → H2 a = none → ExF H' a C (some [("value", y), ("word", z)]) → Q (.ref a) H'
/-- C() -/
def tNew0 (C : Addr) : TE := fun σ H Q => ∀ a, H a = none → Q (.ref a) (upd H a (xo a C none))
/-- isinstance(e, c): b -/
def tIsX (K : PySem.W.Frag) (te : TE) (cv : Value) : TE := fun σ H Q => te σ H fun x H1 => ∃ (a C : Addr) (o : Option (List (Str × V))) (k : Kd) (b : Bool), x = .ref a ∧ ExF H1 a C o ∧ XC K k C ∧ PySem.W.kitOne K (.ref C) cv = some b ∧ Q (.bl b) H1
/-- e.n -/
def tGetX (K : PySem.W.Frag) (n : Str) (te : TE) : TE := fun σ H Q => te σ H fun x H1 => ∃ (a C : Addr) (fs : List (Str × V)) (v : V) (k : Kd), x = .ref a ∧ ExF H1 a C (some fs) ∧ XC K k C ∧ PySem.W.findIn K (.ref C) n = some none ∧ fs.lookup n = some v ∧ Q v H1
/-! ### the promises of the __init__s -/
def spIni (K : PySem.W.Frag) : Sp := fun vs H Q _ => ∃ (a C : Addr) (k : Kd) (y : V), vs = [.ref a, y] ∧ k.SF ∧ XC K k C ∧ PySem.W.findIn K (.ref C) "value" = some none ∧ H a = some (xo a C none) ∧
  ∀ H', (∀ b o, H b = some o → b ≠ a → H' b = some o) → ExF H' a C (some [("value", y)]) → Q .non H'
def spIni2 (K : PySem.W.Frag) : Sp := fun vs H Q _ => ∃ (a C : Addr) (k : Kd) (z y : V), vs = [.ref a, z, y] ∧ k.SF ∧ XC K k C ∧ PySem.W.findIn K (.ref C) "value" = some none ∧ PySem.W.findIn K (.ref C) "word" = some none ∧ H a = some (xo a C none) ∧
  ∀ H', (∀ b o, H b = some o → b ≠ a → H' b = some o) → ExF H' a C (some [("value", y), ("word", z)]) → Q .non H'
/-- a reading with a wish that may be stronger -/
def tUp (te : TE) : TE := fun σ H Q => ∃ Q' : VK, te σ H Q' ∧ ∀ v H', Q' v H' → Q v H'
theorem pe_up {X : Cx} {e : Expr} {te : TE} (h : PE X e te) : PE X e (tUp te) := ⟨fun pins s σ H Q I ⟨Q', q, i⟩ => thn (h.run pins s σ H Q' I q) fun u s1 ⟨v, H1, I1, r, q1⟩ => ⟨v, H1, I1, r, i v H1 q1⟩⟩
section
variable {X : Cx} {e e2 : Expr} {es : List Expr} {te t2 : TE} {ta : TA} {p p' p1 p2 pos : Pos}
theorem pe_new {x : Str} {C fI : Addr} {j : Nat} {fd : FuncData} {k : Kd} (S : k.SF) (T : XC X.K k C) (nv : PySem.W.findIn X.K (.ref C) "value" = some none) (iC : PySem.W.findIn X.K (.ref C) "__init__" = some (some (.ref fI))) (tI : PySem.W.typeIn X.K (.ref fI) = some (.type "function"))
    (F1 : FnOk X.prog X.w X.K X.mg X.base CX0 j fI fd ["self", "value"] (spIni X.K)) (hr : Room (j + 1) X.A) (hb : Binds X.K fd ["self", "value"] []) (hm : X.mg x = some (.ref C)) (ha : PE X e te) (hg : Gl X x := by rfl)
    (hdb : (x == ("__debug__" : Str)) = false := by decide) (he : starEach (e :: []) X.env = (false, eval e X.env) :: starEach [] X.env := by rfl) (hpl : (backTo pos (starEach [] X.env)).any (·.1) = false := by rfl) :
    PE X (.Call (.Name x p) [e] [] pos) (tNew C te) := by
  refine pe_weak (pe_mkX (e := e) (es := []) (dvs := []) T iC tI F1 hr hb .nil pass0 hg hm (pa_cons (pe_up ha) pa_nil he) hdb he hpl) fun σ H Q q => ?_
  refine ⟨_, q, fun y H1 q1 => ⟨by show 1 ≤ 1000; decide, fun a hn => ⟨a, C, k, y, rfl, S, T, nv, upd_same, fun H2 keep ex => ⟨rfl, q1 a H2 (fun b o z => ?_) hn ex⟩⟩⟩⟩
  have ne : b ≠ a := ne_of_none z hn
  exact keep b o ((upd_ne ne).trans z) ne
theorem pe_new2 {x : Str} {C fI : Addr} {j : Nat} {fd : FuncData} {k : Kd} (S : k.SF) (T : XC X.K k C) (nv : PySem.W.findIn X.K (.ref C) "value" = some none) (nw : PySem.W.findIn X.K (.ref C) "word" = some none) (iC : PySem.W.findIn X.K (.ref C) "__init__" = some (some (.ref fI))) (tI : PySem.W.typeIn X.K (.ref fI) = some (.type "function"))
    (F1 : FnOk X.prog X.w X.K X.mg X.base CX0 j fI fd ["self", "word", "value"] (spIni2 X.K)) (hr : Room (j + 1) X.A) (hb : Binds X.K fd ["self", "word", "value"] []) (hm : X.mg x = some (.ref C)) (ha : PE X e te) (ha2 : PE X e2 t2) (hg : Gl X x := by rfl)
    (hdb : (x == ("__debug__" : Str)) = false := by decide) (he : starEach (e :: [e2]) X.env = (false, eval e X.env) :: starEach [e2] X.env := by rfl) (he2 : starEach (e2 :: []) X.env = (false, eval e2 X.env) :: starEach [] X.env := by rfl) (hpl : (backTo pos (starEach [e2] X.env)).any (·.1) = false := by rfl) :
    PE X (.Call (.Name x p) [e, e2] [] pos) (tNew2 C te t2) := by
  refine pe_weak (pe_mkX (e := e) (es := [e2]) (dvs := []) T iC tI F1 hr hb .nil pass0 hg hm (pa_cons (pe_up ha) (pa_cons (pe_up ha2) pa_nil he2) he) hdb he hpl) fun σ H Q q => ?_
  refine ⟨_, q, fun z H1 q1 => ⟨_, q1, fun y H2 q2 => ⟨by show 2 ≤ 1000; decide, fun a hn => ⟨a, C, k, z, y, rfl, S, T, nv, nw, upd_same, fun H3 keep ex => ⟨rfl, q2 a H3 (fun b o zz => ?_) hn ex⟩⟩⟩⟩⟩
  have ne : b ≠ a := ne_of_none zz hn
  exact keep b o ((upd_ne ne).trans zz) ne
theorem pe_new0 {x : Str} {C : Addr} {bmB : List Value} {B newId initId : String} (F : ExcBaseFacts B newId initId bmB) (q : PySem.W.excIn X.K C bmB newId = true) (kC : PySem.W.keepIn X.K (.ref C) = true) (hm : X.mg x = some (.ref C)) (hg : Gl X x := by rfl) (hdb : (x == ("__debug__" : Str)) = false := by decide) :
    PE X (.Call (.Name x p) [] [] pos) (tNew0 C) := by
  refine ⟨fun pins s σ H Q I h => ?_⟩
  refine wpAny_Call_Name_kw (ld_glob I hg hm (PySem.W.callWith_K0 I.kIn kC ?_) hdb)
  obtain ⟨bm, N, nm, qn, bs, hdct, sn, sub, ab, col, dd, k0, k1, k2, k3, k5, mN, hC, hN, hni, T⟩ := exc_obj I.kIn q
  refine wpAny_call_exc_subT F T hC hN hni (fun h' a hm' => ?_) (Nat.zero_le _)
  have hn : H a = none := I.hok.gone hm'.new
  obtain ⟨t, ht, _, _⟩ := hm'.there
  exact ⟨.ref a, _, I.laidN hm'.keeps hm'.new hn (xo_ok ht), rfl, h a hn⟩
theorem pe_isX {c : V} {cv : Value} (pe2 : PE X e2 (tC c)) (hv : ∀ u, RelV c u → u = cv) (hm : X.mg "isinstance" = none) (ha : PE X e te) (hg : Gl X "isinstance" := by rfl)
    (he : starEach (e :: [e2]) X.env = (false, eval e X.env) :: starEach [e2] X.env := by rfl) (he2 : starEach (e2 :: []) X.env = (false, eval e2 X.env) :: starEach [] X.env := by rfl) (hpl : (backTo pos (starEach [e2] X.env)).any (·.1) = false := by rfl) :
    PE X (.Call (.Name "isinstance" p) [e, e2] [] pos) (tIsX X.K te cv) := by
  refine pe_weak (pe_callB (e := e) (es := [e2]) call_isX hg hm boot_isinstance (pa_cons (pe_up ha) (pa_cons pe2 pa_nil he2) he) (by decide) (by decide) he hpl) fun σ H Q q => ?_
  refine ⟨_, q, fun x H1 q1 => ?_⟩
  obtain ⟨a, C, o, k, b, rfl, ex, T, e, q⟩ := q1
  obtain ⟨d, e1, e2⟩ := ex.obj
  exact ⟨a, C, d, k, c, cv, b, rfl, hv, e1, e2, T, e, q⟩
theorem pe_getX {n : Str} (he : PE X e te) (hb : attributeBase e n X.env (eval e X.env) = eval e X.env := by rfl) : PE X (.Attribute e n pos) (tGetX X.K n te) := by
  refine pe_weak (pe_atX (pe_up he) hb) fun σ H Q q => ⟨_, q, fun x H1 q1 => ?_⟩
  obtain ⟨a, C, fs, v, k, rfl, ⟨d, e1, e2⟩, T, hno, l, q⟩ := q1
  exact ⟨a, C, d, fs, v, k, rfl, e1, e2, T, hno, l, q⟩
end
end L2.Lr

set_option maxHeartbeats 4000000
namespace L2.Lr
open PySem PySem.Spec PyProof.Rows LR
local macro_rules | `(tactic| walk_at "rd") => `(tactic| simp only [tSeq, tAsg, gName, tIfS, tTest, tOp, rI, rI0, tVar, tC, tCB, tCons, tNil, tNext, tRet, tLst, rIxL, CPow, CMul, gSub, rSetL,
  List.getElem?_cons_zero, List.getElem?_cons_succ, List.set_cons_zero, List.set_cons_succ, Option.some.injEq, V.int.injEq, V.ref.injEq, V.bl.injEq, V.str.injEq, List.cons.injEq, and_true, true_and, exists_and_left, exists_eq_left', exists_eq_left, exists_eq, decide_eq_true_eq, or_true, true_or, List.length_cons, List.length_nil, Nat.zero_add, Nat.reduceAdd])
local macro_rules | `(tactic| walk_at "so") => `(tactic| repeat (first | refine And.intro (by omega) ?_ | refine And.intro (by decide) ?_))
def top (i : Nat) : Stmt := PySem.Challenge.pw_leastrooms_k05_exceptions_apart.main.body.getD i (.Pass ⟨0, 0, 0, 0⟩)
abbrev sIR : Stmt := inClass (top 1) 0
abbrev sIN : Stmt := inClass (top 32) 0
abbrev sIF : Stmt := inClass (top 36) 0
abbrev sPool : Stmt := top 41
abbrev sTake : Stmt := top 42
abbrev sKinds : Stmt := top 43
abbrev sRoots : Stmt := top 44
abbrev sValues : Stmt := top 45
abbrev sLaw : Stmt := top 46
abbrev FnP (K : PySem.W.Frag) (x : Str) (st : Stmt) (f : Addr) (fd : FuncData) : Prop := FunD K x x (defArgs st) (defBody st) (defScope st) [] [] f fd
abbrev FnM (K : PySem.W.Frag) (q : Str) (st : Stmt) (f : Addr) (fd : FuncData) : Prop := FunD K "__init__" q (defArgs st) (defBody st) (defScope st) [] [] f fd
theorem scI1 : FnScope ["self", "value"] ["self", "value"] (defScope sIR) := ⟨rfl, rfl, rfl, by decide +kernel, rfl, by decide +kernel, by decide +kernel⟩
theorem scI2 : FnScope ["self", "value"] ["self", "value"] (defScope sIN) := ⟨rfl, rfl, rfl, by decide +kernel, rfl, by decide +kernel, by decide +kernel⟩
theorem scI3 : FnScope ["self", "word", "value"] ["self", "word", "value"] (defScope sIF) := ⟨rfl, rfl, rfl, by decide +kernel, rfl, by decide +kernel, by decide +kernel⟩
theorem scP : FnScope ["_law_script", "_law_k", "_law_cell", "_law_seed"] ["_law_script", "_law_k"] (defScope sPool) := ⟨rfl, rfl, rfl, by decide +kernel, rfl, by decide +kernel, by decide +kernel⟩
theorem scT : FnScope ["_law_pool_here", "_law_many", "_law_found"] ["_law_pool_here", "_law_many"] (defScope sTake) := ⟨rfl, rfl, rfl, by decide +kernel, rfl, by decide +kernel, by decide +kernel⟩
theorem scK : FnScope ["_law_e", "_law_found"] ["_law_e"] (defScope sKinds) := ⟨rfl, rfl, rfl, by decide +kernel, rfl, by decide +kernel, by decide +kernel⟩
theorem scR : FnScope ["_law_e", "_law_found"] ["_law_e"] (defScope sRoots) := ⟨rfl, rfl, rfl, by decide +kernel, rfl, by decide +kernel, by decide +kernel⟩
theorem scV : FnScope ["_law_value", "_law_found"] ["_law_value"] (defScope sValues) := ⟨rfl, rfl, rfl, by decide +kernel, rfl, by decide +kernel, by decide +kernel⟩
theorem scL : FnScope ["_law_script", "_law_k", "_law_pool_here", "_law_value", "_law_made", "_law_at", "_law_kinds_here", "_law_to", "_law_roots_here"] ["_law_script"] (defScope sLaw) := ⟨rfl, rfl, rfl, by decide +kernel, rfl, by decide +kernel, by decide +kernel⟩
/-! ### the classes -/
def nmS : List String := ["BadText", "BadCount", "BadRow", "BadNumber", "BadNet", "BadRooms", "Small", "BadGroup", "NoKnot", "BadCourse", "NotRight", "BadPrices", "BadList", "BadVector", "NotSo", "BadLine", "BadPaper", "BadPolicy", "NoBeat", "BadPace", "BadBeats", "BadChange", "BadSeeds", "BadValue", "BadEntries", "BadJournal", "BadEvent", "BadEvents", "BadPlan", "BadQuestion", "NoProcess", "NoChannel", "NoStore", "Refused", "TooLong", "TooMany", "NotStraight", "RoomError", "NoEntry"]
def nms : List Str := nmS.map Str.ofString
def nm (i : Nat) : Str := nms.getD i ""
def CA (K : PySem.W.Frag) (i : Nat) : Addr := He.ga K (nm i)
def kdOf (i : Nat) : Kd := if i < 30 then xV else if i < 33 then xK else if i < 37 then xR else if i = 37 then xV else xK
theorem sfOf (i : Nat) : (kdOf i).SF := by
  unfold kdOf
  split
  · exact sV
  · split
    · exact sK
    · split
      · exact sR
      · split
        · exact sV
        · exact sK
/-- where its __init__ stands: RoomError's, NoEntry's, Refused's -/
def fI (K : PySem.W.Frag) (i : Nat) : Addr := if i = 33 then He.ma K (CA K 33) "__init__" else if i < 30 then He.ma K (CA K 37) "__init__" else if i < 37 then He.ma K (CA K 38) "__init__" else He.ma K (CA K i) "__init__"
structure Txt (K : PySem.W.Frag) (mg : Str → Option Value) : Prop where
  g : ∀ i, i < 39 → mg (nm i) = some (.ref (CA K i))
  x : ∀ i, i < 39 → XC K (kdOf i) (CA K i)
  nv : ∀ i, i < 39 → PySem.W.findIn K (.ref (CA K i)) "value" = some none
  nw : PySem.W.findIn K (.ref (CA K 33)) "word" = some none
  iC : ∀ i, i < 39 → (i < 34 ∨ 37 ≤ i) → PySem.W.findIn K (.ref (CA K i)) "__init__" = some (some (.ref (fI K i)))
  tI : ∀ i, i < 39 → (i < 34 ∨ 37 ≤ i) → PySem.W.typeIn K (.ref (fI K i)) = some (.type "function")
  ex : ∀ i, i < 37 → 34 ≤ i → PySem.W.excIn K (CA K i) tlR "RuntimeError.__new__" = true
  kk : ∀ i j, i < 37 → j < 37 → PySem.W.kitOne K (.ref (CA K i)) (.ref (CA K j)) = some (i == j)
  kr : ∀ i, i < 37 → PySem.W.kitOne K (.ref (CA K i)) (.ref (CA K 37)) = some (decide (i < 30))
  kn : ∀ i, i < 37 → PySem.W.kitOne K (.ref (CA K i)) (.ref (CA K 38)) = some (decide (30 ≤ i) && decide (i < 33))
  bV : ∀ i, i < 37 → PySem.W.kitOne K (.ref (CA K i)) (.type "ValueError") = some (decide (i < 30))
  bK : ∀ i, i < 37 → PySem.W.kitOne K (.ref (CA K i)) (.type "KeyError") = some (decide (30 ≤ i) && decide (i < 33))
  bR : ∀ i, i < 37 → PySem.W.kitOne K (.ref (CA K i)) (.type "RuntimeError") = some (decide (33 ≤ i))
  bE : ∀ i, i < 37 → PySem.W.kitOne K (.ref (CA K i)) (.type "Exception") = some true
  isn : mg "isinstance" = none
  len : mg "len" = none
  range : mg "range" = none
  max : mg "max" = none
  min : mg "min" = none
  vE : mg "ValueError" = none
  kE : mg "KeyError" = none
  rE : mg "RuntimeError" = none
  eE : mg "Exception" = none
/-! ### what the law draws -/
def PoolOk (c s : Int) : Prop := 0 ≤ c ∧ 0 ≤ s ∧ s < 2147483648
def spPool (K : PySem.W.Frag) : Sp := fun vs H Q _ => ∃ (a : Addr) (ns : List Int) (k : Int), vs = [.ref a, .int k] ∧ SqL K H a (ns.map V.int) ∧ ns.length ≤ 1000 ∧ 0 ≤ k ∧ k < 1000 ∧
  ∀ (c s : Int) (p : Addr), PoolOk c s → H p = none → Q (.ref p) (upd H p (.lst [.int c, .int s]))
def spTake : Sp := fun vs H Q _ => ∃ (p : Addr) (c s m : Int), vs = [.ref p, .int m] ∧ H p = some (.lst [.int c, .int s]) ∧ PoolOk c s ∧ 0 < m ∧ m < 2 ^ 128 ∧
  ∀ (r c' s' : Int), 0 ≤ r → r < m → PoolOk c' s' → Q (.int r) (upd H p (.lst [.int c', .int s']))
section
variable {P : Program} {w : World} {K : PySem.W.Frag} {mg : Str → Option Value} {base : Heap}
theorem seed_ok (x : Int) : PoolOk 0 (x % 2147483587 + 1) := by
  refine ⟨Int.le_refl 0, ?_, ?_⟩ <;> omega
theorem seed_ok' (c x : Int) (h : 0 ≤ c) : PoolOk c (x % 2147483587 + 1) := by
  refine ⟨h, ?_, ?_⟩ <;> omega
theorem ok_pool {f : Addr} {fd : FuncData} (F : FnP K "_law_pool" sPool f fd) (gl : mg "len" = none) : FnOk P w K mg base CX0 1 f fd ["_law_script", "_law_k"] (spPool K) := by
  refine F.ok scP (fun vs H Q E h => ?_) (fun cdv A outer s H vs Q E hr h => ?_)
  · obtain ⟨a, ns, k, rfl, _⟩ := h
    rfl
  · obtain ⟨a, ns, k, rfl, hS, hl, h0, h1, q⟩ := h
    refine ⟨_, pss_cons (ps_set (i := 2) scP.nd rfl (Or.inl rfl) pe_int)
      (pss_cons (ps_if (pt_cmpR op_lt (pv 1) (pe_callB call_len (by rfl) gl boot_len (pa_cons (pv 0) pa_nil)) (nomark _)) (pss_one (ps_set (i := 2) scP.nd rfl (Or.inl rfl) (pe_ix ix_list (pv 0) (pv 1) (fun _ _ => rfl)))) pss_nil)
      (pss_cons (ps_set (i := 3) scP.nd rfl (Or.inl rfl) (pe_op op_mod (pe_op op_mul (pe_op op_add (pe_op op_add (pe_op op_mod (pv 2) pe_int) (pe_op op_mul (pe_op op_mul pe_int (pv 1)) (pv 1))) pe_int) pe_int) pe_int))
      (pss_cons (ps_if (pt_cmpR op_lt (pv 2) (pe_op op_pow pe_int pe_int) (nomark _)) (pss_one (ps_set (i := 2) scP.nd rfl (Or.inl rfl) pe_int)) pss_nil)
      (pss_one (ps_ret (pe_lst (pa_cons (pv 2) (pa_cons (pe_op op_add (pe_op op_mod (pe_op op_mul (pv 3) (pv 3)) pe_int) pe_int) pa_nil)))))))), ?_⟩
    have e0 : start ["_law_script", "_law_k", "_law_cell", "_law_seed"] [V.ref a, V.int k] = [some (.ref a), some (.int k), none, none] := rfl
    rw [e0]
    walk_at "rd"
    have e2 : (10 : Int) ^ (Int.toNat 18) = 1000000000000000000 := by decide
    rw [e2]
    refine ⟨(ns.map V.int).length, Or.inl ⟨_, hS, rfl⟩, ?_⟩
    rw [List.length_map]
    split
    · rename_i hk
      obtain ⟨z, ez⟩ : ∃ z, ns[k.toNat]? = some z := ⟨_, List.getElem?_eq_getElem (by omega)⟩
      refine ⟨_, hS, .int z, ?_, z, rfl, ?_⟩
      · have e1 : k = (k.toNat : Int) := by omega
        rw [e1]
        exact atI_nat (by rw [List.getElem?_map, ez]; rfl)
      · walk_at "so"
        refine ⟨z, rfl, ?_⟩
        split
        · walk_at "so"
          exact fun p hp => q _ _ _ (seed_ok _) hp
        · rename_i hc
          walk_at "so"
          exact fun p hp => q _ _ _ (seed_ok' _ _ (by omega)) hp
    · walk_at "so"
      exact fun p hp => q _ _ _ (seed_ok _) hp
theorem ok_take {f : Addr} {fd : FuncData} (F : FnP K "_law_take" sTake f fd) : FnOk P w K mg base CX0 1 f fd ["_law_pool_here", "_law_many"] spTake := by
  refine F.ok scT (fun vs H Q E h => ?_) (fun cdv A outer s H vs Q E hr h => ?_)
  · obtain ⟨a, c, s, m, rfl, _⟩ := h
    rfl
  · obtain ⟨p, c, s, m, rfl, hp, ⟨hc, hs0, hs1⟩, hm0, hm1, q⟩ := h
    refine ⟨_, pss_cons (ps_if (pt_cmpR op_gt (pe_ix ix_list (pv 0) pe_int (fun _ _ => rfl)) pe_int (nomark _))
        (pss_cons (ps_set (i := 2) scT.nd rfl (Or.inl rfl) (pe_op op_mod (pe_ix ix_list (pv 0) pe_int (fun _ _ => rfl)) (pv 1)))
        (pss_cons (ps_asg (pe_op op_fdivW (pe_ix ix_list (pv 0) pe_int (fun _ _ => rfl)) (pv 1)) (pg_sub (pv 0) pe_int set_list))
        (pss_one (ps_ret (pv 2))))) pss_nil)
      (pss_cons (ps_asg (pe_op op_mod (pe_op op_add (pe_op op_mul (pe_ix ix_list (pv 0) pe_int (fun _ _ => rfl)) pe_int) pe_int) pe_int) (pg_sub (pv 0) pe_int set_list))
      (pss_one (ps_ret (pe_op op_mod (pe_op op_fdiv (pe_op op_mod (pe_op op_mul (pe_ix ix_list (pv 0) pe_int (fun _ _ => rfl)) (pe_ix ix_list (pv 0) pe_int (fun _ _ => rfl))) pe_int) pe_int) (pv 1))))), ?_⟩
    have e0 : start ["_law_pool_here", "_law_many", "_law_found"] [V.ref p, V.int m] = [some (.ref p), some (.int m), none] := rfl
    rw [e0]
    walk_at "rd"
    refine ⟨_, SqL.of hp, _, rfl, c, rfl, ?_⟩
    split
    · refine ⟨_, SqL.of hp, _, rfl, c, rfl, hm0, _, SqL.of hp, _, rfl, c, rfl, wide_div (b := 128) hm0 (by omega) (by decide) (by decide), _, hp, 0, rfl, ?_⟩
      exact q _ _ s (Int.emod_nonneg _ (by omega)) (Int.emod_lt_of_pos _ hm0) ⟨Int.ediv_nonneg hc (by omega), hs0, hs1⟩
    · refine ⟨_, SqL.of hp, .int s, rfl, s, rfl, by omega, by decide, _, hp, 1, rfl, _, SqL.of upd_same, _, rfl, _, SqL.of upd_same, _, rfl, _, rfl, _, rfl, .inl (by omega), by decide, ⟨by decide, by decide⟩, hm0, ?_⟩
      exact q _ c _ (Int.emod_nonneg _ (by omega)) (Int.emod_lt_of_pos _ hm0) ⟨hc, by omega, by omega⟩
/-! ### the __init__s -/
theorem fs_put {H : Hp} {a C dx : Addr} {y : V} (ne : dx ≠ a) : ExF (upd (upd H dx (exd dx [("value", y)])) a (xo a C (some dx))) a C (some [("value", y)]) :=
  ⟨dx, upd_same, (upd_ne ne).trans upd_same⟩
theorem ok_iR {f : Addr} {fd : FuncData} (F : FnM K "RoomError.__init__" sIR f fd) : FnOk P w K mg base CX0 1 f fd ["self", "value"] (spIni K) := by
  refine F.ok scI1 (fun vs H Q E h => ?_) (fun cdv A outer s H vs Q E hr h => ?_)
  · obtain ⟨a, C, k, y, rfl, _⟩ := h
    rfl
  · obtain ⟨a, C, k, y, rfl, Sf, T, nv, ha, go⟩ := h
    refine ⟨_, pss_one (ps_stX (pv 0) (pv 1)), _, rfl, _, rfl, a, C, k, rfl, Sf, T, nv, .inl ⟨ha, fun dx hd ne => go _ (fun b o z nb => ?_) (fs_put ne)⟩⟩
    exact (upd_ne nb).trans ((upd_ne (ne_of_none z hd)).trans z)
theorem ok_iN {f : Addr} {fd : FuncData} (F : FnM K "NoEntry.__init__" sIN f fd) : FnOk P w K mg base CX0 1 f fd ["self", "value"] (spIni K) := by
  refine F.ok scI2 (fun vs H Q E h => ?_) (fun cdv A outer s H vs Q E hr h => ?_)
  · obtain ⟨a, C, k, y, rfl, _⟩ := h
    rfl
  · obtain ⟨a, C, k, y, rfl, Sf, T, nv, ha, go⟩ := h
    refine ⟨_, pss_one (ps_stX (pv 0) (pv 1)), _, rfl, _, rfl, a, C, k, rfl, Sf, T, nv, .inl ⟨ha, fun dx hd ne => go _ (fun b o z nb => ?_) (fs_put ne)⟩⟩
    exact (upd_ne nb).trans ((upd_ne (ne_of_none z hd)).trans z)
theorem ok_iF {f : Addr} {fd : FuncData} (F : FnM K "Refused.__init__" sIF f fd) : FnOk P w K mg base CX0 1 f fd ["self", "word", "value"] (spIni2 K) := by
  refine F.ok scI3 (fun vs H Q E h => ?_) (fun cdv A outer s H vs Q E hr h => ?_)
  · obtain ⟨a, C, k, z, y, rfl, _⟩ := h
    rfl
  · obtain ⟨a, C, k, z, y, rfl, Sf, T, nv, nw, ha, go⟩ := h
    refine ⟨_, pss_cons (ps_stX (pv 0) (pv 1)) (pss_one (ps_stX (pv 0) (pv 2))), _, rfl, _, rfl, a, C, k, rfl, Sf, T, nw, .inl ⟨ha, fun dx hd ne => ?_⟩⟩
    refine ⟨_, rfl, _, rfl, a, C, k, rfl, Sf, T, nv, .inr ⟨dx, _, upd_same, (upd_ne ne).trans upd_same, by show 1 ≤ 900; decide, ?_⟩⟩
    refine go _ (fun b o u nb => ?_) ⟨dx, (upd_ne ne.symm).trans upd_same, upd_same⟩
    have nd := ne_of_none u hd
    exact (upd_ne nd).trans ((upd_ne nb).trans ((upd_ne nd).trans u))
theorem bbV : bootBuiltins "ValueError" = some (.type "ValueError") := by decide +kernel
theorem bbK : bootBuiltins "KeyError" = some (.type "KeyError") := by decide +kernel
theorem bbR : bootBuiltins "RuntimeError" = some (.type "RuntimeError") := by decide +kernel
theorem bbE : bootBuiltins "Exception" = some (.type "Exception") := by decide +kernel
/-! ### isinstance, in rows -/
/-- the exception in slot 0 is of the i-th class -/
def IsI (K : PySem.W.Frag) (σ : St) (H : Hp) (i : Nat) : Prop := ∃ a o, σ[0]? = some (some (.ref a)) ∧ i < 37 ∧ ExF H a (CA K i) o
theorem IsI.same {σ : St} {H H' : Hp} {i : Nat} (h : IsI K σ H i) (s : Same H H') : IsI K σ H' i := by
  obtain ⟨a, o, e, hi, ex⟩ := h
  exact ⟨a, o, e, hi, ex.same s⟩
def tIsL (K : PySem.W.Frag) (f : Nat → List V) : TA := fun σ H Q => ∃ i, IsI K σ H i ∧ Q (f i) H
theorem pa_isN {X : Cx} : PA X [] (tIsL X.K fun _ => []) := pa_weak pa_nil fun σ H Q ⟨_, _, q⟩ => q
theorem pa_is {X : Cx} {e : Expr} {es : List Expr} {cv : Value} {b : Nat → Bool} {f : Nat → List V} (T : Txt X.K mg) (hb : ∀ i, i < 37 → PySem.W.kitOne X.K (.ref (CA X.K i)) cv = some (b i)) (h1 : PE X e (tIsX X.K (tVar 0) cv)) (h2 : PA X es (tIsL X.K f))
    (hs : starEach (e :: es) X.env = (false, eval e X.env) :: starEach es X.env := by rfl) : PA X (e :: es) (tIsL X.K fun i => .bl (b i) :: f i) :=
  pa_weak (pa_cons h1 h2 hs) fun σ H Q ⟨i, I, q⟩ => by
    obtain ⟨a, o, e, hi, ex⟩ := id I
    exact ⟨_, e, a, CA X.K i, o, kdOf i, b i, rfl, ex, T.x i (by omega), hb i hi, i, I, q⟩
def tIsC (K : PySem.W.Frag) (f : Nat → List V) : TE := fun σ H Q => ∃ i l xs, IsI K σ H i ∧ σ[1]? = some (some (.ref l)) ∧ H l = some (.lst xs) ∧ xs.length + (f i).length ≤ 1000 ∧
  ∀ p H', Same H H' → H p = none → H' p = some (.lst (xs ++ f i)) → Q (.ref p) H'
theorem pe_isC {X : Cx} {es : List Expr} {f : Nat → List V} {p1 p2 : Pos} {e1 : Expr} (h1 : PE X e1 (tVar 1)) (h : PA X es (tIsL X.K f)) : PE X (.BinOp e1 .Add (.List es p1) p2) (tIsC X.K f) :=
  pe_weak (pe_op op_cat h1 (pe_lst h)) fun σ H Q ⟨i, l, xs, I, hσ, hl, hz, q⟩ => by
    refine ⟨_, hσ, i, I, Nat.le_trans (Nat.le_trans (Nat.le_add_left _ _) hz) (by decide), fun b nb => ⟨l, b, xs, _, rfl, rfl, (upd_ne (ne_of_none hl nb)).trans hl, upd_same, Nat.le_trans hz (by decide), fun p np => ?_⟩⟩
    exact q p _ ((same_upd nb).trans (same_upd np)) ((same_upd nb).free np) upd_same
def tIsF (K : PySem.W.Frag) (f : Nat → List V) : TE := fun σ H Q => ∃ i, IsI K σ H i ∧ (f i).length ≤ 1000 ∧ ∀ p H', Same H H' → H p = none → H' p = some (.lst (f i)) → Q (.ref p) H'
theorem pe_isF {X : Cx} {es : List Expr} {f : Nat → List V} {p1 : Pos} (h : PA X es (tIsL X.K f)) : PE X (.List es p1) (tIsF X.K f) :=
  pe_weak (pe_lst h) fun σ H Q ⟨i, I, hz, q⟩ => ⟨i, I, Nat.le_trans hz (by decide), fun b nb => q b _ (same_upd nb) nb upd_same⟩
def kRow (i : Nat) : List V := (List.range 37).map fun j => .bl (i == j)
def rRow (i : Nat) : List V := [.bl (decide (i < 30)), .bl (decide (30 ≤ i) && decide (i < 33)), .bl (decide (33 ≤ i)), .bl (decide (i < 30)), .bl (decide (30 ≤ i) && decide (i < 33))]
def spIs (K : PySem.W.Frag) (f : Nat → List V) : Sp := fun vs H Q _ => ∃ a i o, vs = [.ref a] ∧ i < 37 ∧ ExF H a (CA K i) o ∧ ∀ p H', Same H H' → H p = none → H' p = some (.lst (f i)) → Q (.ref p) H'
theorem ok_kinds {f : Addr} {fd : FuncData} (F : FnP K "_law_kinds" sKinds f fd) (T : Txt K mg) : FnOk P w K mg base CX0 1 f fd ["_law_e"] (spIs K kRow) := by
  refine F.ok scK (fun vs H Q E h => ?_) (fun cdv A outer s H vs Q E hr h => ?_)
  · obtain ⟨a, i, o, rfl, _⟩ := h
    rfl
  · obtain ⟨a, i, o, rfl, hi, ex, q⟩ := h
    have I0 : IsI K (start ["_law_e", "_law_found"] [V.ref a]) H i := ⟨a, o, rfl, hi, ex⟩
    refine ⟨_, pss_cons (ps_set (i := 1) scK.nd rfl (Or.inl rfl) (pe_isF (pa_is T (fun i hi => T.kk i 0 hi (by decide)) (pe_isX (c := .ref (CA K 0)) (cv := .ref (CA K 0)) (pe_glob (by rfl) (T.g 0 (by decide)) (by rfl)) (fun u h => h) T.isn (pv 0)) (pa_is T (fun i hi => T.kk i 1 hi (by decide)) (pe_isX (c := .ref (CA K 1)) (cv := .ref (CA K 1)) (pe_glob (by rfl) (T.g 1 (by decide)) (by rfl)) (fun u h => h) T.isn (pv 0)) (pa_is T (fun i hi => T.kk i 2 hi (by decide)) (pe_isX (c := .ref (CA K 2)) (cv := .ref (CA K 2)) (pe_glob (by rfl) (T.g 2 (by decide)) (by rfl)) (fun u h => h) T.isn (pv 0)) (pa_is T (fun i hi => T.kk i 3 hi (by decide)) (pe_isX (c := .ref (CA K 3)) (cv := .ref (CA K 3)) (pe_glob (by rfl) (T.g 3 (by decide)) (by rfl)) (fun u h => h) T.isn (pv 0)) pa_isN))))))
      (pss_cons (ps_set (i := 1) scK.nd rfl (Or.inl rfl) (pe_isC (pv 1) (pa_is T (fun i hi => T.kk i 4 hi (by decide)) (pe_isX (c := .ref (CA K 4)) (cv := .ref (CA K 4)) (pe_glob (by rfl) (T.g 4 (by decide)) (by rfl)) (fun u h => h) T.isn (pv 0)) (pa_is T (fun i hi => T.kk i 5 hi (by decide)) (pe_isX (c := .ref (CA K 5)) (cv := .ref (CA K 5)) (pe_glob (by rfl) (T.g 5 (by decide)) (by rfl)) (fun u h => h) T.isn (pv 0)) (pa_is T (fun i hi => T.kk i 6 hi (by decide)) (pe_isX (c := .ref (CA K 6)) (cv := .ref (CA K 6)) (pe_glob (by rfl) (T.g 6 (by decide)) (by rfl)) (fun u h => h) T.isn (pv 0)) (pa_is T (fun i hi => T.kk i 7 hi (by decide)) (pe_isX (c := .ref (CA K 7)) (cv := .ref (CA K 7)) (pe_glob (by rfl) (T.g 7 (by decide)) (by rfl)) (fun u h => h) T.isn (pv 0)) pa_isN))))))
      (pss_cons (ps_set (i := 1) scK.nd rfl (Or.inl rfl) (pe_isC (pv 1) (pa_is T (fun i hi => T.kk i 8 hi (by decide)) (pe_isX (c := .ref (CA K 8)) (cv := .ref (CA K 8)) (pe_glob (by rfl) (T.g 8 (by decide)) (by rfl)) (fun u h => h) T.isn (pv 0)) (pa_is T (fun i hi => T.kk i 9 hi (by decide)) (pe_isX (c := .ref (CA K 9)) (cv := .ref (CA K 9)) (pe_glob (by rfl) (T.g 9 (by decide)) (by rfl)) (fun u h => h) T.isn (pv 0)) (pa_is T (fun i hi => T.kk i 10 hi (by decide)) (pe_isX (c := .ref (CA K 10)) (cv := .ref (CA K 10)) (pe_glob (by rfl) (T.g 10 (by decide)) (by rfl)) (fun u h => h) T.isn (pv 0)) (pa_is T (fun i hi => T.kk i 11 hi (by decide)) (pe_isX (c := .ref (CA K 11)) (cv := .ref (CA K 11)) (pe_glob (by rfl) (T.g 11 (by decide)) (by rfl)) (fun u h => h) T.isn (pv 0)) pa_isN))))))
      (pss_cons (ps_set (i := 1) scK.nd rfl (Or.inl rfl) (pe_isC (pv 1) (pa_is T (fun i hi => T.kk i 12 hi (by decide)) (pe_isX (c := .ref (CA K 12)) (cv := .ref (CA K 12)) (pe_glob (by rfl) (T.g 12 (by decide)) (by rfl)) (fun u h => h) T.isn (pv 0)) (pa_is T (fun i hi => T.kk i 13 hi (by decide)) (pe_isX (c := .ref (CA K 13)) (cv := .ref (CA K 13)) (pe_glob (by rfl) (T.g 13 (by decide)) (by rfl)) (fun u h => h) T.isn (pv 0)) (pa_is T (fun i hi => T.kk i 14 hi (by decide)) (pe_isX (c := .ref (CA K 14)) (cv := .ref (CA K 14)) (pe_glob (by rfl) (T.g 14 (by decide)) (by rfl)) (fun u h => h) T.isn (pv 0)) (pa_is T (fun i hi => T.kk i 15 hi (by decide)) (pe_isX (c := .ref (CA K 15)) (cv := .ref (CA K 15)) (pe_glob (by rfl) (T.g 15 (by decide)) (by rfl)) (fun u h => h) T.isn (pv 0)) pa_isN))))))
      (pss_cons (ps_set (i := 1) scK.nd rfl (Or.inl rfl) (pe_isC (pv 1) (pa_is T (fun i hi => T.kk i 16 hi (by decide)) (pe_isX (c := .ref (CA K 16)) (cv := .ref (CA K 16)) (pe_glob (by rfl) (T.g 16 (by decide)) (by rfl)) (fun u h => h) T.isn (pv 0)) (pa_is T (fun i hi => T.kk i 17 hi (by decide)) (pe_isX (c := .ref (CA K 17)) (cv := .ref (CA K 17)) (pe_glob (by rfl) (T.g 17 (by decide)) (by rfl)) (fun u h => h) T.isn (pv 0)) (pa_is T (fun i hi => T.kk i 18 hi (by decide)) (pe_isX (c := .ref (CA K 18)) (cv := .ref (CA K 18)) (pe_glob (by rfl) (T.g 18 (by decide)) (by rfl)) (fun u h => h) T.isn (pv 0)) (pa_is T (fun i hi => T.kk i 19 hi (by decide)) (pe_isX (c := .ref (CA K 19)) (cv := .ref (CA K 19)) (pe_glob (by rfl) (T.g 19 (by decide)) (by rfl)) (fun u h => h) T.isn (pv 0)) pa_isN))))))
      (pss_cons (ps_set (i := 1) scK.nd rfl (Or.inl rfl) (pe_isC (pv 1) (pa_is T (fun i hi => T.kk i 20 hi (by decide)) (pe_isX (c := .ref (CA K 20)) (cv := .ref (CA K 20)) (pe_glob (by rfl) (T.g 20 (by decide)) (by rfl)) (fun u h => h) T.isn (pv 0)) (pa_is T (fun i hi => T.kk i 21 hi (by decide)) (pe_isX (c := .ref (CA K 21)) (cv := .ref (CA K 21)) (pe_glob (by rfl) (T.g 21 (by decide)) (by rfl)) (fun u h => h) T.isn (pv 0)) (pa_is T (fun i hi => T.kk i 22 hi (by decide)) (pe_isX (c := .ref (CA K 22)) (cv := .ref (CA K 22)) (pe_glob (by rfl) (T.g 22 (by decide)) (by rfl)) (fun u h => h) T.isn (pv 0)) (pa_is T (fun i hi => T.kk i 23 hi (by decide)) (pe_isX (c := .ref (CA K 23)) (cv := .ref (CA K 23)) (pe_glob (by rfl) (T.g 23 (by decide)) (by rfl)) (fun u h => h) T.isn (pv 0)) pa_isN))))))
      (pss_cons (ps_set (i := 1) scK.nd rfl (Or.inl rfl) (pe_isC (pv 1) (pa_is T (fun i hi => T.kk i 24 hi (by decide)) (pe_isX (c := .ref (CA K 24)) (cv := .ref (CA K 24)) (pe_glob (by rfl) (T.g 24 (by decide)) (by rfl)) (fun u h => h) T.isn (pv 0)) (pa_is T (fun i hi => T.kk i 25 hi (by decide)) (pe_isX (c := .ref (CA K 25)) (cv := .ref (CA K 25)) (pe_glob (by rfl) (T.g 25 (by decide)) (by rfl)) (fun u h => h) T.isn (pv 0)) (pa_is T (fun i hi => T.kk i 26 hi (by decide)) (pe_isX (c := .ref (CA K 26)) (cv := .ref (CA K 26)) (pe_glob (by rfl) (T.g 26 (by decide)) (by rfl)) (fun u h => h) T.isn (pv 0)) pa_isN)))))
      (pss_cons (ps_set (i := 1) scK.nd rfl (Or.inl rfl) (pe_isC (pv 1) (pa_is T (fun i hi => T.kk i 27 hi (by decide)) (pe_isX (c := .ref (CA K 27)) (cv := .ref (CA K 27)) (pe_glob (by rfl) (T.g 27 (by decide)) (by rfl)) (fun u h => h) T.isn (pv 0)) (pa_is T (fun i hi => T.kk i 28 hi (by decide)) (pe_isX (c := .ref (CA K 28)) (cv := .ref (CA K 28)) (pe_glob (by rfl) (T.g 28 (by decide)) (by rfl)) (fun u h => h) T.isn (pv 0)) (pa_is T (fun i hi => T.kk i 29 hi (by decide)) (pe_isX (c := .ref (CA K 29)) (cv := .ref (CA K 29)) (pe_glob (by rfl) (T.g 29 (by decide)) (by rfl)) (fun u h => h) T.isn (pv 0)) pa_isN)))))
      (pss_cons (ps_set (i := 1) scK.nd rfl (Or.inl rfl) (pe_isC (pv 1) (pa_is T (fun i hi => T.kk i 30 hi (by decide)) (pe_isX (c := .ref (CA K 30)) (cv := .ref (CA K 30)) (pe_glob (by rfl) (T.g 30 (by decide)) (by rfl)) (fun u h => h) T.isn (pv 0)) (pa_is T (fun i hi => T.kk i 31 hi (by decide)) (pe_isX (c := .ref (CA K 31)) (cv := .ref (CA K 31)) (pe_glob (by rfl) (T.g 31 (by decide)) (by rfl)) (fun u h => h) T.isn (pv 0)) (pa_is T (fun i hi => T.kk i 32 hi (by decide)) (pe_isX (c := .ref (CA K 32)) (cv := .ref (CA K 32)) (pe_glob (by rfl) (T.g 32 (by decide)) (by rfl)) (fun u h => h) T.isn (pv 0)) pa_isN)))))
      (pss_one (ps_ret (pe_isC (pv 1) (pa_is T (fun i hi => T.kk i 33 hi (by decide)) (pe_isX (c := .ref (CA K 33)) (cv := .ref (CA K 33)) (pe_glob (by rfl) (T.g 33 (by decide)) (by rfl)) (fun u h => h) T.isn (pv 0)) (pa_is T (fun i hi => T.kk i 34 hi (by decide)) (pe_isX (c := .ref (CA K 34)) (cv := .ref (CA K 34)) (pe_glob (by rfl) (T.g 34 (by decide)) (by rfl)) (fun u h => h) T.isn (pv 0)) (pa_is T (fun i hi => T.kk i 35 hi (by decide)) (pe_isX (c := .ref (CA K 35)) (cv := .ref (CA K 35)) (pe_glob (by rfl) (T.g 35 (by decide)) (by rfl)) (fun u h => h) T.isn (pv 0)) (pa_is T (fun i hi => T.kk i 36 hi (by decide)) (pe_isX (c := .ref (CA K 36)) (cv := .ref (CA K 36)) (pe_glob (by rfl) (T.g 36 (by decide)) (by rfl)) (fun u h => h) T.isn (pv 0)) pa_isN))))))))))))))), ?_⟩
    refine ⟨i, I0, by show 4 ≤ 1000; decide, fun p1 H1 s1 n1 h1 => ?_⟩
    refine ⟨i, p1, _, ⟨a, o, rfl, hi, ex.same s1⟩, rfl, h1, by show 8 ≤ 1000; decide, fun p2 H2 t2 m2 h2 => ?_⟩
    have s2 := s1.trans t2
    have n2 := s1.free m2
    refine ⟨i, p2, _, ⟨a, o, rfl, hi, ex.same s2⟩, rfl, h2, by show 12 ≤ 1000; decide, fun p3 H3 t3 m3 h3 => ?_⟩
    have s3 := s2.trans t3
    have n3 := s2.free m3
    refine ⟨i, p3, _, ⟨a, o, rfl, hi, ex.same s3⟩, rfl, h3, by show 16 ≤ 1000; decide, fun p4 H4 t4 m4 h4 => ?_⟩
    have s4 := s3.trans t4
    have n4 := s3.free m4
    refine ⟨i, p4, _, ⟨a, o, rfl, hi, ex.same s4⟩, rfl, h4, by show 20 ≤ 1000; decide, fun p5 H5 t5 m5 h5 => ?_⟩
    have s5 := s4.trans t5
    have n5 := s4.free m5
    refine ⟨i, p5, _, ⟨a, o, rfl, hi, ex.same s5⟩, rfl, h5, by show 24 ≤ 1000; decide, fun p6 H6 t6 m6 h6 => ?_⟩
    have s6 := s5.trans t6
    have n6 := s5.free m6
    refine ⟨i, p6, _, ⟨a, o, rfl, hi, ex.same s6⟩, rfl, h6, by show 27 ≤ 1000; decide, fun p7 H7 t7 m7 h7 => ?_⟩
    have s7 := s6.trans t7
    have n7 := s6.free m7
    refine ⟨i, p7, _, ⟨a, o, rfl, hi, ex.same s7⟩, rfl, h7, by show 30 ≤ 1000; decide, fun p8 H8 t8 m8 h8 => ?_⟩
    have s8 := s7.trans t8
    have n8 := s7.free m8
    refine ⟨i, p8, _, ⟨a, o, rfl, hi, ex.same s8⟩, rfl, h8, by show 33 ≤ 1000; decide, fun p9 H9 t9 m9 h9 => ?_⟩
    have s9 := s8.trans t9
    have n9 := s8.free m9
    refine ⟨i, p9, _, ⟨a, o, rfl, hi, ex.same s9⟩, rfl, h9, by show 37 ≤ 1000; decide, fun p10 H10 t10 m10 h10 => ?_⟩
    have s10 := s9.trans t10
    have n10 := s9.free m10
    exact q p10 H10 s10 n10 h10
theorem ok_roots {f : Addr} {fd : FuncData} (F : FnP K "_law_roots" sRoots f fd) (T : Txt K mg) : FnOk P w K mg base CX0 1 f fd ["_law_e"] (spIs K rRow) := by
  refine F.ok scR (fun vs H Q E h => ?_) (fun cdv A outer s H vs Q E hr h => ?_)
  · obtain ⟨a, i, o, rfl, _⟩ := h
    rfl
  · obtain ⟨a, i, o, rfl, hi, ex, q⟩ := h
    refine ⟨_, pss_cons (ps_set (i := 1) scR.nd rfl (Or.inl rfl) (pe_isF
        (pa_is T T.bV (pe_isX (c := .ty "ValueError") (cv := .type "ValueError") (pe_bltn (by rfl) T.vE bbV (by rfl)) (fun u h => h) T.isn (pv 0))
        (pa_is T T.bK (pe_isX (c := .ty "KeyError") (cv := .type "KeyError") (pe_bltn (by rfl) T.kE bbK (by rfl)) (fun u h => h) T.isn (pv 0))
        (pa_is T T.bR (pe_isX (c := .ty "RuntimeError") (cv := .type "RuntimeError") (pe_bltn (by rfl) T.rE bbR (by rfl)) (fun u h => h) T.isn (pv 0)) pa_isN)))))
      (pss_one (ps_ret (pe_isC (pv 1)
        (pa_is T T.kr (pe_isX (c := .ref (CA K 37)) (cv := .ref (CA K 37)) (pe_glob (by rfl) (T.g 37 (by decide)) (by rfl)) (fun u h => h) T.isn (pv 0))
        (pa_is T T.kn (pe_isX (c := .ref (CA K 38)) (cv := .ref (CA K 38)) (pe_glob (by rfl) (T.g 38 (by decide)) (by rfl)) (fun u h => h) T.isn (pv 0)) pa_isN))))), ?_⟩
    refine ⟨i, ⟨a, o, rfl, hi, ex⟩, by show 3 ≤ 1000; decide, fun p1 H1 s1 n1 h1 => ?_⟩
    refine ⟨i, p1, _, ⟨a, o, rfl, hi, ex.same s1⟩, rfl, h1, by show 5 ≤ 1000; decide, fun p2 H2 t2 m2 h2 => ?_⟩
    exact q p2 H2 (s1.trans t2) (s1.free m2) h2
/-! ### new exceptions, in rows -/
def AllEx (K : PySem.W.Frag) (H : Hp) (y : V) (as : List Addr) (js : List Nat) : Prop := as.length = js.length ∧ ∀ (n : Nat) (a : Addr) (j : Nat), as[n]? = some a → js[n]? = some j → ExF H a (CA K j) (some [("value", y)])
theorem AllEx.same {H H' : Hp} {y : V} {as : List Addr} {js : List Nat} (h : AllEx K H y as js) (s : Same H H') : AllEx K H' y as js := ⟨h.1, fun n a j e1 e2 => (h.2 n a j e1 e2).same s⟩
theorem AllEx.nil {H : Hp} {y : V} : AllEx K H y [] [] := ⟨rfl, fun n a j e => by simp at e⟩
theorem AllEx.cons {H : Hp} {y : V} {a : Addr} {j : Nat} {as : List Addr} {js : List Nat} (e : ExF H a (CA K j) (some [("value", y)])) (h : AllEx K H y as js) : AllEx K H y (a :: as) (j :: js) := by
  refine ⟨by simp [h.1], fun n b k e1 e2 => ?_⟩
  cases n with
  | zero => simp at e1 e2; subst e1; subst e2; exact e
  | succ n => exact h.2 n b k (by simpa using e1) (by simpa using e2)
theorem AllEx.append {H : Hp} {y : V} : ∀ {as : List Addr} {js : List Nat} {bs : List Addr} {ks : List Nat}, AllEx K H y as js → AllEx K H y bs ks → AllEx K H y (as ++ bs) (js ++ ks)
  | [], [], _, _, _, h => h
  | [], _ :: _, _, _, h, _ => by cases h.1
  | _ :: _, [], _, _, h, _ => by cases h.1
  | a :: as, j :: js, bs, ks, h, h' => AllEx.cons (h.2 0 a j rfl rfl) (AllEx.append ⟨by simpa using h.1, fun n b k e1 e2 => h.2 (n + 1) b k (by simpa using e1) (by simpa using e2)⟩ h')
def tNewL (K : PySem.W.Frag) (s : Nat) (js : List Nat) : TA := fun σ H Q => ∃ y, σ[s]? = some (some y) ∧ ∀ as H', Same H H' → AllEx K H' y as js → Q (as.map V.ref) H'
theorem pa_newN {X : Cx} {s : Nat} : PA X [] (tNewL X.K s []) := pa_weak pa_nil fun σ H Q ⟨y, _, q⟩ => q [] H (Same.refl H) .nil
theorem pa_new {X : Cx} {e : Expr} {es : List Expr} {s j : Nat} {js : List Nat} (h1 : PE X e (tNew (CA X.K j) (tVar s))) (h2 : PA X es (tNewL X.K s js)) (hs : starEach (e :: es) X.env = (false, eval e X.env) :: starEach es X.env := by rfl) : PA X (e :: es) (tNewL X.K s (j :: js)) :=
  pa_weak (pa_cons h1 h2 hs) fun σ H Q ⟨y, hσ, q⟩ => ⟨y, hσ, fun a H1 s1 na ex => ⟨y, hσ, fun as H2 s2 all => q (a :: as) H2 (s1.trans s2) (.cons (ex.same s2) all)⟩⟩
def tNewF (K : PySem.W.Frag) (s : Nat) (js : List Nat) : TE := fun σ H Q => ∃ y, σ[s]? = some (some y) ∧ js.length ≤ 1000 ∧ ∀ p as H', Same H H' → H p = none → AllEx K H' y as js → H' p = some (.lst (as.map V.ref)) → Q (.ref p) H'
theorem pe_newF {X : Cx} {es : List Expr} {s : Nat} {js : List Nat} {p1 : Pos} (h : PA X es (tNewL X.K s js)) : PE X (.List es p1) (tNewF X.K s js) :=
  pe_weak (pe_lst h) fun σ H Q ⟨y, hσ, hz, q⟩ => ⟨y, hσ, fun as H1 s1 all => ⟨by rw [List.length_map, all.1]; exact Nat.le_trans hz (by decide), fun p np => q p as _ (s1.trans (same_upd np)) (s1.free np) (all.same (same_upd np)) upd_same⟩⟩
def tNewC (K : PySem.W.Frag) (s : Nat) (te : TE) (js : List Nat) : TE := fun σ H Q => te σ H fun x H1 => ∃ y l xs, σ[s]? = some (some y) ∧ x = .ref l ∧ H1 l = some (.lst xs) ∧ xs.length + js.length ≤ 1000 ∧
  ∀ p as H', Same H1 H' → H1 p = none → AllEx K H' y as js → H' p = some (.lst (xs ++ as.map V.ref)) → Q (.ref p) H'
theorem pe_newC {X : Cx} {e : Expr} {te : TE} {es : List Expr} {s : Nat} {js : List Nat} {p1 p2 : Pos} (h1 : PE X e te) (h : PA X es (tNewL X.K s js)) : PE X (.BinOp e .Add (.List es p1) p2) (tNewC X.K s te js) :=
  pe_weak (pe_op op_cat (pe_up h1) (pe_lst h)) fun σ H Q q => ⟨_, q, fun x H1 ⟨y, l, xs, hσ, ex, hl, hz, q⟩ => ⟨y, hσ, fun as H2 s2 all => ⟨by rw [List.length_map, all.1]; exact Nat.le_trans (Nat.le_trans (Nat.le_add_left _ _) hz) (by decide), fun b nb => ⟨l, b, xs, _, ex, rfl,
    (same_upd nb) _ _ (s2 _ _ hl), upd_same, by rw [List.length_map, all.1]; exact Nat.le_trans hz (by decide), fun p np => by
      have t : Same H1 (upd (upd H2 b (.lst (as.map V.ref))) p (.lst (xs ++ as.map V.ref))) := (s2.trans (same_upd nb)).trans (same_upd np)
      exact q p as _ t ((s2.trans (same_upd nb)).free np) (all.same ((same_upd nb).trans (same_upd np))) upd_same⟩⟩⟩⟩
/-- the __init__s of RoomError and NoEntry keep their promises -/
structure Ini (P : Program) (w : World) (K : PySem.W.Frag) (mg : Str → Option Value) (base : Heap) (fdR fdN fdF : FuncData) : Prop where
  R : FnOk P w K mg base CX0 1 (He.ma K (CA K 37) "__init__") fdR ["self", "value"] (spIni K)
  N : FnOk P w K mg base CX0 1 (He.ma K (CA K 38) "__init__") fdN ["self", "value"] (spIni K)
  F : FnOk P w K mg base CX0 1 (He.ma K (CA K 33) "__init__") fdF ["self", "word", "value"] (spIni2 K)
  bR : Binds K fdR ["self", "value"] []
  bN : Binds K fdN ["self", "value"] []
  bF : Binds K fdF ["self", "word", "value"] []
section
variable {fdR fdN fdF : FuncData}
theorem fI_lo (i : Nat) (h : i < 30) : fI K i = He.ma K (CA K 37) "__init__" := by
  unfold fI
  rw [if_neg (by omega), if_pos h]
theorem fI_37 : fI K 37 = He.ma K (CA K 37) "__init__" := rfl
theorem fI_hi (i : Nat) (h : 30 ≤ i) (h2 : i < 33) : fI K i = He.ma K (CA K 38) "__init__" := by
  unfold fI
  rw [if_neg (by omega), if_neg (by omega), if_pos (by omega)]
theorem nwR {X : Cx} {x : Str} {e : Expr} {te : TE} {p pos : Pos} (T : Txt X.K X.mg) (Z : Ini X.prog X.w X.K X.mg X.base fdR fdN fdF) (hr : Room 2 X.A) (i : Nat) (hi : i < 30) (hm : X.mg x = some (.ref (CA X.K i))) (ha : PE X e te) (hg : Gl X x := by rfl)
    (hdb : (x == ("__debug__" : Str)) = false := by decide) (he : starEach (e :: []) X.env = (false, eval e X.env) :: starEach [] X.env := by rfl) (hpl : (backTo pos (starEach [] X.env)).any (·.1) = false := by rfl) : PE X (.Call (.Name x p) [e] [] pos) (tNew (CA X.K i) te) :=
  pe_new (sfOf i) (T.x i (by omega)) (T.nv i (by omega)) (by rw [← fI_lo i hi]; exact T.iC i (by omega) (.inl (by omega))) (by rw [← fI_lo i hi]; exact T.tI i (by omega) (.inl (by omega))) Z.R hr Z.bR hm ha hg hdb he hpl
theorem nwR7 {X : Cx} {x : Str} {e : Expr} {te : TE} {p pos : Pos} (T : Txt X.K X.mg) (Z : Ini X.prog X.w X.K X.mg X.base fdR fdN fdF) (hr : Room 2 X.A) (hm : X.mg x = some (.ref (CA X.K 37))) (ha : PE X e te) (hg : Gl X x := by rfl)
    (hdb : (x == ("__debug__" : Str)) = false := by decide) (he : starEach (e :: []) X.env = (false, eval e X.env) :: starEach [] X.env := by rfl) (hpl : (backTo pos (starEach [] X.env)).any (·.1) = false := by rfl) : PE X (.Call (.Name x p) [e] [] pos) (tNew (CA X.K 37) te) :=
  pe_new (sfOf 37) (T.x 37 (by omega)) (T.nv 37 (by omega)) (T.iC 37 (by omega) (.inr (by omega))) (T.tI 37 (by omega) (.inr (by omega))) Z.R hr Z.bR hm ha hg hdb he hpl
theorem nwN {X : Cx} {x : Str} {e : Expr} {te : TE} {p pos : Pos} (T : Txt X.K X.mg) (Z : Ini X.prog X.w X.K X.mg X.base fdR fdN fdF) (hr : Room 2 X.A) (i : Nat) (h0 : 30 ≤ i) (hi : i < 33) (hm : X.mg x = some (.ref (CA X.K i))) (ha : PE X e te) (hg : Gl X x := by rfl)
    (hdb : (x == ("__debug__" : Str)) = false := by decide) (he : starEach (e :: []) X.env = (false, eval e X.env) :: starEach [] X.env := by rfl) (hpl : (backTo pos (starEach [] X.env)).any (·.1) = false := by rfl) : PE X (.Call (.Name x p) [e] [] pos) (tNew (CA X.K i) te) :=
  pe_new (sfOf i) (T.x i (by omega)) (T.nv i (by omega)) (by rw [← fI_hi i h0 hi]; exact T.iC i (by omega) (.inl (by omega))) (by rw [← fI_hi i h0 hi]; exact T.tI i (by omega) (.inl (by omega))) Z.N hr Z.bN hm ha hg hdb he hpl
theorem nwN8 {X : Cx} {x : Str} {e : Expr} {te : TE} {p pos : Pos} (T : Txt X.K X.mg) (Z : Ini X.prog X.w X.K X.mg X.base fdR fdN fdF) (hr : Room 2 X.A) (hm : X.mg x = some (.ref (CA X.K 38))) (ha : PE X e te) (hg : Gl X x := by rfl)
    (hdb : (x == ("__debug__" : Str)) = false := by decide) (he : starEach (e :: []) X.env = (false, eval e X.env) :: starEach [] X.env := by rfl) (hpl : (backTo pos (starEach [] X.env)).any (·.1) = false := by rfl) : PE X (.Call (.Name x p) [e] [] pos) (tNew (CA X.K 38) te) :=
  pe_new (sfOf 38) (T.x 38 (by omega)) (T.nv 38 (by omega)) (T.iC 38 (by omega) (.inr (by omega))) (T.tI 38 (by omega) (.inr (by omega))) Z.N hr Z.bN hm ha hg hdb he hpl
def spVal (K : PySem.W.Frag) : Sp := fun vs H Q _ => ∃ y, vs = [y] ∧ ∀ p as H', Same H H' → H p = none → AllEx K H' y as (List.range 30) → H' p = some (.lst (as.map V.ref)) → Q (.ref p) H'
theorem ok_values {f : Addr} {fd : FuncData} (F : FnP K "_law_values" sValues f fd) (T : Txt K mg) (Z : Ini P w K mg base fdR fdN fdF) : FnOk P w K mg base CX0 3 f fd ["_law_value"] (spVal K) := by
  refine F.ok scV (fun vs H Q E h => ?_) (fun cdv A outer s H vs Q E hr h => ?_)
  · obtain ⟨y, rfl, _⟩ := h
    rfl
  · obtain ⟨y, rfl, q⟩ := h
    refine ⟨_, pss_cons (ps_set (i := 1) scV.nd rfl (Or.inl rfl) (pe_newF (s := 0) (pa_new (nwR T Z hr 0 (by decide) (T.g 0 (by decide)) (pv 0) (by rfl)) (pa_new (nwR T Z hr 1 (by decide) (T.g 1 (by decide)) (pv 0) (by rfl)) (pa_new (nwR T Z hr 2 (by decide) (T.g 2 (by decide)) (pv 0) (by rfl)) (pa_new (nwR T Z hr 3 (by decide) (T.g 3 (by decide)) (pv 0) (by rfl)) (pa_new (nwR T Z hr 4 (by decide) (T.g 4 (by decide)) (pv 0) (by rfl)) (pa_new (nwR T Z hr 5 (by decide) (T.g 5 (by decide)) (pv 0) (by rfl)) pa_newN))))))))
      (pss_cons (ps_set (i := 1) scV.nd rfl (Or.inl rfl) (pe_newC (s := 0) (pv 1) (pa_new (nwR T Z hr 6 (by decide) (T.g 6 (by decide)) (pv 0) (by rfl)) (pa_new (nwR T Z hr 7 (by decide) (T.g 7 (by decide)) (pv 0) (by rfl)) (pa_new (nwR T Z hr 8 (by decide) (T.g 8 (by decide)) (pv 0) (by rfl)) (pa_new (nwR T Z hr 9 (by decide) (T.g 9 (by decide)) (pv 0) (by rfl)) (pa_new (nwR T Z hr 10 (by decide) (T.g 10 (by decide)) (pv 0) (by rfl)) (pa_new (nwR T Z hr 11 (by decide) (T.g 11 (by decide)) (pv 0) (by rfl)) pa_newN))))))))
      (pss_cons (ps_set (i := 1) scV.nd rfl (Or.inl rfl) (pe_newC (s := 0) (pv 1) (pa_new (nwR T Z hr 12 (by decide) (T.g 12 (by decide)) (pv 0) (by rfl)) (pa_new (nwR T Z hr 13 (by decide) (T.g 13 (by decide)) (pv 0) (by rfl)) (pa_new (nwR T Z hr 14 (by decide) (T.g 14 (by decide)) (pv 0) (by rfl)) (pa_new (nwR T Z hr 15 (by decide) (T.g 15 (by decide)) (pv 0) (by rfl)) (pa_new (nwR T Z hr 16 (by decide) (T.g 16 (by decide)) (pv 0) (by rfl)) (pa_new (nwR T Z hr 17 (by decide) (T.g 17 (by decide)) (pv 0) (by rfl)) pa_newN))))))))
      (pss_cons (ps_set (i := 1) scV.nd rfl (Or.inl rfl) (pe_newC (s := 0) (pv 1) (pa_new (nwR T Z hr 18 (by decide) (T.g 18 (by decide)) (pv 0) (by rfl)) (pa_new (nwR T Z hr 19 (by decide) (T.g 19 (by decide)) (pv 0) (by rfl)) (pa_new (nwR T Z hr 20 (by decide) (T.g 20 (by decide)) (pv 0) (by rfl)) (pa_new (nwR T Z hr 21 (by decide) (T.g 21 (by decide)) (pv 0) (by rfl)) (pa_new (nwR T Z hr 22 (by decide) (T.g 22 (by decide)) (pv 0) (by rfl)) (pa_new (nwR T Z hr 23 (by decide) (T.g 23 (by decide)) (pv 0) (by rfl)) pa_newN))))))))
      (pss_one (ps_ret (pe_newC (s := 0) (pv 1) (pa_new (nwR T Z hr 24 (by decide) (T.g 24 (by decide)) (pv 0) (by rfl)) (pa_new (nwR T Z hr 25 (by decide) (T.g 25 (by decide)) (pv 0) (by rfl)) (pa_new (nwR T Z hr 26 (by decide) (T.g 26 (by decide)) (pv 0) (by rfl)) (pa_new (nwR T Z hr 27 (by decide) (T.g 27 (by decide)) (pv 0) (by rfl)) (pa_new (nwR T Z hr 28 (by decide) (T.g 28 (by decide)) (pv 0) (by rfl)) (pa_new (nwR T Z hr 29 (by decide) (T.g 29 (by decide)) (pv 0) (by rfl)) pa_newN)))))))))))), ?_⟩
    refine ⟨y, rfl, by decide, fun p1 as1 H1 s1 n1 a1 h1 => ?_⟩
    have z1 := n1
    refine ⟨_, rfl, y, p1, _, rfl, rfl, h1, (by simp only [List.length_append, List.length_map, a1.1]; decide), fun p2 as2 H2 s2 n2 a2 h2 => ?_⟩
    refine ⟨_, rfl, y, p2, _, rfl, rfl, h2, (by simp only [List.length_append, List.length_map, a1.1, a2.1]; decide), fun p3 as3 H3 s3 n3 a3 h3 => ?_⟩
    refine ⟨_, rfl, y, p3, _, rfl, rfl, h3, (by simp only [List.length_append, List.length_map, a1.1, a2.1, a3.1]; decide), fun p4 as4 H4 s4 n4 a4 h4 => ?_⟩
    refine ⟨_, rfl, y, p4, _, rfl, rfl, h4, (by simp only [List.length_append, List.length_map, a1.1, a2.1, a3.1, a4.1]; decide), fun p5 as5 H5 s5 n5 a5 h5 => ?_⟩
    have t2 := s1.trans s2
    have t3 := t2.trans s3
    have t4 := t3.trans s4
    have t5 := t4.trans s5
    have all := ((((a1.same s2).append a2).same s3).append a3)
    have all4 := (((all.same s4).append a4).same s5).append a5
    exact q p5 (as1 ++ as2 ++ as3 ++ as4 ++ as5) H5 t5 (t4.free n5) all4 (by simpa only [List.map_append] using h5)
/-! ### the law -/
/-- a value that the law keeps in an exception -/
def SvOk (y : V) (d : PyData) : Prop := scal y y = true ∧ (∀ H, Dp K H y d) ∧ SeqAt.shaped (.list [d, d]) = true
def fsO (i : Nat) (y : V) : Option (List (Str × V)) := if i < 33 then some [("value", y)] else if i = 33 then some [("value", y), ("word", .str "full")] else none
def AllI (K : PySem.W.Frag) (H : Hp) (y : V) (as : List Addr) : Prop := as.length = 37 ∧ ∀ (i : Nat) (a : Addr), as[i]? = some a → ExF H a (CA K i) (fsO i y)
theorem AllI.same {H H' : Hp} {y : V} {as : List Addr} (h : AllI K H y as) (s : Same H H') : AllI K H' y as := ⟨h.1, fun i a e => (h.2 i a e).same s⟩
theorem AllI.mk {H : Hp} {y : V} {as bs : List Addr} {a b c d : Addr} (h1 : AllEx K H y as (List.range 30)) (h2 : AllEx K H y bs [30, 31, 32]) (e1 : ExF H a (CA K 33) (some [("value", y), ("word", .str "full")])) (e2 : ExF H b (CA K 34) none) (e3 : ExF H c (CA K 35) none) (e4 : ExF H d (CA K 36) none) :
    AllI K H y ((as ++ bs) ++ [a, b, c, d]) := by
  have h := h1.append h2
  have hl : (as ++ bs).length = 33 := h.1
  refine ⟨by rw [List.length_append, hl]; rfl, fun i z e => ?_⟩
  by_cases hi : i < 33
  · rw [List.getElem?_append_left (by omega)] at e
    unfold fsO
    rw [if_pos hi]
    refine h.2 i z i e ?_
    have : ∀ j, j < 33 → (List.range 30 ++ [30, 31, 32])[j]? = some j := by decide
    exact this i hi
  · rw [List.getElem?_append_right (by omega), hl] at e
    unfold fsO
    rw [if_neg hi]
    have hb : i - 33 < 4 := by
      have z := (List.getElem?_eq_some_iff.mp e).1
      simpa using z
    obtain ⟨j, rfl⟩ : ∃ j, i = 33 + j := ⟨i - 33, by omega⟩
    have hj : j < 4 := by omega
    rw [show 33 + j - 33 = j by omega] at e
    match j, hj, e with
    | 0, _, e => cases e; exact e1
    | 1, _, e => cases e; exact e2
    | 2, _, e => cases e; exact e3
    | 3, _, e => cases e; exact e4
theorem dat_ints {H : Hp} {a : Addr} {ns : List Int} (h : H a = some (.lst (ns.map V.int))) : Dp K H (.ref a) (.list (ns.map PyData.int)) := by
  refine .lst (SqL.of h) ?_
  clear h
  induction ns with
  | nil => exact .nil
  | cons n r ih => exact .cons (.int n) ih
theorem dat_bls {H : Hp} {a : Addr} {ns : List Bool} (h : H a = some (.lst (ns.map V.bl))) : Dp K H (.ref a) (.list (ns.map PyData.bool)) := by
  refine .lst (SqL.of h) ?_
  clear h
  induction ns with
  | nil => exact .nil
  | cons n r ih => exact .cons (.bl n) ih
/-- a loop whose body's ends are a letter -/
theorem for_rangeD {lo : Int} {n : Nat} {g : TG} {tb : TS} {D : Ends} {σ : St} {H : Hp} (Pv : Nat → St → Hp → Prop) (h0 : Pv 0 σ H)
    (hs : ∀ (D' : Ends) (i : Nat) (σ : St) (H : Hp), D'.rt = D.rt → (∀ σ H, Pv (i + 1) σ H → D'.nx σ H) → (∀ σ H, Pv (i + 1) σ H → D'.ct σ H) → (∀ σ H, D.nx σ H → D'.bk σ H) → i < n → Pv i σ H → g (.int (lo + i)) σ H fun σ2 H2 => tb D' σ2 H2) (hd : ∀ σ H, Pv n σ H → D.nx σ H) :
    ∃ W : Nat → Nat → St → Hp → Prop, (∃ m, W 0 m σ H) ∧ ∀ i m σ H, W i m σ H →
      ((Itr lo n).stop i H ∧ D.nx σ H) ∨ ((Itr lo n).go i H ∧ ∃ N : St → Hp → Prop, (∀ σ' H', N σ' H' → ∃ m', m' < m ∧ W (i + 1) m' σ' H') ∧ ∀ x H', (Itr lo n).yld i H x H' → g x σ H' fun σ2 H2 => tb { D with nx := N, ct := N, bk := D.nx } σ2 H2) :=
  for_range Pv h0 (fun i σ H hi hp => hs { D with nx := Pv (i + 1), ct := Pv (i + 1), bk := D.nx } i σ H rfl (fun _ _ h => h) (fun _ _ h => h) (fun _ _ h => h) hi hp) hd
theorem for_listD {K : PySem.W.Frag} {a : Addr} {xs : List V} {g : TG} {tb : TS} {D : Ends} {σ : St} {H : Hp} (Pv : Nat → St → Hp → Prop) (h0 : Pv 0 σ H) (hl : ∀ i σ H, i ≤ xs.length → Pv i σ H → SqL K H a xs)
    (hs : ∀ (D' : Ends) (i : Nat) (x : V) (σ : St) (H : Hp), D'.rt = D.rt → (∀ σ H, Pv (i + 1) σ H → D'.nx σ H) → (∀ σ H, Pv (i + 1) σ H → D'.ct σ H) → (∀ σ H, D.nx σ H → D'.bk σ H) → xs[i]? = some x → Pv i σ H → g x σ H fun σ2 H2 => tb D' σ2 H2) (hd : ∀ σ H, Pv xs.length σ H → D.nx σ H) :
    ∃ W : Nat → Nat → St → Hp → Prop, (∃ m, W 0 m σ H) ∧ ∀ i m σ H, W i m σ H →
      ((Itl K a).stop i H ∧ D.nx σ H) ∨ ((Itl K a).go i H ∧ ∃ N : St → Hp → Prop, (∀ σ' H', N σ' H' → ∃ m', m' < m ∧ W (i + 1) m' σ' H') ∧ ∀ x H', (Itl K a).yld i H x H' → g x σ H' fun σ2 H2 => tb { D with nx := N, ct := N, bk := D.nx } σ2 H2) :=
  for_list Pv h0 hl (fun i x σ H hi hp => hs { D with nx := Pv (i + 1), ct := Pv (i + 1), bk := D.nx } i x σ H rfl (fun _ _ h => h) (fun _ _ h => h) (fun _ _ h => h) hi hp) hd
theorem ite_dec {p : Prop} [Decidable p] {A B : Prop} (h1 : p → A) (h2 : ¬ p → B) : if decide p = true then A else B := by
  by_cases h : p
  · rw [if_pos (decide_eq_true h)]
    exact h1 h
  · rw [if_neg (by rw [decide_eq_false h]; exact Bool.false_ne_true)]
    exact h2 h
theorem go_next {D : Ends} {σ : St} {H : Hp} (h : D.nx σ H) : tNext D σ H := h
theorem go_seq {t u : TS} {D : Ends} {σ : St} {H : Hp} (h : t { D with nx := u D } σ H) : tSeq t u D σ H := h
theorem go_asg {te : TE} {g : TG} {D : Ends} {σ : St} {H : Hp} (h : te σ H fun x H1 => g x σ H1 D.nx) : tAsg te g D σ H := h
theorem kRow_at {n i : Nat} (h : i < 37) : (kRow n)[i]? = some (.bl (n == i)) := by
  unfold kRow
  rw [List.getElem?_map, List.getElem?_range h]
  rfl
theorem eqv_ne {d e : PyData} {A B : Prop} (h : PyData.eqv d e = true) (b : B) : if (!PyData.eqv d e) = true then A else B := by
  rw [h]
  exact iteF b
theorem chain_go {σ : St} {H : Hp} {Q : VK} {n : Nat} (hσ : σ[5]? = some (some (.int (n : Int)))) (q : Q (.bl (decide (30 ≤ n) && decide (n < 33))) H) :
    tChain (rI0 fun i j => .bl (decide (i ≤ j))) (rI0 fun i j => .bl (decide (i < j))) (tC (.int 30)) (tVar 5) (tC (.int 33)) σ H Q := by
  refine ⟨_, hσ, _, _, rfl, rfl, _, rfl, ?_⟩
  by_cases h : 30 ≤ n
  · rw [if_pos (decide_eq_true (by omega))]
    refine ⟨_, _, rfl, rfl, ?_⟩
    rw [decide_eq_true h, Bool.true_and] at q
    have e : decide ((n : Int) < 33) = decide (n < 33) := by
      by_cases h2 : n < 33
      · rw [decide_eq_true h2, decide_eq_true (by omega)]
      · rw [decide_eq_false h2, decide_eq_false (by omega)]
    show Q (.bl (decide ((n : Int) < 33))) H
    rw [e]
    exact q
  · rw [if_neg (by rw [decide_eq_false (by omega)]; exact Bool.false_ne_true)]
    rw [decide_eq_false h, Bool.false_and] at q
    exact q
theorem roots_go {σ : St} {H : Hp} {Q : VK} {n : Nat} (hσ : σ[5]? = some (some (.int (n : Int)))) (q : ∀ p, H p = none → Q (.ref p) (upd H p (.lst (rRow n)))) :
    tLst (tCons (tOp (rI0 fun i j => V.bl (decide (i < j))) (tVar 5) (tC (V.int 30))) (tCons (tChain (rI0 fun i j => V.bl (decide (i ≤ j))) (rI0 fun i j => V.bl (decide (i < j))) (tC (V.int 30)) (tVar 5) (tC (V.int 33)))
      (tCons (tOp (rI0 fun i j => V.bl (decide (j ≤ i))) (tVar 5) (tC (V.int 33))) (tCons (tOp (rI0 fun i j => V.bl (decide (i < j))) (tVar 5) (tC (V.int 30)))
        (tCons (tChain (rI0 fun i j => V.bl (decide (i ≤ j))) (rI0 fun i j => V.bl (decide (i < j))) (tC (V.int 30)) (tVar 5) (tC (V.int 33))) tNil))))) σ H Q := by
  have e1 : decide ((n : Int) < 30) = decide (n < 30) := by
    by_cases h2 : n < 30
    · rw [decide_eq_true h2, decide_eq_true (by omega)]
    · rw [decide_eq_false h2, decide_eq_false (by omega)]
  have e2 : decide ((33 : Int) ≤ n) = decide (33 ≤ n) := by
    by_cases h2 : 33 ≤ n
    · rw [decide_eq_true h2, decide_eq_true (by omega)]
    · rw [decide_eq_false h2, decide_eq_false (by omega)]
  refine ⟨_, hσ, _, _, rfl, rfl, chain_go hσ ⟨_, hσ, _, _, rfl, rfl, _, hσ, _, _, rfl, rfl, chain_go hσ ⟨by show 5 ≤ sizeLine; decide, fun p hp => ?_⟩⟩⟩
  dsimp only
  rw [e1, e2]
  exact q p hp
/-- the defs that the law calls -/
structure Defs (P : Program) (w : World) (K : PySem.W.Frag) (mg : Str → Option Value) (base : Heap) (fP fT fK fR fV : Addr) (dP dT dK dR dV : FuncData) : Prop where
  oP : FnOk P w K mg base CX0 1 fP dP ["_law_script", "_law_k"] (spPool K)
  oT : FnOk P w K mg base CX0 1 fT dT ["_law_pool_here", "_law_many"] spTake
  oK : FnOk P w K mg base CX0 1 fK dK ["_law_e"] (spIs K kRow)
  oR : FnOk P w K mg base CX0 1 fR dR ["_law_e"] (spIs K rRow)
  oV : FnOk P w K mg base CX0 3 fV dV ["_law_value"] (spVal K)
  gP : mg "_law_pool" = some (.ref fP)
  gT : mg "_law_take" = some (.ref fT)
  gK : mg "_law_kinds" = some (.ref fK)
  gR : mg "_law_roots" = some (.ref fR)
  gV : mg "_law_values" = some (.ref fV)
  kP : PySem.W.keepIn K (.ref fP) = true
  kT : PySem.W.keepIn K (.ref fT) = true
  kK : PySem.W.keepIn K (.ref fK) = true
  kR : PySem.W.keepIn K (.ref fR) = true
  kV : PySem.W.keepIn K (.ref fV) = true
  bP : Binds K dP ["_law_script", "_law_k"] []
  bT : Binds K dT ["_law_pool_here", "_law_many"] []
  bK : Binds K dK ["_law_e"] []
  bR : Binds K dR ["_law_e"] []
  bV : Binds K dV ["_law_value"] []
def spLaw (K : PySem.W.Frag) : Sp := fun vs H Q _ => ∃ (a : Addr) (ns : List Int), vs = [.ref a] ∧ SqL K H a (ns.map V.int) ∧ ns.length ≤ 63 ∧ ∀ H', Q (.bl true) H'
end
end
end L2.Lr

set_option maxHeartbeats 1000000
namespace L2.Lr
open PySem PySem.Spec PyProof.Rows LR
section
variable {P : Program} {w : World} {K : PySem.W.Frag} {mg : Str → Option Value} {base : Heap}
section
variable {fdR fdN fdF : FuncData}
theorem ok_law {f fP fT fK fR fV : Addr} {fd dP dT dK dR dV : FuncData} (F : FnP K "law" sLaw f fd) (T : Txt K mg) (Z : Ini P w K mg base fdR fdN fdF) (D : Defs P w K mg base fP fT fK fR fV dP dT dK dR dV) : FnOk P w K mg base CX0 4 f fd ["_law_script"] (spLaw K) := by
  refine F.ok scL (fun vs H Q E h => ?_) (fun cdv A outer s H vs Q E hr h => ?_)
  · obtain ⟨a, ns, rfl, _⟩ := h
    rfl
  · obtain ⟨a, ns, rfl, hS, hlen, q⟩ := h
    have hr1 : Room 1 _ := hr.mono (by decide)
    have hr2 : Room 2 _ := hr.mono (by decide)
    have hu := hr.units
    refine ⟨_, PSs.nox (pss_cons (ps_for PassesOwn.never rfl (pi_range1 (by rfl) T.range (pa_cons (pe_callB (call_max2 rfl) (by rfl) T.max boot_max (pa_cons pe_int (pa_cons (pe_callB (call_min2 rfl) (by rfl) T.min boot_min (pa_cons (pe_callB call_len (by rfl) T.len boot_len (pa_cons (pv 0) pa_nil)) (pa_cons pe_int pa_nil))) pa_nil))) pa_nil)) (pg_name (i := 1) scL.nd rfl (Or.inl rfl)) (pss_cons (ps_set (i := 2) scL.nd rfl (Or.inl rfl) (pe_call D.oP hr1 (by rfl) D.gP D.kP D.bP .nil pass0 (pa_cons (pv 0) (pa_cons (pv 1) pa_nil))))
 (pss_one (ps_for PassesOwn.never rfl (pi_list (pe_lst (pa_cons (pe_call D.oT hr1 (by rfl) D.gT D.kT D.bT .nil pass0 (pa_cons (pv 2) (pa_cons (pe_op op_pow pe_int pe_int) pa_nil))) (pa_cons (pe_ix ix_str pe_str (pe_call D.oT hr1 (by rfl) D.gT D.kT D.bT .nil pass0 (pa_cons (pv 2) (pa_cons pe_int pa_nil))) (fun _ _ => rfl)) (pa_cons pe_non pa_nil))))) (pg_name (i := 3) scL.nd rfl (Or.inl rfl)) (pss_cons (ps_set (i := 4) scL.nd rfl (Or.inl rfl) (pe_newC (s := 3) (pe_call D.oV hr (by rfl) D.gV D.kV D.bV .nil pass0 (pa_cons (pv 3) pa_nil)) (pa_new (nwN T Z hr2 30 (by decide) (by decide) (T.g 30 (by decide)) (pv 3) (by rfl)) (pa_new (nwN T Z hr2 31 (by decide) (by decide) (T.g 31 (by decide)) (pv 3) (by rfl)) (pa_new (nwN T Z hr2 32 (by decide) (by decide) (T.g 32 (by decide)) (pv 3) (by rfl)) pa_newN)))))
 (pss_cons (ps_set (i := 4) scL.nd rfl (Or.inl rfl) (pe_op op_cat (pv 4) (pe_lst (pa_cons (pe_new2 (sfOf 33) (T.x 33 (by decide)) (T.nv 33 (by decide)) T.nw (T.iC 33 (by decide) (.inl (by decide))) (T.tI 33 (by decide) (.inl (by decide))) Z.F hr2 Z.bF (T.g 33 (by decide)) pe_str (pv 3) (by rfl)) (pa_cons (pe_new0 PySem.F.excBase_RuntimeError (T.ex 34 (by decide) (by decide)) (T.x 34 (by decide)).kC (T.g 34 (by decide)) (by rfl)) (pa_cons (pe_new0 PySem.F.excBase_RuntimeError (T.ex 35 (by decide) (by decide)) (T.x 35 (by decide)).kC (T.g 35 (by decide)) (by rfl)) (pa_cons (pe_new0 PySem.F.excBase_RuntimeError (T.ex 36 (by decide) (by decide)) (T.x 36 (by decide)).kC (T.g 36 (by decide)) (by rfl)) pa_nil)))))))
 (pss_cons (ps_for PassesOwn.never rfl (pi_range1 (by rfl) T.range (pa_cons pe_int pa_nil)) (pg_name (i := 5) scL.nd rfl (Or.inl rfl)) (pss_cons (ps_set (i := 6) scL.nd rfl (Or.inr rfl) (pe_call D.oK hr1 (by rfl) D.gK D.kK D.bK .nil pass0 (pa_cons (pe_ix ix_list (pv 4) (pv 5) (fun _ _ => rfl)) pa_nil)))
 (pss_cons (ps_if (pt_cmpR (op_neD hu) (pe_lc (own := [("_law_to", 7)]) (g := gName 7) (by rfl) scL.nd (pi_range1 (by rfl) T.range (pa_cons pe_int pa_nil)) (blkOk_by (N := ["_law_script", "_law_k", "_law_pool_here", "_law_value", "_law_made", "_law_at", "_law_kinds_here", "_law_to", "_law_roots_here"]) (sc := defScope sLaw) (by decide +kernel)) (fun _ _ _ _ _ => pg_name (i := 7) scL.nd rfl (Or.inl rfl)) (fun _ _ _ _ _ => pts_one (pt_val (pe_ix (r := rIxL K) (by exact ix_list) (pv 6) (pv 7) (fun _ _ => rfl)))) (fun _ _ _ _ _ => pv 7)) (pe_lst (pa_cons (pv 5) pa_nil)) (nomark _)) (pss_one (ps_ret pe_bl)) pss_nil)
 (pss_cons (ps_set (i := 8) scL.nd rfl (Or.inl rfl) (pe_lst (pa_cons (pe_cmpR op_lt (pv 5) pe_int (nomark _)) (pa_cons (pe_chain op_le op_lt pe_int (pv 5) pe_int) (pa_cons (pe_cmpR op_ge (pv 5) pe_int (nomark _)) (pa_cons (pe_cmpR op_lt (pv 5) pe_int (nomark _)) (pa_cons (pe_chain op_le op_lt pe_int (pv 5) pe_int) pa_nil)))))))
 (pss_cons (ps_if (PW.pt (pw_or (pt_cmpR (op_neD hu) (pe_call D.oR hr1 (by rfl) D.gR D.kR D.bR .nil pass0 (pa_cons (pe_ix ix_list (pv 4) (pv 5) (fun _ _ => rfl)) pa_nil)) (pv 8) (nomark _)) (pw_or1 (pt_not (pt_val (pe_isX (c := .ty "Exception") (cv := .type "Exception") (pe_bltn (by rfl) T.eE bbE (by rfl)) (fun u h => h) T.isn (pe_ix ix_list (pv 4) (pv 5) (fun _ _ => rfl)))))))) (pss_one (ps_ret pe_bl)) pss_nil)
 (pss_one (ps_if (PW.pt (pw_and (pt_cmpR op_lt (pv 5) pe_int (nomark _)) (pw_and1 (pt_cmpR op_ne (pe_getX (pe_ix ix_list (pv 4) (pv 5) (fun _ _ => rfl))) (pv 3) (nomark _))))) (pss_one (ps_ret pe_bl)) pss_nil)))))))
 (pss_one (ps_if (PW.pt (pw_or (pt_cmpR op_ne (pe_getX (pe_ix ix_list (pv 4) pe_int (fun _ _ => rfl))) pe_str (nomark _)) (pw_or1 (pt_cmpR (op_neD hu) (pe_lst (pa_cons (pe_getX (nwN8 T Z hr2 (T.g 38 (by decide)) (pv 3) (by rfl))) (pa_cons (pe_getX (nwR7 T Z hr2 (T.g 37 (by decide)) (pv 3) (by rfl))) pa_nil))) (pe_lst (pa_cons (pv 3) (pa_cons (pv 3) pa_nil))) (nomark _))))) (pss_one (ps_ret pe_bl)) pss_nil)))))))))
 (pss_one (ps_ret pe_bl))), ?_⟩
    have hrd : ∀ H', Same H H' → SqL K H' a (ns.map V.int) := fun H' s => s.seq hS
    -- for _law_k in range(max(1, min(len(_law_script), 3)))
    refine ⟨_, rfl, _, (ns.map V.int).length, rfl, Or.inl ⟨_, hS, rfl⟩, _, _, rfl, _, _, rfl, _, rfl, ?_, ?_, ?_⟩
    · split <;> split <;> omega
    · split <;> split <;> omega
    refine for_rangeD (lo := 0) (fun i σ H' => Same H H' ∧ ∃ o1 o2 o3 o4 o5 o6 o7 o8, σ = [some (.ref a), o1, o2, o3, o4, o5, o6, o7, o8]) ⟨Same.refl H, none, none, none, none, none, none, none, none, rfl⟩ ?_ (fun σ H' _ => q H')
    rintro D1 k σ H1 - hD1 - - hk ⟨s1, o1, o2, o3, o4, o5, o6, o7, o8, rfl⟩
    have hk3 : k < 3 := by
      revert hk
      split <;> split <;> omega
    -- the pool
    refine ⟨_, rfl, _, rfl, a, ns, 0 + (k : Int), rfl, hrd H1 s1, by omega, by omega, by omega, fun c s p hc np => ?_⟩
    -- for _law_value in [..]
    refine ⟨_, rfl, _, _, rfl, rfl, ⟨by decide, by decide, by decide⟩, p, c, s, _, rfl, upd_same, hc, by decide, by decide, fun r c1 s2 hr0 hr1' hc1 => ?_⟩
    refine ⟨_, rfl, p, c1, s2, 4, rfl, upd_same, hc1, by decide, by decide, fun r2 c3 s3 hr2' hr3 hc3 => ?_⟩
    obtain ⟨ch, hch, hok⟩ : ∃ ch, atI (("abcd" : Str).cps.toList) r2 = some ch ∧ SeqAt.shaped (.list [.str ⟨#[ch]⟩, .str ⟨#[ch]⟩]) = true := by
      have h4 : r2 = 0 ∨ r2 = 1 ∨ r2 = 2 ∨ r2 = 3 := by omega
      rcases h4 with rfl | rfl | rfl | rfl <;> exact ⟨_, rfl, by decide +kernel⟩
    refine ⟨_, r2, ch, rfl, rfl, by decide, hch, by show 3 ≤ sizeLine; decide, fun b nb => ?_⟩
    obtain ⟨H2, eH2⟩ : ∃ H2, H2 = upd (upd (upd (upd H1 p (.lst [.int c, .int s])) p (.lst [.int c1, .int s2])) p (.lst [.int c3, .int s3])) b (.lst [.int r, .str ⟨#[ch]⟩, .non]) := ⟨_, rfl⟩
    rw [← eH2]
    have hb2 : H2 b = some (.lst [.int r, .str ⟨#[ch]⟩, .non]) := by rw [eH2]; exact upd_same
    have s2' : Same H H2 := fun z o e => by
      have e1 := s1 z o e
      have n1 : z ≠ p := ne_of_none e1 np
      have e2 : (upd (upd (upd H1 p (.lst [.int c, .int s])) p (.lst [.int c1, .int s2])) p (.lst [.int c3, .int s3])) z = some o := by rw [upd_ne n1, upd_ne n1, upd_ne n1]; exact e1
      rw [eH2, upd_ne (ne_of_none e2 nb)]
      exact e2
    clear eH2 nb hc3 hc1 hc np
    refine ⟨b, rfl, ⟨_, SqL.of hb2⟩, for_listD (K := K) (a := b) (xs := [.int r, .str ⟨#[ch]⟩, .non]) (fun i σ H' => Same H2 H' ∧ ∃ o1 o2 o3 o4 o5 o6 o7 o8, σ = [some (.ref a), o1, o2, o3, o4, o5, o6, o7, o8]) ⟨Same.refl H2, _, _, _, _, _, _, _, _, rfl⟩ (fun i σ H' _ h => SqL.of (h.1 _ _ hb2)) ?_ (fun σ H' h => hD1 _ _ ⟨s2'.trans h.1, h.2⟩)⟩
    rintro D2 i y σ H3 - hD2 - - hi ⟨s3', o1, o2, o3, o4, o5, o6, o7, o8, rfl⟩
    obtain ⟨d, hsc, hdp, hsh⟩ : ∃ d, SvOk (K := K) y d := by
      match i, hi with
      | 0, hi => cases hi; exact ⟨.int r, rfl, fun H => .int r, by unfold SeqAt.shaped; simp [PyData.canLay0, PyData.canLayAll0, PyData.depth, PyData.depthAll]⟩
      | 1, hi => cases hi; exact ⟨.str ⟨#[ch]⟩, rfl, fun H => .str _, hok⟩
      | 2, hi => cases hi; exact ⟨.none, rfl, fun H => .non, by unfold SeqAt.shaped; simp [PyData.canLay0, PyData.canLayAll0, PyData.depth, PyData.depthAll]⟩
    -- _law_made
    refine ⟨_, rfl, y, rfl, fun p1 as1 H4 t4 n4 a4 h4 => ?_⟩
    refine ⟨y, p1, _, rfl, rfl, h4, by rw [List.length_map, a4.1]; decide, fun p2 as2 H5 t5 n5 a5 h5 => ?_⟩
    refine ⟨_, rfl, _, rfl, fun e3 H6 t6 n6 x3 e4 n34 e5 n35 e6 n36 => ⟨by show 4 ≤ sizeLine; decide, fun b2 nb2 => ⟨p2, b2, as1.map V.ref ++ as2.map V.ref, _, rfl, rfl, ?_, upd_same, ?_, fun p3 np3 => ?_⟩⟩⟩
    · exact (((((same_upd n34).trans (same_upd n35)).trans (same_upd n36)).trans (same_upd nb2)) _ _ (t6 _ _ h5))
    · rw [List.length_append, List.length_map, List.length_map, a4.1, a5.1]
      show 37 ≤ sizeLine
      decide
    have u1 := same_upd (o := xo e4 (CA K 34) none) n34
    have u2 := same_upd (o := xo e5 (CA K 35) none) n35
    have u3 := same_upd (o := xo e6 (CA K 36) none) n36
    have u4 := same_upd (o := .lst [.ref e3, .ref e4, .ref e5, .ref e6]) nb2
    have u5 := same_upd (o := .lst (as1.map V.ref ++ as2.map V.ref ++ [.ref e3, .ref e4, .ref e5, .ref e6])) np3
    obtain ⟨H9, eH9⟩ : ∃ H9, H9 = upd (upd (upd (upd (upd H6 e4 (xo e4 (CA K 34) none)) e5 (xo e5 (CA K 35) none)) e6 (xo e6 (CA K 36) none)) b2 (.lst [.ref e3, .ref e4, .ref e5, .ref e6])) p3 (.lst (as1.map V.ref ++ as2.map V.ref ++ [.ref e3, .ref e4, .ref e5, .ref e6])) := ⟨_, rfl⟩
    have h9 : H9 p3 = some (.lst (((as1 ++ as2) ++ [e3, e4, e5, e6]).map V.ref)) := by
      rw [eH9, upd_same, List.map_append, List.map_append]
      rfl
    have all : AllI K H9 y ((as1 ++ as2) ++ [e3, e4, e5, e6]) := by
      rw [eH9]
      have v2 := u2.trans (u3.trans (u4.trans u5))
      have v1 := u1.trans v2
      exact AllI.mk (a4.same (t5.trans (t6.trans v1))) (a5.same (t6.trans v1)) (ExF.same x3 v1) (v2 _ _ upd_same) ((u3.trans (u4.trans u5)) _ _ upd_same) ((u4.trans u5) _ _ upd_same)
    have t9 : Same H3 H9 := by
      rw [eH9]
      exact t4.trans (t5.trans (t6.trans (u1.trans (u2.trans (u3.trans (u4.trans u5))))))
    show tSeq _ _ _ _ (upd (upd (upd (upd (upd H6 e4 (xo e4 (CA K 34) none)) e5 (xo e5 (CA K 35) none)) e6 (xo e6 (CA K 36) none)) b2 (.lst [.ref e3, .ref e4, .ref e5, .ref e6])) p3 (.lst (as1.map V.ref ++ as2.map V.ref ++ [.ref e3, .ref e4, .ref e5, .ref e6])))
    rw [← eH9]
    clear eH9 u1 u2 u3 u4 u5 np3 nb2 n34 n35 n36 x3 t6 n6 a4 a5 h4 h5 t4 t5
    generalize hes : (as1 ++ as2) ++ [e3, e4, e5, e6] = es at h9 all
    clear hes
    -- for _law_at in range(37)
    refine ⟨37, rfl, by decide, by decide, for_rangeD (lo := 0) (fun i σ H' => Same H9 H' ∧ ∃ o5 o6 o7 o8, σ = [some (.ref a), o1, o2, some y, some (.ref p3), o5, o6, o7, o8]) ⟨Same.refl H9, _, _, _, _, rfl⟩ ?_ ?_⟩
    · rintro D3 at_ σ H' - hD3 - - hat ⟨t', o5, o6, o7, o8, rfl⟩
      have hat : at_ < 37 := hat
      have all' := all.same t'
      have h9' := t' _ _ h9
      obtain ⟨ea, hea⟩ : ∃ ea, es[at_]? = some ea := ⟨_, List.getElem?_eq_getElem (by rw [all.1]; exact hat)⟩
      have hem : (es.map V.ref)[at_]? = some (.ref ea) := by rw [List.getElem?_map, hea]; rfl
      have hex := all'.2 at_ ea hea
      rw [show (0 : Int) + (at_ : Int) = (at_ : Int) from Int.zero_add _]
      refine ⟨_, rfl, _, rfl, p3, _, _, .ref ea, rfl, rfl, SqL.of h9', at_of (j := at_) rfl hem, ea, at_, _, rfl, hat, hex, fun pk Hk tk nk hk => ?_⟩
      refine ⟨37, rfl, by decide, by decide, fun DD hD => lc_range (lo := 0) (n := 37) (fun i H'' => Same Hk H'' ∧ H'' DD = some (.lst (if at_ < i then [V.int at_] else []))) ⟨same_upd hD, upd_same⟩ ?_ ?_⟩
      · rintro i H'' hi ⟨ti, hDi⟩
        refine ⟨rfl, _, rfl, _, rfl, pk, kRow at_, _, .bl (at_ == i), rfl, rfl, SqL.of (ti _ _ hk), at_of (j := i) (Int.zero_add _) (kRow_at hi), _, rfl, ?_⟩
        by_cases e : at_ = i
        · subst e
          rw [if_neg (Nat.lt_irrefl _)] at hDi
          rw [if_pos (beq_self_eq_true _)]
          refine ⟨_, rfl, _, hDi, by decide, ?_, ?_⟩
          · intro b o e
            by_cases hb : b = DD
            · rw [hb, hD] at e
              cases e
            · exact (upd_ne hb).trans (ti b o e)
          · rw [if_pos (Nat.lt_succ_self _), upd_same, Int.zero_add]
            rfl
        · have hne : (at_ == i) = false := by simpa using e
          rw [hne]
          refine iteF ⟨ti, ?_⟩
          rw [hDi]
          by_cases h : at_ < i
          · rw [if_pos h, if_pos (by omega)]
          · rw [if_neg h, if_neg (by omega)]
      · rintro H'' ⟨ti, hDi⟩
        rw [if_pos hat] at hDi
        refine ⟨_, rfl, by show 1 ≤ sizeLine; decide, fun b3 nb3 => ⟨_, _, dat_ints (ns := [(at_ : Int)]) ((same_upd nb3) _ _ hDi), dat_ints (ns := [(at_ : Int)]) upd_same, by rfl, by rfl, _, rfl, eqv_ne (by simp [PyData.eqv, PyData.eqvAll]) ?_⟩⟩
        have w1 : Same H9 (upd H'' b3 (.lst [V.int at_])) := t'.trans (tk.trans (ti.trans (same_upd nb3)))
        generalize upd H'' b3 (.lst [V.int at_]) = G1 at w1 ⊢
        -- the roots
        refine go_next ?_
        dsimp only
        refine go_seq (go_asg ?_)
        refine roots_go (n := at_) ?_ fun pr npr => ?_
        · rfl
        have w2 : Same H9 (upd G1 pr (.lst (rRow at_))) := w1.trans (same_upd npr)
        have hpr : (upd G1 pr (.lst (rRow at_))) pr = some (.lst (rRow at_)) := upd_same
        generalize upd G1 pr (.lst (rRow at_)) = G2 at w2 hpr ⊢
        refine ⟨_, rfl, _, rfl, p3, _, _, .ref ea, rfl, rfl, SqL.of (w2 _ _ h9), at_of (j := at_) rfl hem, ea, at_, _, rfl, hat, (all.same w2).2 at_ ea hea, fun pq G3 t3 n3 h3 => ?_⟩
        have w3 : Same H9 G3 := w2.trans t3
        have h3' : G3 pq = some (.lst ([decide (at_ < 30), decide (30 ≤ at_) && decide (at_ < 33), decide (33 ≤ at_), decide (at_ < 30), decide (30 ≤ at_) && decide (at_ < 33)].map V.bl)) := h3
        have hpr' : G3 pr = some (.lst ([decide (at_ < 30), decide (30 ≤ at_) && decide (at_ < 33), decide (33 ≤ at_), decide (at_ < 30), decide (30 ≤ at_) && decide (at_ < 33)].map V.bl)) := t3 _ _ hpr
        refine ⟨_, rfl, _, _, dat_bls h3', dat_bls hpr', by rfl, by rfl, _, rfl, eqv_ne (by simp [PyData.eqv, PyData.eqvAll]) ?_⟩
        refine ⟨_, rfl, _, rfl, p3, _, _, .ref ea, rfl, rfl, SqL.of (w3 _ _ h9), at_of (j := at_) rfl hem, ea, CA K at_, _, kdOf at_, true, rfl, (all.same w3).2 at_ ea hea, T.x at_ (by omega), T.bE at_ hat, _, rfl, iteF ?_⟩
        refine go_next ?_
        dsimp only
        have fin : ∀ o5 o6 o7 o8, D3.nx [some (.ref a), o1, o2, some y, some (.ref p3), o5, o6, o7, o8] G3 := fun o5 o6 o7 o8 => hD3 _ _ ⟨w3, o5, o6, o7, o8, rfl⟩
        refine ⟨_, rfl, _, _, rfl, rfl, _, rfl, ?_⟩
        refine ite_dec (fun h34 => ?_) (fun h34 => iteF (fin _ _ _ _))
        · obtain ⟨fs, efs, lfs⟩ : ∃ fs, fsO at_ y = some fs ∧ fs.lookup ("value" : Str) = some y := by
            unfold fsO
            by_cases h33 : at_ < 33
            · exact ⟨_, if_pos h33, rfl⟩
            · exact ⟨_, (if_neg h33).trans (if_pos (by omega)), rfl⟩
          refine ⟨_, rfl, _, rfl, p3, _, _, .ref ea, rfl, rfl, SqL.of (w3 _ _ h9), at_of (j := at_) rfl hem, ea, CA K at_, fs, y, kdOf at_, rfl, ?_, T.x at_ (by omega), T.nv at_ (by omega), lfs, _, rfl, hsc, _, rfl, ?_⟩
          · rw [← efs]
            exact (all.same w3).2 at_ ea hea
          · rw [decide_eq_true (rfl : y = y)]
            exact iteF (fin _ _ _ _)
    · rintro σ H' ⟨t', o5, o6, o7, o8, rfl⟩
      have all' := all.same t'
      obtain ⟨ea, hea⟩ : ∃ ea, es[33]? = some ea := ⟨_, List.getElem?_eq_getElem (by rw [all.1]; decide)⟩
      have hem : (es.map V.ref)[33]? = some (.ref ea) := by rw [List.getElem?_map, hea]; rfl
      have hex : ExF H' ea (CA K 33) (some [("value", y), ("word", .str "full")]) := all'.2 33 ea hea
      dsimp only
      refine ⟨_, rfl, p3, _, 33, .ref ea, rfl, rfl, SqL.of (t' _ _ h9), at_of (j := 33) rfl hem, ea, CA K 33, _, .str "full", kdOf 33, rfl, hex, T.x 33 (by decide), T.nw, rfl, rfl, _, rfl, ?_⟩
      rw [decide_eq_true (rfl : V.str "full" = V.str "full")]
      refine iteF ?_
      refine ⟨_, rfl, fun a1 G1 t1 n1 x1 => ⟨a1, CA K 38, _, y, kdOf 38, rfl, x1, T.x 38 (by decide), T.nv 38 (by decide), rfl, _, rfl, fun a2 G2 t2 n2 x2 => ⟨a2, CA K 37, _, y, kdOf 37, rfl, x2, T.x 37 (by decide), T.nv 37 (by decide), rfl, by show 2 ≤ sizeLine; decide, fun b4 nb4 =>
        ⟨_, rfl, _, rfl, by show 2 ≤ sizeLine; decide, fun b5 nb5 => ⟨.list [d, d], .list [d, d], .lst (SqL.of ((same_upd nb5) _ _ upd_same)) (.cons (hdp _) (.cons (hdp _) .nil)), .lst (SqL.of upd_same) (.cons (hdp _) (.cons (hdp _) .nil)), hsh, hsh, _, rfl, ?_⟩⟩⟩⟩⟩
      refine eqv_ne (SeqAt.eqv_refl _ (SeqAt.canLay_of_shaped hsh)) ?_
      refine go_next (hD2 _ _ ⟨?_, _, _, _, _, _, _, _, _, rfl⟩)
      exact s3'.trans (t9.trans (t'.trans (t1.trans (t2.trans ((same_upd nb4).trans (same_upd nb5))))))
end
end
end L2.Lr

set_option maxHeartbeats 0
namespace L2.Lr
open PySem PySem.Spec PyProof.Rows LR
/-! ### a Hook with a check of one's own -/
def obsEG (n : Nat) (chk : PySem.W.Frag → Bool) (fa : List He.Fa) (fn : List He.DefD) (g : Addr → Option Obj) : Bool × He.AlD := (fun K => (chk K, He.obsD fa fn K)) (He.frG g (He.asD g n))
def hookE (n : Nat) (chk : PySem.W.Frag → Bool) (fa : List He.Fa) (fn : List He.DefD) : PySem.W.Hook where
  α := Bool × He.AlD
  obs := fun s => obsEG n chk fa fn s.heap.get?
  val := fun _ => (true, He.valD fn)
  says := fun _ h => ∃ K : PySem.W.Frag, K.In h ∧ chk K = true ∧ He.SaysD fa fn K
  of := fun _ _ e => ⟨_, He.frG_in, congrArg (fun z : Bool × He.AlD => z.1) e, congrArg (fun z : Bool × He.AlD => z.2) e⟩
  keeps := fun _ _ _ ⟨K, hK, c⟩ k => ⟨K, PySem.W.Frag.In.keeps hK k, c⟩
theorem obsEG_eq {n : Nat} {chk : PySem.W.Frag → Bool} {fa : List He.Fa} {fn : List He.DefD} {g : Addr → Option Obj} {s : Shared} (h : ∀ a, g a = s.heap.get? a) : obsEG n chk fa fn g = (hookE n chk fa fn).obs s := by
  have e : g = s.heap.get? := funext h
  rw [e]
  rfl
/-! ### what is checked -/
def kq (K : PySem.W.Frag) (i : Nat) (v : Value) (b : Bool) : Bool := decide (PySem.W.kitOne K (.ref (CA K i)) v = some b)
def chkC (K : PySem.W.Frag) (i : Nat) : Bool := He.eqO (PySem.W.nsIn K mainGlobals (nm i)) (some (some (.ref (CA K i)))) && (xcB K (kdOf i) (CA K i) && He.eqO (PySem.W.findIn K (.ref (CA K i)) "value") (some none))
def chkI (K : PySem.W.Frag) (i : Nat) : Bool := He.eqO (PySem.W.findIn K (.ref (CA K i)) "__init__") (some (some (.ref (fI K i)))) && decide (PySem.W.typeIn K (.ref (fI K i)) = some (.type "function"))
def chkK (K : PySem.W.Frag) (i : Nat) : Bool := ((List.range 37).all fun j => kq K i (.ref (CA K j)) (i == j)) && (kq K i (.ref (CA K 37)) (decide (i < 30)) && (kq K i (.ref (CA K 38)) (decide (30 ≤ i) && decide (i < 33)) &&
  (kq K i (.type "ValueError") (decide (i < 30)) && (kq K i (.type "KeyError") (decide (30 ≤ i) && decide (i < 33)) && (kq K i (.type "RuntimeError") (decide (33 ≤ i)) && kq K i (.type "Exception") true)))))
def chk (K : PySem.W.Frag) : Bool := (List.range 39).all (chkC K) && ((List.range 34 ++ [37, 38]).all (chkI K) && (([34, 35, 36].all fun i => PySem.W.excIn K (CA K i) tlR "RuntimeError.__new__") && (He.eqO (PySem.W.findIn K (.ref (CA K 33)) "word") (some none) && (List.range 37).all (chkK K))))
def dI (x : Str) (q : Str) (st : Stmt) : He.DefD := ⟨(x, some "__init__"), "__init__", q, defArgs st, defBody st, defScope st, [], []⟩
def dF (x : Str) (st : Stmt) : He.DefD := ⟨(x, none), x, x, defArgs st, defBody st, defScope st, [], []⟩
def fn : List He.DefD := [dI "RoomError" "RoomError.__init__" sIR, dI "NoEntry" "NoEntry.__init__" sIN, dI "Refused" "Refused.__init__" sIF, dF "_law_pool" sPool, dF "_law_take" sTake, dF "_law_kinds" sKinds, dF "_law_roots" sRoots, dF "_law_values" sValues, dF "law" sLaw]
def fa : List He.Fa := [.glo "_law_pool", .glo "_law_take", .glo "_law_kinds", .glo "_law_roots", .glo "_law_values", .glo "law", .free "isinstance", .free "len", .free "range", .free "max", .free "min", .free "ValueError", .free "KeyError", .free "RuntimeError", .free "Exception"]
abbrev R : PySem.W.OpenRow := PySem.W.OpenLaw.row PySem.Challenge.rw_leastrooms_k05_exceptions_apart
abbrev hk : PySem.W.Hook := hookE 5 chk fa fn
def ob (s : PySem.W.SharedT) : Bool × He.AlD := obsEG 5 chk fa fn (HandSHeadRun.getT s)
theorem ob_eq (s : PySem.W.SharedT) : ob s = hk.obs s.abs := obsEG_eq (HandSHeadRun.getT_eq s)
def loose1 : List String := ["BadText", "BadCount", "BadRow", "BadNumber", "BadNet", "BadRooms", "Small", "BadGroup", "NoKnot", "BadCourse", "NotRight", "BadPrices", "BadList", "BadVector", "NotSo", "BadLine", "BadPaper", "BadPolicy", "NoBeat", "BadPace", "BadBeats", "BadChange", "BadSeeds", "BadValue"]
def loose2 : List String := ["BadEntries", "BadJournal", "BadEvent", "BadEvents", "BadPlan", "BadQuestion", "NoProcess", "NoChannel", "NoStore", "Refused", "TooLong", "TooMany", "NotStraight", "RoomError", "NoEntry", "_law_pool", "_law_take", "_law_kinds", "_law_roots", "_law_values"]
def loose : List Str := (loose1 ++ loose2).map Str.ofString
theorem run (w : World) : HandSHeadRun.RunEq R (PySem.W.view R.prog [46]) hk ob 9000 loose w := by
  intro os
  kernel_rfl
end L2.Lr

set_option maxHeartbeats 0
namespace L2.Lr
open PySem PySem.Spec PyProof.Rows LR
theorem all_range {n : Nat} {p : Nat → Bool} (h : (List.range n).all p = true) (i : Nat) (hi : i < n) : p i = true := List.all_eq_true.mp h i (List.mem_range.mpr hi)
theorem txt_of {K : PySem.W.Frag} {h : Heap} {mg : Str → Option Value} (X : K.In h) (G : h.Ns mainGlobals mg) (c : chk K = true) (s : He.SaysD fa fn K) : Txt K mg := by
  obtain ⟨c1, c⟩ := He.ba c
  obtain ⟨c2, c⟩ := He.ba c
  obtain ⟨c3, c⟩ := He.ba c
  obtain ⟨c4, c5⟩ := He.ba c
  have d1 : ∀ i, i < 39 → chkC K i = true := fun i hi => all_range c1 i hi
  have d2 : ∀ i, i < 39 → (i < 34 ∨ 37 ≤ i) → chkI K i = true := fun i hi h => List.all_eq_true.mp c2 i (by
    rcases h with h | h
    · exact List.mem_append_left _ (List.mem_range.mpr h)
    · refine List.mem_append_right _ ?_
      rcases (show i = 37 ∨ i = 38 by omega) with rfl | rfl <;> simp)
  have d3 : ∀ i, i < 37 → 34 ≤ i → PySem.W.excIn K (CA K i) tlR "RuntimeError.__new__" = true := fun i hi h => List.all_eq_true.mp c3 i (by
    rcases (show i = 34 ∨ i = 35 ∨ i = 36 by omega) with rfl | rfl | rfl <;> simp)
  have d5 : ∀ i, i < 37 → chkK K i = true := fun i hi => all_range c5 i hi
  have k1 : ∀ i, i < 37 → ∀ j, j < 37 → kq K i (.ref (CA K j)) (i == j) = true := fun i hi j hj => all_range (He.ba (d5 i hi)).1 j hj
  have k2 : ∀ i, i < 37 → kq K i (.ref (CA K 37)) (decide (i < 30)) = true := fun i hi => (He.ba (He.ba (d5 i hi)).2).1
  have k3 : ∀ i, i < 37 → kq K i (.ref (CA K 38)) (decide (30 ≤ i) && decide (i < 33)) = true := fun i hi => (He.ba (He.ba (He.ba (d5 i hi)).2).2).1
  have k4 : ∀ i, i < 37 → kq K i (.type "ValueError") (decide (i < 30)) = true := fun i hi => (He.ba (He.ba (He.ba (He.ba (d5 i hi)).2).2).2).1
  have k5 : ∀ i, i < 37 → kq K i (.type "KeyError") (decide (30 ≤ i) && decide (i < 33)) = true := fun i hi => (He.ba (He.ba (He.ba (He.ba (He.ba (d5 i hi)).2).2).2).2).1
  have k6 : ∀ i, i < 37 → kq K i (.type "RuntimeError") (decide (33 ≤ i)) = true := fun i hi => (He.ba (He.ba (He.ba (He.ba (He.ba (He.ba (d5 i hi)).2).2).2).2).2).1
  have k7 : ∀ i, i < 37 → kq K i (.type "Exception") true = true := fun i hi => (He.ba (He.ba (He.ba (He.ba (He.ba (He.ba (d5 i hi)).2).2).2).2).2).2
  exact {
    g := fun i hi => PySem.W.mg_of X G (He.eqO_ok (He.ba (d1 i hi)).1)
    x := fun i hi => xcB_ok (He.ba (He.ba (d1 i hi)).2).1
    nv := fun i hi => He.eqO_ok (He.ba (He.ba (d1 i hi)).2).2
    nw := He.eqO_ok c4
    iC := fun i hi h => He.eqO_ok (He.ba (d2 i hi h)).1
    tI := fun i hi h => of_decide_eq_true (He.ba (d2 i hi h)).2
    ex := d3
    kk := fun i j hi hj => of_decide_eq_true (k1 i hi j hj)
    kr := fun i hi => of_decide_eq_true (k2 i hi)
    kn := fun i hi => of_decide_eq_true (k3 i hi)
    bV := fun i hi => of_decide_eq_true (k4 i hi)
    bK := fun i hi => of_decide_eq_true (k5 i hi)
    bR := fun i hi => of_decide_eq_true (k6 i hi)
    bE := fun i hi => of_decide_eq_true (k7 i hi)
    isn := He.free_ok X G (s.fact 6)
    len := He.free_ok X G (s.fact 7)
    range := He.free_ok X G (s.fact 8)
    max := He.free_ok X G (s.fact 9)
    min := He.free_ok X G (s.fact 10)
    vE := He.free_ok X G (s.fact 11)
    kE := He.free_ok X G (s.fact 12)
    rE := He.free_ok X G (s.fact 13)
    eE := He.free_ok X G (s.fact 14) }
theorem facts {P : Program} {w : World} {K : PySem.W.Frag} {h : Heap} {mg : Str → Option Value} {f : Addr} (X : K.In h) (G : h.Ns mainGlobals mg) (hfa : mg ("law" : Str) = some (.ref f)) (c : chk K = true) (s : He.SaysD fa fn K) :
    ∃ fd : FuncData, (∀ (s : Shared) (v : Value), BindsTo s fd ⟨[v], []⟩ [("_law_script", v)]) ∧ ∀ base : Heap, K.In base → base.Ns mainGlobals mg → FnOk P w K mg base CX0 4 f fd ["_law_script"] (spLaw K) := by
  have T := txt_of X G c s
  obtain ⟨dR, FR⟩ := s.def_ 0
  obtain ⟨dN, FN⟩ := s.def_ 1
  obtain ⟨dF', FF⟩ := s.def_ 2
  obtain ⟨dP, FP⟩ := s.def_ 3
  obtain ⟨dT, FT⟩ := s.def_ 4
  obtain ⟨dK, FK⟩ := s.def_ 5
  obtain ⟨dO, FO⟩ := s.def_ 6
  obtain ⟨dV, FV⟩ := s.def_ 7
  obtain ⟨fd, FL⟩ := s.def_ 8
  have g : ∀ (i : Nat) (x : Str), fa[i]? = some (.glo x) → mg x = some (.ref (He.ga K x)) := fun i x e => He.glo_ok X G (s.fact i (f := .glo x) e)
  cases hfa.symm.trans (g 5 "law" rfl)
  have b := FunD.bindsA (ps := ["_law_script"]) FL fun _ _ _ _ _ _ us hl => match us, hl with | [_], _ => rfl
  refine ⟨fd, fun s v => b s [v] rfl, fun base _ _ => ?_⟩
  have Z : Ini P w K mg base dR dN dF' := ⟨ok_iR FR, ok_iN FN, ok_iF FF, FR.bindsN fun _ _ _ _ _ _ us hl => match us, hl with | [_, _], _ => rfl, FN.bindsN fun _ _ _ _ _ _ us hl => match us, hl with | [_, _], _ => rfl, FF.bindsN fun _ _ _ _ _ _ us hl => match us, hl with | [_, _, _], _ => rfl⟩
  exact ok_law FL T Z
    { oP := ok_pool FP T.len, oT := ok_take FT, oK := ok_kinds FK T, oR := ok_roots FO T, oV := ok_values FV T Z
      gP := g 0 _ rfl, gT := g 1 _ rfl, gK := g 2 _ rfl, gR := g 3 _ rfl, gV := g 4 _ rfl
      kP := FP.kp, kT := FT.kp, kK := FK.kp, kR := FO.kp, kV := FV.kp
      bP := FP.bindsN fun _ _ _ _ _ _ us hl => match us, hl with | [_, _], _ => rfl
      bT := FT.bindsN fun _ _ _ _ _ _ us hl => match us, hl with | [_, _], _ => rfl
      bK := FK.bindsN fun _ _ _ _ _ _ us hl => match us, hl with | [_], _ => rfl
      bR := FO.bindsN fun _ _ _ _ _ _ us hl => match us, hl with | [_], _ => rfl
      bV := FV.bindsN fun _ _ _ _ _ _ us hl => match us, hl with | [_], _ => rfl }
end L2.Lr
open PySem PySem.W PySem.Calls PyProof.Rows
theorem PySem.Challenge.cw_leastrooms_k05_exceptions_apart_holds : PySem.Challenge.rw_leastrooms_k05_exceptions_apart.Holds := by
  w_on; o_law
  refine HandSHeadRun.head_any (r := OpenLaw.row PySem.Challenge.rw_leastrooms_k05_exceptions_apart) (q := view (OpenLaw.row PySem.Challenge.rw_leastrooms_k05_exceptions_apart).prog [46]) (H := L2.Lr.hk) (ob := L2.Lr.ob) (M := 9000) (loose := L2.Lr.loose) (d := HandSHeadRun.topDef (OpenLaw.row PySem.Challenge.rw_leastrooms_k05_exceptions_apart).prog 46) (kwd := []) L2.Lr.ob_eq
    (by kernel_rfl) (fun s => by kernel_rfl) L2.Lr.run (by kernel_rfl) (by kernel_rfl) (by kernel_rfl) (by rfl) (by first | assumption | decide +kernel) (by decide +kernel) ⟨rfl, rfl, rfl, rfl, rfl, by decide +kernel⟩ ?hw ?hc
  case hw => w_witness2
  case hc =>
    refine L2.walk_ofE (l := PySem.Challenge.rw_leastrooms_k05_exceptions_apart) (n := 63) (k := 4) (x := "_law_script") (CX := L2.CX0) rfl (by decide) (by kernel_rfl) ⟨rfl, by decide, by decide⟩ ?F (fun _ _ _ _ z => z)
    intro w mg fa h Y G hmg0
    obtain ⟨K, KX, c1, c2⟩ := Y
    have hmg : mg ("law" : PySem.Str) = some (.ref fa) := by
      have e : (HandSHeadRun.topDef (OpenLaw.row PySem.Challenge.rw_leastrooms_k05_exceptions_apart).prog 46).name = ("law" : PySem.Str) := by kernel_rfl
      rw [← e]
      exact hmg0
    obtain ⟨fd, hb, hF⟩ := L2.Lr.facts (P := (PySem.Challenge.rw_leastrooms_k05_exceptions_apart).prog) (w := w) KX G hmg c1 c2
    exact ⟨K, fd, L2.Lr.spLaw K, KX, hb, fun H a ns hl _ hS => ⟨a, ns, rfl, hS, hl, fun _ => rfl⟩, hF⟩
