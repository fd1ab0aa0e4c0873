import PyProof.Rows.All
import Wide.All
import OpenK.AllK
import Wide.FinOn
import KE.KExcInit
import KE.KExcIs
import KE.KIsAll
import HandS.ForMost
import HandS.ForSpec
import HandS.ExcInit
import HandS.ExcValue
import HandS.ExcIs
import HandS.Wide
import HandS.Defaults
import HandS.HeadHook2
import HandS.ExcOwn
import HandS.Words
import HandS.IsInst
import HandS.WordsExc
import HandS.Text
import HandS.Head0
import HandS.Head1
import HandS.Head2
import HandS.HeadEnd
import HandS.HeadHook1
import KE.KStateDown
import PySem.Challenge.RW_leastrooms_k67_paces_compared
set_option Elab.async false
set_option linter.all false
set_option maxRecDepth 100000
set_option maxHeartbeats 4000000
/-! own exceptions under ValueError, KeyError, RuntimeError, as values -/
namespace LR
open PySem PySem.W PySem.Calls PyProof.Rows Builtin Builtin.ObjectAttr
/-- a family of own exceptions: the built-in class that makes them, and the end of their mro -/
structure Kd where
  B : String
  nid : String
  iid : String
  bmB : List Value
  tl : List Value
  F : ExcBaseFacts B nid iid bmB
  hB : tl.contains (.type B) = true
  hA : tl.contains (.type "AttributeError") = false
  hN : tl.contains (.type "NameError") = false
  hO : tl.contains (.type "object") = true
  hE : tl.contains (.type "BaseException") = true
  pass : ∀ self, refuseLoop self "__setattr__" tl = pure ()
def tlV : List Value := [.type "ValueError", .type "Exception", .type "BaseException", .type "object"]
def tlK : List Value := [.type "KeyError", .type "LookupError", .type "Exception", .type "BaseException", .type "object"]
def tlR : List Value := [.type "RuntimeError", .type "Exception", .type "BaseException", .type "object"]
def xV : Kd := ⟨_, _, _, _, tlV, F.excBase_ValueError, by decide +kernel, by decide +kernel, by decide +kernel, by decide +kernel, by decide +kernel, fun self => F.store_ValueError.passes self⟩
def xK : Kd := ⟨_, _, _, _, tlK, F.excBase_LookupError, by decide +kernel, by decide +kernel, by decide +kernel, by decide +kernel, by decide +kernel, fun self => by kernel_rfl⟩
def xR : Kd := ⟨_, _, _, _, tlR, F.excBase_RuntimeError, by decide +kernel, by decide +kernel, by decide +kernel, by decide +kernel, by decide +kernel, fun self => F.store_RuntimeError.passes self⟩

section
variable {M : Model} {A : Around} {E : Value → Shared → Prop} {h : Heap} {g : Array GenState} {d : Drawn} {t : Nat} {os : OsState}
variable {nm q : Str} {C N : Addr} {bs bm : List Value} {hdct : Bool} {sn : List Str} {sub : List Value} {ab : Bool} {col : Option Bool} {dd : Option Addr} {k0 k1 k2 k3 k5 : Option Value}
theorem Kd.has (k : Kd) (ht : excTail k.tl bm = true) (X : String) {b : Bool} (e : k.tl.contains (.type X) = b) : (Value.ref C :: bm).contains (.type X) = b := by
  rw [List.contains_cons, excTail_contains X bm ht, e]
  cases b <;> rfl
theorem chk_new (k : Kd) (ht : excTail k.tl bm = true) {rest : List Value} {Q : Unit → Shared → Prop}
    (hC : h.get? C = some (excClassObj nm q C N bs bm hdct sn sub ab col dd k0 k1 k2 k3 k5 k.nid)) (hq : Q () ⟨h, g, d, t, os⟩) :
    wpAny M A (checkBuiltinCall k.nid ⟨.ref C :: rest, []⟩) Q E ⟨h, g, d, t, os⟩ := by
  have c1 : (Value.ref C :: bm).contains (.type k.B) = true := k.has ht _ k.hB
  have nst := k.F.noStar
  simp only [checkBuiltinCall, k.F.newKind, k.F.newSplit, k.F.newRow]
  repeat (first
    | refine wpAny_loadPart_at hC ?_
    | (refine wpAny_isSubtype_exc hC ?_; rw [c1])
    | refine wpAny_staticBase_exc hC ?_
    | refine wpAny_madeBy_exc hC ?_
    | simp only [bne_self_eq_false, Bool.false_eq_true, if_false]
    | wp_step)
  exact hq
end
section
variable {prog : Program} {w : World} {A : Around} {E : Value → Shared → Prop} {R : Result → Shared → Prop} {h : Heap} {g : Array GenState} {d : Drawn} {t : Nat} {os : OsState}
variable {nm q : Str} {C N : Addr} {bs bm : List Value} {hdct : Bool} {sn : List Str} {sub : List Value} {ab : Bool} {col : Option Bool} {dd : Option Addr} {k0 k1 k2 k3 k5 : Option Value}
theorem run_new (k : Kd) (ht : excTail k.tl bm = true) {rest : List Value}
    (hC : h.get? C = some (excClassObj nm q C N bs bm hdct sn sub ab col dd k0 k1 k2 k3 k5 k.nid))
    (hq : R (.ok (.ret (.ref (h.objs.size + 1)))) ⟨(h.push (kdv_tup rest)).push (HandSPX.excO C h.objs.size), g, d, t, os⟩) (hr : rest.length ≤ sizeLine) :
    codeAny (model prog w) A (.builtin k.nid ⟨.ref C :: rest, []⟩) R ⟨h, g, d, t, os⟩ := by
  have en := k.F.ends
  have c1 : (Value.ref C :: bm).contains (.type k.B) = true := k.has ht _ k.hB
  have c2 : (Value.ref C :: bm).contains (.type "AttributeError") = false := k.has ht _ k.hA
  have c3 : (Value.ref C :: bm).contains (.type "NameError") = false := k.has ht _ k.hN
  refine codeAny_builtinAt k.F.entry ?_
  unfold Builtin.«BaseException.__new__»
  refine PySem.wpAt_bind ?_
  show PySem.wpAt _ _ _ (stack >>= _) _ _ _
  refine PySem.wpAt_bind (PySem.wpAt_stack fun p below => PySem.wpAt_of_wpAny ?_)
  wp_walk
  refine PySem.wpAt_of_wpAny ?_
  rw [k.F.owner]
  repeat (first
    | with_reducible refine wpAny_madeHere_exc k.F.canon hC ?_
    | with_reducible refine wpAny_loadPart_at hC ?_
    | (with_reducible refine wpAny_isSubtype_exc hC ?_; first | rw [c1] | rw [c2] | rw [c3])
    | wp_step)
  show R _ _
  rw [Heap.size_push]
  exact hq
theorem run_type (k : Kd) (ht : excTail k.tl bm = true) {rest : List Value} {fI : Addr} {Q : Fin → Shared → Prop}
    (hC : h.get? C = some (excClassObj nm q C N bs bm hdct sn sub ab col dd k0 k1 k2 k3 k5 k.nid))
    (hi : Looks (model prog w) h (typeLookup (.ref C) "__init__") (some (.ref fI))) (hb : ∀ self, Looks (model prog w) h (bindSpecial (.ref fI) self) (.ref fI, [self])) (hr : rest.length ≤ sizeLine)
    (hq : codeAny (model prog w) A (.call (.ref fI) ⟨.ref (h.objs.size + 1) :: rest, []⟩)
      (fun r s' => match r with | .ok (.ret v) => v = .none ∧ Q (.done (.ret (.ref (h.objs.size + 1)))) s' | .ok _ => False | .error e => E e s')
      ⟨(h.push (kdv_tup rest)).push (HandSPX.excO C h.objs.size), g, d, t, os⟩) :
    wpAny (model prog w) A (Builtin.«type.__call__» ⟨.ref C :: rest, []⟩) Q E ⟨h, g, d, t, os⟩ := by
  repeat (first
    | with_reducible refine wpAny_loadPart_at hC ?_
    | with_reducible refine wpAny_madeBy_exc hC ?_
    | wp_step)
  refine codeAny_call_builtin_code (Code.quiet_builtin _ k.F.quiet) (chk_new k ht hC (run_new k ht hC ?_ hr))
  show wpAny _ _ _ _ _ _
  have kp : ∀ b o, h.get? b = some o → ((h.push (kdv_tup rest)).push (HandSPX.excO C h.objs.size)).get? b = some o := fun b o e =>
    Heap.get?_push_of_some _ (Heap.get?_push_of_some _ e)
  have hC1 := kp _ _ hC
  have hnew : ((h.push (kdv_tup rest)).push (HandSPX.excO C h.objs.size)).get? (h.objs.size + 1) = some (HandSPX.excO C h.objs.size) := by heap_get
  have self1 : (Value.ref C :: bm).contains (.ref C) = true := by simp
  have i1 := hi.keeps kp
  have b1 := (hb (.ref (h.objs.size + 1))).keeps kp
  unfold isInstance
  repeat (first
    | with_reducible refine wpAny_loadPart_at hnew ?_
    | (with_reducible refine wpAny_isSubtype_exc hC1 ?_; rw [self1])
    | wp_step)
  show wpAny _ _ (typeLookup (.ref C) _) _ _ _
  refine i1.at (wpAny_holding (wpAny_bind (b1.at ?_)))
  refine wpAny_bind (wpAny_call (codeAny_mono hq fun r s' z => ?_))
  rcases r with e | (v | _ | _ | _) <;> first | exact z | exact z.elim | skip
  obtain ⟨rfl, z⟩ := z
  first
    | exact wpAny_pure (wpAny_pure z)
    | (wp_walk; exact z)
/-- C(rest), C with an own __init__ at fI -/
theorem run_class (k : Kd) (ht : excTail k.tl bm = true) {rest : List Value} {fI : Addr}
    (hC : h.get? C = some (excClassObj nm q C N bs bm hdct sn sub ab col dd k0 k1 k2 k3 k5 k.nid))
    (hi : Looks (model prog w) h (typeLookup (.ref C) "__init__") (some (.ref fI))) (hb : ∀ self, Looks (model prog w) h (bindSpecial (.ref fI) self) (.ref fI, [self])) (hr : rest.length ≤ sizeLine)
    (hq : codeAny (model prog w) (A.under (.builtin "type.__call__" ⟨.ref C :: rest, []⟩)) (.call (.ref fI) ⟨.ref (h.objs.size + 1) :: rest, []⟩) (InitBack (h.objs.size + 1) R)
      ⟨(h.push (kdv_tup rest)).push (HandSPX.excO C h.objs.size), g, d, t, os⟩) :
    codeAny (model prog w) A (.call (.ref C) ⟨rest, []⟩) R ⟨h, g, d, t, os⟩ := by
  have f1 := tc_lookup
  have f2 := tc_bind (.ref C)
  have hTy : (⟨h, g, d, t, os⟩ : Shared).TypeIs (.ref C) "type" := ⟨_, hC, rfl⟩
  refine codeAny_of_tree ?_
  show wpAny _ _ (callAny (.ref C) _) _ _ _
  repeat (any_goals (first
    | assumption
    | with_reducible refine wpAny_loadPart_at hC ?_
    | wp_step))
  refine ⟨rfl, codeAny_call_builtin_at (Code.quiet_builtin _ (by decide +kernel)) entry_typeCall (wpAny_check_type_call_sub hC (run_type k ht hC hi hb hr ?_))⟩
  refine codeAny_mono hq fun r s' z => ?_
  rcases r with e | (v | _ | _ | _) <;> exact z
end
end LR

set_option maxHeartbeats 4000000
namespace LR
open PySem PySem.W PySem.Calls PyProof.Rows Builtin Builtin.ObjectAttr
theorem sfK : StoreFacts "KeyError" tlK "object.__setattr__" "object" :=
  { F.store_object with
    mro := by kernel_rfl
    hasOwner := by decide +kernel
    passes := fun self => xK.pass self
    slot := .of (owner := "object") (n := "__setattr__")
      (by rw [typeLookup_type, builtinLookup_eq_fast]; kernel_rfl)
      (by decide +kernel) (by decide +kernel) (by decide +kernel)
      (by first
          | exact .inl (by decide +kernel)
          | exact .inr (by decide +kernel))
      (by rw [isSubtype_type]; kernel_rfl) }
/-- a store by the object's own rule is known for the family -/
def Kd.SF (k : Kd) : Prop := ∃ B, StoreFacts B k.tl "object.__setattr__" "object"
theorem sV : xV.SF := ⟨_, F.store_ValueError⟩
theorem sK : xK.SF := ⟨_, sfK⟩
theorem sR : xR.SF := ⟨_, F.store_RuntimeError⟩
/-- what the written part says of an exception class at C -/
structure XC (K : Frag) (k : Kd) (C : Addr) : Prop where
  cls : ∃ nm q N bs bm sn sub ab col dd k0 k1 k2 k3 k5, K.lookup C = some (excClassObj nm q C N bs bm true sn sub ab col dd k0 k1 k2 k3 k5 k.nid) ∧ excTail k.tl bm = true
  sa : findIn K (.ref C) "__setattr__" = some (some (.builtin "object.__setattr__"))
  ga : findIn K (.ref C) "__getattribute__" = some (some (.builtin "BaseException.__getattribute__"))
  gg : findIn K (.ref C) "__getattr__" = some none
  cl : findIn K (.ref C) "__class__" = some (some (.builtin "object.__class__"))
  kC : keepIn K (.ref C) = true
section
variable {K : Frag} {k : Kd} {C : Addr}
theorem XC.cd (T : XC K k C) : ∃ cd bm, clsIn K C = some cd ∧ cd.mro = .ref C :: bm ∧ excTail k.tl bm = true ∧ cd.hasDict = true := by
  obtain ⟨nm, q, N, bs, bm, sn, sub, ab, col, dd, k0, k1, k2, k3, k5, hC, hb⟩ := T.cls
  exact ⟨_, bm, by unfold clsIn; rw [hC], rfl, hb, rfl⟩
theorem XC.isC (T : XC K k C) : (clsIn K C).isSome = true := by
  obtain ⟨cd, bm, h, _⟩ := T.cd
  rw [h]; rfl
theorem XC.hd (T : XC K k C) : hasDictIn K C = true := by
  obtain ⟨cd, bm, h, _, _, hd⟩ := T.cd
  unfold hasDictIn; rw [h]; exact hd
theorem XC.over (T : XC K k C) : excOver K C k.tl = true := by
  obtain ⟨cd, bm, h, hm, hb, _⟩ := T.cd
  unfold excOver; rw [h]
  simp [hm, hb]
theorem XC.sub (T : XC K k C) (X : String) (e : k.tl.contains (.type X) = true) : mroIn K C (.type X) = some true := by
  obtain ⟨cd, bm, h, hm, hb, _⟩ := T.cd
  unfold mroIn
  rw [h, Option.bind_some, hm]
  show some ((Value.ref C :: bm).contains (.type X)) = some true
  rw [k.has hb X e]
theorem XC.tyC (T : XC K k C) : typeIn K (.ref C) = some (.type "type") := by
  obtain ⟨nm, q, N, bs, bm, sn, sub, ab, col, dd, k0, k1, k2, k3, k5, hC, hb⟩ := T.cls
  show Option.map (fun x => x.cls) (List.lookup C K) = _
  rw [hC]; rfl
end
theorem noTake {K : Frag} {C : Addr} {f : Str} (h : findIn K (.ref C) f = some none) : takerIn K C f = some none := by
  unfold takerIn; rw [h]; rfl
section
variable {prog : Program} {w : World} {A : Around} {E : Value → Shared → Prop} {R : Result → Shared → Prop} {hp : Heap} {g : Array GenState} {d : Drawn} {t : Nat} {os : OsState}
variable {K : Frag} {k : Kd} {C x : Addr} {name : Str} {tk : Tok} {v : Value} {fv : Array Value}
theorem osa_first (S : k.SF) (T : XC K k C) (X : K.In hp) (hx : hp.get? x = some { cls := .ref C, data := .fields fv }) (hno : findIn K (.ref C) name = some none)
    (hq : ∀ h' tk' dx, (∀ b o, b ≠ x → hp.get? b = some o → h'.get? b = some o) → hp.objs.size ≤ dx → dx ≠ x → h'.get? x = some { cls := .ref C, dict := some dx, data := .fields fv } →
      h'.Ns1 dx (fun y => if y = name then some v else none) → R (.ok (.ret .none)) ⟨h', g, d, tk', os⟩) :
    codeAny (model prog w) A (.call (.builtin "object.__setattr__") ⟨[.ref x, .str name tk, v], []⟩) R ⟨hp, g, d, t, os⟩ := by
  obtain ⟨B, SF⟩ := S
  obtain ⟨cd, bm, hcd, hm, hb, hh⟩ := T.cd
  have I : InstAt hp x { cls := .ref C, data := .fields fv } C none := ⟨hx, rfl, rfl, trivial⟩
  have nx : x ≠ hp.objs.size := Nat.ne_of_lt (Heap.lt_size hx)
  have hcls : Looks (model prog w) hp (classData C) cd := looks_clsIn X hcd
  refine osa_openX (s := ⟨hp, g, d, t, os⟩) (r := none) SF X I T.over (noTake hno) fun b => ?_
  obtain ⟨nm, bs, mro, ns, qn, hd, sn, sb, ab, col, del⟩ := cd
  dsimp only at hh
  subst hh
  dsimp only
  unfold storeInOwnDict ownDictForStores
  repeat (first
    | with_reducible refine HandSPX.store_in_new ?_ ?_
    | with_reducible refine wpAny_loadPart_at hx ?_
    | with_reducible refine hcls.at ?_
    | wp_step)
  · exact ⟨_, #[], _, (Heap.get?_update_ne _ _ _ _ nx.symm).trans (Heap.get?_push_at rfl rfl), rfl, fun e he => absurd he (by simp), fun _ => rfl⟩
  · intro h' tk' hn' hs
    have hx1 : (hp.push { cls := .type "dict", data := .dict #[] }).get? x = some { cls := .ref C, data := .fields fv } := Heap.get?_push_of_some _ hx
    refine hq h' tk' hp.objs.size (fun b o ne ho => ?_) (Nat.le_refl _) nx.symm ?_ hn'
    · have z1 := Heap.get?_push_of_some { cls := .type "dict", data := .dict #[] } ho
      have z2 := hs.2 b (Nat.ne_of_lt (Heap.lt_size ho))
      exact z2.trans ((Heap.get?_update_ne _ _ _ _ ne).trans z1)
    · exact (hs.2 x nx).trans (Heap.get?_update_self _ hx1 rfl)
theorem osa_later {dx : Addr} {m0 : Str → Option Value} {nl : List Str} (S : k.SF) (T : XC K k C) (X : K.In hp) (hx : hp.get? x = some { cls := .ref C, dict := some dx, data := .fields fv })
    (hns : hp.Ns1 dx m0) (hw : Within m0 nl) (hz : nl.length ≤ 1000) (hno : findIn K (.ref C) name = some none)
    (hq : ∀ h' tk', (∀ b o, b ≠ dx → hp.get? b = some o → h'.get? b = some o) → h'.Ns1 dx (fun y => if y = name then some v else m0 y) → R (.ok (.ret .none)) ⟨h', g, d, tk', os⟩) :
    codeAny (model prog w) A (.call (.builtin "object.__setattr__") ⟨[.ref x, .str name tk, v], []⟩) R ⟨hp, g, d, t, os⟩ := by
  obtain ⟨B, SF⟩ := S
  obtain ⟨cd, bm, hcd, hm, hb, hh⟩ := T.cd
  obtain ⟨oD, _, _, hoD, _, _⟩ := hns.count hw
  have I : InstAt hp x { cls := .ref C, dict := some dx, data := .fields fv } C (some oD) := ⟨hx, rfl, rfl, hoD⟩
  have hcls : Looks (model prog w) hp (classData C) cd := looks_clsIn X hcd
  refine osa_openX (s := ⟨hp, g, d, t, os⟩) (r := none) SF X I T.over (noTake hno) fun b => ?_
  obtain ⟨nm, bs, mro, ns, qn, hd, sn, sb, ab, col, del⟩ := cd
  dsimp only at hh
  subst hh
  dsimp only
  unfold storeInOwnDict ownDictForStores
  repeat (first
    | with_reducible refine OEX.store_in_old hns hw hz ?_
    | with_reducible refine wpAny_loadPart_at hx ?_
    | with_reducible refine hcls.at ?_
    | wp_step)
  intro h' tk' hn' hs
  exact hq h' tk' (fun b o ne ho => (hs.2 b ne).trans ho) hn'
end
end LR

set_option maxHeartbeats 4000000
namespace L2.Lr
open PySem PySem.Spec PyProof.Rows LR
/-- at a: an exception of the class at C, its dict (none as yet | at d) -/
abbrev xo (a C : Addr) (d : Option Addr) : HO := exo a C d
theorem xo_at {P : Program} {w : World} {H : Hp} {h : Heap} {a C : Addr} {d : Option Addr} (hok : HOk P w H h) (e : H a = some (xo a C d)) : ∃ t1 : Addr, h.get? a = some ({ cls := .ref C, dict := d, data := .fields #[.ref t1, .none, .none, .none, .bool false, .none] } : Obj) := exo_at hok e
theorem xo_ok {P : Program} {w : World} {H : Hp} {h : Heap} {a C t1 : Addr} {d : Option Addr} (e : h.get? a = some ({ cls := .ref C, dict := d, data := .fields #[.ref t1, .none, .none, .none, .bool false, .none] } : Obj)) : ObjOk P w H h a (xo a C d) := exo_ok e
theorem xo_ne {a C : Addr} {d : Option Addr} {o : HO} (n : ∀ φ, HO.ext φ ≠ o) : xo a C d ≠ o := n _
section
variable {X : Cx} {pins : List (Addr × Obj)} {σ : St} {H : Hp} {s : Shared} {a C dx : Addr} {f : Str} {y : V} {u : Value} {fs : List (Str × V)} {Q : Unit → Shared → Prop} {E : Value → Shared → Prop} {A : Around} {k : Kd}
/-- self.f = y, the first field -/
theorem st_first (S : k.SF) (T : XC X.K k C) (I : Inv X pins σ H s) (e : H a = some (xo a C none)) (hno : PySem.W.findIn X.K (.ref C) f = some none) (ry : RelV y u)
    (go : ∀ dx s', H dx = none → dx ≠ a → Inv X pins σ (upd (upd H dx (exd dx [(f, y)])) a (xo a C (some dx))) s' → Q () s') : wpAny (model X.prog X.w) A (setAttr (.ref a) f u) Q E s := by
  obtain ⟨fv, ho⟩ := xo_at I.hok e
  obtain ⟨hp, g, d, t, os⟩ := s
  refine PySem.W.set_plain I.kIn (ox := { cls := .ref C, dict := none, data := .fields #[.ref fv, .none, .none, .none, .bool false, .none] }) (od := none) ⟨ho, rfl, rfl, trivial⟩ T.sa (osa_first S T I.kIn ho hno fun h' tk' dx kk dn dne hx hn => ?_)
  have fresh : H dx = none := I.hok.fresh dn
  have old : ∀ {b : Addr} {o : Obj}, hp.get? b = some o → b ≠ dx := fun {b o} q => Nat.ne_of_lt (Nat.lt_of_lt_of_le (Heap.lt_size q) dn)
  have off : ∀ {b : Addr}, H b = none → b ≠ a := fun {b} n z => by
    rw [z, e] at n
    cases n
  have own : ∀ {b c : Addr}, H b = some (.own c) → b ≠ a := fun {b c} q => at_ne e q (xo_ne fun _ z => by cases z)
  have tup : ∀ {b : Addr} {xs : List V}, H b = some (.tup xs) → b ≠ a := fun {b xs} q => at_ne e q (xo_ne fun _ z => by cases z)
  have frz : ∀ {b : Addr} {o : Obj} {v : HO}, H b = some (.frz o v) → b ≠ a := fun {b o v} q => at_ne e q (xo_ne fun _ z => by cases z)
  have tbl : ∀ {b : Addr} {ps : Array Value}, H b = some (.tbl ps) → b ≠ a := fun {b ps} q => at_ne e q (xo_ne fun _ z => by cases z)
  have U : Un X.fs [] H (upd (upd H dx (exd dx [(f, y)])) a (xo a C (some dx))) hp h' :=
    ⟨fun b o q n _ _ => kk b o (off n) q, fun b o q n _ _ => ⟨o.slots, kk b o (off n) q⟩,
     fun b o q n _ => (upd_ne (off n)).trans ((upd_ne (old q)).trans n),
     fun b o q _ => (Classical.em (b = a)).elim (fun hb => hb.symm ▸ (⟨_, hx⟩ : ∃ o', h'.get? a = some o')) fun hb => ⟨o, kk b o hb q⟩,
     fun b xs q => (upd_ne (tup q)).trans ((upd_ne (ne_of_none q fresh)).trans q),
     fun b o v q => (upd_ne (frz q)).trans ((upd_ne (ne_of_none q fresh)).trans q),
     fun b ps q => ⟨#[], by rw [upd_ne (tbl q), upd_ne (ne_of_none q fresh), q]; simp⟩⟩
  refine go dx _ fresh dne (I.un (t' := tk') U fun b o q => ?_)
  by_cases hb : b = a
  · subst hb
    cases upd_same.symm.trans q
    exact xo_ok hx
  · rw [upd_ne hb] at q
    by_cases hd : b = dx
    · subst hd
      cases upd_same.symm.trans q
      exact exd_ok hn (relO_put (fs := []) ry fun g => True.intro)
    · rw [upd_ne hd] at q
      refine (I.hok b o q).stay (fun c v hc z => kk c v ?_ z) (fun c hc => (upd_ne (own hc)).trans ((upd_ne (ne_of_none hc fresh)).trans hc)) fun c xs hc => (upd_ne (tup hc)).trans ((upd_ne (ne_of_none hc fresh)).trans hc)
      rcases hc with hc | hc
      · rw [hc]; exact hb
      · exact own hc
/-- self.f = y, a later field -/
theorem st_later (S : k.SF) (T : XC X.K k C) (I : Inv X pins σ H s) (e : H a = some (xo a C (some dx))) (ed : H dx = some (exd dx fs)) (hl : fs.length ≤ 900) (hno : PySem.W.findIn X.K (.ref C) f = some none) (ry : RelV y u)
    (go : ∀ s', Inv X pins σ (upd H dx (exd dx ((f, y) :: fs))) s' → Q () s') : wpAny (model X.prog X.w) A (setAttr (.ref a) f u) Q E s := by
  obtain ⟨fv, ho⟩ := xo_at I.hok e
  obtain ⟨mA, hns, rel⟩ := exd_at I.hok ed
  have hw := within_of rel
  obtain ⟨hp, g, d, t, os⟩ := s
  obtain ⟨oD, _, _, hoD, _, _⟩ := hns.count hw
  refine PySem.W.set_plain I.kIn (ox := { cls := .ref C, dict := some dx, data := .fields #[.ref fv, .none, .none, .none, .bool false, .none] }) (od := some oD) ⟨ho, rfl, rfl, hoD⟩ T.sa (osa_later S T I.kIn ho hns hw (by rw [List.length_map]; omega) hno fun h' tk' kk hn => ?_)
  have there : ∃ o, h'.get? dx = some o := by
    obtain ⟨o, _, _, e', _⟩ := hn
    exact ⟨o, e'⟩
  exact go _ (I.write (t' := tk') (x := dx) (e := dx) (o := exd dx ((f, y) :: fs)) (by rw [ed]; exact True.intro) (.inl rfl) kk there (exd_ok hn (relO_put ry rel)))
end
/-! ### readings -/
/-- self.f = e -/
def tStX (K : PySem.W.Frag) (f : Str) (to te : TE) : TS := fun D σ H => te σ H fun y H1 => to σ H1 fun x H2 => ∃ (a C : Addr) (k : Kd), x = .ref a ∧ k.SF ∧ XC K k C ∧ PySem.W.findIn K (.ref C) f = some none ∧
  ((H2 a = some (xo a C none) ∧ ∀ dx, H2 dx = none → dx ≠ a → D.nx σ (upd (upd H2 dx (exd dx [(f, y)])) a (xo a C (some dx)))) ∨
    ∃ (dx : Addr) (fs : List (Str × V)), H2 a = some (xo a C (some dx)) ∧ H2 dx = some (exd dx fs) ∧ fs.length ≤ 900 ∧ D.nx σ (upd H2 dx (exd dx ((f, y) :: fs))))
/-- C(e, ..), C's __init__ keeping sp: the new exception as a value -/
def tMkX (C : Addr) (sp : Sp) (dvs : List V) (ta : TA) : TE := fun σ H Q => ta σ H fun vs H1 => vs.length ≤ 1000 ∧ ∀ a, H1 a = none → sp (.ref a :: (vs ++ dvs)) (upd H1 a (xo a C none)) (fun v H2 => v = .non ∧ Q (.ref a) H2) (fun _ _ _ => False)
/-- e.n of such an exception -/
def tAtX (K : PySem.W.Frag) (n : Str) (te : TE) : TE := fun σ H Q => te σ H fun x H1 => ∃ (a C dx : Addr) (fs : List (Str × V)) (v : V) (k : Kd), x = .ref a ∧ H1 a = some (xo a C (some dx)) ∧ H1 dx = some (exd dx fs) ∧ XC K k C ∧
  PySem.W.findIn K (.ref C) n = some none ∧ fs.lookup n = some v ∧ Q v H1
/-- isinstance(e, c) -/
def rIsX (K : PySem.W.Frag) : List V → Hp → VK → Prop := fun xs H Q => ∃ (a C : Addr) (d : Option Addr) (k : Kd) (c : V) (cv : Value) (b : Bool), xs = [.ref a, c] ∧ (∀ u, RelV c u → u = cv) ∧ H a = some (xo a C d) ∧
  (∀ dx, d = some dx → ∃ o, H dx = some o) ∧ XC K k C ∧ PySem.W.kitOne K (.ref C) cv = some b ∧ Q (.bl b) H
theorem oc_get {K : PySem.W.Frag} : PySem.W.specialIn K (.builtin "object.__class__") "__get__" = some (some (.builtin "getset_descriptor.__get__")) := by kernel_rfl
theorem oc_take {K : PySem.W.Frag} : PySem.W.takesIn K (.builtin "object.__class__") = some true := by kernel_rfl
section
variable {X : Cx} {o e : Expr} {es : List Expr} {to te : TE} {ta : TA} {f : Str} {p p' p1 p2 pos : Pos}
theorem inst_of {pins : List (Addr × Obj)} {σ : St} {H : Hp} {s : Shared} {a C : Addr} {d : Option Addr} (I : Inv X pins σ H s) (e : H a = some (xo a C d)) (hd : ∀ dx, d = some dx → ∃ o, H dx = some o) :
    ∃ (ox : Obj) (od : Option Obj), PySem.W.InstAt s.heap a ox C od ∧ ∀ dx, d = some dx → ∃ q, od = some q ∧ s.heap.get? dx = some q := by
  obtain ⟨fv, ho⟩ := xo_at I.hok e
  cases d with
  | none => exact ⟨_, none, ⟨ho, rfl, rfl, trivial⟩, fun dx z => by cases z⟩
  | some dx =>
    obtain ⟨q, hq⟩ := hd dx rfl
    obtain ⟨ob, hb⟩ : ∃ ob, s.heap.get? dx = some ob := by
      have z := (I.hok dx q hq).lt
      cases r : s.heap.get? dx with
      | some ob => exact ⟨ob, rfl⟩
      | none => exact absurd r (by
          have zz := I.hok dx q hq
          cases q with
          | lst xs => obtain ⟨_, _, _, _, e1⟩ := zz; rw [e1]; simp
          | tup xs => obtain ⟨_, _, _, o1, e1, _⟩ := zz; rw [e1]; simp
          | dK kvs => obtain ⟨_, _, _, _, o1, _, _, e1, _⟩ := zz; rw [e1]; simp
          | dT kvs => obtain ⟨_, _, _, _, o1, _, _, e1, _⟩ := zz; rw [e1]; simp
          | set S n => obtain ⟨o1, _, _, _, e1, _⟩ := zz; rw [e1]; simp
          | ins C1 d1 f1 => obtain ⟨_, _, _, e1, _⟩ := zz; rw [e1]; simp
          | own y => obtain ⟨_, e1⟩ := zz; rw [e1]; simp
          | xd fs => obtain ⟨_, ⟨_, _, _, e1, _⟩, _⟩ := zz; rw [e1]; simp
          | rng lo hi => obtain ⟨_, _, _, e1⟩ := zz; rw [e1]; simp
          | frz ob u => obtain ⟨e1, _⟩ := zz; rw [e1]; simp
          | tbl ps => have e1 : s.heap.get? dx = some _ := zz; rw [e1]; simp
          | met f1 y => have e1 : s.heap.get? dx = some _ := zz; rw [e1]; simp
          | ext φ => obtain ⟨_, ⟨_, e1⟩, _⟩ := zz; rw [e1]; simp)
    exact ⟨_, some ob, ⟨ho, rfl, rfl, hb⟩, fun dy z => by cases z; exact ⟨ob, rfl, hb⟩⟩
theorem ps_stX (ho : PE X o to) (he : PE X e te) (hs : swapsWith e (some (.Attribute o f p')) pos.line X.env = pure false := by rfl) : PS X (.Assign [.Attribute o f p'] e pos) (tStX X.K f to te) := by
  refine ⟨fun pins s σ H D I hh => plainObj_wpAny_Assign_Attribute (thn (he.run pins s σ H _ I hh) fun v s1 ⟨y, H1, I1, r1, q1⟩ => thn (ho.run pins s1 σ H1 _ I1 q1) fun u s2 ⟨x, H2, I2, r2, q⟩ => ?_) hs⟩
  obtain ⟨a, C, k, rfl, S, T, hno, q⟩ := q
  cases (show u = Value.ref a from r2)
  rcases q with ⟨ea, q⟩ | ⟨dx, fs, ea, ed, hl, q⟩
  · exact st_first S T I2 ea hno r1 fun dx s' n ne J => ⟨σ, _, J, q dx n ne⟩
  · exact st_later S T I2 ea ed hl hno r1 fun s' J => ⟨σ, _, J, q⟩
theorem pe_mkX {CX : CXT} {x : Str} {C fI : Addr} {j : Nat} {fd : FuncData} {ps : List Str} {sp : Sp} {ds : List Value} {dvs : List V} {k : Kd} (T : XC X.K k C) (iC : PySem.W.findIn X.K (.ref C) "__init__" = some (some (.ref fI))) (tI : PySem.W.typeIn X.K (.ref fI) = some (.type "function"))
    (F1 : FnOk X.prog X.w X.K X.mg X.base CX j fI fd ps sp) (hr : Room (j + 1) X.A) (hb : Binds X.K fd ps ds) (hd : Vals dvs ds) (hx : Passes CX X (fun _ _ _ => False)) (hg : Gl X x) (hm : X.mg x = some (.ref C)) (ha : PA X (e :: es) ta)
    (hdb : (x == ("__debug__" : Str)) = false := by decide) (he : starEach (e :: es) X.env = (false, eval e X.env) :: starEach es X.env := by rfl) (hpl : (backTo pos (starEach es X.env)).any (·.1) = false := by rfl) :
    PE X (.Call (.Name x p) (e :: es) [] pos) (tMkX C sp dvs ta) := by
  refine ⟨fun pins s σ H Q I hh => ?_⟩
  obtain ⟨nm, q, N, bs, bm, sn, sub, ab, col, dd, k0, k1, k2, k3, k5, hC, hbm⟩ := T.cls
  refine wpAny_Call_Name_kw (ld_glob I hg hm ?_ hdb)
  refine PySem.W.callWith_K (h₀ := X.base) I.ok.mod.kin T.kC (thn (ha.run pos pins s σ H _ I hh) fun us s1 ⟨vs, H1, I1, r1, hz, q1⟩ => ⟨I1.kIn, ?_⟩) he hpl
  show wpAny _ _ (call (.ref C) us) _ _ _
  obtain ⟨hp, g, dr, tk, os⟩ := s1
  obtain ⟨na, ena⟩ : ∃ na, na = hp.objs.size + 1 := ⟨_, rfl⟩
  have hsz : hp.objs.size ≤ na := by omega
  have hn : H1 na = none := I1.hok.fresh hsz
  have hq := q1 na hn
  obtain ⟨G, eG⟩ : ∃ G, G = (hp.push (PySem.W.kdv_tup us)).push (PySem.HandSPX.excO C hp.objs.size) := ⟨_, rfl⟩
  have kk : ∀ b o, hp.get? b = some o → G.get? b = some o := fun b o e1 => by rw [eG]; exact Heap.get?_push_of_some _ (Heap.get?_push_of_some _ e1)
  have there : G.get? na = some (PySem.HandSPX.excO C hp.objs.size) := by rw [eG, ena]; heap_get
  have I2 : Inv X pins σ (upd H1 na (xo na C none)) ⟨G, g, dr, tk, os⟩ := I1.laid (t' := tk) (a := na) (o := xo na C none) (h' := G) kk hsz (xo_ok there)
  have r2 : Vals (V.ref na :: (vs ++ dvs)) (Value.ref na :: (us ++ ds)) := .cons rfl (r1.append hd)
  have hl : (Value.ref na :: us ++ ds).length = ps.length := by
    have e1 := r2.length
    rw [F1.len _ _ _ _ hq] at e1
    exact e1.symm
  have hus : us.length ≤ sizeLine := by
    rw [← Paired.length r1, sizeLine_eq]
    omega
  refine wpAny_call (run_class k hbm (I1.kIn _ _ hC) (PySem.W.looks_findIn I1.kIn iC) (fun self => PySem.W.bind_fn I1.kIn self tI) hus ?_)
  rw [← eG, ← ena]
  refine codeAny_mono (F1.run _ X.stack _ _ ⟨Value.ref na :: us, []⟩ (Value.ref na :: (us ++ ds)) _ _ (fun _ _ _ => False) (hr.make C us []) (I2.env0.make C us []) (hb _ (Value.ref na :: us) I2.kIn hl) r2 hq) fun r s' hq' => ?_
  cases r with
  | error er => exact hx pins σ _ _ er s' I2 hq'
  | ok fl =>
    cases fl with
    | ret u =>
      obtain ⟨v, H2, os2, bare2, un2, hok2, rv, ev, q2⟩ := hq'
      subst ev
      exact ⟨rv, .ref na, H2, I2.call' (ch := []) os2 un2 hok2 bare2 fun b z => absurd z (by simp), rfl, q2⟩
    | next => exact False.elim hq'
    | brk => exact False.elim hq'
    | cont => exact False.elim hq'
theorem pe_atX {n : Str} (he : PE X e te) (hb : attributeBase e n X.env (eval e X.env) = eval e X.env := by rfl) : PE X (.Attribute e n pos) (tAtX X.K n te) := by
  refine ⟨fun pins s σ H Q I hh => attr_of hb (thn (he.run pins s σ H _ I hh) fun u s1 ⟨x, H1, I1, rx, q⟩ => ?_)⟩
  obtain ⟨a, C, dx, fs, v, k, rfl, ea, ed, T, hno, l, q⟩ := q
  cases (show u = Value.ref a from rx)
  obtain ⟨ox, od, J, hd⟩ := inst_of I1 ea fun d z => by cases z; exact ⟨_, ed⟩
  obtain ⟨ob, eo, ho⟩ := hd dx rfl
  obtain ⟨mA, hns, hr⟩ := exd_at I1.hok ed
  obtain ⟨o2, ho2, hl⟩ := lookIn_ns hns
  cases ho.symm.trans ho2
  subst eo
  obtain ⟨z, hz, rz⟩ := RelO.some_of (v := v) (o := mA n) (by rw [← l]; exact hr n)
  exact HandSPX.exc_get I1.kIn J T.ga T.gg (T.sub "BaseException" k.hE) (PySem.W.findObj_own T.hd hno rfl (by rw [hl, hz])) (handed_of rz) ⟨v, H1, I1.tok _, rz, q⟩
theorem call_isX : CallR X (.builtin "isinstance") (rIsX X.K) := by
  intro pins s σ H xs us Q I r q
  obtain ⟨a, C, d, k, c, cv, b, rfl, hcv, ea, hd, T, e, q⟩ := q
  cases r with
  | cons rx rr =>
    cases rr with
    | cons rt rr =>
      cases rr
      cases rx
      cases hcv _ rt
      obtain ⟨ox, od, J, _⟩ := inst_of I ea hd
      exact PySem.W.kia_one (PySem.W.kitx_exc T.isC T.ga T.gg (T.sub "BaseException" k.hE) T.cl oc_get oc_take (T.sub "object" k.hO)) I.kIn J e (fun z => nomatch z) fun tk => ⟨.bl b, H, I.kept (t' := tk) fun _ _ z => z, rfl, q⟩
end
end L2.Lr

set_option maxHeartbeats 4000000
namespace L2.Lr
open PySem PySem.Spec PyProof.Rows LR
/-! ### facts of a class, reckoned -/
def clB (K : PySem.W.Frag) (k : Kd) (C : Addr) : Bool := match K.lookup C with
  | some ⟨.type "type", _, .cls cd, sl⟩ => (match cd.mro, sl.toList with
    | .ref C' :: bm, [_, _, _, _, some (.builtin n), _] => C' == C && n == k.nid && !cd.hasDel && cd.hasDict && PySem.W.excTail k.tl bm
    | _, _ => false)
  | _ => false
theorem clB_ok {K : PySem.W.Frag} {k : Kd} {C : Addr} (q : clB K k C = true) : ∃ nm qn N bs bm sn sub ab col dd k0 k1 k2 k3 k5, K.lookup C = some (excClassObj nm qn C N bs bm true sn sub ab col dd k0 k1 k2 k3 k5 k.nid) ∧ PySem.W.excTail k.tl bm = true := by
  unfold clB at q
  split at q
  · rename_i dd cd sl ho
    split at q
    · rename_i C' bm k0 k1 k2 k3 n k5 hm hs
      simp only [Bool.and_eq_true, beq_iff_eq, Bool.not_eq_true'] at q
      obtain ⟨⟨⟨⟨rfl, rfl⟩, hdel⟩, hdict⟩, ht⟩ := q
      obtain ⟨nm, bs, mro, ns, qn, hd, sn, sub, ab, col, del⟩ := cd
      dsimp only at hm hdel hdict
      subst hm hdel hdict
      have es : sl = #[k0, k1, k2, k3, some (.builtin k.nid), k5] := by
        rw [← hs]
      subst es
      exact ⟨nm, qn, ns, bs, bm, sn, sub, ab, col, dd, k0, k1, k2, k3, k5, ho, ht⟩
    · cases q
  · cases q
def xcB (K : PySem.W.Frag) (k : Kd) (C : Addr) : Bool := clB K k C && (He.eqO (PySem.W.findIn K (.ref C) "__setattr__") (some (some (.builtin "object.__setattr__"))) && (He.eqO (PySem.W.findIn K (.ref C) "__getattribute__") (some (some (.builtin "BaseException.__getattribute__"))) &&
  (He.eqO (PySem.W.findIn K (.ref C) "__getattr__") (some none) && (He.eqO (PySem.W.findIn K (.ref C) "__class__") (some (some (.builtin "object.__class__"))) && PySem.W.keepIn K (.ref C)))))
theorem xcB_ok {K : PySem.W.Frag} {k : Kd} {C : Addr} (q : xcB K k C = true) : XC K k C := by
  obtain ⟨q1, q⟩ := He.ba q
  obtain ⟨q2, q⟩ := He.ba q
  obtain ⟨q3, q⟩ := He.ba q
  obtain ⟨q4, q⟩ := He.ba q
  obtain ⟨q5, q6⟩ := He.ba q
  exact ⟨clB_ok q1, He.eqO_ok q2, He.eqO_ok q3, He.eqO_ok q4, He.eqO_ok q5, q6⟩
/-! ### exceptions as the heap holds them -/
/-- at a: an exception of the class at C with these fields (none: no dict) -/
def ExF (H : Hp) (a C : Addr) : Option (List (Str × V)) → Prop
  | some fs => ∃ d, H a = some (xo a C (some d)) ∧ H d = some (exd d fs)
  | none => H a = some (xo a C none)
theorem ExF.same {H H' : Hp} {a C : Addr} {o : Option (List (Str × V))} (e : ExF H a C o) (s : Same H H') : ExF H' a C o := by
  cases o with
  | none => exact s _ _ e
  | some fs =>
    obtain ⟨d, e1, e2⟩ := e
    exact ⟨d, s _ _ e1, s _ _ e2⟩
theorem ExF.obj {H : Hp} {a C : Addr} {o : Option (List (Str × V))} (e : ExF H a C o) : ∃ d, H a = some (xo a C d) ∧ ∀ dx, d = some dx → ∃ u, H dx = some u := by
  cases o with
  | none => exact ⟨none, e, fun dx z => by cases z⟩
  | some fs =>
    obtain ⟨d, e1, e2⟩ := e
    exact ⟨some d, e1, fun dx z => by cases z; exact ⟨_, e2⟩⟩
theorem same_upd {H : Hp} {p : Addr} {o : HO} (n : H p = none) : Same H (upd H p o) := fun b u e => (upd_ne (ne_of_none e n)).trans e
theorem pe_weak {X : Cx} {e : Expr} {t t' : TE} (h : PE X e t) (i : ∀ σ H Q, t' σ H Q → t σ H Q) : PE X e t' := ⟨fun pins s σ H Q I q => h.run pins s σ H Q I (i σ H Q q)⟩
theorem pt_weak {X : Cx} {e : Expr} {t t' : TT} (h : PT X e t) (i : ∀ σ H Q, t' σ H Q → t σ H Q) : PT X e t' := ⟨fun pins s σ H Q I q => h.run pins s σ H Q I (i σ H Q q)⟩
theorem pa_weak {X : Cx} {es : List Expr} {t t' : TA} (h : PA X es t) (i : ∀ σ H Q, t' σ H Q → t σ H Q) : PA X es t' := ⟨fun p pins s σ H Q I q => h.run p pins s σ H Q I (i σ H Q q)⟩
/-- C(y): the new exception keeps y -/
def tNew (C : Addr) (te : TE) : TE := fun σ H Q => te σ H fun y H1 => ∀ a H', Same H1 H' → H1 a = none → ExF H' a C (some [("value", y)]) → Q (.ref a) H'
/-- C(z, y): .. keeps both -/
def tNew2 (C : Addr) (tz ty : TE) : TE := fun σ H Q => tz σ H fun z H1 => ty σ H1 fun y H2 => ∀ a H', Same H2 H' → H2 a = none → ExF H' a C (some [("value", y), ("word", z)]) → Q (.ref a) H'
/-- C() -/
def tNew0 (C : Addr) : TE := fun σ H Q => ∀ a, H a = none → Q (.ref a) (upd H a (xo a C none))
/-- isinstance(e, c): b -/
def tIsX (K : PySem.W.Frag) (te : TE) (cv : Value) : TE := fun σ H Q => te σ H fun x H1 => ∃ (a C : Addr) (o : Option (List (Str × V))) (k : Kd) (b : Bool), x = .ref a ∧ ExF H1 a C o ∧ XC K k C ∧ PySem.W.kitOne K (.ref C) cv = some b ∧ Q (.bl b) H1
/-- e.n -/
def tGetX (K : PySem.W.Frag) (n : Str) (te : TE) : TE := fun σ H Q => te σ H fun x H1 => ∃ (a C : Addr) (fs : List (Str × V)) (v : V) (k : Kd), x = .ref a ∧ ExF H1 a C (some fs) ∧ XC K k C ∧ PySem.W.findIn K (.ref C) n = some none ∧ fs.lookup n = some v ∧ Q v H1
/-! ### the promises of the __init__s -/
def spIni (K : PySem.W.Frag) : Sp := fun vs H Q _ => ∃ (a C : Addr) (k : Kd) (y : V), vs = [.ref a, y] ∧ k.SF ∧ XC K k C ∧ PySem.W.findIn K (.ref C) "value" = some none ∧ H a = some (xo a C none) ∧
  ∀ H' d, H d = none → d ≠ a → (∀ b o, H b = some o → b ≠ a → H' b = some o) → H' a = some (xo a C (some d)) → H' d = some (exd d [("value", y)]) → Q .non H'
def spIni2 (K : PySem.W.Frag) : Sp := fun vs H Q _ => ∃ (a C : Addr) (k : Kd) (z y : V), vs = [.ref a, z, y] ∧ k.SF ∧ XC K k C ∧ PySem.W.findIn K (.ref C) "value" = some none ∧ PySem.W.findIn K (.ref C) "word" = some none ∧ H a = some (xo a C none) ∧
  ∀ H' d, H d = none → d ≠ a → (∀ b o, H b = some o → b ≠ a → H' b = some o) → H' a = some (xo a C (some d)) → H' d = some (exd d [("value", y), ("word", z)]) → Q .non H'
/-- a reading with a wish that may be stronger -/
def tUp (te : TE) : TE := fun σ H Q => ∃ Q' : VK, te σ H Q' ∧ ∀ v H', Q' v H' → Q v H'
theorem pe_up {X : Cx} {e : Expr} {te : TE} (h : PE X e te) : PE X e (tUp te) := ⟨fun pins s σ H Q I ⟨Q', q, i⟩ => thn (h.run pins s σ H Q' I q) fun u s1 ⟨v, H1, I1, r, q1⟩ => ⟨v, H1, I1, r, i v H1 q1⟩⟩
section
variable {X : Cx} {e e2 : Expr} {es : List Expr} {te t2 : TE} {ta : TA} {p p' p1 p2 pos : Pos}
theorem pe_new {x : Str} {C fI : Addr} {j : Nat} {fd : FuncData} {k : Kd} (S : k.SF) (T : XC X.K k C) (nv : PySem.W.findIn X.K (.ref C) "value" = some none) (iC : PySem.W.findIn X.K (.ref C) "__init__" = some (some (.ref fI))) (tI : PySem.W.typeIn X.K (.ref fI) = some (.type "function"))
    (F1 : FnOk X.prog X.w X.K X.mg X.base CX0 j fI fd ["self", "value"] (spIni X.K)) (hr : Room (j + 1) X.A) (hb : Binds X.K fd ["self", "value"] []) (hm : X.mg x = some (.ref C)) (ha : PE X e te) (hg : Gl X x := by rfl)
    (hdb : (x == ("__debug__" : Str)) = false := by decide) (he : starEach (e :: []) X.env = (false, eval e X.env) :: starEach [] X.env := by rfl) (hpl : (backTo pos (starEach [] X.env)).any (·.1) = false := by rfl) :
    PE X (.Call (.Name x p) [e] [] pos) (tNew C te) := by
  refine pe_weak (pe_mkX (e := e) (es := []) (dvs := []) T iC tI F1 hr hb .nil pass0 hg hm (pa_cons (pe_up ha) pa_nil he) hdb he hpl) fun σ H Q q => ?_
  refine ⟨_, q, fun y H1 q1 => ⟨by show 1 ≤ 1000; decide, fun a hn => ⟨a, C, k, y, rfl, S, T, nv, upd_same, fun H2 d hd ne keep e1 e2 => ⟨rfl, q1 a H2 (fun b o z => ?_) hn ⟨d, e1, e2⟩⟩⟩⟩⟩
  have ne : b ≠ a := ne_of_none z hn
  exact keep b o ((upd_ne ne).trans z) ne
theorem pe_new2 {x : Str} {C fI : Addr} {j : Nat} {fd : FuncData} {k : Kd} (S : k.SF) (T : XC X.K k C) (nv : PySem.W.findIn X.K (.ref C) "value" = some none) (nw : PySem.W.findIn X.K (.ref C) "word" = some none) (iC : PySem.W.findIn X.K (.ref C) "__init__" = some (some (.ref fI))) (tI : PySem.W.typeIn X.K (.ref fI) = some (.type "function"))
    (F1 : FnOk X.prog X.w X.K X.mg X.base CX0 j fI fd ["self", "word", "value"] (spIni2 X.K)) (hr : Room (j + 1) X.A) (hb : Binds X.K fd ["self", "word", "value"] []) (hm : X.mg x = some (.ref C)) (ha : PE X e te) (ha2 : PE X e2 t2) (hg : Gl X x := by rfl)
    (hdb : (x == ("__debug__" : Str)) = false := by decide) (he : starEach (e :: [e2]) X.env = (false, eval e X.env) :: starEach [e2] X.env := by rfl) (he2 : starEach (e2 :: []) X.env = (false, eval e2 X.env) :: starEach [] X.env := by rfl) (hpl : (backTo pos (starEach [e2] X.env)).any (·.1) = false := by rfl) :
    PE X (.Call (.Name x p) [e, e2] [] pos) (tNew2 C te t2) := by
  refine pe_weak (pe_mkX (e := e) (es := [e2]) (dvs := []) T iC tI F1 hr hb .nil pass0 hg hm (pa_cons (pe_up ha) (pa_cons (pe_up ha2) pa_nil he2) he) hdb he hpl) fun σ H Q q => ?_
  refine ⟨_, q, fun z H1 q1 => ⟨_, q1, fun y H2 q2 => ⟨by show 2 ≤ 1000; decide, fun a hn => ⟨a, C, k, z, y, rfl, S, T, nv, nw, upd_same, fun H3 d hd ne keep e1 e2 => ⟨rfl, q2 a H3 (fun b o zz => ?_) hn ⟨d, e1, e2⟩⟩⟩⟩⟩⟩
  have ne : b ≠ a := ne_of_none zz hn
  exact keep b o ((upd_ne ne).trans zz) ne
theorem pe_new0 {x : Str} {C : Addr} {bmB : List Value} {B newId initId : String} (F : ExcBaseFacts B newId initId bmB) (q : PySem.W.excIn X.K C bmB newId = true) (kC : PySem.W.keepIn X.K (.ref C) = true) (hm : X.mg x = some (.ref C)) (hg : Gl X x := by rfl) (hdb : (x == ("__debug__" : Str)) = false := by decide) :
    PE X (.Call (.Name x p) [] [] pos) (tNew0 C) := by
  refine ⟨fun pins s σ H Q I h => ?_⟩
  refine wpAny_Call_Name_kw (ld_glob I hg hm (PySem.W.callWith_K0 I.kIn kC ?_) hdb)
  obtain ⟨bm, N, nm, qn, bs, hdct, sn, sub, ab, col, dd, k0, k1, k2, k3, k5, mN, hC, hN, hni, T⟩ := exc_obj I.kIn q
  refine wpAny_call_exc_subT F T hC hN hni (fun h' a hm' => ?_) (Nat.zero_le _)
  have hn : H a = none := I.hok.gone hm'.new
  obtain ⟨t, ht, _, _⟩ := hm'.there
  exact ⟨.ref a, _, I.laidN hm'.keeps hm'.new hn (xo_ok ht), rfl, h a hn⟩
theorem pe_isX {c : V} {cv : Value} (pe2 : PE X e2 (tC c)) (hv : ∀ u, RelV c u → u = cv) (hm : X.mg "isinstance" = none) (ha : PE X e te) (hg : Gl X "isinstance" := by rfl)
    (he : starEach (e :: [e2]) X.env = (false, eval e X.env) :: starEach [e2] X.env := by rfl) (he2 : starEach (e2 :: []) X.env = (false, eval e2 X.env) :: starEach [] X.env := by rfl) (hpl : (backTo pos (starEach [e2] X.env)).any (·.1) = false := by rfl) :
    PE X (.Call (.Name "isinstance" p) [e, e2] [] pos) (tIsX X.K te cv) := by
  refine pe_weak (pe_callB (e := e) (es := [e2]) call_isX hg hm boot_isinstance (pa_cons (pe_up ha) (pa_cons pe2 pa_nil he2) he) (by decide) (by decide) he hpl) fun σ H Q q => ?_
  refine ⟨_, q, fun x H1 q1 => ?_⟩
  obtain ⟨a, C, o, k, b, rfl, ex, T, e, q⟩ := q1
  obtain ⟨d, e1, e2⟩ := ex.obj
  exact ⟨a, C, d, k, c, cv, b, rfl, hv, e1, e2, T, e, q⟩
theorem pe_getX {n : Str} (he : PE X e te) (hb : attributeBase e n X.env (eval e X.env) = eval e X.env := by rfl) : PE X (.Attribute e n pos) (tGetX X.K n te) := by
  refine pe_weak (pe_atX (pe_up he) hb) fun σ H Q q => ⟨_, q, fun x H1 q1 => ?_⟩
  obtain ⟨a, C, fs, v, k, rfl, ⟨d, e1, e2⟩, T, hno, l, q⟩ := q1
  exact ⟨a, C, d, fs, v, k, rfl, e1, e2, T, hno, l, q⟩
end
end L2.Lr

set_option maxHeartbeats 4000000
namespace L2.Lr
open PySem PySem.Spec PyProof.Rows LR
/-! own exceptions raised and caught -/
theorem pmk_weak {X : Cx} {e : Expr} {t t' : St → Hp → XK → Prop} (h : PMk X e t) (i : ∀ σ H Q, t' σ H Q → t σ H Q) : PMk X e t' := fun pins s σ H Q I q => h pins s σ H Q I (i σ H Q q)
/-- raise C(y): d holds the fields -/
def tNewR (C : Addr) (te : TE) : St → Hp → XK → Prop := fun σ H Q => te σ H fun y H1 => ∀ d H', Same H1 H' → H1 d = none → H' d = some (.xd [("value", y)]) → Q (.ref C) (some d) H'
def tNewR2 (C : Addr) (tz ty : TE) : St → Hp → XK → Prop := fun σ H Q => tz σ H fun z H1 => ty σ H1 fun y H2 => ∀ d H', Same H2 H' → H2 d = none → H' d = some (.xd [("value", y), ("word", z)]) → Q (.ref C) (some d) H'
def tNewR0 (C : Addr) : St → Hp → XK → Prop := fun _ H Q => Q (.ref C) none H
section
variable {X : Cx} {e e2 : Expr} {es : List Expr} {te t2 : TE} {ta : TA} {p p' p1 p2 pos : Pos}
theorem xc_raises {k : Kd} {C : Addr} (T : XC X.K k C) : Raises X (.ref C) := raises_own (T.sub "BaseException" k.hE) T.tyC
theorem pmk_x {CX : CXT} {x : Str} {C fI : Addr} {j : Nat} {fd : FuncData} {ps : List Str} {sp : Sp} {ds : List Value} {dvs : List V} {k : Kd} (T : XC X.K k C) (iC : PySem.W.findIn X.K (.ref C) "__init__" = some (some (.ref fI))) (tI : PySem.W.typeIn X.K (.ref fI) = some (.type "function"))
    (F1 : FnOk X.prog X.w X.K X.mg X.base CX j fI fd ps sp) (hr : Room (j + 1) X.A) (hb : Binds X.K fd ps ds) (hd : Vals dvs ds) (hx : Passes CX X (fun _ _ _ => False)) (hg : Gl X x) (hm : X.mg x = some (.ref C)) (ha : PA X (e :: es) ta)
    (hdb : (x == ("__debug__" : Str)) = false := by decide) (he : starEach (e :: es) X.env = (false, eval e X.env) :: starEach es X.env := by rfl) (hpl : (backTo pos (starEach es X.env)).any (·.1) = false := by rfl) :
    PMk X (.Call (.Name x p) (e :: es) [] pos) (tMkO C sp dvs ta) := by
  intro pins s σ H Q I hh
  obtain ⟨nm, q, N, bs, bm, sn, sub, ab, col, dd, k0, k1, k2, k3, k5, hC, hbm⟩ := T.cls
  refine wpAny_Call_Name_kw (ld_glob I hg hm ?_ hdb)
  refine PySem.W.callWith_K (h₀ := X.base) I.ok.mod.kin T.kC (thn (ha.run pos pins s σ H _ I hh) fun us s1 ⟨vs, H1, I1, r1, hz, q1⟩ => ⟨I1.kIn, ?_⟩) he hpl
  show wpAny _ _ (call (.ref C) us) _ _ _
  obtain ⟨hp, g, dr, tk, os⟩ := s1
  obtain ⟨na, ena⟩ : ∃ na, na = hp.objs.size + 1 := ⟨_, rfl⟩
  have hsz : hp.objs.size ≤ na := by omega
  have hn : H1 na = none := I1.hok.fresh hsz
  have hq := q1 na hn
  obtain ⟨G, eG⟩ : ∃ G, G = (hp.push (PySem.W.kdv_tup us)).push (PySem.HandSPX.excO C hp.objs.size) := ⟨_, rfl⟩
  have kk : ∀ b o, hp.get? b = some o → G.get? b = some o := fun b o e1 => by rw [eG]; exact Heap.get?_push_of_some _ (Heap.get?_push_of_some _ e1)
  have there : G.get? na = some (PySem.HandSPX.excO C hp.objs.size) := by rw [eG, ena]; heap_get
  have I2 : Inv X pins σ (upd H1 na (xo na C none)) ⟨G, g, dr, tk, os⟩ := I1.laid (t' := tk) (a := na) (o := xo na C none) (h' := G) kk hsz (xo_ok there)
  have r2 : Vals (V.ref na :: (vs ++ dvs)) (Value.ref na :: (us ++ ds)) := .cons rfl (r1.append hd)
  have hl : (Value.ref na :: us ++ ds).length = ps.length := by
    have e1 := r2.length
    rw [F1.len _ _ _ _ hq] at e1
    exact e1.symm
  have hus : us.length ≤ sizeLine := by
    rw [← Paired.length r1, sizeLine_eq]
    omega
  refine wpAny_call (run_class k hbm (I1.kIn _ _ hC) (PySem.W.looks_findIn I1.kIn iC) (fun self => PySem.W.bind_fn I1.kIn self tI) hus ?_)
  rw [← eG, ← ena]
  refine codeAny_mono (F1.run _ X.stack _ _ ⟨Value.ref na :: us, []⟩ (Value.ref na :: (us ++ ds)) _ _ (fun _ _ _ => False) (hr.make C us []) (I2.env0.make C us []) (hb _ (Value.ref na :: us) I2.kIn hl) r2 hq) fun r s' hq' => ?_
  cases r with
  | error er => exact hx pins σ _ _ er s' I2 hq'
  | ok fl =>
    cases fl with
    | ret u =>
      obtain ⟨v, H2, os2, bare2, un2, hok2, rv, ev, d, fs, ea, ed, hd1, q2⟩ := hq'
      subst ev
      obtain ⟨h2, g2, d2, t2, os'⟩ := s'
      exact ⟨rv, mk_end (xc_raises T) I1 hsz kk un2 hok2 os2 bare2 ea ed hd1 q2⟩
    | next => exact False.elim hq'
    | brk => exact False.elim hq'
    | cont => exact False.elim hq'
theorem pmk_new {x : Str} {C fI : Addr} {j : Nat} {fd : FuncData} {k : Kd} (S : k.SF) (T : XC X.K k C) (nv : PySem.W.findIn X.K (.ref C) "value" = some none) (iC : PySem.W.findIn X.K (.ref C) "__init__" = some (some (.ref fI))) (tI : PySem.W.typeIn X.K (.ref fI) = some (.type "function"))
    (F1 : FnOk X.prog X.w X.K X.mg X.base CX0 j fI fd ["self", "value"] (spIni X.K)) (hr : Room (j + 1) X.A) (hb : Binds X.K fd ["self", "value"] []) (hm : X.mg x = some (.ref C)) (ha : PE X e te) (hg : Gl X x := by rfl)
    (hdb : (x == ("__debug__" : Str)) = false := by decide) (he : starEach (e :: []) X.env = (false, eval e X.env) :: starEach [] X.env := by rfl) (hpl : (backTo pos (starEach [] X.env)).any (·.1) = false := by rfl) :
    PMk X (.Call (.Name x p) [e] [] pos) (tNewR C te) := by
  refine pmk_weak (pmk_x (e := e) (es := []) (dvs := []) T iC tI F1 hr hb .nil pass0 hg hm (pa_cons (pe_up ha) pa_nil he) hdb he hpl) fun σ H Q q => ?_
  refine ⟨_, q, fun y H1 q1 => ⟨by show 1 ≤ 1000; decide, fun a hn => ⟨a, C, k, y, rfl, S, T, nv, upd_same, fun H2 d hd ne keep e1 e2 => ⟨rfl, d, _, e1, e2, ?_, ?_⟩⟩⟩⟩
  · exact (upd_ne ne).symm.trans hd
  · refine q1 d _ (fun b o z => ?_) ((upd_ne ne).symm.trans hd) upd_same
    have nb : b ≠ a := ne_of_none z hn
    have nd : b ≠ d := ne_of_none z ((upd_ne ne).symm.trans hd)
    exact (upd_ne nd).trans ((del_ne nb).trans (keep b o ((upd_ne nb).trans z) nb))
theorem pmk_new2 {x : Str} {C fI : Addr} {j : Nat} {fd : FuncData} {k : Kd} (S : k.SF) (T : XC X.K k C) (nv : PySem.W.findIn X.K (.ref C) "value" = some none) (nw : PySem.W.findIn X.K (.ref C) "word" = some none) (iC : PySem.W.findIn X.K (.ref C) "__init__" = some (some (.ref fI))) (tI : PySem.W.typeIn X.K (.ref fI) = some (.type "function"))
    (F1 : FnOk X.prog X.w X.K X.mg X.base CX0 j fI fd ["self", "word", "value"] (spIni2 X.K)) (hr : Room (j + 1) X.A) (hb : Binds X.K fd ["self", "word", "value"] []) (hm : X.mg x = some (.ref C)) (ha : PE X e te) (ha2 : PE X e2 t2) (hg : Gl X x := by rfl)
    (hdb : (x == ("__debug__" : Str)) = false := by decide) (he : starEach (e :: [e2]) X.env = (false, eval e X.env) :: starEach [e2] X.env := by rfl) (he2 : starEach (e2 :: []) X.env = (false, eval e2 X.env) :: starEach [] X.env := by rfl) (hpl : (backTo pos (starEach [e2] X.env)).any (·.1) = false := by rfl) :
    PMk X (.Call (.Name x p) [e, e2] [] pos) (tNewR2 C te t2) := by
  refine pmk_weak (pmk_x (e := e) (es := [e2]) (dvs := []) T iC tI F1 hr hb .nil pass0 hg hm (pa_cons (pe_up ha) (pa_cons (pe_up ha2) pa_nil he2) he) hdb he hpl) fun σ H Q q => ?_
  refine ⟨_, q, fun z H1 q1 => ⟨_, q1, fun y H2 q2 => ⟨by show 2 ≤ 1000; decide, fun a hn => ⟨a, C, k, z, y, rfl, S, T, nv, nw, upd_same, fun H3 d hd ne keep e1 e2 => ⟨rfl, d, _, e1, e2, ?_, ?_⟩⟩⟩⟩⟩
  · exact (upd_ne ne).symm.trans hd
  · refine q2 d _ (fun b o z => ?_) ((upd_ne ne).symm.trans hd) upd_same
    have nb : b ≠ a := ne_of_none z hn
    have nd : b ≠ d := ne_of_none z ((upd_ne ne).symm.trans hd)
    exact (upd_ne nd).trans ((del_ne nb).trans (keep b o ((upd_ne nb).trans z) nb))
theorem pmk_new0 {x : Str} {C : Addr} {bmB : List Value} {B newId initId : String} {k : Kd} (T : XC X.K k C) (F : ExcBaseFacts B newId initId bmB) (q : PySem.W.excIn X.K C bmB newId = true) (kC : PySem.W.keepIn X.K (.ref C) = true) (hm : X.mg x = some (.ref C)) (hg : Gl X x := by rfl) (hdb : (x == ("__debug__" : Str)) = false := by decide) :
    PMk X (.Call (.Name x p) [] [] pos) (tNewR0 C) := by
  intro pins s σ H Q I h
  refine wpAny_Call_Name_kw (ld_glob I hg hm (PySem.W.callWith_K0 I.kIn kC ?_) hdb)
  obtain ⟨bm, N, nm, qn, bs, hdct, sn, sub, ab, col, dd, k0, k1, k2, k3, k5, mN, hC, hN, hni, T'⟩ := exc_obj I.kIn q
  refine wpAny_call_exc_subT F T' hC hN hni (fun h' a hm' => ?_) (Nat.zero_le _)
  exact mk_of I hm' (xc_raises T) h (I.hok.gone hm'.new)
end
/-! ### in an except suite -/
theorem obj_of {P : Program} {w : World} {H : Hp} {h : Heap} {dx : Addr} {q : HO} (hok : HOk P w H h) (e : H dx = some q) : ∃ ob, h.get? dx = some ob := by
  have z := hok dx q e
  cases q with
  | lst xs => obtain ⟨_, _, _, _, e1⟩ := z; exact ⟨_, e1⟩
  | tup xs => obtain ⟨_, _, _, o1, e1, _⟩ := z; exact ⟨_, e1⟩
  | dK kvs => obtain ⟨_, _, _, _, o1, _, _, e1, _⟩ := z; exact ⟨_, e1⟩
  | dT kvs => obtain ⟨_, _, _, _, o1, _, _, e1, _⟩ := z; exact ⟨_, e1⟩
  | set S n => obtain ⟨o1, _, _, _, e1, _⟩ := z; exact ⟨_, e1⟩
  | ins C1 d1 f1 => obtain ⟨_, _, _, e1, _⟩ := z; exact ⟨_, e1⟩
  | own y => obtain ⟨_, e1⟩ := z; exact ⟨_, e1⟩
  | xd fs => obtain ⟨_, ⟨_, _, _, e1, _⟩, _⟩ := z; exact ⟨_, e1⟩
  | rng lo hi => obtain ⟨_, _, _, e1⟩ := z; exact ⟨_, e1⟩
  | frz ob u => obtain ⟨e1, _⟩ := z; exact ⟨_, e1⟩
  | tbl ps => have e1 : h.get? dx = some _ := z; exact ⟨_, e1⟩
  | met f1 y => have e1 : h.get? dx = some _ := z; exact ⟨_, e1⟩
  | ext φ => obtain ⟨_, ⟨_, e1⟩, _⟩ := z; exact ⟨_, e1⟩
/-- e.n, e the caught exception at a -/
def tXv (K : PySem.W.Frag) (a : Addr) (cls : Value) (d : Option Addr) (n : Str) (te : TE) : TE := fun σ H Q => te σ H fun x H1 => x = .ref a ∧ ∃ (C dx : Addr) (fs : List (Str × V)) (v : V) (k : Kd), cls = .ref C ∧ d = some dx ∧ XC K k C ∧
  PySem.W.findIn K (.ref C) n = some none ∧ H1 dx = some (.xd fs) ∧ fs.lookup n = some v ∧ Q v H1
/-- isinstance(e, c) -/
def rIsS (K : PySem.W.Frag) (a : Addr) (cls : Value) (d : Option Addr) : List V → Hp → VK → Prop := fun xs H Q => ∃ (C : Addr) (k : Kd) (c : V) (cv : Value) (b : Bool), xs = [.ref a, c] ∧ cls = .ref C ∧ (∀ u, RelV c u → u = cv) ∧
  (∀ dx, d = some dx → ∃ o, H dx = some o) ∧ XC K k C ∧ PySem.W.kitOne K (.ref C) cv = some b ∧ Q (.bl b) H
def tIsS (K : PySem.W.Frag) (a : Addr) (cls : Value) (d : Option Addr) (te : TE) (cv : Value) : TE := fun σ H Q => te σ H fun x H1 => x = .ref a ∧ ∃ (C : Addr) (k : Kd) (b : Bool), cls = .ref C ∧ (∀ dx, d = some dx → ∃ o, H1 dx = some o) ∧ XC K k C ∧ PySem.W.kitOne K (.ref C) cv = some b ∧ Q (.bl b) H1
section
variable {X : Cx} {a : Addr} {oe : Obj} {cls : Value} {d : Option Addr} {pn : List (Addr × Obj)} {e e2 : Expr} {te : TE} {p pos : Pos}
theorem inst_at {C : Addr} {pins : List (Addr × Obj)} {σ : St} {H : Hp} {s : Shared} (I : Inv (X.suite a ((a, oe) :: pn)) pins σ H s) (hz : Zc cls d oe) (hf : ∃ vs, oe.data = .fields vs) (ec : cls = .ref C) (hd : ∀ dx, d = some dx → ∃ o, H dx = some o) :
    ∃ od : Option Obj, PySem.W.InstAt s.heap a oe C od ∧ ∀ dx, d = some dx → ∃ q, od = some q ∧ s.heap.get? dx = some q := by
  obtain ⟨ha, _⟩ := I.pin (a, oe) (List.mem_append_left _ List.mem_cons_self)
  obtain ⟨vs, hv⟩ := hf
  obtain ⟨z1, z2⟩ := hz
  have nc : PySem.W.notCls oe := by unfold PySem.W.notCls; rw [hv] <;> rfl
  cases d with
  | none => exact ⟨none, ⟨ha, z1.trans ec, nc, by rw [z2]; trivial⟩, fun dx z => by cases z⟩
  | some dx =>
    obtain ⟨q, hq⟩ := hd dx rfl
    obtain ⟨ob, hb⟩ := obj_of I.hok hq
    exact ⟨some ob, ⟨ha, z1.trans ec, nc, by rw [z2]; exact hb⟩, fun dy z => by cases z; exact ⟨ob, rfl, hb⟩⟩
theorem pe_xv {n : Str} (hz : Zc cls d oe) (hf : ∃ vs, oe.data = .fields vs) (he : PE (X.suite a ((a, oe) :: pn)) e te) (hb : attributeBase e n X.env (eval e X.env) = eval e X.env := by rfl) :
    PE (X.suite a ((a, oe) :: pn)) (.Attribute e n pos) (tXv X.K a cls d n te) := by
  refine ⟨fun pins s σ H Q I hh => attr_of hb (thn (he.run pins s σ H _ I hh) fun u s1 ⟨x, H1, I1, rx, q⟩ => ?_)⟩
  obtain ⟨rfl, C, dx, fs, v, k, ec, ed, T, hno, hx, l, q⟩ := q
  cases (show u = Value.ref a from rx)
  obtain ⟨od, J, hd⟩ := inst_at I1 hz hf ec fun dy z => by rw [ed] at z; cases z; exact ⟨_, hx⟩
  obtain ⟨ob, eo, ho⟩ := hd dx ed
  have hx2 : ObjOk X.prog X.w H1 s1.heap dx (.xd fs) := I1.hok dx _ hx
  obtain ⟨mA, hns, hr⟩ := hx2
  obtain ⟨o2, ho2, hl⟩ := lookIn_ns hns
  cases ho.symm.trans ho2
  subst eo
  obtain ⟨z, hz', rz⟩ := RelO.some_of (v := v) (o := mA n) (by rw [← l]; exact hr n)
  exact HandSPX.exc_get I1.kIn J T.ga T.gg (T.sub "BaseException" k.hE) (PySem.W.findObj_own T.hd hno rfl (by rw [hl, hz'])) (handed_of rz) ⟨v, H1, I1.tok _, rz, q⟩
theorem call_isS (hz : Zc cls d oe) (hf : ∃ vs, oe.data = .fields vs) : CallR (X.suite a ((a, oe) :: pn)) (.builtin "isinstance") (rIsS X.K a cls d) := by
  intro pins s σ H xs us Q I r q
  obtain ⟨C, k, c, cv, b, rfl, ec, hcv, hd, T, e, q⟩ := q
  cases r with
  | cons rx rr =>
    cases rr with
    | cons rt rr =>
      cases rr
      cases rx
      cases hcv _ rt
      obtain ⟨od, J, _⟩ := inst_at I hz hf ec hd
      exact PySem.W.kia_one (PySem.W.kitx_exc T.isC T.ga T.gg (T.sub "BaseException" k.hE) T.cl oc_get oc_take (T.sub "object" k.hO)) I.kIn J e (fun z => nomatch z) fun tk => ⟨.bl b, H, I.kept (t' := tk) fun _ _ z => z, rfl, q⟩
theorem pe_isS {c : V} {cv : Value} (hz : Zc cls d oe) (hf : ∃ vs, oe.data = .fields vs) (pe2 : PE (X.suite a ((a, oe) :: pn)) e2 (tC c)) (hv : ∀ u, RelV c u → u = cv) (hm : X.mg "isinstance" = none) (ha : PE (X.suite a ((a, oe) :: pn)) e te) (hg : Gl X "isinstance" := by rfl)
    (he : starEach (e :: [e2]) X.env = (false, eval e X.env) :: starEach [e2] X.env := by rfl) (he2 : starEach (e2 :: []) X.env = (false, eval e2 X.env) :: starEach [] X.env := by rfl) (hpl : (backTo pos (starEach [e2] X.env)).any (·.1) = false := by rfl) :
    PE (X.suite a ((a, oe) :: pn)) (.Call (.Name "isinstance" p) [e, e2] [] pos) (tIsS X.K a cls d te cv) := by
  refine pe_weak (pe_callB (e := e) (es := [e2]) (call_isS hz hf) hg hm boot_isinstance (pa_cons (pe_up ha) (pa_cons pe2 pa_nil he2) he) (by decide) (by decide) he hpl) fun σ H Q q => ?_
  refine ⟨_, q, fun x H1 q1 => ?_⟩
  obtain ⟨rfl, C, k, b, ec, hd, T, e, q⟩ := q1
  exact ⟨C, k, c, cv, b, rfl, ec, hv, hd, T, e, q⟩
end
end L2.Lr

set_option maxHeartbeats 4000000
namespace L2.Lr
open PySem PySem.Spec PyProof.Rows LR
/-! words for any law -/
/-- a loop whose body's ends are a letter -/
theorem for_rangeD {lo : Int} {n : Nat} {g : TG} {tb : TS} {D : Ends} {σ : St} {H : Hp} (Pv : Nat → St → Hp → Prop) (h0 : Pv 0 σ H)
    (hs : ∀ (D' : Ends) (i : Nat) (σ : St) (H : Hp), D'.rt = D.rt → (∀ σ H, Pv (i + 1) σ H → D'.nx σ H) → (∀ σ H, Pv (i + 1) σ H → D'.ct σ H) → (∀ σ H, D.nx σ H → D'.bk σ H) → i < n → Pv i σ H → g (.int (lo + i)) σ H fun σ2 H2 => tb D' σ2 H2) (hd : ∀ σ H, Pv n σ H → D.nx σ H) :
    ∃ W : Nat → Nat → St → Hp → Prop, (∃ m, W 0 m σ H) ∧ ∀ i m σ H, W i m σ H →
      ((Itr lo n).stop i H ∧ D.nx σ H) ∨ ((Itr lo n).go i H ∧ ∃ N : St → Hp → Prop, (∀ σ' H', N σ' H' → ∃ m', m' < m ∧ W (i + 1) m' σ' H') ∧ ∀ x H', (Itr lo n).yld i H x H' → g x σ H' fun σ2 H2 => tb { D with nx := N, ct := N, bk := D.nx } σ2 H2) :=
  for_range Pv h0 (fun i σ H hi hp => hs { D with nx := Pv (i + 1), ct := Pv (i + 1), bk := D.nx } i σ H rfl (fun _ _ h => h) (fun _ _ h => h) (fun _ _ h => h) hi hp) hd
theorem for_listD {K : PySem.W.Frag} {a : Addr} {xs : List V} {g : TG} {tb : TS} {D : Ends} {σ : St} {H : Hp} (Pv : Nat → St → Hp → Prop) (h0 : Pv 0 σ H) (hl : ∀ i σ H, i ≤ xs.length → Pv i σ H → SqL K H a xs)
    (hs : ∀ (D' : Ends) (i : Nat) (x : V) (σ : St) (H : Hp), D'.rt = D.rt → (∀ σ H, Pv (i + 1) σ H → D'.nx σ H) → (∀ σ H, Pv (i + 1) σ H → D'.ct σ H) → (∀ σ H, D.nx σ H → D'.bk σ H) → xs[i]? = some x → Pv i σ H → g x σ H fun σ2 H2 => tb D' σ2 H2) (hd : ∀ σ H, Pv xs.length σ H → D.nx σ H) :
    ∃ W : Nat → Nat → St → Hp → Prop, (∃ m, W 0 m σ H) ∧ ∀ i m σ H, W i m σ H →
      ((Itl K a).stop i H ∧ D.nx σ H) ∨ ((Itl K a).go i H ∧ ∃ N : St → Hp → Prop, (∀ σ' H', N σ' H' → ∃ m', m' < m ∧ W (i + 1) m' σ' H') ∧ ∀ x H', (Itl K a).yld i H x H' → g x σ H' fun σ2 H2 => tb { D with nx := N, ct := N, bk := D.nx } σ2 H2) :=
  for_list Pv h0 hl (fun i x σ H hi hp => hs { D with nx := Pv (i + 1), ct := Pv (i + 1), bk := D.nx } i x σ H rfl (fun _ _ h => h) (fun _ _ h => h) (fun _ _ h => h) hi hp) hd
theorem for_tupD {K : PySem.W.Frag} {a : Addr} {xs : List V} {g : TG} {tb : TS} {D : Ends} {σ : St} {H : Hp} (Pv : Nat → St → Hp → Prop) (h0 : Pv 0 σ H) (hl : ∀ i σ H, i ≤ xs.length → Pv i σ H → SqT K H a xs)
    (hs : ∀ (D' : Ends) (i : Nat) (x : V) (σ : St) (H : Hp), D'.rt = D.rt → (∀ σ H, Pv (i + 1) σ H → D'.nx σ H) → (∀ σ H, Pv (i + 1) σ H → D'.ct σ H) → (∀ σ H, D.nx σ H → D'.bk σ H) → xs[i]? = some x → Pv i σ H → g x σ H fun σ2 H2 => tb D' σ2 H2) (hd : ∀ σ H, Pv xs.length σ H → D.nx σ H) :
    ∃ W : Nat → Nat → St → Hp → Prop, (∃ m, W 0 m σ H) ∧ ∀ i m σ H, W i m σ H →
      ((Itt K a).stop i H ∧ D.nx σ H) ∨ ((Itt K a).go i H ∧ ∃ N : St → Hp → Prop, (∀ σ' H', N σ' H' → ∃ m', m' < m ∧ W (i + 1) m' σ' H') ∧ ∀ x H', (Itt K a).yld i H x H' → g x σ H' fun σ2 H2 => tb { D with nx := N, ct := N, bk := D.nx } σ2 H2) :=
  for_tup Pv h0 hl (fun i x σ H hi hp => hs { D with nx := Pv (i + 1), ct := Pv (i + 1), bk := D.nx } i x σ H rfl (fun _ _ h => h) (fun _ _ h => h) (fun _ _ h => h) hi hp) hd
theorem ite_dec {p : Prop} [Decidable p] {A B : Prop} (h1 : p → A) (h2 : ¬ p → B) : if decide p = true then A else B := by
  by_cases h : p
  · rw [if_pos (decide_eq_true h)]
    exact h1 h
  · rw [if_neg (by rw [decide_eq_false h]; exact Bool.false_ne_true)]
    exact h2 h
theorem go_next {D : Ends} {σ : St} {H : Hp} (h : D.nx σ H) : tNext D σ H := h
theorem go_seq {t u : TS} {D : Ends} {σ : St} {H : Hp} (h : t { D with nx := u D } σ H) : tSeq t u D σ H := h
theorem go_asg {te : TE} {g : TG} {D : Ends} {σ : St} {H : Hp} (h : te σ H fun x H1 => g x σ H1 D.nx) : tAsg te g D σ H := h
theorem eqv_ne {d e : PyData} {A B : Prop} (h : PyData.eqv d e = true) (b : B) : if (!PyData.eqv d e) = true then A else B := by
  rw [h]
  exact iteF b
theorem all_range {n : Nat} {p : Nat → Bool} (h : (List.range n).all p = true) (i : Nat) (hi : i < n) : p i = true := List.all_eq_true.mp h i (List.mem_range.mpr hi)
/-! ### a Hook with a check of one's own -/
def obsEG (n : Nat) (chk : PySem.W.Frag → Bool) (fa : List He.Fa) (fn : List He.DefD) (g : Addr → Option Obj) : Bool × He.AlD := (fun K => (chk K, He.obsD fa fn K)) (He.frG g (He.asD g n))
def hookE (n : Nat) (chk : PySem.W.Frag → Bool) (fa : List He.Fa) (fn : List He.DefD) : PySem.W.Hook where
  α := Bool × He.AlD
  obs := fun s => obsEG n chk fa fn s.heap.get?
  val := fun _ => (true, He.valD fn)
  says := fun _ h => ∃ K : PySem.W.Frag, K.In h ∧ chk K = true ∧ He.SaysD fa fn K
  of := fun _ _ e => ⟨_, He.frG_in, congrArg (fun z : Bool × He.AlD => z.1) e, congrArg (fun z : Bool × He.AlD => z.2) e⟩
  keeps := fun _ _ _ ⟨K, hK, c⟩ k => ⟨K, PySem.W.Frag.In.keeps hK k, c⟩
theorem obsEG_eq {n : Nat} {chk : PySem.W.Frag → Bool} {fa : List He.Fa} {fn : List He.DefD} {g : Addr → Option Obj} {s : Shared} (h : ∀ a, g a = s.heap.get? a) : obsEG n chk fa fn g = (hookE n chk fa fn).obs s := by
  have e : g = s.heap.get? := funext h
  rw [e]
  rfl
/-! ### int(x) -/
def tInt (te : TE) : TE := fun σ H Q => te σ H fun x H1 => ∃ i, x = .int i ∧ Q (.int i) H1
def tIntB (te : TE) : TE := fun σ H Q => te σ H fun x H1 => ∃ k, x = .bl k ∧ Q (.int (if k then 1 else 0)) H1
section
variable {X : Cx} {e : Expr} {te : TE} {p pos : Pos}
theorem pe_toI (hm : X.mg "int" = none) (ha : PE X e te) (hg : Gl X "int" := by rfl) (he : starEach (e :: []) X.env = (false, eval e X.env) :: starEach [] X.env := by rfl) (hpl : (backTo pos (starEach [] X.env)).any (·.1) = false := by rfl) : PE X (.Call (.Name "int" p) [e] [] pos) (tInt te) :=
  pe_weak (pe_callTy (e := e) (es := []) call_int1 hg hm (by decide +kernel) (pa_cons (pe_up ha) pa_nil he) (by decide) (by decide) he hpl) fun σ H Q q => ⟨_, q, fun x H1 ⟨i, ex, q1⟩ => .inl ⟨i, by rw [ex], q1⟩⟩
theorem pe_toIB (hm : X.mg "int" = none) (ha : PE X e te) (hg : Gl X "int" := by rfl) (he : starEach (e :: []) X.env = (false, eval e X.env) :: starEach [] X.env := by rfl) (hpl : (backTo pos (starEach [] X.env)).any (·.1) = false := by rfl) : PE X (.Call (.Name "int" p) [e] [] pos) (tIntB te) :=
  pe_weak (pe_callTy (e := e) (es := []) call_int1 hg hm (by decide +kernel) (pa_cons (pe_up ha) pa_nil he) (by decide) (by decide) he hpl) fun σ H Q q => ⟨_, q, fun x H1 ⟨i, ex, q1⟩ => .inr ⟨i, by rw [ex], q1⟩⟩
end
/-! ### data -/
def tyN : PyData → String
  | .none => "NoneType"
  | .bool _ => "bool"
  | .int _ => "int"
  | .str _ => "str"
  | .list _ => "list"
  | .tuple _ => "tuple"
  | .dict _ => "dict"
theorem tyD {K : PySem.W.Frag} {H : Hp} {x : V} {d : PyData} (h : Dp K H x d) : TyX K H x (.type (tyN d)) := by
  cases h with
  | non => exact .base .non
  | bl b => exact .base (.bl b)
  | int i => exact .base (.int i)
  | str s => exact .base (.str s)
  | lst h _ =>
    rcases h with (h | ⟨o, h⟩) | ⟨o, its, n, h, c, _⟩
    · exact .base (.lst h)
    · exact .base (.frz h)
    · exact .kList h c
  | tup h _ =>
    rcases h with (h | ⟨o, h⟩) | ⟨o, its, n, h, c, _⟩
    · exact .base (.tup h)
    · exact .fTuple h
    · exact .kTuple h c
theorem seqT {K : PySem.W.Frag} {H H' : Hp} {a : Addr} {xs : List V} (s : Same H H') (h : SqT K H a xs) : SqT K H' a xs := by
  rcases h with (h | ⟨o, h⟩) | h
  · exact .inl (.inl (s _ _ h))
  · exact .inl (.inr ⟨o, s _ _ h⟩)
  · exact .inr h
mutual
theorem Dp.same {K : PySem.W.Frag} {H H' : Hp} (s : Same H H') : ∀ {v : V} {d : PyData}, Dp K H v d → Dp K H' v d
  | _, _, .non => .non
  | _, _, .bl b => .bl b
  | _, _, .int i => .int i
  | _, _, .str x => .str x
  | _, _, .lst h a => .lst (s.seq h) (DpAll.same s a)
  | _, _, .tup h a => .tup (seqT s h) (DpAll.same s a)
theorem DpAll.same {K : PySem.W.Frag} {H H' : Hp} (s : Same H H') : ∀ {vs : List V} {ds : List PyData}, DpAll K H vs ds → DpAll K H' vs ds
  | _, _, .nil => .nil
  | _, _, .cons h a => .cons (Dp.same s h) (DpAll.same s a)
end
/-- isinstance(x, t) of data -/
def tIsD (K : PySem.W.Frag) (t : String) (te : TE) : TE := fun σ H Q => te σ H fun x H1 => ∃ d b, Dp K H1 x d ∧ kitB (tyN d) t = some b ∧ Q (.bl b) H1
theorem pe_isD {X : Cx} {e e2 : Expr} {te : TE} {p pos : Pos} {t : String} (hm : X.mg "isinstance" = none) (ha : PE X e te) (pe2 : PE X e2 (tC (.ty t))) (hg : Gl X "isinstance" := by rfl)
    (he : starEach (e :: [e2]) X.env = (false, eval e X.env) :: starEach [e2] X.env := by rfl) (he2 : starEach (e2 :: []) X.env = (false, eval e2 X.env) :: starEach [] X.env := by rfl) (hpl : (backTo pos (starEach [e2] X.env)).any (·.1) = false := by rfl) :
    PE X (.Call (.Name "isinstance" p) [e, e2] [] pos) (tIsD X.K t te) :=
  pe_weak (pe_callB (e := e) (es := [e2]) call_isi hg hm boot_isinstance (pa_cons (pe_up ha) (pa_cons pe2 pa_nil he2) he) (by decide) (by decide) he hpl) fun σ H Q q => ⟨_, q, fun x H1 ⟨d, b, hd, hk, q1⟩ => ⟨x, .ty t, .type (tyN d), .type t, b, rfl, .ty t, tyD hd, kit_ty hk, q1⟩⟩
/-! ### displays of constants -/
/-- the value is this data -/
def tDat (K : PySem.W.Frag) (d : PyData) : TE := fun _ H Q => ∀ v H', Same H H' → Dp K H' v d → Q v H'
def tDats (K : PySem.W.Frag) (ds : List PyData) : TA := fun _ H Q => ∀ vs H', Same H H' → DpAll K H' vs ds → Q vs H'
/-- a new list of this data -/
def tDatL (K : PySem.W.Frag) (ds : List PyData) : TE := fun _ H Q => ∀ p vs H', Same H H' → H' p = some (.lst vs) → DpAll K H' vs ds → Q (.ref p) H'
theorem DpAll.length {K : PySem.W.Frag} {H : Hp} : ∀ {vs : List V} {ds : List PyData}, DpAll K H vs ds → vs.length = ds.length
  | _, _, .nil => rfl
  | _, _, .cons _ a => by simp [DpAll.length a]
theorem DpAll.append {K : PySem.W.Frag} {H : Hp} : ∀ {vs us : List V} {ds es : List PyData}, DpAll K H vs ds → DpAll K H us es → DpAll K H (vs ++ us) (ds ++ es)
  | _, _, _, _, .nil, b => b
  | _, _, _, _, .cons h a, b => .cons h (DpAll.append a b)
theorem DpAll.at {K : PySem.W.Frag} {H : Hp} : ∀ {vs : List V} {ds : List PyData} {i : Nat} {v : V}, DpAll K H vs ds → vs[i]? = some v → ∃ d, ds[i]? = some d ∧ Dp K H v d
  | _, _, _, _, .nil, e => by simp at e
  | _, _, 0, _, .cons h a, e => by simp at e; subst e; exact ⟨_, rfl, h⟩
  | _ :: vs, _ :: ds, i + 1, v, .cons h a, e => DpAll.at (vs := vs) (ds := ds) (i := i) a (by simpa using e)
section
variable {X : Cx} {e : Expr} {es : List Expr} {d : PyData} {ds : List PyData} {p pos : Pos}
theorem pd_int {i : Int} {k} : PE X (.Constant (.int i) k p) (tDat X.K (.int i)) := pe_weak pe_int fun σ H Q q => q _ _ (Same.refl H) (.int i)
theorem pd_str {x : Str} {k} : PE X (.Constant (.str x) k p) (tDat X.K (.str x)) := pe_weak pe_str fun σ H Q q => q _ _ (Same.refl H) (.str x)
theorem pd_bl {b : Bool} {k} : PE X (.Constant (.bool b) k p) (tDat X.K (.bool b)) := pe_weak pe_bl fun σ H Q q => q _ _ (Same.refl H) (.bl b)
theorem pd_non {k} : PE X (.Constant .none k p) (tDat X.K .none) := pe_weak pe_non fun σ H Q q => q _ _ (Same.refl H) .non
theorem pd_neg {i : Int} {k} : PE X (.UnaryOp .USub (.Constant (.int i) k p) pos) (tDat X.K (.int (-i))) := pe_weak (pe_un un_neg pe_int) fun σ H Q q => ⟨i, rfl, q _ _ (Same.refl H) (.int (-i))⟩
theorem pd_nil : PA X [] (tDats X.K []) := pa_weak pa_nil fun σ H Q q => q [] H (Same.refl H) .nil
theorem pd_cons (h1 : PE X e (tDat X.K d)) (h2 : PA X es (tDats X.K ds)) (hs : starEach (e :: es) X.env = (false, eval e X.env) :: starEach es X.env := by rfl) : PA X (e :: es) (tDats X.K (d :: ds)) :=
  pa_weak (pa_cons h1 h2 hs) fun σ H Q q v H1 s1 h1 vs H2 s2 h2 => q (v :: vs) H2 (s1.trans s2) (.cons (Dp.same s2 h1) h2)
theorem pd_tup {x1} (h : PA X es (tDats X.K ds)) (hz : ds.length ≤ sizeLine := by show _ ≤ _; decide) : PE X (.Tuple es x1 pos) (tDat X.K (.tuple ds)) :=
  pe_weak (pe_tup h) fun σ H Q q vs H1 s1 h1 => ⟨by rw [DpAll.length h1]; exact hz, fun p np => q _ _ (s1.trans (same_upd np)) (.tup (SqT.of upd_same) (DpAll.same (same_upd np) h1))⟩
theorem pd_lst {x1} (h : PA X es (tDats X.K ds)) (hz : ds.length ≤ sizeLine := by show _ ≤ _; decide) : PE X (.List es x1) (tDat X.K (.list ds)) :=
  pe_weak (pe_lst h) fun σ H Q q vs H1 s1 h1 => ⟨by rw [DpAll.length h1]; exact hz, fun p np => q _ _ (s1.trans (same_upd np)) (.lst (SqL.of upd_same) (DpAll.same (same_upd np) h1))⟩
theorem pd_lstL {x1} (h : PA X es (tDats X.K ds)) (hz : ds.length ≤ sizeLine := by show _ ≤ _; decide) : PE X (.List es x1) (tDatL X.K ds) :=
  pe_weak (pe_lst h) fun σ H Q q vs H1 s1 h1 => ⟨by rw [DpAll.length h1]; exact hz, fun p np => q p vs _ (s1.trans (same_upd np)) upd_same (DpAll.same (same_upd np) h1)⟩
end
/-! ### displays of pairs of names -/
/-- tuples of the values of two slots each -/
def tPairs (l : List (Nat × Nat)) : TA := fun σ H Q => ∃ f : Nat → V, (∀ q, q ∈ l → σ[q.1]? = some (some (f q.1)) ∧ σ[q.2]? = some (some (f q.2))) ∧
  ∀ (as : List Addr) (H' : Hp), Same H H' → as.length = l.length → (∀ (n : Nat) (a : Addr) (q : Nat × Nat), as[n]? = some a → l[n]? = some q → H' a = some (.tup [f q.1, f q.2])) → Q (as.map V.ref) H'
section
variable {X : Cx} {e1 e2 : Expr} {es : List Expr} {i j : Nat} {l : List (Nat × Nat)} {p pos : Pos}
theorem pa_pair0 : PA X [] (tPairs []) := pa_weak pa_nil fun σ H Q ⟨f, _, q⟩ => q [] H (Same.refl H) rfl fun n a r e => by simp at e
theorem pa_pair {x1} (h1 : PE X e1 (tVar i)) (h2 : PE X e2 (tVar j)) (h : PA X es (tPairs l)) (he : starEach (e1 :: [e2]) X.env = (false, eval e1 X.env) :: starEach [e2] X.env := by rfl) (he2 : starEach (e2 :: []) X.env = (false, eval e2 X.env) :: starEach [] X.env := by rfl)
    (hs : starEach (.Tuple [e1, e2] x1 pos :: es) X.env = (false, eval (.Tuple [e1, e2] x1 pos) X.env) :: starEach es X.env := by rfl) : PA X (.Tuple [e1, e2] x1 pos :: es) (tPairs ((i, j) :: l)) :=
  pa_weak (pa_cons (pe_tup (pa_cons h1 (pa_cons h2 pa_nil he2) he)) h hs) fun σ H Q ⟨f, hf, q⟩ => by
    obtain ⟨f1, f2⟩ := hf (i, j) (List.mem_cons_self ..)
    refine ⟨_, f1, _, f2, by show 2 ≤ sizeLine; decide, fun a na => ⟨f, fun q m => hf q (List.mem_cons_of_mem _ m), fun as H2 s2 hl ha => q (a :: as) H2 ((same_upd na).trans s2) (by simp [hl]) fun n b r e1 e2 => ?_⟩⟩
    cases n with
    | zero =>
      simp at e1 e2
      subst e1 e2
      exact s2 _ _ upd_same
    | succ n => exact ha n b r (by simpa using e1) (by simpa using e2)
end
end L2.Lr

set_option maxHeartbeats 4000000
namespace L2.L67
open PySem PySem.Spec PyProof.Rows LR L2.Lr
local macro_rules | `(tactic| walk_at "rd") => `(tactic| simp only [tSeq, tAsg, gName, tIfS, tTest, tOp, tIf, tInt, rI, rI0, tVar, tC, tCB, tCons, tNil, tNext, tRet, tLst, rIxL, CPow, CMul, gSub, rSetL, rIxT,
  List.getElem?_cons_zero, List.getElem?_cons_succ, List.set_cons_zero, List.set_cons_succ, Option.some.injEq, V.int.injEq, V.ref.injEq, V.bl.injEq, V.str.injEq, List.cons.injEq, and_true, true_and, exists_and_left, exists_eq_left', exists_eq_left, exists_eq, decide_eq_true_eq, or_true, true_or, List.length_cons, List.length_nil, Nat.zero_add, Nat.reduceAdd])
local macro_rules | `(tactic| walk_at "so") => `(tactic| repeat (first | refine And.intro (by omega) ?_ | refine And.intro (by decide) ?_))
def top (i : Nat) : Stmt := PySem.Challenge.pw_leastrooms_k67_paces_compared.main.body.getD i (.Pass ⟨0, 0, 0, 0⟩)
abbrev sIR : Stmt := inClass (top 1) 0
abbrev sInt : Stmt := top 4
abbrev sFast : Stmt := top 9
abbrev sNsl : Stmt := top 7
abbrev sIsP : Stmt := top 6
abbrev sPool : Stmt := top 11
abbrev sTake : Stmt := top 12
abbrev sPace : Stmt := top 13
abbrev sRef : Stmt := top 14
abbrev sLaw : Stmt := top 15
abbrev FnP (K : PySem.W.Frag) (x : Str) (st : Stmt) (f : Addr) (fd : FuncData) : Prop := FunD K x x (defArgs st) (defBody st) (defScope st) [] [] f fd
abbrev FnM (K : PySem.W.Frag) (q : Str) (st : Stmt) (f : Addr) (fd : FuncData) : Prop := FunD K "__init__" q (defArgs st) (defBody st) (defScope st) [] [] f fd
theorem scI : FnScope ["self", "value"] ["self", "value"] (defScope sIR) := ⟨rfl, rfl, rfl, by decide +kernel, rfl, by decide +kernel, by decide +kernel⟩
theorem scN : FnScope ["thing"] ["thing"] (defScope sInt) := ⟨rfl, rfl, rfl, by decide +kernel, rfl, by decide +kernel, by decide +kernel⟩
theorem scF : FnScope ["one", "other", "pace"] ["one", "other"] (defScope sFast) := ⟨rfl, rfl, rfl, by decide +kernel, rfl, by decide +kernel, by decide +kernel⟩
theorem scQ : FnScope ["thing", "number"] ["thing"] (defScope sIsP) := ⟨rfl, rfl, rfl, by decide +kernel, rfl, by decide +kernel, by decide +kernel⟩
theorem scP : FnScope ["_law_script", "_law_k", "_law_cell", "_law_seed"] ["_law_script", "_law_k"] (defScope sPool) := ⟨rfl, rfl, rfl, by decide +kernel, rfl, by decide +kernel, by decide +kernel⟩
theorem scT : FnScope ["_law_pool_here", "_law_many", "_law_found"] ["_law_pool_here", "_law_many"] (defScope sTake) := ⟨rfl, rfl, rfl, by decide +kernel, rfl, by decide +kernel, by decide +kernel⟩
theorem scA : FnScope ["_law_pool_here", "_law_many"] ["_law_pool_here"] (defScope sPace) := ⟨rfl, rfl, rfl, by decide +kernel, rfl, by decide +kernel, by decide +kernel⟩
theorem scR : FnScope ["_law_one", "_law_other", "_law_kept", "e"] ["_law_one", "_law_other"] (defScope sRef) := ⟨rfl, rfl, rfl, by decide +kernel, rfl, by decide +kernel, by decide +kernel⟩
abbrev NL : List Str := ["_law_script", "_law_k", "_law_pool_here", "_law_one", "_law_other", "_law_times", "_law_near", "_law_low", "_law_high", "_law_due", "_law_told", "_law_more", "_law_odd", "_law_good"]
theorem scL : FnScope NL ["_law_script"] (defScope sLaw) := ⟨rfl, rfl, rfl, by decide +kernel, rfl, by decide +kernel, by decide +kernel⟩
def CR (K : PySem.W.Frag) : Addr := He.ga K "RoomError"
def CB (K : PySem.W.Frag) : Addr := He.ga K "BadPace"
def fI (K : PySem.W.Frag) : Addr := He.ma K (CR K) "__init__"
structure Txt (K : PySem.W.Frag) (mg : Str → Option Value) : Prop where
  gB : mg "BadPace" = some (.ref (CB K))
  xB : XC K xV (CB K)
  nv : PySem.W.findIn K (.ref (CB K)) "value" = some none
  iC : PySem.W.findIn K (.ref (CB K)) "__init__" = some (some (.ref (fI K)))
  tI : PySem.W.typeIn K (.ref (fI K)) = some (.type "function")
  eB : PySem.W.exmOne K (.ref (CB K)) (.ref (CB K)) = some true
  kB : PySem.W.kitOne K (.ref (CB K)) (.type "ValueError") = some true
  isn : mg "isinstance" = none
  len : mg "len" = none
  range : mg "range" = none
  max : mg "max" = none
  min : mg "min" = none
  int : mg "int" = none
  bool : mg "bool" = none
  tuple : mg "tuple" = none
  all : mg "all" = none
  vE : mg "ValueError" = none
/-! ### what the law draws -/
def PoolAt (H : Hp) (p : Addr) : Prop := ∃ c s : Int, H p = some (.lst [.int c, .int s]) ∧ 0 ≤ c ∧ 0 ≤ s ∧ s < 2147483648
/-- all but p stays -/
def Adv (p : Addr) (H H' : Hp) : Prop := ∀ b o, H b = some o → b ≠ p → H' b = some o
theorem Adv.refl {p : Addr} {H : Hp} : Adv p H H := fun _ _ h _ => h
theorem Adv.trans {p : Addr} {H H1 H2 : Hp} (a : Adv p H H1) (b : Adv p H1 H2) : Adv p H H2 := fun c o h n => b c o (a c o h n) n
theorem Adv.same {p : Addr} {H H1 H2 : Hp} (a : Adv p H H1) (b : Same H1 H2) : Adv p H H2 := fun c o h n => b c o (a c o h n)
theorem Same.adv {p : Addr} {H H1 H2 : Hp} (a : Same H H1) (b : Adv p H1 H2) : Adv p H H2 := fun c o h n => b c o (a c o h) n
theorem Adv.new {p : Addr} {H H1 : Hp} (n : H p = none) (a : Adv p H H1) : Same H H1 := fun c o h => a c o h (ne_of_none h n)
theorem PoolAt.ne {H : Hp} {p t : Addr} {xs : List V} (h : PoolAt H p) (e : H t = some (.tup xs)) : t ≠ p := by
  obtain ⟨c, s, hp, _⟩ := h
  intro z
  rw [z, hp] at e
  cases e
theorem PoolAt.same {H H' : Hp} {p : Addr} (h : PoolAt H p) (s : Same H H') : PoolAt H' p := by
  obtain ⟨c, s', hp, q⟩ := h
  exact ⟨c, s', s _ _ hp, q⟩
theorem Adv.none {p t : Addr} {H H1 : Hp} (a : Adv p H H1) (hp : PoolAt H1 p) (n : H1 t = .none) : H t = .none := by
  cases e : H t with
  | none => rfl
  | some o =>
    obtain ⟨c, s, hq, _⟩ := hp
    by_cases h : t = p
    · rw [h, hq] at n
      cases n
    · rw [a t o e h] at n
      cases n
def spPool (K : PySem.W.Frag) : Sp := fun vs H Q _ => ∃ (a : Addr) (ns : List Int) (k : Int), vs = [.ref a, .int k] ∧ SqL K H a (ns.map V.int) ∧ ns.length ≤ 1000 ∧ 0 ≤ k ∧ k < 1000 ∧
  ∀ (p : Addr) (H' : Hp), H p = none → Same H H' → PoolAt H' p → Q (.ref p) H'
def spTake : Sp := fun vs H Q _ => ∃ (p : Addr) (m : Int), vs = [.ref p, .int m] ∧ PoolAt H p ∧ 0 < m ∧ m < 2 ^ 128 ∧
  ∀ (r : Int) (H' : Hp), 0 ≤ r → r < m → Adv p H H' → PoolAt H' p → Q (.int r) H'
def spPace : Sp := fun vs H Q _ => ∃ p : Addr, vs = [.ref p] ∧ PoolAt H p ∧
  ∀ (t : Addr) (a b : Int) (H' : Hp), H t = none → Adv p H H' → PoolAt H' p → H' t = some (.tup [.int a, .int b]) → 1 ≤ a → a ≤ 10 ^ 18 → 1 ≤ b → b ≤ 10 ^ 18 → Q (.ref t) H'
/-! ### what the program is to answer -/
def intD : PyData → Bool
  | .int _ => true
  | _ => false
def paceD : PyData → Bool
  | .tuple [.int a, .int b] => decide (1 ≤ a) && decide (1 ≤ b)
  | _ => false
def posD : PyData → Bool
  | .int a => decide (1 ≤ a)
  | _ => false
def spInt (K : PySem.W.Frag) : Sp := fun vs H Q _ => ∃ x d, vs = [x] ∧ Dp K H x d ∧ Q (.bl (intD d)) H
def spIsP (K : PySem.W.Frag) : Sp := fun vs H Q _ => ∃ x d, vs = [x] ∧ Dp K H x d ∧ ∀ H', Same H H' → Q (.bl (paceD d)) H'
/-- BadPace(z) is raised -/
def Bad (K : PySem.W.Frag) (z : V) (H : Hp) (E : XK) : Prop := ∀ (d : Addr) (H' : Hp), Same H H' → H' d = some (.xd [("value", z)]) → E (.ref (CB K)) (some d) H'
def spFast (K : PySem.W.Frag) : Sp := fun vs H Q E => ∃ x y d e, vs = [x, y] ∧ Dp K H x d ∧ Dp K H y e ∧ (∀ a b, d = .tuple [.int a, .int b] → a < 2 ^ 64 ∧ b < 2 ^ 64) ∧
  ((paceD d = false ∧ Bad K x H E) ∨ (paceD d = true ∧ paceD e = false ∧ Bad K y H E) ∨
    ∃ a b c f, d = .tuple [.int a, .int b] ∧ e = .tuple [.int c, .int f] ∧ 1 ≤ a ∧ 1 ≤ b ∧ 1 ≤ c ∧ 1 ≤ f ∧ ∀ H', Same H H' → Q (.bl (decide (a * f ≤ c * b))) H')
/-- the first of the two that is no pace is z -/
def spRef (K : PySem.W.Frag) : Sp := fun vs H Q _ => ∃ x y d e z, vs = [x, y] ∧ Dp K H x d ∧ Dp K H y e ∧ (∀ a b, d = .tuple [.int a, .int b] → a < 2 ^ 64 ∧ b < 2 ^ 64) ∧
  ((paceD d = false ∧ z = x) ∨ (paceD d = true ∧ paceD e = false ∧ z = y)) ∧ ∀ (p : Addr) (H' : Hp), Same H H' → H' p = some (.lst [.str "bad", z, .bl true]) → Q (.ref p) H'
section
variable {P : Program} {w : World} {K : PySem.W.Frag} {mg : Str → Option Value} {base : Heap}
theorem ok_pool {f : Addr} {fd : FuncData} (F : FnP K "_law_pool" sPool f fd) (T : Txt K mg) : FnOk P w K mg base CX0 1 f fd ["_law_script", "_law_k"] (spPool K) := by
  refine F.ok scP (fun vs H Q E h => ?_) (fun cdv A outer s H vs Q E hr h => ?_)
  · obtain ⟨a, ns, k, rfl, _⟩ := h
    rfl
  · obtain ⟨a, ns, k, rfl, hS, hl, h0, h1, q⟩ := h
    refine ⟨_, pss_cons (ps_set (i := 2) scP.nd rfl (Or.inl rfl) (pe_ifExp (pt_cmpR op_lt (pv 1) (pe_callB call_len (by rfl) T.len boot_len (pa_cons (pv 0) pa_nil)) (nomark _)) (pe_ix ix_list (pv 0) (pv 1) (fun _ _ => rfl)) pe_int))
      (pss_cons (ps_set (i := 3) scP.nd rfl (Or.inl rfl) (pe_op op_mul (pe_toI T.int (pe_op op_add (pe_op op_add (pe_op op_mod (pe_toI T.int (pv 2) (by rfl)) pe_int) (pe_op op_mul (pe_op op_mul pe_int (pv 1)) (pv 1))) pe_int) (by rfl)) pe_int))
      (pss_one (ps_ret (pe_lst (pa_cons (pe_ifExp (pt_cmpR op_ge (pv 2) (pe_op op_pow pe_int pe_int) (nomark _)) (pv 2) pe_int) (pa_cons (pe_op op_add (pe_op op_mod (pe_toI T.int (pv 3) (by rfl)) pe_int) pe_int) pa_nil)))))), ?_⟩
    have e0 : start ["_law_script", "_law_k", "_law_cell", "_law_seed"] [V.ref a, V.int k] = [some (.ref a), some (.int k), none, none] := rfl
    rw [e0]
    have fin : ∀ (c x : Int) (p : Addr), 0 ≤ c → H p = none → Q (.ref p) (upd H p (.lst [.int c, .int (x % 2147483647 + 1)])) := fun c x p hc hp => q p _ hp (same_upd hp) ⟨c, _, upd_same, hc, by omega, by omega⟩
    walk_at "rd"
    have e2 : (10 : Int) ^ (Int.toNat 18) = 1000000000000000000 := by decide
    rw [e2]
    refine ⟨(ns.map V.int).length, Or.inl ⟨_, hS, rfl⟩, ?_⟩
    rw [List.length_map]
    split
    · rename_i hk
      obtain ⟨z, ez⟩ : ∃ z, ns[k.toNat]? = some z := ⟨_, List.getElem?_eq_getElem (by omega)⟩
      refine ⟨_, hS, .int z, ?_, z, rfl, ?_⟩
      · have e1 : k = (k.toNat : Int) := by omega
        rw [e1]
        exact atI_nat (by rw [List.getElem?_map, ez]; rfl)
      · walk_at "so"
        refine ⟨z, rfl, ?_⟩
        split
        · rename_i hz
          refine ⟨by decide, by show 2 ≤ sizeLine; decide, fun p hp => fin z _ p (by omega) hp⟩
        · exact ⟨by decide, by show 2 ≤ sizeLine; decide, fun p hp => fin 0 _ p (Int.le_refl 0) hp⟩
    · walk_at "so"
      exact fun p hp => fin 0 _ p (Int.le_refl 0) hp
theorem ok_take {f : Addr} {fd : FuncData} (F : FnP K "_law_take" sTake f fd) (T : Txt K mg) : FnOk P w K mg base CX0 1 f fd ["_law_pool_here", "_law_many"] spTake := by
  refine F.ok scT (fun vs H Q E h => ?_) (fun cdv A outer s H vs Q E hr h => ?_)
  · obtain ⟨a, m, rfl, _⟩ := h
    rfl
  · obtain ⟨p, m, rfl, ⟨c, s, hp, hc, hs0, hs1⟩, hm0, hm1, q⟩ := h
    refine ⟨_, pss_cons (ps_if (pt_cmpR op_gt (pe_ix ix_list (pv 0) pe_int (fun _ _ => rfl)) pe_int (nomark _))
        (pss_cons (ps_set (i := 2) scT.nd rfl (Or.inl rfl) (pe_op op_mod (pe_toI T.int (pe_ix ix_list (pv 0) pe_int (fun _ _ => rfl)) (by rfl)) (pv 1)))
        (pss_cons (ps_asg (pe_op op_fdivW (pe_ix ix_list (pv 0) pe_int (fun _ _ => rfl)) (pv 1)) (pg_sub (pv 0) pe_int set_list))
        (pss_one (ps_ret (pv 2))))) pss_nil)
      (pss_cons (ps_asg (pe_op op_mod (pe_toI T.int (pe_op op_add (pe_op op_mul (pe_ix ix_list (pv 0) pe_int (fun _ _ => rfl)) pe_int) pe_int) (by rfl)) pe_int) (pg_sub (pv 0) pe_int set_list))
      (pss_one (ps_ret (pe_op op_mod (pe_op op_fdiv (pe_op op_mod (pe_toI T.int (pe_op op_mul (pe_ix ix_list (pv 0) pe_int (fun _ _ => rfl)) (pe_ix ix_list (pv 0) pe_int (fun _ _ => rfl))) (by rfl)) pe_int) pe_int) (pv 1))))), ?_⟩
    have e0 : start ["_law_pool_here", "_law_many", "_law_found"] [V.ref p, V.int m] = [some (.ref p), some (.int m), none] := rfl
    rw [e0]
    have fin : ∀ (r c' s' : Int), 0 ≤ r → r < m → 0 ≤ c' → 0 ≤ s' → s' < 2147483648 → Q (.int r) (upd H p (.lst [.int c', .int s'])) := fun r c' s' h0 h1 hc' hs0' hs1' =>
      q r _ h0 h1 (fun b o e n => (upd_ne n).trans e) ⟨c', s', upd_same, hc', hs0', hs1'⟩
    walk_at "rd"
    refine ⟨_, SqL.of hp, _, rfl, c, rfl, ?_⟩
    split
    · refine ⟨_, SqL.of hp, _, rfl, c, rfl, hm0, _, SqL.of hp, _, rfl, c, rfl, wide_div (b := 128) hm0 (by omega) (by decide) (by decide), _, hp, 0, rfl, ?_⟩
      exact fin _ _ s (Int.emod_nonneg _ (by omega)) (Int.emod_lt_of_pos _ hm0) (Int.ediv_nonneg hc (by omega)) hs0 hs1
    · refine ⟨_, SqL.of hp, .int s, rfl, s, rfl, by omega, by decide, _, hp, 1, rfl, _, SqL.of upd_same, _, rfl, _, SqL.of upd_same, _, rfl, _, rfl, _, rfl, .inl (by omega), by decide, ⟨by decide, by decide⟩, hm0, ?_⟩
      exact fin _ c _ (Int.emod_nonneg _ (by omega)) (Int.emod_lt_of_pos _ hm0) hc (by omega) (by omega)
/-! ### the __init__ -/
theorem ok_iR {f : Addr} {fd : FuncData} (F : FnM K "RoomError.__init__" sIR f fd) : FnOk P w K mg base CX0 1 f fd ["self", "value"] (spIni K) := by
  refine F.ok scI (fun vs H Q E h => ?_) (fun cdv A outer s H vs Q E hr h => ?_)
  · obtain ⟨a, C, k, y, rfl, _⟩ := h
    rfl
  · obtain ⟨a, C, k, y, rfl, Sf, T, nv, ha, go⟩ := h
    refine ⟨_, pss_one (ps_stX (pv 0) (pv 1)), _, rfl, _, rfl, a, C, k, rfl, Sf, T, nv, .inl ⟨ha, fun dx hd ne => go _ dx hd ne (fun b o z nb => ?_) upd_same ((upd_ne ne).trans upd_same)⟩⟩
    exact (upd_ne nb).trans ((upd_ne (ne_of_none z hd)).trans z)
theorem bbV : bootBuiltins "ValueError" = some (.type "ValueError") := by decide +kernel
theorem bbI : bootBuiltins "int" = some (.type "int") := by decide +kernel
theorem bbB : bootBuiltins "bool" = some (.type "bool") := by decide +kernel
theorem bbT : bootBuiltins "tuple" = some (.type "tuple") := by decide +kernel
/-! ### the program -/
theorem ok_int {f : Addr} {fd : FuncData} (F : FnP K "is_integer" sInt f fd) (T : Txt K mg) : FnOk P w K mg base CX0 1 f fd ["thing"] (spInt K) := by
  refine F.ok scN (fun vs H Q E h => ?_) (fun cdv A outer s H vs Q E hr h => ?_)
  · obtain ⟨x, d, rfl, _⟩ := h
    rfl
  · obtain ⟨x, d, rfl, hd, q⟩ := h
    refine ⟨_, pss_one (ps_ret (pe_and (pe_isD T.isn (pv 0) (pe_bltn (by rfl) T.int bbI (by rfl)) (by rfl)) (pe_one (pe_not (pe_isD T.isn (pv 0) (pe_bltn (by rfl) T.bool bbB (by rfl)) (by rfl)))))), ?_⟩
    cases d with
    | int i => exact ⟨_, rfl, _, _, hd, (by decide +kernel : kitB "int" "int" = some true), _, rfl, iteT ⟨_, rfl, _, _, hd, (by decide +kernel : kitB "int" "bool" = some false), _, rfl, q⟩⟩
    | bool b => exact ⟨_, rfl, _, _, hd, (by decide +kernel : kitB "bool" "int" = some true), _, rfl, iteT ⟨_, rfl, _, _, hd, (by decide +kernel : kitB "bool" "bool" = some true), _, rfl, q⟩⟩
    | none => exact ⟨_, rfl, _, _, hd, (by decide +kernel : kitB "NoneType" "int" = some false), _, rfl, iteF q⟩
    | str x => exact ⟨_, rfl, _, _, hd, (by decide +kernel : kitB "str" "int" = some false), _, rfl, iteF q⟩
    | list x => exact ⟨_, rfl, _, _, hd, (by decide +kernel : kitB "list" "int" = some false), _, rfl, iteF q⟩
    | tuple x => exact ⟨_, rfl, _, _, hd, (by decide +kernel : kitB "tuple" "int" = some false), _, rfl, iteF q⟩
    | dict x => cases hd
/-- a def as its callers need it -/
structure Def (P : Program) (w : World) (K : PySem.W.Frag) (mg : Str → Option Value) (base : Heap) (CX : CXT) (k : Nat) (x : Str) (f : Addr) (fd : FuncData) (ps : List Str) (sp : Sp) : Prop where
  ok : FnOk P w K mg base CX k f fd ps sp
  g : mg x = some (.ref f)
  k : PySem.W.keepIn K (.ref f) = true
  b : Binds K fd ps []
theorem paceD_two {d1 d2 : PyData} : paceD (.tuple [d1, d2]) = (posD d1 && posD d2) := by
  cases d1 <;> cases d2 <;> simp [paceD, posD]
theorem paceD_len {ds : List PyData} (h : ds.length ≠ 2) : paceD (.tuple ds) = false := by
  match ds, h with
  | [], _ => rfl
  | [a], _ => cases a <;> rfl
  | [a, b], h => exact absurd rfl h
  | a :: b :: c :: r, _ => cases a <;> first | rfl | (cases b <;> rfl)
theorem ok_isP {f fN : Addr} {fd dN : FuncData} (F : FnP K "is_pace" sIsP f fd) (T : Txt K mg) (N : Def P w K mg base CX0 1 "is_integer" fN dN ["thing"] (spInt K)) : FnOk P w K mg base CX0 2 f fd ["thing"] (spIsP K) := by
  refine F.ok scQ (fun vs H Q E h => ?_) (fun cdv A outer s H vs Q E hr h => ?_)
  · obtain ⟨x, d, rfl, _⟩ := h
    rfl
  · obtain ⟨x, d, rfl, hd, q⟩ := h
    refine ⟨_, PSs.nox (pss_cons (ps_if (PW.pt (pw_or (pt_not (pt_val (pe_isD T.isn (pv 0) (pe_bltn (by rfl) T.tuple bbT (by rfl)) (by rfl)))) (pw_or1 (pt_cmpR op_ne (pe_callB call_len_seq (by rfl) T.len boot_len (pa_cons (pv 0) pa_nil)) pe_int (nomark _))))) (pss_one (ps_ret pe_bl)) pss_nil)
      (pss_one (ps_ret (pe_callB (cr_all rfl) (by rfl) T.all boot_all (pa_cons (pe_lc (own := [("number", 1)]) (g := gName 1) (tt := tYes) rfl scQ.nd (pi_tup (pv 0)) (blkOk_by (N := ["thing", "number"]) (sc := defScope sIsP) (by decide +kernel)) (fun _ _ _ _ _ => pg_name (i := 1) scQ.nd rfl (Or.inl rfl)) (fun _ _ _ _ _ => pts_nil)
        (fun _ _ _ _ _ => pe_and (pe_call N.ok hr (by rfl) N.g N.k N.b .nil pass0 (pa_cons (pv 1) pa_nil)) (pe_one (pe_cmpR op_ge (pv 1) pe_int (nomark _))))) pa_nil))))), ?_⟩
    have e0 : start ["thing", "number"] [x] = [some x, none] := rfl
    rw [e0]
    have qf : paceD d = false → Q (.bl false) H := fun e => by
      have z := q H (Same.refl H)
      rw [e] at z
      exact z
    refine go_seq ?_
    cases hd with
    | non => exact ⟨_, rfl, _, _, .non, (by decide +kernel : kitB "NoneType" "tuple" = some false), _, rfl, iteT (iteT (qf rfl))⟩
    | bl b => exact ⟨_, rfl, _, _, .bl b, (by decide +kernel : kitB "bool" "tuple" = some false), _, rfl, iteT (iteT (qf rfl))⟩
    | int i => exact ⟨_, rfl, _, _, .int i, (by decide +kernel : kitB "int" "tuple" = some false), _, rfl, iteT (iteT (qf rfl))⟩
    | str i => exact ⟨_, rfl, _, _, .str i, (by decide +kernel : kitB "str" "tuple" = some false), _, rfl, iteT (iteT (qf rfl))⟩
    | lst hS ha => exact ⟨_, rfl, _, _, .lst hS ha, (by decide +kernel : kitB "list" "tuple" = some false), _, rfl, iteT (iteT (qf rfl))⟩
    | @tup t xs ds hS ha =>
      refine ⟨_, rfl, _, _, .tup hS ha, (by decide +kernel : kitB "tuple" "tuple" = some true), _, rfl, iteF ⟨_, rfl, t, xs, rfl, .inr hS, rfl, _, rfl, ?_⟩⟩
      have hl := DpAll.length ha
      by_cases n2 : xs.length = 2
      · have en : (V.int (xs.length : Int) = V.int 2) := by rw [n2]; rfl
        refine iteNS en ?_
        refine go_next ?_
        refine ⟨_, rfl, t, rfl, ⟨_, hS⟩, fun D hD => lc_tup (K := K) (a := t) (xs := xs) (fun i H' => Same H H' ∧ H' D = some (.lst (((ds.take i).map posD).map V.bl))) ⟨same_upd hD, upd_same⟩ (fun i H' _ q => seqT q.1 hS) ?_ ?_⟩
        · rintro i v H' hv ⟨s', hD'⟩
          obtain ⟨dv, hdv, hDv⟩ := DpAll.at ha hv
          have hlt := (List.getElem?_eq_some_iff.mp hdv).1
          have fin : ∀ (r : Bool), r = posD dv → ∃ acc, H' D = some (.lst acc) ∧ acc.length < sizeLine ∧ Same H (upd H' D (.lst (acc ++ [V.bl r]))) ∧
              (upd H' D (.lst (acc ++ [V.bl r]))) D = some (.lst (((ds.take (i + 1)).map posD).map V.bl)) := fun r er => by
            refine ⟨_, hD', ?_, fun b o e => ?_, ?_⟩
            · rw [List.length_map, List.length_map, List.length_take, sizeLine_eq]
              omega
            · by_cases hb : b = D
              · rw [hb, hD] at e
                cases e
              · exact (upd_ne hb).trans (s' b o e)
            · rw [upd_same, List.take_add_one, hdv, List.map_append, List.map_append, er]
              rfl
          refine ⟨rfl, _, rfl, v, dv, rfl, Dp.same s' hDv, _, rfl, ?_⟩
          cases hDv with
          | int z => exact iteT ⟨_, rfl, _, _, rfl, rfl, fin _ rfl⟩
          | _ => exact iteF (fin _ rfl)
        · rintro H' ⟨s', hD'⟩
          rw [hl, List.take_length] at hD'
          refine ⟨D, ds.map posD, rfl, SqL.of hD', ?_⟩
          have z := q H' s'
          have l2 : ds.length = 2 := by omega
          match ds, l2 with
          | [d1, d2], _ =>
            rw [paceD_two] at z
            simpa using z
      · refine (show if (!decide (V.int (xs.length : Int) = V.int 2)) = true then _ else _ from ?_)
        rw [decide_eq_false (fun z => n2 (by have z1 := V.int.inj z; omega))]
        exact iteT (qf (paceD_len (by omega)))
theorem pairD {H : Hp} {x : V} {a b : Int} (h : Dp K H x (.tuple [.int a, .int b])) : ∃ t, x = .ref t ∧ SqT K H t [.int a, .int b] := by
  cases h with
  | tup hS ha =>
    cases ha with
    | cons h1 ha1 =>
      cases ha1 with
      | cons h2 ha2 =>
        cases ha2
        cases h1
        cases h2
        exact ⟨_, rfl, hS⟩
theorem paceD_of {d : PyData} (h : paceD d = true) : ∃ a b, d = .tuple [.int a, .int b] ∧ 1 ≤ a ∧ 1 ≤ b := by
  unfold paceD at h
  split at h
  · obtain ⟨h1, h2⟩ := Bool.and_eq_true_iff.mp h
    exact ⟨_, _, rfl, of_decide_eq_true h1, of_decide_eq_true h2⟩
  · cases h
theorem scNs : FnScope ["one", "other"] ["one", "other"] (defScope sNsl) := ⟨rfl, rfl, rfl, by decide +kernel, rfl, by decide +kernel, by decide +kernel⟩
def spNsl (K : PySem.W.Frag) : Sp := fun vs H Q _ => ∃ (t1 t2 : Addr) (a b c f : Int), vs = [.ref t1, .ref t2] ∧ SqT K H t1 [.int a, .int b] ∧ SqT K H t2 [.int c, .int f] ∧ CMul a f ∧ CMul c b ∧ Q (.bl (decide (a * f ≤ c * b))) H
theorem ok_nsl {f : Addr} {fd : FuncData} (F : FnP K "is_not_slower" sNsl f fd) : FnOk P w K mg base CX0 1 f fd ["one", "other"] (spNsl K) := by
  refine F.ok scNs (fun vs H Q E h => ?_) (fun cdv A outer s H vs Q E hr h => ?_)
  · obtain ⟨t1, t2, a, b, c, f, rfl, _⟩ := h
    rfl
  · obtain ⟨t1, t2, a, b, c, f', rfl, h1, h2, m1, m2, q⟩ := h
    refine ⟨_, pss_one (ps_ret (pe_cmpR op_le (pe_op op_mul (pe_ix ix_tup (pv 0) pe_int (fun _ _ => rfl)) (pe_ix ix_tup (pv 1) pe_int (fun _ _ => rfl))) (pe_op op_mul (pe_ix ix_tup (pv 1) pe_int (fun _ _ => rfl)) (pe_ix ix_tup (pv 0) pe_int (fun _ _ => rfl))) (nomark _))), ?_⟩
    have e0 : start ["one", "other"] [V.ref t1, .ref t2] = [some (.ref t1), some (.ref t2)] := rfl
    rw [e0]
    walk_at "rd"
    exact ⟨_, h1, .int a, rfl, _, h2, .int f', rfl, a, rfl, f', rfl, m1, _, h2, .int c, rfl, _, h1, .int b, rfl, c, rfl, b, rfl, m2, q⟩
theorem ok_fast {f fP fS : Addr} {fd dP dR dS : FuncData} (F : FnP K "is_as_fast" sFast f fd) (T : Txt K mg) (S : Def P w K mg base CX0 1 "is_not_slower" fS dS ["one", "other"] (spNsl K)) (N : Def P w K mg base CX0 2 "is_pace" fP dP ["thing"] (spIsP K))
    (Z : FnOk P w K mg base CX0 1 (fI K) dR ["self", "value"] (spIni K)) (bZ : Binds K dR ["self", "value"] []) : FnOk P w K mg base (L2.CX P w) 3 f fd ["one", "other"] (spFast K) := by
  refine F.ok scF (fun vs H Q E h => ?_) (fun cdv A outer s H vs Q E hr h => ?_)
  · obtain ⟨x, y, d, e, rfl, _⟩ := h
    rfl
  · obtain ⟨x, y, d, e, rfl, hd, he, hw, h⟩ := h
    refine ⟨_, pss_cons (ps_for (passes_of rfl) rfl (pi_tup (pe_tup (pa_cons (pv 0) (pa_cons (pv 1) pa_nil)))) (pg_name (i := 2) scF.nd rfl (Or.inl rfl))
        (pss_one (ps_if (pt_not (pt_val (pe_call N.ok hr (by rfl) N.g N.k N.b .nil pass0 (pa_cons (pv 2) pa_nil)))) (pss_one (ps_raise rfl (takes_of rfl rfl rfl rfl) (pmk_new sV T.xB T.nv T.iC T.tI Z (hr.mono (by decide)) bZ T.gB (pv 2) (by rfl)))) pss_nil)))
      (pss_one (ps_ret (pe_call S.ok (hr.mono (by decide)) (by rfl) S.g S.k S.b .nil pass0 (pa_cons (pv 0) (pa_cons (pv 1) pa_nil))))), ?_⟩
    have e0 : start ["one", "other", "pace"] [x, y] = [some x, some y, none] := rfl
    rw [e0]
    refine go_seq ?_
    refine ⟨_, rfl, _, rfl, by show 2 ≤ sizeLine; decide, fun t ht => ⟨t, rfl, ⟨_, SqT.of upd_same⟩, for_tupD (K := K) (a := t) (xs := [x, y]) (fun i σ H' => Same (upd H t (.tup [x, y])) H' ∧ (∃ o, σ = [some x, some y, o]) ∧ (1 ≤ i → paceD d = true) ∧ (2 ≤ i → paceD e = true))
      ⟨Same.refl _, ⟨_, rfl⟩, fun z => absurd z (by decide), fun z => absurd z (by decide)⟩ (fun i σ H' _ q => seqT q.1 (SqT.of upd_same)) ?_ ?_⟩⟩
    · rintro D' i v σ H2 hrt hnx - - hi ⟨s2, ⟨o, rfl⟩, p1, p2⟩
      obtain ⟨dv, hdv, hraise, hgo⟩ : ∃ dv, Dp K H2 v dv ∧ (paceD dv = false → Bad K v H E) ∧ (paceD dv = true → (1 ≤ i + 1 → paceD d = true) ∧ (2 ≤ i + 1 → paceD e = true)) := by
        have s0 : Same H H2 := (same_upd ht).trans s2
        match i, hi with
        | 0, hi =>
          cases hi
          refine ⟨d, Dp.same s0 hd, fun z => ?_, fun z => ⟨fun _ => z, fun z2 => absurd z2 (by decide)⟩⟩
          rcases h with ⟨_, h⟩ | ⟨h, _⟩ | ⟨a, b, c, f, rfl, _, g1, g2, _⟩
          · exact h
          · rw [z] at h; cases h
          · exfalso
            have : paceD (.tuple [.int a, .int b]) = true := by
              show (decide (1 ≤ a) && decide (1 ≤ b)) = true
              rw [decide_eq_true g1, decide_eq_true g2]; rfl
            rw [z] at this; cases this
        | 1, hi =>
          cases hi
          have pd := p1 (Nat.le_refl _)
          refine ⟨e, Dp.same s0 he, fun z => ?_, fun z => ⟨fun _ => pd, fun _ => z⟩⟩
          rcases h with ⟨h, _⟩ | ⟨_, _, h⟩ | ⟨a, b, c, f, _, rfl, _, _, g1, g2, _⟩
          · rw [pd] at h; cases h
          · exact h
          · exfalso
            have : paceD (.tuple [.int c, .int f]) = true := by
              show (decide (1 ≤ c) && decide (1 ≤ f)) = true
              rw [decide_eq_true g1, decide_eq_true g2]; rfl
            rw [z] at this; cases this
      have s0 : Same H H2 := (same_upd ht).trans s2
      refine ⟨_, rfl, v, dv, rfl, hdv, fun H3 s3 => ⟨_, rfl, ?_⟩⟩
      cases hp : paceD dv with
      | true => exact hnx _ _ ⟨s2.trans s3, ⟨_, rfl⟩, (hgo hp).1, (hgo hp).2⟩
      | false => exact ⟨_, rfl, fun dd H' s' n hx => hraise hp dd H' (s0.trans (s3.trans s')) hx⟩
    · rintro σ H2 ⟨s2, ⟨o, rfl⟩, p1, p2⟩
      have s0 : Same H H2 := (same_upd ht).trans s2
      have pd := p1 (by show 1 ≤ 2; decide)
      have pe := p2 (by show 2 ≤ 2; decide)
      rcases h with ⟨h, _⟩ | ⟨_, h, _⟩ | ⟨a, b, c, f, rfl, rfl, g1, g2, g3, g4, q⟩
      · rw [pd] at h; cases h
      · rw [pe] at h; cases h
      · obtain ⟨t1, rfl, h1⟩ := pairD hd
        obtain ⟨t2, rfl, h2⟩ := pairD he
        have h1 := seqT s0 h1
        have h2 := seqT s0 h2
        obtain ⟨wa, wb⟩ := hw a b rfl
        exact ⟨_, rfl, _, rfl, t1, t2, a, b, c, f, rfl, h1, h2, .inl ⟨by omega, wa⟩, .inr ⟨by omega, wb⟩, q H2 s0⟩
theorem ok_pace {f fT : Addr} {fd dT : FuncData} (F : FnP K "_law_pace" sPace f fd) (T : Txt K mg) (N : Def P w K mg base CX0 1 "_law_take" fT dT ["_law_pool_here", "_law_many"] spTake) : FnOk P w K mg base CX0 2 f fd ["_law_pool_here"] spPace := by
  refine F.ok scA (fun vs H Q E h => ?_) (fun cdv A outer s H vs Q E hr h => ?_)
  · obtain ⟨p, rfl, _⟩ := h
    rfl
  · obtain ⟨p, rfl, hp, q⟩ := h
    refine ⟨_, pss_cons (ps_set (i := 1) scA.nd rfl (Or.inl rfl) (pe_ix ix_list (pe_lst (pa_cons pe_int (pa_cons pe_int (pa_cons (pe_op op_pow pe_int pe_int) pa_nil)))) (pe_call N.ok hr (by rfl) N.g N.k N.b .nil pass0 (pa_cons (pv 0) (pa_cons pe_int pa_nil))) (fun _ _ => rfl)))
      (pss_one (ps_ret (pe_tup (pa_cons (pe_op op_add pe_int (pe_call N.ok hr (by rfl) N.g N.k N.b .nil pass0 (pa_cons (pv 0) (pa_cons (pv 1) pa_nil)))) (pa_cons (pe_op op_add pe_int (pe_call N.ok hr (by rfl) N.g N.k N.b .nil pass0 (pa_cons (pv 0) (pa_cons (pv 1) pa_nil)))) pa_nil))))), ?_⟩
    have e0 : start ["_law_pool_here", "_law_many"] [V.ref p] = [some (.ref p), none] := rfl
    rw [e0]
    refine ⟨_, _, rfl, rfl, ⟨by decide, by decide, by decide⟩, by show 3 ≤ sizeLine; decide, fun l nl => ⟨_, rfl, p, 3, rfl, hp.same (same_upd nl), by decide, by decide, fun r H1 h0 h3 a1 hp1 => ?_⟩⟩
    have hl : H1 l = some (.lst [.int 12, .int 12, .int (10 ^ 18)]) := by
      refine a1 _ _ upd_same ?_
      obtain ⟨c, s', e, _⟩ := hp
      exact (ne_of_none e nl).symm
    obtain ⟨m, hm, m0, m1⟩ : ∃ m : Int, atI [V.int 12, V.int 12, V.int (10 ^ 18)] r = some (.int m) ∧ 0 < m ∧ m ≤ 10 ^ 18 := by
      have h4 : r = 0 ∨ r = 1 ∨ r = 2 := by omega
      rcases h4 with rfl | rfl | rfl <;> exact ⟨_, rfl, by decide, by decide⟩
    refine ⟨l, _, r, _, rfl, rfl, SqL.of hl, hm, ?_⟩
    dsimp only [List.set_cons_zero, List.set_cons_succ]
    refine ⟨_, rfl, _, rfl, p, m, rfl, hp1, m0, by omega, fun x H2 x0 x1 a2 hp2 => ?_⟩
    refine ⟨_, _, rfl, rfl, _, rfl, _, rfl, p, m, rfl, hp2, m0, by omega, fun y H3 y0 y1 a3 hp3 => ?_⟩
    refine ⟨_, _, rfl, rfl, by show 2 ≤ sizeLine; decide, fun t nt => ?_⟩
    have s0 := same_upd (o := .tup [.int (1 + x), .int (1 + y)]) nt
    have adv : Adv p H H3 := (Same.adv (same_upd nl) a1).trans (a2.trans a3)
    refine q t (1 + x) (1 + y) _ ?_ (adv.same s0) (hp3.same s0) upd_same (by omega) (by omega) (by omega) (by omega)
    exact adv.none hp3 nt
theorem ok_ref {f fN : Addr} {fd dN : FuncData} (F : FnP K "_law_refused" sRef f fd) (T : Txt K mg) (N : Def P w K mg base (L2.CX P w) 3 "is_as_fast" fN dN ["one", "other"] (spFast K)) : FnOk P w K mg base CX0 4 f fd ["_law_one", "_law_other"] (spRef K) := by
  refine F.ok scR (fun vs H Q E h => ?_) (fun cdv A outer s H vs Q E hr h => ?_)
  · obtain ⟨x, y, d, e, z, rfl, _⟩ := h
    rfl
  · obtain ⟨x, y, d, e, z, rfl, hd, he, hw, h, q⟩ := h
    refine ⟨_, pss_cons (ps_set (i := 2) scR.nd rfl (Or.inl rfl) pe_non)
      (pss_cons (ps_try_as (i := 3) rfl rfl scR.nd rfl rfl ⟨rfl, by decide, .inl T.gB⟩ takes0 (fun W pn xe tk _ => pss_one (ps_expr (pe_callS N.ok hr (by rfl) N.g N.k N.b (fun σ => passAt tk σ) (pa_cons (pv 0) (pa_cons (pv 1) pa_nil)))))
        (fun a oe cls d pn hz hf => pss_one (ps_set (i := 2) scR.nd rfl (Or.inl rfl) (pe_lst (pa_cons pe_str (pa_cons (pe_xv hz hf (pv 3)) (pa_cons (pe_isS (c := .ty "ValueError") (cv := .type "ValueError") hz hf (pe_bltn (by rfl) T.vE bbV (by rfl)) (fun u h => h) T.isn (pv 3) (by rfl)) pa_nil)))))))
      (pss_one (ps_ret (pv 2)))), ?_⟩
    have e0 : start ["_law_one", "_law_other", "_law_kept", "e"] [x, y] = [some x, some y, none, none] := rfl
    rw [e0]
    refine go_seq (go_asg ?_)
    refine go_next ?_
    refine ⟨_, rfl, _, rfl, x, y, d, e, rfl, hd, he, hw, ?_⟩
    rcases h with ⟨h1, ez⟩ | ⟨h1, h2, ez⟩
    · subst ez
      refine .inl ⟨h1, fun dd H' s' hx => ⟨true, T.eB, fun _ a na => ?_, fun z => nomatch z⟩⟩
      refine ⟨_, rfl, rfl, CB K, dd, _, _, xV, rfl, rfl, T.xB, T.nv, hx, rfl, _, rfl, rfl, CB K, xV, true, rfl, fun dx u => by cases u; exact ⟨_, hx⟩, T.xB, T.kB, by show 3 ≤ sizeLine; decide, fun p np => ?_⟩
      exact ⟨_, rfl, q p _ (s'.trans (same_upd np)) upd_same⟩
    · subst ez
      refine .inr (.inl ⟨h1, h2, fun dd H' s' hx => ⟨true, T.eB, fun _ a na => ?_, fun z => nomatch z⟩⟩)
      refine ⟨_, rfl, rfl, CB K, dd, _, _, xV, rfl, rfl, T.xB, T.nv, hx, rfl, _, rfl, rfl, CB K, xV, true, rfl, fun dx u => by cases u; exact ⟨_, hx⟩, T.xB, T.kB, by show 3 ≤ sizeLine; decide, fun p np => ?_⟩
      exact ⟨_, rfl, q p _ (s'.trans (same_upd np)) upd_same⟩
end
end L2.L67

set_option maxHeartbeats 4000000
namespace L2.L67
open PySem PySem.Spec PyProof.Rows LR L2.Lr
local macro_rules | `(tactic| walk_at "rd") => `(tactic| simp only [tSeq, tAsg, gName, tIfS, tTest, tOp, tIf, tInt, rI, rI0, tVar, tC, tCB, tCons, tNil, tNext, tRet, tLst, rIxL, CPow, CMul, gSub, rSetL, rIxT,
  List.getElem?_cons_zero, List.getElem?_cons_succ, List.set_cons_zero, List.set_cons_succ, Option.some.injEq, V.int.injEq, V.ref.injEq, V.bl.injEq, V.str.injEq, List.cons.injEq, and_true, true_and, exists_and_left, exists_eq_left', exists_eq_left, exists_eq, decide_eq_true_eq, or_true, true_or, List.length_cons, List.length_nil, Nat.zero_add, Nat.reduceAdd])
local macro_rules | `(tactic| walk_at "nx") => `(tactic| dsimp only [gName, tNext, tSeq, tAsg, List.set_cons_zero, List.set_cons_succ])
/-- the defs that the law calls -/
structure Defs (P : Program) (w : World) (K : PySem.W.Frag) (mg : Str → Option Value) (base : Heap) (fP fT fA fF fR : Addr) (xP xT xA xF xR : FuncData) : Prop where
  dP : Def P w K mg base CX0 1 "_law_pool" fP xP ["_law_script", "_law_k"] (spPool K)
  dT : Def P w K mg base CX0 1 "_law_take" fT xT ["_law_pool_here", "_law_many"] spTake
  dA : Def P w K mg base CX0 2 "_law_pace" fA xA ["_law_pool_here"] spPace
  dF : Def P w K mg base (L2.CX P w) 3 "is_as_fast" fF xF ["one", "other"] (spFast K)
  dR : Def P w K mg base CX0 4 "_law_refused" fR xR ["_law_one", "_law_other"] (spRef K)
def spLaw (K : PySem.W.Frag) : Sp := fun vs H Q _ => ∃ (a : Addr) (ns : List Int), vs = [.ref a] ∧ SqL K H a (ns.map V.int) ∧ ns.length ≤ 63 ∧ ∀ H', Q (.bl true) H'
def moreD : List PyData := [.tuple [.int 0, .int 1], .tuple [.int 1, .int 0], .tuple [.int (-1), .int 2], .tuple [.bool true, .int 1], .tuple [.int 1, .bool true], .tuple [.str "1", .int 2]]
def oddD : List PyData := [.none, .int 5, .str "2/3", .tuple [], .tuple [.int 1], .tuple [.int 1, .int 2, .int 3], .list [.int 1, .int 2]] ++ moreD
def smallD : PyData → Bool
  | .tuple [.int a, .int b] => decide (a < 2 ^ 64) && decide (b < 2 ^ 64)
  | _ => true
theorem smallD_ok {d : PyData} (h : smallD d = true) (a b : Int) (e : d = .tuple [.int a, .int b]) : a < 2 ^ 64 ∧ b < 2 ^ 64 := by
  subst e
  obtain ⟨h1, h2⟩ := Bool.and_eq_true_iff.mp h
  exact ⟨of_decide_eq_true h1, of_decide_eq_true h2⟩
def badD (d : PyData) : PyData := .list [.str "bad", d, .bool true]
theorem odd_all : (oddD.all fun d => !paceD d && (SeqAt.shaped (badD d) && smallD d)) = true := by decide +kernel
theorem odd_of {i : Nat} {d : PyData} (h : oddD[i]? = some d) : paceD d = false ∧ SeqAt.shaped (badD d) = true ∧ ∀ a b, d = .tuple [.int a, .int b] → a < 2 ^ 64 ∧ b < 2 ^ 64 := by
  have z := List.all_eq_true.mp odd_all d (List.mem_of_getElem? h)
  obtain ⟨z1, z⟩ := Bool.and_eq_true_iff.mp z
  obtain ⟨z2, z3⟩ := Bool.and_eq_true_iff.mp z
  exact ⟨by simpa using z1, z2, smallD_ok z3⟩
theorem pairDp {K : PySem.W.Frag} {H : Hp} {t : Addr} {a b : Int} (h : H t = some (.tup [.int a, .int b])) : Dp K H (.ref t) (.tuple [.int a, .int b]) := .tup (SqT.of h) (.cons (.int a) (.cons (.int b) .nil))
theorem pairPace {a b : Int} (ha : 1 ≤ a) (hb : 1 ≤ b) : paceD (.tuple [.int a, .int b]) = true := by
  show (decide (1 ≤ a) && decide (1 ≤ b)) = true
  rw [decide_eq_true ha, decide_eq_true hb]
  rfl
/-- one of the checks of what is refused -/
theorem ref_go {K : PySem.W.Frag} {σ : St} {H : Hp} {ta : TA} {x y z : V} {d e dz : PyData} {Q : Bool → Hp → Prop} (ha : ∀ R : List V → Hp → Prop, R [x, y] H → ta σ H R) (hσ : σ[12]? = some (some z)) (hz : Dp K H z dz) (sh : SeqAt.shaped (badD dz) = true)
    (hd : Dp K H x d) (he : Dp K H y e) (sm : ∀ a b, d = .tuple [.int a, .int b] → a < 2 ^ 64 ∧ b < 2 ^ 64) (hh : (paceD d = false ∧ z = x) ∨ (paceD d = true ∧ paceD e = false ∧ z = y)) (q : ∀ H', Same H H' → Q false H') :
    tTest (tOp (rNeD K) (tCall (spRef K) [] E0 ta) (tLst (tCons (tC (.str "bad")) (tCons (tVar 12) (tCons (tC (.bl true)) tNil))))) σ H Q := by
  refine ha _ ⟨x, y, d, e, z, rfl, hd, he, sm, hh, fun p H1 s1 h1 => ⟨_, hσ, by show 3 ≤ sizeLine; decide, fun p2 n2 => ?_⟩⟩
  have s2 := same_upd (o := .lst [.str "bad", z, .bl true]) n2
  have hz2 := Dp.same (s1.trans s2) hz
  refine ⟨badD dz, badD dz, .lst (SqL.of (s2 _ _ h1)) (.cons (.str _) (.cons hz2 (.cons (.bl _) .nil))), .lst (SqL.of upd_same) (.cons (.str _) (.cons hz2 (.cons (.bl _) .nil))), sh, sh, _, rfl, ?_⟩
  rw [SeqAt.eqv_refl _ (SeqAt.canLay_of_shaped sh)]
  exact q _ (s1.trans s2)
section
variable {P : Program} {w : World} {K : PySem.W.Frag} {mg : Str → Option Value} {base : Heap}
theorem ok_law {f fP fT fA fF fR : Addr} {fd dP dT dA dF dR : FuncData} (F : FnP K "law" sLaw f fd) (T : Txt K mg) (D : Defs P w K mg base fP fT fA fF fR dP dT dA dF dR) : FnOk P w K mg base CX0 5 f fd ["_law_script"] (spLaw K) := by
  refine F.ok scL (fun vs H Q E h => ?_) (fun cdv A outer s H vs Q E hr h => ?_)
  · obtain ⟨a, ns, rfl, _⟩ := h
    rfl
  · obtain ⟨a, ns, rfl, hS, hlen, q⟩ := h
    have hr1 : Room 1 _ := hr.mono (by decide)
    have hr2 : Room 2 _ := hr.mono (by decide)
    have hr3 : Room 3 _ := hr.mono (by decide)
    have hu := hr.units
    refine ⟨_, PSs.nox (pss_cons (ps_for PassesOwn.never rfl (pi_range1 (by rfl) T.range (pa_cons (pe_callB (call_max2 rfl) (by rfl) T.max boot_max (pa_cons pe_int (pa_cons (pe_callB (call_min2 rfl) (by rfl) T.min boot_min (pa_cons (pe_callB call_len (by rfl) T.len boot_len (pa_cons (pv 0) pa_nil)) (pa_cons pe_int pa_nil))) pa_nil))) pa_nil)) (pg_name (i := 1) scL.nd rfl (Or.inl rfl)) (pss_cons (ps_set (i := 2) scL.nd rfl (Or.inl rfl) (pe_call D.dP.ok hr1 (by rfl) D.dP.g D.dP.k D.dP.b .nil pass0 (pa_cons (pv 0) (pa_cons (pv 1) pa_nil))))
 (pss_cons (ps_par (i := 3) (j := 4) (by rfl) scL.nd rfl rfl (by decide) rfl rfl (pa_cons (pe_call D.dA.ok hr2 (by rfl) D.dA.g D.dA.k D.dA.b .nil pass0 (pa_cons (pv 2) pa_nil)) (pa_cons (pe_call D.dA.ok hr2 (by rfl) D.dA.g D.dA.k D.dA.b .nil pass0 (pa_cons (pv 2) pa_nil)) pa_nil)) (by rfl))
 (pss_cons (ps_set (i := 5) scL.nd rfl (Or.inl rfl) (pe_op op_add pe_int (pe_call D.dT.ok hr1 (by rfl) D.dT.g D.dT.k D.dT.b .nil pass0 (pa_cons (pv 2) (pa_cons pe_int pa_nil)))))
 (pss_cons (ps_set (i := 6) scL.nd rfl (Or.inl rfl) (pe_tup (pa_cons (pe_op op_add (pe_op op_mul (pe_ix ix_tup (pv 3) pe_int (fun _ _ => rfl)) (pv 5)) (pe_op op_mul (pe_ix ix_list (pe_lst (pa_cons pe_int (pa_cons pe_int (pa_cons (pe_un un_neg pe_int) pa_nil)))) (pe_call D.dT.ok hr1 (by rfl) D.dT.g D.dT.k D.dT.b .nil pass0 (pa_cons (pv 2) (pa_cons pe_int pa_nil))) (fun _ _ => rfl)) (pe_toIB T.int (pe_cmpR op_gt (pe_op op_mul (pe_ix ix_tup (pv 3) pe_int (fun _ _ => rfl)) (pv 5)) pe_int (nomark _)) (by rfl)))) (pa_cons (pe_op op_mul (pe_ix ix_tup (pv 3) pe_int (fun _ _ => rfl)) (pv 5)) pa_nil))))
 (pss_cons (ps_for PassesOwn.never rfl (pi_list (pe_lst (pa_pair (pv 3) (pv 4) (pa_pair (pv 4) (pv 3) (pa_pair (pv 3) (pv 6) (pa_pair (pv 6) (pv 3) (pa_pair (pv 3) (pv 3) (pa_pair (pv 6) (pv 4) pa_pair0)))))))) (pg_tup rfl (pgs_cons (pg_name (i := 7) scL.nd rfl (Or.inl rfl)) (pgs_cons (pg_name (i := 8) scL.nd rfl (Or.inl rfl)) pgs_nil))) (pss_cons (ps_set (i := 9) scL.nd rfl (Or.inl rfl) (pe_cmpR op_le (pe_op op_mul (pe_ix ix_tup (pv 7) pe_int (fun _ _ => rfl)) (pe_ix ix_tup (pv 8) pe_int (fun _ _ => rfl))) (pe_op op_mul (pe_ix ix_tup (pv 8) pe_int (fun _ _ => rfl)) (pe_ix ix_tup (pv 7) pe_int (fun _ _ => rfl))) (nomark _)))
 (pss_cons (ps_set (i := 10) scL.nd rfl (Or.inl rfl) (pe_call D.dF.ok hr3 (by rfl) D.dF.g D.dF.k D.dF.b .nil passL (pa_cons (pv 7) (pa_cons (pv 8) pa_nil))))
 (pss_one (ps_if (PW.pt (pw_or (pt_cmpR op_ne (pv 10) (pv 9) (nomark _)) (pw_or1 (pt_not (pt_val (pe_isD T.isn (pv 10) (pe_bltn (by rfl) T.bool bbB (by rfl)) (by rfl))))))) (pss_one (ps_ret pe_bl)) pss_nil)))))
 (pss_cons (ps_set (i := 11) scL.nd rfl (Or.inl rfl) (pd_lstL (pd_cons (pd_tup (pd_cons pd_int (pd_cons pd_int pd_nil))) (pd_cons (pd_tup (pd_cons pd_int (pd_cons pd_int pd_nil))) (pd_cons (pd_tup (pd_cons pd_neg (pd_cons pd_int pd_nil))) (pd_cons (pd_tup (pd_cons pd_bl (pd_cons pd_int pd_nil))) (pd_cons (pd_tup (pd_cons pd_int (pd_cons pd_bl pd_nil))) (pd_cons (pd_tup (pd_cons pd_str (pd_cons pd_int pd_nil))) pd_nil))))))))
 (pss_one (ps_for PassesOwn.never rfl (pi_list (pe_op op_cat (pd_lstL (pd_cons pd_non (pd_cons pd_int (pd_cons pd_str (pd_cons (pd_tup pd_nil) (pd_cons (pd_tup (pd_cons pd_int pd_nil)) (pd_cons (pd_tup (pd_cons pd_int (pd_cons pd_int (pd_cons pd_int pd_nil)))) (pd_cons (pd_lst (pd_cons pd_int (pd_cons pd_int pd_nil))) pd_nil)))))))) (pv 11))) (pg_name (i := 12) scL.nd rfl (Or.inl rfl)) (pss_cons (ps_for PassesOwn.never rfl (pi_list (pe_lst (pa_cons (pv 3) (pa_cons (pv 6) pa_nil)))) (pg_name (i := 13) scL.nd rfl (Or.inl rfl)) (pss_one (ps_if (PW.pt (pw_or (pt_cmpR (op_neD hu) (pe_call D.dR.ok hr (by rfl) D.dR.g D.dR.k D.dR.b .nil pass0 (pa_cons (pv 12) (pa_cons (pv 13) pa_nil))) (pe_lst (pa_cons pe_str (pa_cons (pv 12) (pa_cons pe_bl pa_nil)))) (nomark _)) (pw_or1 (pt_cmpR (op_neD hu) (pe_call D.dR.ok hr (by rfl) D.dR.g D.dR.k D.dR.b .nil pass0 (pa_cons (pv 13) (pa_cons (pv 12) pa_nil))) (pe_lst (pa_cons pe_str (pa_cons (pv 12) (pa_cons pe_bl pa_nil)))) (nomark _))))) (pss_one (ps_ret pe_bl)) pss_nil)))
 (pss_one (ps_if (pt_cmpR (op_neD hu) (pe_call D.dR.ok hr (by rfl) D.dR.g D.dR.k D.dR.b .nil pass0 (pa_cons (pv 12) (pa_cons pe_non pa_nil))) (pe_lst (pa_cons pe_str (pa_cons (pv 12) (pa_cons pe_bl pa_nil)))) (nomark _)) (pss_one (ps_ret pe_bl)) pss_nil))))))))))))
 (pss_one (ps_ret pe_bl))), ?_⟩
    have hrd : ∀ H', Same H H' → SqL K H' a (ns.map V.int) := fun H' s => s.seq hS
    -- for _law_k in range(..)
    refine ⟨_, rfl, _, (ns.map V.int).length, rfl, Or.inl ⟨_, hS, rfl⟩, _, _, rfl, _, _, rfl, _, rfl, ?_, ?_, ?_⟩
    · split <;> split <;> omega
    · split <;> split <;> omega
    refine for_rangeD (lo := 0) (fun i σ H' => Same H H' ∧ ∃ o1 o2 o3 o4 o5 o6 o7 o8 o9 o10 o11 o12 o13, σ = [some (.ref a), o1, o2, o3, o4, o5, o6, o7, o8, o9, o10, o11, o12, o13]) ⟨Same.refl H, none, none, none, none, none, none, none, none, none, none, none, none, none, rfl⟩ ?_ (fun σ H' _ => q H')
    rintro D1 k σ H1 - hD1 - - hk ⟨s1, o1, o2, o3, o4, o5, o6, o7, o8, o9, o10, o11, o12, o13, rfl⟩
    have hk6 : k < 6 := by
      revert hk
      split <;> split <;> omega
    -- the pool
    refine ⟨_, rfl, _, rfl, a, ns, 0 + (k : Int), rfl, hrd H1 s1, by omega, by omega, by omega, fun p H2 np s2 hp2 => ?_⟩
    refine ⟨_, rfl, p, rfl, hp2, fun t1 a1 b1 H3 n1 v3 hp3 ht1 la1 ua1 lb1 ub1 => ?_⟩
    refine ⟨_, rfl, p, rfl, hp3, fun t2 a2 b2 H4 n2 v4 hp4 ht2 la2 ua2 lb2 ub2 => ⟨_, _, rfl, ?_⟩⟩
    -- _law_times
    refine ⟨_, rfl, p, 9, rfl, hp4, by decide, by decide, fun r5 H5 l5 u5 v5 hp5 => ?_⟩
    refine ⟨_, _, rfl, rfl, ?_⟩
    have e1p := hp3.ne ht1
    have e2p := hp4.ne ht2
    have ht1_5 := v5 _ _ (v4 _ _ ht1 e1p) e1p
    obtain ⟨M, eM, lM, uM⟩ : ∃ M, M = a1 * (1 + r5) ∧ 1 ≤ M ∧ M ≤ 9 * 10 ^ 18 := ⟨_, rfl, by
      rcases (show r5 = 0 ∨ r5 = 1 ∨ r5 = 2 ∨ r5 = 3 ∨ r5 = 4 ∨ r5 = 5 ∨ r5 = 6 ∨ r5 = 7 ∨ r5 = 8 by omega) with rfl | rfl | rfl | rfl | rfl | rfl | rfl | rfl | rfl <;> omega, by
      rcases (show r5 = 0 ∨ r5 = 1 ∨ r5 = 2 ∨ r5 = 3 ∨ r5 = 4 ∨ r5 = 5 ∨ r5 = 6 ∨ r5 = 7 ∨ r5 = 8 by omega) with rfl | rfl | rfl | rfl | rfl | rfl | rfl | rfl | rfl <;> omega⟩
    obtain ⟨N2, eN2, lN2, uN2⟩ : ∃ M, M = b1 * (1 + r5) ∧ 1 ≤ M ∧ M ≤ 9 * 10 ^ 18 := ⟨_, rfl, by
      rcases (show r5 = 0 ∨ r5 = 1 ∨ r5 = 2 ∨ r5 = 3 ∨ r5 = 4 ∨ r5 = 5 ∨ r5 = 6 ∨ r5 = 7 ∨ r5 = 8 by omega) with rfl | rfl | rfl | rfl | rfl | rfl | rfl | rfl | rfl <;> omega, by
      rcases (show r5 = 0 ∨ r5 = 1 ∨ r5 = 2 ∨ r5 = 3 ∨ r5 = 4 ∨ r5 = 5 ∨ r5 = 6 ∨ r5 = 7 ∨ r5 = 8 by omega) with rfl | rfl | rfl | rfl | rfl | rfl | rfl | rfl | rfl <;> omega⟩
    -- _law_near
    refine ⟨_, rfl, t1, _, 0, .int a1, rfl, rfl, SqT.of ht1_5, rfl, _, rfl, _, _, rfl, rfl, .inr ⟨by omega, by omega⟩, ?_⟩
    refine ⟨_, rfl, by show 3 ≤ sizeLine; decide, fun l nl => ⟨_, rfl, p, 3, rfl, hp5.same (same_upd nl), by decide, by decide, fun r6 H6 l6 u6 v6 hp6 => ?_⟩⟩
    have hl6 : H6 l = some (.lst [.int 1, .int 0, .int (-1)]) := by
      refine v6 _ _ upd_same ?_
      obtain ⟨c, s', e, _⟩ := hp5
      exact (ne_of_none e nl).symm
    have ht1_6 := v6 _ _ (same_upd nl _ _ ht1_5) e1p
    obtain ⟨m, hm, lm, um⟩ : ∃ m : Int, atI [V.int 1, V.int 0, V.int (-1)] r6 = some (.int m) ∧ -1 ≤ m ∧ m ≤ 1 := by
      rcases (show r6 = 0 ∨ r6 = 1 ∨ r6 = 2 by omega) with rfl | rfl | rfl <;> exact ⟨_, rfl, by decide, by decide⟩
    refine ⟨l, _, r6, _, rfl, rfl, SqL.of hl6, hm, ?_⟩
    refine ⟨_, rfl, t1, _, 0, .int a1, rfl, rfl, SqT.of ht1_6, rfl, _, rfl, _, _, rfl, rfl, .inr ⟨by omega, by omega⟩, _, _, rfl, rfl, _, rfl, ?_⟩
    refine ⟨_, _, rfl, rfl, .inl ⟨by omega, by omega⟩, _, _, rfl, rfl, ?_⟩
    refine ⟨_, rfl, t1, _, 1, .int b1, rfl, rfl, SqT.of ht1_6, rfl, _, rfl, _, _, rfl, rfl, .inr ⟨by omega, by omega⟩, by show 2 ≤ sizeLine; decide, fun t3 n3 => ?_⟩
    dsimp only [List.set_cons_zero, List.set_cons_succ]
    rw [← eM, ← eN2]
    obtain ⟨N1, eN1, lN1, uN1⟩ : ∃ N, N = M + m * (if decide (1 < M) = true then 1 else 0) ∧ 1 ≤ N ∧ N ≤ 10 ^ 19 := by
      refine ⟨_, rfl, ?_, ?_⟩
      · by_cases h : 1 < M
        · rw [if_pos (decide_eq_true h)]; omega
        · rw [if_neg (by rw [decide_eq_false h]; exact Bool.false_ne_true)]; omega
      · by_cases h : 1 < M
        · rw [if_pos (decide_eq_true h)]; omega
        · rw [if_neg (by rw [decide_eq_false h]; exact Bool.false_ne_true)]; omega
    rw [← eN1]
    have s7 := same_upd (o := .tup [.int N1, .int N2]) n3
    have ht3 : (upd H6 t3 (.tup [.int N1, .int N2])) t3 = some (.tup [.int N1, .int N2]) := upd_same
    have a7 : Adv p H1 (upd H6 t3 (.tup [.int N1, .int N2])) := (Same.adv s2 (v3.trans (v4.trans (v5.trans (Same.adv (same_upd nl) v6))))).same s7
    have s17 := Adv.new np a7
    have ht1 := s7 _ _ ht1_6
    have ht2 := s7 _ _ (v6 _ _ (same_upd nl _ _ (v5 _ _ ht2 e2p)) e2p)
    generalize upd H6 t3 (.tup [.int N1, .int N2]) = G at s7 ht3 a7 s17 ht1 ht2 ⊢
    have sG : Same H G := s1.trans s17
    clear a7 s7 s17 hm hl6 v6 hp6 n3 ht1_6 ht1_5 v5 hp5 v4 v3 hp3 hp4 hp2 s2 np e1p e2p n1 n2 nl
    -- for _law_low, _law_high in [..]
    walk_at "nx"
    let fv : Nat → V := fun j => if j = 3 then .ref t1 else if j = 4 then .ref t2 else .ref t3
    have hfv : ∀ j, ∃ u x y, fv j = .ref u ∧ G u = some (.tup [.int x, .int y]) ∧ 1 ≤ x ∧ x < 2 ^ 64 ∧ 1 ≤ y ∧ y < 2 ^ 64 := fun j => by
      show ∃ u x y, (if j = 3 then V.ref t1 else if j = 4 then V.ref t2 else V.ref t3) = .ref u ∧ _
      by_cases h3 : j = 3
      · exact ⟨t1, a1, b1, if_pos h3, ht1, la1, by omega, lb1, by omega⟩
      · by_cases h4 : j = 4
        · exact ⟨t2, a2, b2, (if_neg h3).trans (if_pos h4), ht2, la2, by omega, lb2, by omega⟩
        · exact ⟨t3, N1, N2, (if_neg h3).trans (if_neg h4), ht3, lN1, by omega, lN2, by omega⟩
    refine ⟨fv, fun q hq => ?_, fun as G1 g1 hl has => ⟨by rw [List.length_map, hl]; show 6 ≤ sizeLine; decide, fun l nl => ⟨l, rfl, ⟨_, SqL.of upd_same⟩, ?_⟩⟩⟩
    · simp only [List.mem_cons, List.not_mem_nil, or_false] at hq
      rcases hq with rfl | rfl | rfl | rfl | rfl | rfl <;> exact ⟨rfl, rfl⟩
    have s9 := same_upd (o := .lst (as.map V.ref)) nl
    have hl2 : (upd G1 l (.lst (as.map V.ref))) l = some (.lst (as.map V.ref)) := upd_same
    have sG2 := g1.trans s9
    have has2 : ∀ (n : Nat) (b : Addr) (q : Nat × Nat), as[n]? = some b → [(3, 4), (4, 3), (3, 6), (6, 3), (3, 3), (6, 4)][n]? = some q → (upd G1 l (.lst (as.map V.ref))) b = some (.tup [fv q.1, fv q.2]) := fun n b q e1 e2 => s9 _ _ (has n b q e1 e2)
    generalize upd G1 l (.lst (as.map V.ref)) = G2 at s9 hl2 sG2 has2 ⊢
    refine for_listD (K := K) (a := l) (xs := as.map V.ref) (fun i σ H' => Same G2 H' ∧ ∃ o1 o2 o5 o7 o8 o9 o10 o11 o12 o13, σ = [some (.ref a), o1, o2, some (.ref t1), some (.ref t2), o5, some (.ref t3), o7, o8, o9, o10, o11, o12, o13])
      ⟨Same.refl G2, _, _, _, _, _, _, _, _, _, _, rfl⟩ (fun i σ H' _ h => SqL.of (h.1 _ _ hl2)) ?_ ?_
    · rintro D2 i v σ H9 hrt hD2 - - hi ⟨s9', o1, o2, o5, o7, o8, o9, o10, o11, o12, o13, rfl⟩
      rw [List.getElem?_map] at hi
      obtain ⟨b, hb, rfl⟩ := Option.map_eq_some_iff.mp hi
      obtain ⟨qq, hqq⟩ : ∃ qq, [((3 : Nat), (4 : Nat)), (4, 3), (3, 6), (6, 3), (3, 3), (6, 4)][i]? = some qq := by
        have hlt : i < as.length := by
          by_cases h : i < as.length
          · exact h
          · rw [List.getElem?_eq_none (by omega)] at hb; cases hb
        rw [hl] at hlt
        exact ⟨_, List.getElem?_eq_getElem hlt⟩
      have hpr := s9' _ _ (has2 i b qq hb hqq)
      obtain ⟨u, x, y, eu, hu, lx, ux, ly, uy⟩ := hfv qq.1
      obtain ⟨u', x', y', eu', hu', lx', ux', ly', uy'⟩ := hfv qq.2
      rw [eu, eu'] at hpr
      have hu := s9' _ _ (sG2 _ _ hu)
      have hu' := s9' _ _ (sG2 _ _ hu')
      refine ⟨b, _, rfl, SqT.of hpr, rfl, _, _, rfl, _, _, rfl, rfl, ?_⟩
      walk_at "nx"
      refine ⟨_, rfl, u, _, 0, .int x, rfl, rfl, SqT.of hu, rfl, _, rfl, u', _, 1, .int y', rfl, rfl, SqT.of hu', rfl, _, _, rfl, rfl, .inl ⟨by omega, ux⟩, ?_⟩
      refine ⟨_, rfl, u', _, 0, .int x', rfl, rfl, SqT.of hu', rfl, _, rfl, u, _, 1, .int y, rfl, rfl, SqT.of hu, rfl, _, _, rfl, rfl, .inl ⟨by omega, ux'⟩, _, _, rfl, rfl, ?_⟩
      walk_at "nx"
      refine ⟨_, rfl, _, rfl, _, _, _, _, rfl, pairDp hu, pairDp hu', fun a b e => by cases e; exact ⟨ux, uy⟩, .inr (.inr ⟨x, y, x', y', rfl, rfl, lx, ly, lx', ly', fun H' s' => ?_⟩)⟩
      refine ⟨_, rfl, _, rfl, rfl, _, rfl, ?_⟩
      refine iteNS rfl ⟨_, rfl, _, _, .bl _, (by decide +kernel : kitB "bool" "bool" = some true), _, rfl, ?_⟩
      exact hD2 _ _ ⟨s9'.trans s', _, _, _, _, _, _, _, _, _, _, rfl⟩
    · rintro σ H9 ⟨s9', o1, o2, o5, o7, o8, o9, o10, o11, o12, o13, rfl⟩
      have sG9 := sG2.trans s9'
      walk_at "nx"
      intro pm vm H10 s10 hm10 dm10
      intro po vo H11 s11 ho11 do11
      have lm := DpAll.length dm10
      have lo := DpAll.length do11
      refine ⟨_, rfl, po, pm, vo, vm, rfl, rfl, ho11, s11 _ _ hm10, ?_, fun l3 nl3 => ⟨l3, rfl, ⟨_, SqL.of upd_same⟩, ?_⟩⟩
      · rw [lm, lo]
        show 13 ≤ sizeLine
        decide
      have s12 := same_upd (o := .lst (vo ++ vm)) nl3
      have hl3 : (upd H11 l3 (.lst (vo ++ vm))) l3 = some (.lst (vo ++ vm)) := upd_same
      have dall : DpAll K (upd H11 l3 (.lst (vo ++ vm))) (vo ++ vm) oddD := DpAll.append (DpAll.same s12 do11) (DpAll.same s12 (DpAll.same s11 dm10))
      have sG12 := sG9.trans (s10.trans (s11.trans s12))
      generalize upd H11 l3 (.lst (vo ++ vm)) = G3 at s12 hl3 dall sG12 ⊢
      clear s12 nl3 s11 s10 ho11 hm10 do11 dm10
      refine for_listD (K := K) (a := l3) (xs := vo ++ vm) (fun i σ H' => Same G3 H' ∧ ∃ o1 o2 o5 o7 o8 o9 o10 o11 o12 o13, σ = [some (.ref a), o1, o2, some (.ref t1), some (.ref t2), o5, some (.ref t3), o7, o8, o9, o10, o11, o12, o13])
        ⟨Same.refl G3, _, _, _, _, _, _, _, _, _, _, rfl⟩ (fun i σ H' _ h => SqL.of (h.1 _ _ hl3)) ?_ ?_
      · rintro D3 i z σ H12 hrt hD3 - - hi ⟨s13, o1, o2, o5, o7, o8, o9, o10, o11, o12, o13, rfl⟩
        obtain ⟨dz, hdz, hz⟩ := DpAll.at dall hi
        obtain ⟨pz, shz, smz⟩ := odd_of hdz
        walk_at "nx"
        refine ⟨_, rfl, _, rfl, by show 2 ≤ sizeLine; decide, fun l4 nl4 => ⟨l4, rfl, ⟨_, SqL.of upd_same⟩, ?_⟩⟩
        have s14 := s13.trans (same_upd (o := .lst [.ref t1, .ref t3]) nl4)
        have hl4 : (upd H12 l4 (.lst [.ref t1, .ref t3])) l4 = some (.lst [.ref t1, .ref t3]) := upd_same
        generalize upd H12 l4 (.lst [.ref t1, .ref t3]) = G4 at s14 hl4 ⊢
        refine for_listD (K := K) (a := l4) (xs := [.ref t1, .ref t3]) (fun i σ H' => Same G4 H' ∧ ∃ o1 o2 o5 o7 o8 o9 o10 o11 o13, σ = [some (.ref a), o1, o2, some (.ref t1), some (.ref t2), o5, some (.ref t3), o7, o8, o9, o10, o11, some z, o13])
          ⟨Same.refl G4, _, _, _, _, _, _, _, _, _, rfl⟩ (fun i σ H' _ h => SqL.of (h.1 _ _ hl4)) ?_ ?_
        · rintro D4 j y σ H14 hrt hD4 - - hj ⟨s15, o1, o2, o5, o7, o8, o9, o10, o11, o13, rfl⟩
          have s16 := s14.trans s15
          obtain ⟨x', y', hy, lx, ux, ly, uy⟩ : ∃ x' y', Dp K H14 y (.tuple [.int x', .int y']) ∧ 1 ≤ x' ∧ x' < 2 ^ 64 ∧ 1 ≤ y' ∧ y' < 2 ^ 64 := by
            match j, hj with
            | 0, hj => cases hj; exact ⟨a1, b1, pairDp (s16 _ _ (sG12 _ _ ht1)), la1, by omega, lb1, by omega⟩
            | 1, hj => cases hj; exact ⟨N1, N2, pairDp (s16 _ _ (sG12 _ _ ht3)), lN1, by omega, lN2, by omega⟩
          walk_at "nx"
          refine ref_go (fun R r => ⟨_, rfl, _, rfl, r⟩) rfl (Dp.same s16 hz) shz (Dp.same s16 hz) hy smz (.inl ⟨pz, rfl⟩) fun H15 s17 => ?_
          refine iteF (ref_go (fun R r => ⟨_, rfl, _, rfl, r⟩) rfl (Dp.same (s16.trans s17) hz) shz (Dp.same s17 hy) (Dp.same (s16.trans s17) hz) (fun a b e => by cases e; exact ⟨ux, uy⟩) (.inr ⟨pairPace lx ly, pz, rfl⟩) fun H16 s18 => ?_)
          exact iteF (hD4 _ _ ⟨s15.trans (s17.trans s18), _, _, _, _, _, _, _, _, _, rfl⟩)
        · rintro σ H14 ⟨s15, o1, o2, o5, o7, o8, o9, o10, o11, o13, rfl⟩
          have s16 := s14.trans s15
          walk_at "nx"
          refine ref_go (fun R r => ⟨_, rfl, r⟩) rfl (Dp.same s16 hz) shz (Dp.same s16 hz) .non smz (.inl ⟨pz, rfl⟩) fun H15 s17 => ?_
          exact iteF (hD3 _ _ ⟨s16.trans s17, _, _, _, _, _, _, _, _, _, _, rfl⟩)
      · rintro σ H12 ⟨s13, o1, o2, o5, o7, o8, o9, o10, o11, o12, o13, rfl⟩
        exact hD1 _ _ ⟨sG.trans (sG12.trans s13), _, _, _, _, _, _, _, _, _, _, _, _, _, rfl⟩
end
end L2.L67

set_option maxHeartbeats 0
namespace L2.L67
open PySem PySem.Spec PyProof.Rows LR L2.Lr
def chk (K : PySem.W.Frag) : Bool := He.eqO (PySem.W.nsIn K mainGlobals "BadPace") (some (some (.ref (CB K)))) && (xcB K xV (CB K) && (He.eqO (PySem.W.findIn K (.ref (CB K)) "value") (some none) && (He.eqO (PySem.W.findIn K (.ref (CB K)) "__init__") (some (some (.ref (fI K)))) &&
  (decide (PySem.W.typeIn K (.ref (fI K)) = some (.type "function")) && (decide (PySem.W.exmOne K (.ref (CB K)) (.ref (CB K)) = some true) && decide (PySem.W.kitOne K (.ref (CB K)) (.type "ValueError") = some true))))))
def dF (x : Str) (st : Stmt) : He.DefD := ⟨(x, none), x, x, defArgs st, defBody st, defScope st, [], []⟩
def fn : List He.DefD := [⟨("RoomError", some "__init__"), "__init__", "RoomError.__init__", defArgs sIR, defBody sIR, defScope sIR, [], []⟩, dF "is_integer" sInt, dF "is_pace" sIsP, dF "is_not_slower" sNsl, dF "is_as_fast" sFast, dF "_law_pool" sPool, dF "_law_take" sTake, dF "_law_pace" sPace, dF "_law_refused" sRef, dF "law" sLaw]
def fa : List He.Fa := [.glo "is_integer", .glo "is_pace", .glo "is_not_slower", .glo "is_as_fast", .glo "_law_pool", .glo "_law_take", .glo "_law_pace", .glo "_law_refused", .glo "law", .free "isinstance", .free "len", .free "range", .free "max", .free "min", .free "int", .free "bool", .free "tuple", .free "ValueError", .free "all"]
abbrev R : PySem.W.OpenRow := PySem.W.OpenLaw.row PySem.Challenge.rw_leastrooms_k67_paces_compared
abbrev hk : PySem.W.Hook := hookE 5 chk fa fn
def ob (s : PySem.W.SharedT) : Bool × He.AlD := obsEG 5 chk fa fn (HandSHeadRun.getT s)
theorem ob_eq (s : PySem.W.SharedT) : ob s = hk.obs s.abs := obsEG_eq (HandSHeadRun.getT_eq s)
def looseS : List String := ["RoomError", "BadPace", "is_integer", "is_pace", "is_not_slower", "is_as_fast", "_law_pool", "_law_take", "_law_pace", "_law_refused"]
def loose : List Str := looseS.map Str.ofString
theorem run (w : World) : HandSHeadRun.RunEq R (PySem.W.view R.prog [15]) hk ob 4000 loose w := by
  intro os
  kernel_rfl
end L2.L67

set_option maxHeartbeats 0
namespace L2.L67
open PySem PySem.Spec PyProof.Rows LR L2.Lr
theorem facts {P : Program} {w : World} {K : PySem.W.Frag} {h : Heap} {mg : Str → Option Value} {f : Addr} (X : K.In h) (G : h.Ns mainGlobals mg) (hfa : mg ("law" : Str) = some (.ref f)) (c : chk K = true) (s : He.SaysD fa fn K) :
    ∃ fd : FuncData, (∀ (s : Shared) (v : Value), BindsTo s fd ⟨[v], []⟩ [("_law_script", v)]) ∧ ∀ base : Heap, K.In base → base.Ns mainGlobals mg → FnOk P w K mg base CX0 5 f fd ["_law_script"] (spLaw K) := by
  obtain ⟨c1, c⟩ := He.ba c
  obtain ⟨c2, c⟩ := He.ba c
  obtain ⟨c3, c⟩ := He.ba c
  obtain ⟨c4, c⟩ := He.ba c
  obtain ⟨c5, c⟩ := He.ba c
  obtain ⟨c6, c7⟩ := He.ba c
  have T : Txt K mg := {
    gB := PySem.W.mg_of X G (He.eqO_ok c1)
    xB := xcB_ok c2
    nv := He.eqO_ok c3
    iC := He.eqO_ok c4
    tI := of_decide_eq_true c5
    eB := of_decide_eq_true c6
    kB := of_decide_eq_true c7
    isn := He.free_ok X G (s.fact 9)
    len := He.free_ok X G (s.fact 10)
    range := He.free_ok X G (s.fact 11)
    max := He.free_ok X G (s.fact 12)
    min := He.free_ok X G (s.fact 13)
    int := He.free_ok X G (s.fact 14)
    bool := He.free_ok X G (s.fact 15)
    tuple := He.free_ok X G (s.fact 16)
    vE := He.free_ok X G (s.fact 17)
    all := He.free_ok X G (s.fact 18) }
  obtain ⟨dI, FI⟩ := s.def_ 0
  obtain ⟨dN, FN⟩ := s.def_ 1
  obtain ⟨dQ, FQ⟩ := s.def_ 2
  obtain ⟨dS, FS⟩ := s.def_ 3
  obtain ⟨dF, FF⟩ := s.def_ 4
  obtain ⟨dP, FP⟩ := s.def_ 5
  obtain ⟨dT, FT⟩ := s.def_ 6
  obtain ⟨dA, FA⟩ := s.def_ 7
  obtain ⟨dR, FR⟩ := s.def_ 8
  obtain ⟨fd, FL⟩ := s.def_ 9
  have g : ∀ (i : Nat) (x : Str), fa[i]? = some (.glo x) → mg x = some (.ref (He.ga K x)) := fun i x e => He.glo_ok X G (s.fact i (f := .glo x) e)
  cases hfa.symm.trans (g 8 "law" rfl)
  have b := FunD.bindsA (ps := ["_law_script"]) FL fun _ _ _ _ _ _ us hl => match us, hl with | [_], _ => rfl
  refine ⟨fd, fun s v => b s [v] rfl, fun base _ _ => ?_⟩
  have N : Def P w K mg base CX0 1 "is_integer" _ dN ["thing"] (spInt K) := ⟨ok_int FN T, g 0 _ rfl, FN.kp, FN.bindsN fun _ _ _ _ _ _ us hl => match us, hl with | [_], _ => rfl⟩
  have Q : Def P w K mg base CX0 2 "is_pace" _ dQ ["thing"] (spIsP K) := ⟨ok_isP FQ T N, g 1 _ rfl, FQ.kp, FQ.bindsN fun _ _ _ _ _ _ us hl => match us, hl with | [_], _ => rfl⟩
  have S : Def P w K mg base CX0 1 "is_not_slower" _ dS ["one", "other"] (spNsl K) := ⟨ok_nsl FS, g 2 _ rfl, FS.kp, FS.bindsN fun _ _ _ _ _ _ us hl => match us, hl with | [_, _], _ => rfl⟩
  have F : Def P w K mg base (L2.CX P w) 3 "is_as_fast" _ dF ["one", "other"] (spFast K) := ⟨ok_fast FF T S Q (ok_iR FI) (FI.bindsN fun _ _ _ _ _ _ us hl => match us, hl with | [_, _], _ => rfl), g 3 _ rfl, FF.kp, FF.bindsN fun _ _ _ _ _ _ us hl => match us, hl with | [_, _], _ => rfl⟩
  have Pl : Def P w K mg base CX0 1 "_law_pool" _ dP ["_law_script", "_law_k"] (spPool K) := ⟨ok_pool FP T, g 4 _ rfl, FP.kp, FP.bindsN fun _ _ _ _ _ _ us hl => match us, hl with | [_, _], _ => rfl⟩
  have Tk : Def P w K mg base CX0 1 "_law_take" _ dT ["_law_pool_here", "_law_many"] spTake := ⟨ok_take FT T, g 5 _ rfl, FT.kp, FT.bindsN fun _ _ _ _ _ _ us hl => match us, hl with | [_, _], _ => rfl⟩
  have Pc : Def P w K mg base CX0 2 "_law_pace" _ dA ["_law_pool_here"] spPace := ⟨ok_pace FA T Tk, g 6 _ rfl, FA.kp, FA.bindsN fun _ _ _ _ _ _ us hl => match us, hl with | [_], _ => rfl⟩
  have Rf : Def P w K mg base CX0 4 "_law_refused" _ dR ["_law_one", "_law_other"] (spRef K) := ⟨ok_ref FR T F, g 7 _ rfl, FR.kp, FR.bindsN fun _ _ _ _ _ _ us hl => match us, hl with | [_, _], _ => rfl⟩
  exact ok_law FL T ⟨Pl, Tk, Pc, F, Rf⟩
end L2.L67
open PySem PySem.W PySem.Calls PyProof.Rows
theorem PySem.Challenge.cw_leastrooms_k67_paces_compared_holds : PySem.Challenge.rw_leastrooms_k67_paces_compared.Holds := by
  w_on; o_law
  refine HandSHeadRun.head_any (r := OpenLaw.row PySem.Challenge.rw_leastrooms_k67_paces_compared) (q := view (OpenLaw.row PySem.Challenge.rw_leastrooms_k67_paces_compared).prog [15]) (H := L2.L67.hk) (ob := L2.L67.ob) (M := 4000) (loose := L2.L67.loose) (d := HandSHeadRun.topDef (OpenLaw.row PySem.Challenge.rw_leastrooms_k67_paces_compared).prog 15) (kwd := []) L2.L67.ob_eq
    (by kernel_rfl) (fun s => by kernel_rfl) L2.L67.run (by kernel_rfl) (by kernel_rfl) (by kernel_rfl) (by rfl) (by first | assumption | decide +kernel) (by decide +kernel) ⟨rfl, rfl, rfl, rfl, rfl, by decide +kernel⟩ ?hw ?hc
  case hw => w_witness2
  case hc =>
    refine L2.walk_ofE (l := PySem.Challenge.rw_leastrooms_k67_paces_compared) (n := 63) (k := 5) (x := "_law_script") (CX := L2.CX0) rfl (by decide) (by kernel_rfl) ⟨rfl, by decide, by decide⟩ ?F (fun _ _ _ _ z => z)
    intro w mg fa h Y G hmg0
    obtain ⟨K, KX, c1, c2⟩ := Y
    have hmg : mg ("law" : PySem.Str) = some (.ref fa) := by
      have e : (HandSHeadRun.topDef (OpenLaw.row PySem.Challenge.rw_leastrooms_k67_paces_compared).prog 15).name = ("law" : PySem.Str) := by kernel_rfl
      rw [← e]
      exact hmg0
    obtain ⟨fd, hb, hF⟩ := L2.L67.facts (P := (PySem.Challenge.rw_leastrooms_k67_paces_compared).prog) (w := w) KX G hmg c1 c2
    exact ⟨K, fd, L2.L67.spLaw K, KX, hb, fun H a ns hl _ hS => ⟨a, ns, rfl, hS, hl, fun _ => rfl⟩, hF⟩
