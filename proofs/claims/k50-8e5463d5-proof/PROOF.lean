import PyProof.Rows.All
import Wide.All
import OpenK.AllK
import Wide.FinOn
import KE.KExcInit
import KE.KExcIs
import KE.KIsAll
import HandS.ForMost
import HandS.ForSpec
import HandS.ExcInit
import HandS.ExcValue
import HandS.ExcIs
import HandS.Wide
import HandS.Defaults
import HandS.HeadHook2
import HandS.ExcOwn
import HandS.Words
import HandS.IsInst
import HandS.WordsExc
import HandS.Text
import HandS.Head0
import HandS.Head1
import HandS.Head2
import HandS.HeadEnd
import HandS.HeadHook1
import KE.KStateDown
import PyProof.Rows.StrIntSpec
import HandS.Star
import HandS.OwnEq
import HandS.FStr
import HandS.MakeKw
import HandS.Codes
import KE.KOpsOwn
import KE.KCallOwn
import PyProof.FString3
import PySem.Challenge.RW_leastrooms_k50_lines_as_text
set_option Elab.async false
set_option linter.all false
set_option maxRecDepth 100000
set_option maxHeartbeats 4000000
/-! own exceptions under ValueError, KeyError, RuntimeError, as values -/
namespace LR
open PySem PySem.W PySem.Calls PyProof.Rows Builtin Builtin.ObjectAttr
/-- a family of own exceptions: the built-in class that makes them, and the end of their mro -/
structure Kd where
  B : String
  nid : String
  iid : String
  bmB : List Value
  tl : List Value
  F : ExcBaseFacts B nid iid bmB
  hB : tl.contains (.type B) = true
  hA : tl.contains (.type "AttributeError") = false
  hN : tl.contains (.type "NameError") = false
  hO : tl.contains (.type "object") = true
  hE : tl.contains (.type "BaseException") = true
  pass : ∀ self, refuseLoop self "__setattr__" tl = pure ()
def tlV : List Value := [.type "ValueError", .type "Exception", .type "BaseException", .type "object"]
def tlK : List Value := [.type "KeyError", .type "LookupError", .type "Exception", .type "BaseException", .type "object"]
def tlR : List Value := [.type "RuntimeError", .type "Exception", .type "BaseException", .type "object"]
def xV : Kd := ⟨_, _, _, _, tlV, F.excBase_ValueError, by decide +kernel, by decide +kernel, by decide +kernel, by decide +kernel, by decide +kernel, fun self => F.store_ValueError.passes self⟩
def xK : Kd := ⟨_, _, _, _, tlK, F.excBase_LookupError, by decide +kernel, by decide +kernel, by decide +kernel, by decide +kernel, by decide +kernel, fun self => by kernel_rfl⟩
def xR : Kd := ⟨_, _, _, _, tlR, F.excBase_RuntimeError, by decide +kernel, by decide +kernel, by decide +kernel, by decide +kernel, by decide +kernel, fun self => F.store_RuntimeError.passes self⟩

section
variable {M : Model} {A : Around} {E : Value → Shared → Prop} {h : Heap} {g : Array GenState} {d : Drawn} {t : Nat} {os : OsState}
variable {nm q : Str} {C N : Addr} {bs bm : List Value} {hdct : Bool} {sn : List Str} {sub : List Value} {ab : Bool} {col : Option Bool} {dd : Option Addr} {k0 k1 k2 k3 k5 : Option Value}
theorem Kd.has (k : Kd) (ht : excTail k.tl bm = true) (X : String) {b : Bool} (e : k.tl.contains (.type X) = b) : (Value.ref C :: bm).contains (.type X) = b := by
  rw [List.contains_cons, excTail_contains X bm ht, e]
  cases b <;> rfl
theorem chk_new (k : Kd) (ht : excTail k.tl bm = true) {rest : List Value} {Q : Unit → Shared → Prop}
    (hC : h.get? C = some (excClassObj nm q C N bs bm hdct sn sub ab col dd k0 k1 k2 k3 k5 k.nid)) (hq : Q () ⟨h, g, d, t, os⟩) :
    wpAny M A (checkBuiltinCall k.nid ⟨.ref C :: rest, []⟩) Q E ⟨h, g, d, t, os⟩ := by
  have c1 : (Value.ref C :: bm).contains (.type k.B) = true := k.has ht _ k.hB
  have nst := k.F.noStar
  simp only [checkBuiltinCall, k.F.newKind, k.F.newSplit, k.F.newRow]
  repeat (first
    | refine wpAny_loadPart_at hC ?_
    | (refine wpAny_isSubtype_exc hC ?_; rw [c1])
    | refine wpAny_staticBase_exc hC ?_
    | refine wpAny_madeBy_exc hC ?_
    | simp only [bne_self_eq_false, Bool.false_eq_true, if_false]
    | wp_step)
  exact hq
end
section
variable {prog : Program} {w : World} {A : Around} {E : Value → Shared → Prop} {R : Result → Shared → Prop} {h : Heap} {g : Array GenState} {d : Drawn} {t : Nat} {os : OsState}
variable {nm q : Str} {C N : Addr} {bs bm : List Value} {hdct : Bool} {sn : List Str} {sub : List Value} {ab : Bool} {col : Option Bool} {dd : Option Addr} {k0 k1 k2 k3 k5 : Option Value}
theorem run_new (k : Kd) (ht : excTail k.tl bm = true) {rest : List Value}
    (hC : h.get? C = some (excClassObj nm q C N bs bm hdct sn sub ab col dd k0 k1 k2 k3 k5 k.nid))
    (hq : R (.ok (.ret (.ref (h.objs.size + 1)))) ⟨(h.push (kdv_tup rest)).push (HandSPX.excO C h.objs.size), g, d, t, os⟩) (hr : rest.length ≤ sizeLine) :
    codeAny (model prog w) A (.builtin k.nid ⟨.ref C :: rest, []⟩) R ⟨h, g, d, t, os⟩ := by
  have en := k.F.ends
  have c1 : (Value.ref C :: bm).contains (.type k.B) = true := k.has ht _ k.hB
  have c2 : (Value.ref C :: bm).contains (.type "AttributeError") = false := k.has ht _ k.hA
  have c3 : (Value.ref C :: bm).contains (.type "NameError") = false := k.has ht _ k.hN
  refine codeAny_builtinAt k.F.entry ?_
  unfold Builtin.«BaseException.__new__»
  refine PySem.wpAt_bind ?_
  show PySem.wpAt _ _ _ (stack >>= _) _ _ _
  refine PySem.wpAt_bind (PySem.wpAt_stack fun p below => PySem.wpAt_of_wpAny ?_)
  wp_walk
  refine PySem.wpAt_of_wpAny ?_
  rw [k.F.owner]
  repeat (first
    | with_reducible refine wpAny_madeHere_exc k.F.canon hC ?_
    | with_reducible refine wpAny_loadPart_at hC ?_
    | (with_reducible refine wpAny_isSubtype_exc hC ?_; first | rw [c1] | rw [c2] | rw [c3])
    | wp_step)
  show R _ _
  rw [Heap.size_push]
  exact hq
theorem run_type (k : Kd) (ht : excTail k.tl bm = true) {rest : List Value} {fI : Addr} {Q : Fin → Shared → Prop}
    (hC : h.get? C = some (excClassObj nm q C N bs bm hdct sn sub ab col dd k0 k1 k2 k3 k5 k.nid))
    (hi : Looks (model prog w) h (typeLookup (.ref C) "__init__") (some (.ref fI))) (hb : ∀ self, Looks (model prog w) h (bindSpecial (.ref fI) self) (.ref fI, [self])) (hr : rest.length ≤ sizeLine)
    (hq : codeAny (model prog w) A (.call (.ref fI) ⟨.ref (h.objs.size + 1) :: rest, []⟩)
      (fun r s' => match r with | .ok (.ret v) => v = .none ∧ Q (.done (.ret (.ref (h.objs.size + 1)))) s' | .ok _ => False | .error e => E e s')
      ⟨(h.push (kdv_tup rest)).push (HandSPX.excO C h.objs.size), g, d, t, os⟩) :
    wpAny (model prog w) A (Builtin.«type.__call__» ⟨.ref C :: rest, []⟩) Q E ⟨h, g, d, t, os⟩ := by
  repeat (first
    | with_reducible refine wpAny_loadPart_at hC ?_
    | with_reducible refine wpAny_madeBy_exc hC ?_
    | wp_step)
  refine codeAny_call_builtin_code (Code.quiet_builtin _ k.F.quiet) (chk_new k ht hC (run_new k ht hC ?_ hr))
  show wpAny _ _ _ _ _ _
  have kp : ∀ b o, h.get? b = some o → ((h.push (kdv_tup rest)).push (HandSPX.excO C h.objs.size)).get? b = some o := fun b o e =>
    Heap.get?_push_of_some _ (Heap.get?_push_of_some _ e)
  have hC1 := kp _ _ hC
  have hnew : ((h.push (kdv_tup rest)).push (HandSPX.excO C h.objs.size)).get? (h.objs.size + 1) = some (HandSPX.excO C h.objs.size) := by heap_get
  have self1 : (Value.ref C :: bm).contains (.ref C) = true := by simp
  have i1 := hi.keeps kp
  have b1 := (hb (.ref (h.objs.size + 1))).keeps kp
  unfold isInstance
  repeat (first
    | with_reducible refine wpAny_loadPart_at hnew ?_
    | (with_reducible refine wpAny_isSubtype_exc hC1 ?_; rw [self1])
    | wp_step)
  show wpAny _ _ (typeLookup (.ref C) _) _ _ _
  refine i1.at (wpAny_holding (wpAny_bind (b1.at ?_)))
  refine wpAny_bind (wpAny_call (codeAny_mono hq fun r s' z => ?_))
  rcases r with e | (v | _ | _ | _) <;> first | exact z | exact z.elim | skip
  obtain ⟨rfl, z⟩ := z
  first
    | exact wpAny_pure (wpAny_pure z)
    | (wp_walk; exact z)
/-- C(rest), C with an own __init__ at fI -/
theorem run_class (k : Kd) (ht : excTail k.tl bm = true) {rest : List Value} {fI : Addr}
    (hC : h.get? C = some (excClassObj nm q C N bs bm hdct sn sub ab col dd k0 k1 k2 k3 k5 k.nid))
    (hi : Looks (model prog w) h (typeLookup (.ref C) "__init__") (some (.ref fI))) (hb : ∀ self, Looks (model prog w) h (bindSpecial (.ref fI) self) (.ref fI, [self])) (hr : rest.length ≤ sizeLine)
    (hq : codeAny (model prog w) (A.under (.builtin "type.__call__" ⟨.ref C :: rest, []⟩)) (.call (.ref fI) ⟨.ref (h.objs.size + 1) :: rest, []⟩) (InitBack (h.objs.size + 1) R)
      ⟨(h.push (kdv_tup rest)).push (HandSPX.excO C h.objs.size), g, d, t, os⟩) :
    codeAny (model prog w) A (.call (.ref C) ⟨rest, []⟩) R ⟨h, g, d, t, os⟩ := by
  have f1 := tc_lookup
  have f2 := tc_bind (.ref C)
  have hTy : (⟨h, g, d, t, os⟩ : Shared).TypeIs (.ref C) "type" := ⟨_, hC, rfl⟩
  refine codeAny_of_tree ?_
  show wpAny _ _ (callAny (.ref C) _) _ _ _
  repeat (any_goals (first
    | assumption
    | with_reducible refine wpAny_loadPart_at hC ?_
    | wp_step))
  refine ⟨rfl, codeAny_call_builtin_at (Code.quiet_builtin _ (by decide +kernel)) entry_typeCall (wpAny_check_type_call_sub hC (run_type k ht hC hi hb hr ?_))⟩
  refine codeAny_mono hq fun r s' z => ?_
  rcases r with e | (v | _ | _ | _) <;> exact z
end
end LR

set_option maxHeartbeats 4000000
namespace LR
open PySem PySem.W PySem.Calls PyProof.Rows Builtin Builtin.ObjectAttr
theorem sfK : StoreFacts "KeyError" tlK "object.__setattr__" "object" :=
  { F.store_object with
    mro := by kernel_rfl
    hasOwner := by decide +kernel
    passes := fun self => xK.pass self
    slot := .of (owner := "object") (n := "__setattr__")
      (by rw [typeLookup_type, builtinLookup_eq_fast]; kernel_rfl)
      (by decide +kernel) (by decide +kernel) (by decide +kernel)
      (by first
          | exact .inl (by decide +kernel)
          | exact .inr (by decide +kernel))
      (by rw [isSubtype_type]; kernel_rfl) }
/-- a store by the object's own rule is known for the family -/
def Kd.SF (k : Kd) : Prop := ∃ B, StoreFacts B k.tl "object.__setattr__" "object"
theorem sV : xV.SF := ⟨_, F.store_ValueError⟩
theorem sK : xK.SF := ⟨_, sfK⟩
theorem sR : xR.SF := ⟨_, F.store_RuntimeError⟩
/-- what the written part says of an exception class at C -/
structure XC (K : Frag) (k : Kd) (C : Addr) : Prop where
  cls : ∃ nm q N bs bm sn sub ab col dd k0 k1 k2 k3 k5, K.lookup C = some (excClassObj nm q C N bs bm true sn sub ab col dd k0 k1 k2 k3 k5 k.nid) ∧ excTail k.tl bm = true
  sa : findIn K (.ref C) "__setattr__" = some (some (.builtin "object.__setattr__"))
  ga : findIn K (.ref C) "__getattribute__" = some (some (.builtin "BaseException.__getattribute__"))
  gg : findIn K (.ref C) "__getattr__" = some none
  cl : findIn K (.ref C) "__class__" = some (some (.builtin "object.__class__"))
  kC : keepIn K (.ref C) = true
section
variable {K : Frag} {k : Kd} {C : Addr}
theorem XC.cd (T : XC K k C) : ∃ cd bm, clsIn K C = some cd ∧ cd.mro = .ref C :: bm ∧ excTail k.tl bm = true ∧ cd.hasDict = true := by
  obtain ⟨nm, q, N, bs, bm, sn, sub, ab, col, dd, k0, k1, k2, k3, k5, hC, hb⟩ := T.cls
  exact ⟨_, bm, by unfold clsIn; rw [hC], rfl, hb, rfl⟩
theorem XC.isC (T : XC K k C) : (clsIn K C).isSome = true := by
  obtain ⟨cd, bm, h, _⟩ := T.cd
  rw [h]; rfl
theorem XC.hd (T : XC K k C) : hasDictIn K C = true := by
  obtain ⟨cd, bm, h, _, _, hd⟩ := T.cd
  unfold hasDictIn; rw [h]; exact hd
theorem XC.over (T : XC K k C) : excOver K C k.tl = true := by
  obtain ⟨cd, bm, h, hm, hb, _⟩ := T.cd
  unfold excOver; rw [h]
  simp [hm, hb]
theorem XC.sub (T : XC K k C) (X : String) (e : k.tl.contains (.type X) = true) : mroIn K C (.type X) = some true := by
  obtain ⟨cd, bm, h, hm, hb, _⟩ := T.cd
  unfold mroIn
  rw [h, Option.bind_some, hm]
  show some ((Value.ref C :: bm).contains (.type X)) = some true
  rw [k.has hb X e]
theorem XC.tyC (T : XC K k C) : typeIn K (.ref C) = some (.type "type") := by
  obtain ⟨nm, q, N, bs, bm, sn, sub, ab, col, dd, k0, k1, k2, k3, k5, hC, hb⟩ := T.cls
  show Option.map (fun x => x.cls) (List.lookup C K) = _
  rw [hC]; rfl
end
theorem noTake {K : Frag} {C : Addr} {f : Str} (h : findIn K (.ref C) f = some none) : takerIn K C f = some none := by
  unfold takerIn; rw [h]; rfl
section
variable {prog : Program} {w : World} {A : Around} {E : Value → Shared → Prop} {R : Result → Shared → Prop} {hp : Heap} {g : Array GenState} {d : Drawn} {t : Nat} {os : OsState}
variable {K : Frag} {k : Kd} {C x : Addr} {name : Str} {tk : Tok} {v : Value} {fv : Array Value}
theorem osa_first (S : k.SF) (T : XC K k C) (X : K.In hp) (hx : hp.get? x = some { cls := .ref C, data := .fields fv }) (hno : findIn K (.ref C) name = some none)
    (hq : ∀ h' tk' dx, (∀ b o, b ≠ x → hp.get? b = some o → h'.get? b = some o) → hp.objs.size ≤ dx → dx ≠ x → h'.get? x = some { cls := .ref C, dict := some dx, data := .fields fv } →
      h'.Ns1 dx (fun y => if y = name then some v else none) → R (.ok (.ret .none)) ⟨h', g, d, tk', os⟩) :
    codeAny (model prog w) A (.call (.builtin "object.__setattr__") ⟨[.ref x, .str name tk, v], []⟩) R ⟨hp, g, d, t, os⟩ := by
  obtain ⟨B, SF⟩ := S
  obtain ⟨cd, bm, hcd, hm, hb, hh⟩ := T.cd
  have I : InstAt hp x { cls := .ref C, data := .fields fv } C none := ⟨hx, rfl, rfl, trivial⟩
  have nx : x ≠ hp.objs.size := Nat.ne_of_lt (Heap.lt_size hx)
  have hcls : Looks (model prog w) hp (classData C) cd := looks_clsIn X hcd
  refine osa_openX (s := ⟨hp, g, d, t, os⟩) (r := none) SF X I T.over (noTake hno) fun b => ?_
  obtain ⟨nm, bs, mro, ns, qn, hd, sn, sb, ab, col, del⟩ := cd
  dsimp only at hh
  subst hh
  dsimp only
  unfold storeInOwnDict ownDictForStores
  repeat (first
    | with_reducible refine HandSPX.store_in_new ?_ ?_
    | with_reducible refine wpAny_loadPart_at hx ?_
    | with_reducible refine hcls.at ?_
    | wp_step)
  · exact ⟨_, #[], _, (Heap.get?_update_ne _ _ _ _ nx.symm).trans (Heap.get?_push_at rfl rfl), rfl, fun e he => absurd he (by simp), fun _ => rfl⟩
  · intro h' tk' hn' hs
    have hx1 : (hp.push { cls := .type "dict", data := .dict #[] }).get? x = some { cls := .ref C, data := .fields fv } := Heap.get?_push_of_some _ hx
    refine hq h' tk' hp.objs.size (fun b o ne ho => ?_) (Nat.le_refl _) nx.symm ?_ hn'
    · have z1 := Heap.get?_push_of_some { cls := .type "dict", data := .dict #[] } ho
      have z2 := hs.2 b (Nat.ne_of_lt (Heap.lt_size ho))
      exact z2.trans ((Heap.get?_update_ne _ _ _ _ ne).trans z1)
    · exact (hs.2 x nx).trans (Heap.get?_update_self _ hx1 rfl)
theorem osa_later {dx : Addr} {m0 : Str → Option Value} {nl : List Str} (S : k.SF) (T : XC K k C) (X : K.In hp) (hx : hp.get? x = some { cls := .ref C, dict := some dx, data := .fields fv })
    (hns : hp.Ns1 dx m0) (hw : Within m0 nl) (hz : nl.length ≤ 1000) (hno : findIn K (.ref C) name = some none)
    (hq : ∀ h' tk', (∀ b o, b ≠ dx → hp.get? b = some o → h'.get? b = some o) → h'.Ns1 dx (fun y => if y = name then some v else m0 y) → R (.ok (.ret .none)) ⟨h', g, d, tk', os⟩) :
    codeAny (model prog w) A (.call (.builtin "object.__setattr__") ⟨[.ref x, .str name tk, v], []⟩) R ⟨hp, g, d, t, os⟩ := by
  obtain ⟨B, SF⟩ := S
  obtain ⟨cd, bm, hcd, hm, hb, hh⟩ := T.cd
  obtain ⟨oD, _, _, hoD, _, _⟩ := hns.count hw
  have I : InstAt hp x { cls := .ref C, dict := some dx, data := .fields fv } C (some oD) := ⟨hx, rfl, rfl, hoD⟩
  have hcls : Looks (model prog w) hp (classData C) cd := looks_clsIn X hcd
  refine osa_openX (s := ⟨hp, g, d, t, os⟩) (r := none) SF X I T.over (noTake hno) fun b => ?_
  obtain ⟨nm, bs, mro, ns, qn, hd, sn, sb, ab, col, del⟩ := cd
  dsimp only at hh
  subst hh
  dsimp only
  unfold storeInOwnDict ownDictForStores
  repeat (first
    | with_reducible refine OEX.store_in_old hns hw hz ?_
    | with_reducible refine wpAny_loadPart_at hx ?_
    | with_reducible refine hcls.at ?_
    | wp_step)
  intro h' tk' hn' hs
  exact hq h' tk' (fun b o ne ho => (hs.2 b ne).trans ho) hn'
end
end LR

set_option maxHeartbeats 4000000
namespace L2.Lr
open PySem PySem.Spec PyProof.Rows LR
/-- at a: an exception of the class at C, its dict (none as yet | at d) -/
abbrev xo (a C : Addr) (d : Option Addr) : HO := exo a C d
theorem xo_at {P : Program} {w : World} {H : Hp} {h : Heap} {a C : Addr} {d : Option Addr} (hok : HOk P w H h) (e : H a = some (xo a C d)) : ∃ t1 : Addr, h.get? a = some ({ cls := .ref C, dict := d, data := .fields #[.ref t1, .none, .none, .none, .bool false, .none] } : Obj) := exo_at hok e
theorem xo_ok {P : Program} {w : World} {H : Hp} {h : Heap} {a C t1 : Addr} {d : Option Addr} (e : h.get? a = some ({ cls := .ref C, dict := d, data := .fields #[.ref t1, .none, .none, .none, .bool false, .none] } : Obj)) : ObjOk P w H h a (xo a C d) := exo_ok e
theorem xo_ne {a C : Addr} {d : Option Addr} {o : HO} (n : ∀ φ, HO.ext φ ≠ o) : xo a C d ≠ o := n _
section
variable {X : Cx} {pins : List (Addr × Obj)} {σ : St} {H : Hp} {s : Shared} {a C dx : Addr} {f : Str} {y : V} {u : Value} {fs : List (Str × V)} {Q : Unit → Shared → Prop} {E : Value → Shared → Prop} {A : Around} {k : Kd}
/-- self.f = y, the first field -/
theorem st_first (S : k.SF) (T : XC X.K k C) (I : Inv X pins σ H s) (e : H a = some (xo a C none)) (hno : PySem.W.findIn X.K (.ref C) f = some none) (ry : RelV y u)
    (go : ∀ dx s', H dx = none → dx ≠ a → Inv X pins σ (upd (upd H dx (exd dx [(f, y)])) a (xo a C (some dx))) s' → Q () s') : wpAny (model X.prog X.w) A (setAttr (.ref a) f u) Q E s := by
  obtain ⟨fv, ho⟩ := xo_at I.hok e
  obtain ⟨hp, g, d, t, os⟩ := s
  refine PySem.W.set_plain I.kIn (ox := { cls := .ref C, dict := none, data := .fields #[.ref fv, .none, .none, .none, .bool false, .none] }) (od := none) ⟨ho, rfl, rfl, trivial⟩ T.sa (osa_first S T I.kIn ho hno fun h' tk' dx kk dn dne hx hn => ?_)
  have fresh : H dx = none := I.hok.fresh dn
  have old : ∀ {b : Addr} {o : Obj}, hp.get? b = some o → b ≠ dx := fun {b o} q => Nat.ne_of_lt (Nat.lt_of_lt_of_le (Heap.lt_size q) dn)
  have off : ∀ {b : Addr}, H b = none → b ≠ a := fun {b} n z => by
    rw [z, e] at n
    cases n
  have own : ∀ {b c : Addr}, H b = some (.own c) → b ≠ a := fun {b c} q => at_ne e q (xo_ne fun _ z => by cases z)
  have tup : ∀ {b : Addr} {xs : List V}, H b = some (.tup xs) → b ≠ a := fun {b xs} q => at_ne e q (xo_ne fun _ z => by cases z)
  have frz : ∀ {b : Addr} {o : Obj} {v : HO}, H b = some (.frz o v) → b ≠ a := fun {b o v} q => at_ne e q (xo_ne fun _ z => by cases z)
  have tbl : ∀ {b : Addr} {ps : Array Value}, H b = some (.tbl ps) → b ≠ a := fun {b ps} q => at_ne e q (xo_ne fun _ z => by cases z)
  have U : Un X.fs [] H (upd (upd H dx (exd dx [(f, y)])) a (xo a C (some dx))) hp h' :=
    ⟨fun b o q n _ _ => kk b o (off n) q, fun b o q n _ _ => ⟨o.slots, kk b o (off n) q⟩,
     fun b o q n _ => (upd_ne (off n)).trans ((upd_ne (old q)).trans n),
     fun b o q _ => (Classical.em (b = a)).elim (fun hb => hb.symm ▸ (⟨_, hx⟩ : ∃ o', h'.get? a = some o')) fun hb => ⟨o, kk b o hb q⟩,
     fun b xs q => (upd_ne (tup q)).trans ((upd_ne (ne_of_none q fresh)).trans q),
     fun b o v q => (upd_ne (frz q)).trans ((upd_ne (ne_of_none q fresh)).trans q),
     fun b ps q => ⟨#[], by rw [upd_ne (tbl q), upd_ne (ne_of_none q fresh), q]; simp⟩⟩
  refine go dx _ fresh dne (I.un (t' := tk') U fun b o q => ?_)
  by_cases hb : b = a
  · subst hb
    cases upd_same.symm.trans q
    exact xo_ok hx
  · rw [upd_ne hb] at q
    by_cases hd : b = dx
    · subst hd
      cases upd_same.symm.trans q
      exact exd_ok hn (relO_put (fs := []) ry fun g => True.intro)
    · rw [upd_ne hd] at q
      refine (I.hok b o q).stay (fun c v hc z => kk c v ?_ z) (fun c hc => (upd_ne (own hc)).trans ((upd_ne (ne_of_none hc fresh)).trans hc)) fun c xs hc => (upd_ne (tup hc)).trans ((upd_ne (ne_of_none hc fresh)).trans hc)
      rcases hc with hc | hc
      · rw [hc]; exact hb
      · exact own hc
/-- self.f = y, a later field -/
theorem st_later (S : k.SF) (T : XC X.K k C) (I : Inv X pins σ H s) (e : H a = some (xo a C (some dx))) (ed : H dx = some (exd dx fs)) (hl : fs.length ≤ 900) (hno : PySem.W.findIn X.K (.ref C) f = some none) (ry : RelV y u)
    (go : ∀ s', Inv X pins σ (upd H dx (exd dx ((f, y) :: fs))) s' → Q () s') : wpAny (model X.prog X.w) A (setAttr (.ref a) f u) Q E s := by
  obtain ⟨fv, ho⟩ := xo_at I.hok e
  obtain ⟨mA, hns, rel⟩ := exd_at I.hok ed
  have hw := within_of rel
  obtain ⟨hp, g, d, t, os⟩ := s
  obtain ⟨oD, _, _, hoD, _, _⟩ := hns.count hw
  refine PySem.W.set_plain I.kIn (ox := { cls := .ref C, dict := some dx, data := .fields #[.ref fv, .none, .none, .none, .bool false, .none] }) (od := some oD) ⟨ho, rfl, rfl, hoD⟩ T.sa (osa_later S T I.kIn ho hns hw (by rw [List.length_map]; omega) hno fun h' tk' kk hn => ?_)
  have there : ∃ o, h'.get? dx = some o := by
    obtain ⟨o, _, _, e', _⟩ := hn
    exact ⟨o, e'⟩
  exact go _ (I.write (t' := tk') (x := dx) (e := dx) (o := exd dx ((f, y) :: fs)) (by rw [ed]; exact True.intro) (.inl rfl) kk there (exd_ok hn (relO_put ry rel)))
end
/-! ### readings -/
/-- self.f = e -/
def tStX (K : PySem.W.Frag) (f : Str) (to te : TE) : TS := fun D σ H => te σ H fun y H1 => to σ H1 fun x H2 => ∃ (a C : Addr) (k : Kd), x = .ref a ∧ k.SF ∧ XC K k C ∧ PySem.W.findIn K (.ref C) f = some none ∧
  ((H2 a = some (xo a C none) ∧ ∀ dx, H2 dx = none → dx ≠ a → D.nx σ (upd (upd H2 dx (exd dx [(f, y)])) a (xo a C (some dx)))) ∨
    ∃ (dx : Addr) (fs : List (Str × V)), H2 a = some (xo a C (some dx)) ∧ H2 dx = some (exd dx fs) ∧ fs.length ≤ 900 ∧ D.nx σ (upd H2 dx (exd dx ((f, y) :: fs))))
/-- C(e, ..), C's __init__ keeping sp: the new exception as a value -/
def tMkX (C : Addr) (sp : Sp) (dvs : List V) (ta : TA) : TE := fun σ H Q => ta σ H fun vs H1 => vs.length ≤ 1000 ∧ ∀ a, H1 a = none → sp (.ref a :: (vs ++ dvs)) (upd H1 a (xo a C none)) (fun v H2 => v = .non ∧ Q (.ref a) H2) (fun _ _ _ => False)
/-- e.n of such an exception -/
def tAtX (K : PySem.W.Frag) (n : Str) (te : TE) : TE := fun σ H Q => te σ H fun x H1 => ∃ (a C dx : Addr) (fs : List (Str × V)) (v : V) (k : Kd), x = .ref a ∧ H1 a = some (xo a C (some dx)) ∧ H1 dx = some (exd dx fs) ∧ XC K k C ∧
  PySem.W.findIn K (.ref C) n = some none ∧ fs.lookup n = some v ∧ Q v H1
/-- isinstance(e, c) -/
def rIsX (K : PySem.W.Frag) : List V → Hp → VK → Prop := fun xs H Q => ∃ (a C : Addr) (d : Option Addr) (k : Kd) (c : V) (cv : Value) (b : Bool), xs = [.ref a, c] ∧ (∀ u, RelV c u → u = cv) ∧ H a = some (xo a C d) ∧
  (∀ dx, d = some dx → ∃ o, H dx = some o) ∧ XC K k C ∧ PySem.W.kitOne K (.ref C) cv = some b ∧ Q (.bl b) H
theorem oc_get {K : PySem.W.Frag} : PySem.W.specialIn K (.builtin "object.__class__") "__get__" = some (some (.builtin "getset_descriptor.__get__")) := by kernel_rfl
theorem oc_take {K : PySem.W.Frag} : PySem.W.takesIn K (.builtin "object.__class__") = some true := by kernel_rfl
section
variable {X : Cx} {o e : Expr} {es : List Expr} {to te : TE} {ta : TA} {f : Str} {p p' p1 p2 pos : Pos}
theorem inst_of {pins : List (Addr × Obj)} {σ : St} {H : Hp} {s : Shared} {a C : Addr} {d : Option Addr} (I : Inv X pins σ H s) (e : H a = some (xo a C d)) (hd : ∀ dx, d = some dx → ∃ o, H dx = some o) :
    ∃ (ox : Obj) (od : Option Obj), PySem.W.InstAt s.heap a ox C od ∧ ∀ dx, d = some dx → ∃ q, od = some q ∧ s.heap.get? dx = some q := by
  obtain ⟨fv, ho⟩ := xo_at I.hok e
  cases d with
  | none => exact ⟨_, none, ⟨ho, rfl, rfl, trivial⟩, fun dx z => by cases z⟩
  | some dx =>
    obtain ⟨q, hq⟩ := hd dx rfl
    obtain ⟨ob, hb⟩ : ∃ ob, s.heap.get? dx = some ob := by
      have z := (I.hok dx q hq).lt
      cases r : s.heap.get? dx with
      | some ob => exact ⟨ob, rfl⟩
      | none => exact absurd r (by
          have zz := I.hok dx q hq
          cases q with
          | lst xs => obtain ⟨_, _, _, _, e1⟩ := zz; rw [e1]; simp
          | tup xs => obtain ⟨_, _, _, o1, e1, _⟩ := zz; rw [e1]; simp
          | dK kvs => obtain ⟨_, _, _, _, o1, _, _, e1, _⟩ := zz; rw [e1]; simp
          | dT kvs => obtain ⟨_, _, _, _, o1, _, _, e1, _⟩ := zz; rw [e1]; simp
          | set S n => obtain ⟨o1, _, _, _, e1, _⟩ := zz; rw [e1]; simp
          | ins C1 d1 f1 => obtain ⟨_, _, _, e1, _⟩ := zz; rw [e1]; simp
          | own y => obtain ⟨_, e1⟩ := zz; rw [e1]; simp
          | xd fs => obtain ⟨_, ⟨_, _, _, e1, _⟩, _⟩ := zz; rw [e1]; simp
          | rng lo hi => obtain ⟨_, _, _, e1⟩ := zz; rw [e1]; simp
          | frz ob u => obtain ⟨e1, _⟩ := zz; rw [e1]; simp
          | tbl ps => have e1 : s.heap.get? dx = some _ := zz; rw [e1]; simp
          | met f1 y => have e1 : s.heap.get? dx = some _ := zz; rw [e1]; simp
          | ext φ => obtain ⟨_, ⟨_, e1⟩, _⟩ := zz; rw [e1]; simp)
    exact ⟨_, some ob, ⟨ho, rfl, rfl, hb⟩, fun dy z => by cases z; exact ⟨ob, rfl, hb⟩⟩
theorem ps_stX (ho : PE X o to) (he : PE X e te) (hs : swapsWith e (some (.Attribute o f p')) pos.line X.env = pure false := by rfl) : PS X (.Assign [.Attribute o f p'] e pos) (tStX X.K f to te) := by
  refine ⟨fun pins s σ H D I hh => plainObj_wpAny_Assign_Attribute (thn (he.run pins s σ H _ I hh) fun v s1 ⟨y, H1, I1, r1, q1⟩ => thn (ho.run pins s1 σ H1 _ I1 q1) fun u s2 ⟨x, H2, I2, r2, q⟩ => ?_) hs⟩
  obtain ⟨a, C, k, rfl, S, T, hno, q⟩ := q
  cases (show u = Value.ref a from r2)
  rcases q with ⟨ea, q⟩ | ⟨dx, fs, ea, ed, hl, q⟩
  · exact st_first S T I2 ea hno r1 fun dx s' n ne J => ⟨σ, _, J, q dx n ne⟩
  · exact st_later S T I2 ea ed hl hno r1 fun s' J => ⟨σ, _, J, q⟩
theorem pe_mkX {CX : CXT} {x : Str} {C fI : Addr} {j : Nat} {fd : FuncData} {ps : List Str} {sp : Sp} {ds : List Value} {dvs : List V} {k : Kd} (T : XC X.K k C) (iC : PySem.W.findIn X.K (.ref C) "__init__" = some (some (.ref fI))) (tI : PySem.W.typeIn X.K (.ref fI) = some (.type "function"))
    (F1 : FnOk X.prog X.w X.K X.mg X.base CX j fI fd ps sp) (hr : Room (j + 1) X.A) (hb : Binds X.K fd ps ds) (hd : Vals dvs ds) (hx : Passes CX X (fun _ _ _ => False)) (hg : Gl X x) (hm : X.mg x = some (.ref C)) (ha : PA X (e :: es) ta)
    (hdb : (x == ("__debug__" : Str)) = false := by decide) (he : starEach (e :: es) X.env = (false, eval e X.env) :: starEach es X.env := by rfl) (hpl : (backTo pos (starEach es X.env)).any (·.1) = false := by rfl) :
    PE X (.Call (.Name x p) (e :: es) [] pos) (tMkX C sp dvs ta) := by
  refine ⟨fun pins s σ H Q I hh => ?_⟩
  obtain ⟨nm, q, N, bs, bm, sn, sub, ab, col, dd, k0, k1, k2, k3, k5, hC, hbm⟩ := T.cls
  refine wpAny_Call_Name_kw (ld_glob I hg hm ?_ hdb)
  refine PySem.W.callWith_K (h₀ := X.base) I.ok.mod.kin T.kC (thn (ha.run pos pins s σ H _ I hh) fun us s1 ⟨vs, H1, I1, r1, hz, q1⟩ => ⟨I1.kIn, ?_⟩) he hpl
  show wpAny _ _ (call (.ref C) us) _ _ _
  obtain ⟨hp, g, dr, tk, os⟩ := s1
  obtain ⟨na, ena⟩ : ∃ na, na = hp.objs.size + 1 := ⟨_, rfl⟩
  have hsz : hp.objs.size ≤ na := by omega
  have hn : H1 na = none := I1.hok.fresh hsz
  have hq := q1 na hn
  obtain ⟨G, eG⟩ : ∃ G, G = (hp.push (PySem.W.kdv_tup us)).push (PySem.HandSPX.excO C hp.objs.size) := ⟨_, rfl⟩
  have kk : ∀ b o, hp.get? b = some o → G.get? b = some o := fun b o e1 => by rw [eG]; exact Heap.get?_push_of_some _ (Heap.get?_push_of_some _ e1)
  have there : G.get? na = some (PySem.HandSPX.excO C hp.objs.size) := by rw [eG, ena]; heap_get
  have I2 : Inv X pins σ (upd H1 na (xo na C none)) ⟨G, g, dr, tk, os⟩ := I1.laid (t' := tk) (a := na) (o := xo na C none) (h' := G) kk hsz (xo_ok there)
  have r2 : Vals (V.ref na :: (vs ++ dvs)) (Value.ref na :: (us ++ ds)) := .cons rfl (r1.append hd)
  have hl : (Value.ref na :: us ++ ds).length = ps.length := by
    have e1 := r2.length
    rw [F1.len _ _ _ _ hq] at e1
    exact e1.symm
  have hus : us.length ≤ sizeLine := by
    rw [← Paired.length r1, sizeLine_eq]
    omega
  refine wpAny_call (run_class k hbm (I1.kIn _ _ hC) (PySem.W.looks_findIn I1.kIn iC) (fun self => PySem.W.bind_fn I1.kIn self tI) hus ?_)
  rw [← eG, ← ena]
  refine codeAny_mono (F1.run _ X.stack _ _ ⟨Value.ref na :: us, []⟩ (Value.ref na :: (us ++ ds)) _ _ (fun _ _ _ => False) (hr.make C us []) (I2.env0.make C us []) (hb _ (Value.ref na :: us) I2.kIn hl) r2 hq) fun r s' hq' => ?_
  cases r with
  | error er => exact hx pins σ _ _ er s' I2 hq'
  | ok fl =>
    cases fl with
    | ret u =>
      obtain ⟨v, H2, os2, bare2, un2, hok2, rv, ev, q2⟩ := hq'
      subst ev
      exact ⟨rv, .ref na, H2, I2.call' (ch := []) os2 un2 hok2 bare2 fun b z => absurd z (by simp), rfl, q2⟩
    | next => exact False.elim hq'
    | brk => exact False.elim hq'
    | cont => exact False.elim hq'
theorem pe_atX {n : Str} (he : PE X e te) (hb : attributeBase e n X.env (eval e X.env) = eval e X.env := by rfl) : PE X (.Attribute e n pos) (tAtX X.K n te) := by
  refine ⟨fun pins s σ H Q I hh => attr_of hb (thn (he.run pins s σ H _ I hh) fun u s1 ⟨x, H1, I1, rx, q⟩ => ?_)⟩
  obtain ⟨a, C, dx, fs, v, k, rfl, ea, ed, T, hno, l, q⟩ := q
  cases (show u = Value.ref a from rx)
  obtain ⟨ox, od, J, hd⟩ := inst_of I1 ea fun d z => by cases z; exact ⟨_, ed⟩
  obtain ⟨ob, eo, ho⟩ := hd dx rfl
  obtain ⟨mA, hns, hr⟩ := exd_at I1.hok ed
  obtain ⟨o2, ho2, hl⟩ := lookIn_ns hns
  cases ho.symm.trans ho2
  subst eo
  obtain ⟨z, hz, rz⟩ := RelO.some_of (v := v) (o := mA n) (by rw [← l]; exact hr n)
  exact HandSPX.exc_get I1.kIn J T.ga T.gg (T.sub "BaseException" k.hE) (PySem.W.findObj_own T.hd hno rfl (by rw [hl, hz])) (handed_of rz) ⟨v, H1, I1.tok _, rz, q⟩
theorem call_isX : CallR X (.builtin "isinstance") (rIsX X.K) := by
  intro pins s σ H xs us Q I r q
  obtain ⟨a, C, d, k, c, cv, b, rfl, hcv, ea, hd, T, e, q⟩ := q
  cases r with
  | cons rx rr =>
    cases rr with
    | cons rt rr =>
      cases rr
      cases rx
      cases hcv _ rt
      obtain ⟨ox, od, J, _⟩ := inst_of I ea hd
      exact PySem.W.kia_one (PySem.W.kitx_exc T.isC T.ga T.gg (T.sub "BaseException" k.hE) T.cl oc_get oc_take (T.sub "object" k.hO)) I.kIn J e (fun z => nomatch z) fun tk => ⟨.bl b, H, I.kept (t' := tk) fun _ _ z => z, rfl, q⟩
end
end L2.Lr

set_option maxHeartbeats 4000000
namespace L2.Lr
open PySem PySem.Spec PyProof.Rows LR
/-! ### facts of a class, reckoned -/
def clB (K : PySem.W.Frag) (k : Kd) (C : Addr) : Bool := match K.lookup C with
  | some ⟨.type "type", _, .cls cd, sl⟩ => (match cd.mro, sl.toList with
    | .ref C' :: bm, [_, _, _, _, some (.builtin n), _] => C' == C && n == k.nid && !cd.hasDel && cd.hasDict && PySem.W.excTail k.tl bm
    | _, _ => false)
  | _ => false
theorem clB_ok {K : PySem.W.Frag} {k : Kd} {C : Addr} (q : clB K k C = true) : ∃ nm qn N bs bm sn sub ab col dd k0 k1 k2 k3 k5, K.lookup C = some (excClassObj nm qn C N bs bm true sn sub ab col dd k0 k1 k2 k3 k5 k.nid) ∧ PySem.W.excTail k.tl bm = true := by
  unfold clB at q
  split at q
  · rename_i dd cd sl ho
    split at q
    · rename_i C' bm k0 k1 k2 k3 n k5 hm hs
      simp only [Bool.and_eq_true, beq_iff_eq, Bool.not_eq_true'] at q
      obtain ⟨⟨⟨⟨rfl, rfl⟩, hdel⟩, hdict⟩, ht⟩ := q
      obtain ⟨nm, bs, mro, ns, qn, hd, sn, sub, ab, col, del⟩ := cd
      dsimp only at hm hdel hdict
      subst hm hdel hdict
      have es : sl = #[k0, k1, k2, k3, some (.builtin k.nid), k5] := by
        rw [← hs]
      subst es
      exact ⟨nm, qn, ns, bs, bm, sn, sub, ab, col, dd, k0, k1, k2, k3, k5, ho, ht⟩
    · cases q
  · cases q
def xcB (K : PySem.W.Frag) (k : Kd) (C : Addr) : Bool := clB K k C && (He.eqO (PySem.W.findIn K (.ref C) "__setattr__") (some (some (.builtin "object.__setattr__"))) && (He.eqO (PySem.W.findIn K (.ref C) "__getattribute__") (some (some (.builtin "BaseException.__getattribute__"))) &&
  (He.eqO (PySem.W.findIn K (.ref C) "__getattr__") (some none) && (He.eqO (PySem.W.findIn K (.ref C) "__class__") (some (some (.builtin "object.__class__"))) && PySem.W.keepIn K (.ref C)))))
theorem xcB_ok {K : PySem.W.Frag} {k : Kd} {C : Addr} (q : xcB K k C = true) : XC K k C := by
  obtain ⟨q1, q⟩ := He.ba q
  obtain ⟨q2, q⟩ := He.ba q
  obtain ⟨q3, q⟩ := He.ba q
  obtain ⟨q4, q⟩ := He.ba q
  obtain ⟨q5, q6⟩ := He.ba q
  exact ⟨clB_ok q1, He.eqO_ok q2, He.eqO_ok q3, He.eqO_ok q4, He.eqO_ok q5, q6⟩
/-! ### exceptions as the heap holds them -/
/-- at a: an exception of the class at C with these fields (none: no dict) -/
def ExF (H : Hp) (a C : Addr) : Option (List (Str × V)) → Prop
  | some fs => ∃ d, H a = some (xo a C (some d)) ∧ H d = some (exd d fs)
  | none => H a = some (xo a C none)
theorem ExF.same {H H' : Hp} {a C : Addr} {o : Option (List (Str × V))} (e : ExF H a C o) (s : Same H H') : ExF H' a C o := by
  cases o with
  | none => exact s _ _ e
  | some fs =>
    obtain ⟨d, e1, e2⟩ := e
    exact ⟨d, s _ _ e1, s _ _ e2⟩
theorem ExF.obj {H : Hp} {a C : Addr} {o : Option (List (Str × V))} (e : ExF H a C o) : ∃ d, H a = some (xo a C d) ∧ ∀ dx, d = some dx → ∃ u, H dx = some u := by
  cases o with
  | none => exact ⟨none, e, fun dx z => by cases z⟩
  | some fs =>
    obtain ⟨d, e1, e2⟩ := e
    exact ⟨some d, e1, fun dx z => by cases z; exact ⟨_, e2⟩⟩
theorem same_upd {H : Hp} {p : Addr} {o : HO} (n : H p = none) : Same H (upd H p o) := fun b u e => (upd_ne (ne_of_none e n)).trans e
theorem pe_weak {X : Cx} {e : Expr} {t t' : TE} (h : PE X e t) (i : ∀ σ H Q, t' σ H Q → t σ H Q) : PE X e t' := ⟨fun pins s σ H Q I q => h.run pins s σ H Q I (i σ H Q q)⟩
theorem pt_weak {X : Cx} {e : Expr} {t t' : TT} (h : PT X e t) (i : ∀ σ H Q, t' σ H Q → t σ H Q) : PT X e t' := ⟨fun pins s σ H Q I q => h.run pins s σ H Q I (i σ H Q q)⟩
theorem pa_weak {X : Cx} {es : List Expr} {t t' : TA} (h : PA X es t) (i : ∀ σ H Q, t' σ H Q → t σ H Q) : PA X es t' := ⟨fun p pins s σ H Q I q => h.run p pins s σ H Q I (i σ H Q q)⟩
/-- C(y): the new exception keeps y -/
def tNew (C : Addr) (te : TE) : TE := fun σ H Q => te σ H fun y H1 => ∀ a H', Same H1 H' → H1 a = none → ExF H' a C (some [("value", y)]) → Q (.ref a) H'
/-- C(z, y): .. keeps both -/
def tNew2 (C : Addr) (tz ty : TE) : TE := fun σ H Q => tz σ H fun z H1 => ty σ H1 fun y H2 => ∀ a H', Same H2 H' → H2 a = none → ExF H' a C (some [("value", y), ("word", z)]) → Q (.ref a) H'
/-- C() -/
def tNew0 (C : Addr) : TE := fun σ H Q => ∀ a, H a = none → Q (.ref a) (upd H a (xo a C none))
/-- isinstance(e, c): b -/
def tIsX (K : PySem.W.Frag) (te : TE) (cv : Value) : TE := fun σ H Q => te σ H fun x H1 => ∃ (a C : Addr) (o : Option (List (Str × V))) (k : Kd) (b : Bool), x = .ref a ∧ ExF H1 a C o ∧ XC K k C ∧ PySem.W.kitOne K (.ref C) cv = some b ∧ Q (.bl b) H1
/-- e.n -/
def tGetX (K : PySem.W.Frag) (n : Str) (te : TE) : TE := fun σ H Q => te σ H fun x H1 => ∃ (a C : Addr) (fs : List (Str × V)) (v : V) (k : Kd), x = .ref a ∧ ExF H1 a C (some fs) ∧ XC K k C ∧ PySem.W.findIn K (.ref C) n = some none ∧ fs.lookup n = some v ∧ Q v H1
/-! ### the promises of the __init__s -/
def spIni (K : PySem.W.Frag) : Sp := fun vs H Q _ => ∃ (a C : Addr) (k : Kd) (y : V), vs = [.ref a, y] ∧ k.SF ∧ XC K k C ∧ PySem.W.findIn K (.ref C) "value" = some none ∧ H a = some (xo a C none) ∧
  ∀ H' d, H d = none → d ≠ a → (∀ b o, H b = some o → b ≠ a → H' b = some o) → H' a = some (xo a C (some d)) → H' d = some (exd d [("value", y)]) → Q .non H'
def spIni2 (K : PySem.W.Frag) : Sp := fun vs H Q _ => ∃ (a C : Addr) (k : Kd) (z y : V), vs = [.ref a, z, y] ∧ k.SF ∧ XC K k C ∧ PySem.W.findIn K (.ref C) "value" = some none ∧ PySem.W.findIn K (.ref C) "word" = some none ∧ H a = some (xo a C none) ∧
  ∀ H' d, H d = none → d ≠ a → (∀ b o, H b = some o → b ≠ a → H' b = some o) → H' a = some (xo a C (some d)) → H' d = some (exd d [("value", y), ("word", z)]) → Q .non H'
/-- a reading with a wish that may be stronger -/
def tUp (te : TE) : TE := fun σ H Q => ∃ Q' : VK, te σ H Q' ∧ ∀ v H', Q' v H' → Q v H'
theorem pe_up {X : Cx} {e : Expr} {te : TE} (h : PE X e te) : PE X e (tUp te) := ⟨fun pins s σ H Q I ⟨Q', q, i⟩ => thn (h.run pins s σ H Q' I q) fun u s1 ⟨v, H1, I1, r, q1⟩ => ⟨v, H1, I1, r, i v H1 q1⟩⟩
section
variable {X : Cx} {e e2 : Expr} {es : List Expr} {te t2 : TE} {ta : TA} {p p' p1 p2 pos : Pos}
theorem pe_new {x : Str} {C fI : Addr} {j : Nat} {fd : FuncData} {k : Kd} (S : k.SF) (T : XC X.K k C) (nv : PySem.W.findIn X.K (.ref C) "value" = some none) (iC : PySem.W.findIn X.K (.ref C) "__init__" = some (some (.ref fI))) (tI : PySem.W.typeIn X.K (.ref fI) = some (.type "function"))
    (F1 : FnOk X.prog X.w X.K X.mg X.base CX0 j fI fd ["self", "value"] (spIni X.K)) (hr : Room (j + 1) X.A) (hb : Binds X.K fd ["self", "value"] []) (hm : X.mg x = some (.ref C)) (ha : PE X e te) (hg : Gl X x := by rfl)
    (hdb : (x == ("__debug__" : Str)) = false := by decide) (he : starEach (e :: []) X.env = (false, eval e X.env) :: starEach [] X.env := by rfl) (hpl : (backTo pos (starEach [] X.env)).any (·.1) = false := by rfl) :
    PE X (.Call (.Name x p) [e] [] pos) (tNew C te) := by
  refine pe_weak (pe_mkX (e := e) (es := []) (dvs := []) T iC tI F1 hr hb .nil pass0 hg hm (pa_cons (pe_up ha) pa_nil he) hdb he hpl) fun σ H Q q => ?_
  refine ⟨_, q, fun y H1 q1 => ⟨by show 1 ≤ 1000; decide, fun a hn => ⟨a, C, k, y, rfl, S, T, nv, upd_same, fun H2 d hd ne keep e1 e2 => ⟨rfl, q1 a H2 (fun b o z => ?_) hn ⟨d, e1, e2⟩⟩⟩⟩⟩
  have ne : b ≠ a := ne_of_none z hn
  exact keep b o ((upd_ne ne).trans z) ne
theorem pe_new2 {x : Str} {C fI : Addr} {j : Nat} {fd : FuncData} {k : Kd} (S : k.SF) (T : XC X.K k C) (nv : PySem.W.findIn X.K (.ref C) "value" = some none) (nw : PySem.W.findIn X.K (.ref C) "word" = some none) (iC : PySem.W.findIn X.K (.ref C) "__init__" = some (some (.ref fI))) (tI : PySem.W.typeIn X.K (.ref fI) = some (.type "function"))
    (F1 : FnOk X.prog X.w X.K X.mg X.base CX0 j fI fd ["self", "word", "value"] (spIni2 X.K)) (hr : Room (j + 1) X.A) (hb : Binds X.K fd ["self", "word", "value"] []) (hm : X.mg x = some (.ref C)) (ha : PE X e te) (ha2 : PE X e2 t2) (hg : Gl X x := by rfl)
    (hdb : (x == ("__debug__" : Str)) = false := by decide) (he : starEach (e :: [e2]) X.env = (false, eval e X.env) :: starEach [e2] X.env := by rfl) (he2 : starEach (e2 :: []) X.env = (false, eval e2 X.env) :: starEach [] X.env := by rfl) (hpl : (backTo pos (starEach [e2] X.env)).any (·.1) = false := by rfl) :
    PE X (.Call (.Name x p) [e, e2] [] pos) (tNew2 C te t2) := by
  refine pe_weak (pe_mkX (e := e) (es := [e2]) (dvs := []) T iC tI F1 hr hb .nil pass0 hg hm (pa_cons (pe_up ha) (pa_cons (pe_up ha2) pa_nil he2) he) hdb he hpl) fun σ H Q q => ?_
  refine ⟨_, q, fun z H1 q1 => ⟨_, q1, fun y H2 q2 => ⟨by show 2 ≤ 1000; decide, fun a hn => ⟨a, C, k, z, y, rfl, S, T, nv, nw, upd_same, fun H3 d hd ne keep e1 e2 => ⟨rfl, q2 a H3 (fun b o zz => ?_) hn ⟨d, e1, e2⟩⟩⟩⟩⟩⟩
  have ne : b ≠ a := ne_of_none zz hn
  exact keep b o ((upd_ne ne).trans zz) ne
theorem pe_new0 {x : Str} {C : Addr} {bmB : List Value} {B newId initId : String} (F : ExcBaseFacts B newId initId bmB) (q : PySem.W.excIn X.K C bmB newId = true) (kC : PySem.W.keepIn X.K (.ref C) = true) (hm : X.mg x = some (.ref C)) (hg : Gl X x := by rfl) (hdb : (x == ("__debug__" : Str)) = false := by decide) :
    PE X (.Call (.Name x p) [] [] pos) (tNew0 C) := by
  refine ⟨fun pins s σ H Q I h => ?_⟩
  refine wpAny_Call_Name_kw (ld_glob I hg hm (PySem.W.callWith_K0 I.kIn kC ?_) hdb)
  obtain ⟨bm, N, nm, qn, bs, hdct, sn, sub, ab, col, dd, k0, k1, k2, k3, k5, mN, hC, hN, hni, T⟩ := exc_obj I.kIn q
  refine wpAny_call_exc_subT F T hC hN hni (fun h' a hm' => ?_) (Nat.zero_le _)
  have hn : H a = none := I.hok.gone hm'.new
  obtain ⟨t, ht, _, _⟩ := hm'.there
  exact ⟨.ref a, _, I.laidN hm'.keeps hm'.new hn (xo_ok ht), rfl, h a hn⟩
theorem pe_isX {c : V} {cv : Value} (pe2 : PE X e2 (tC c)) (hv : ∀ u, RelV c u → u = cv) (hm : X.mg "isinstance" = none) (ha : PE X e te) (hg : Gl X "isinstance" := by rfl)
    (he : starEach (e :: [e2]) X.env = (false, eval e X.env) :: starEach [e2] X.env := by rfl) (he2 : starEach (e2 :: []) X.env = (false, eval e2 X.env) :: starEach [] X.env := by rfl) (hpl : (backTo pos (starEach [e2] X.env)).any (·.1) = false := by rfl) :
    PE X (.Call (.Name "isinstance" p) [e, e2] [] pos) (tIsX X.K te cv) := by
  refine pe_weak (pe_callB (e := e) (es := [e2]) call_isX hg hm boot_isinstance (pa_cons (pe_up ha) (pa_cons pe2 pa_nil he2) he) (by decide) (by decide) he hpl) fun σ H Q q => ?_
  refine ⟨_, q, fun x H1 q1 => ?_⟩
  obtain ⟨a, C, o, k, b, rfl, ex, T, e, q⟩ := q1
  obtain ⟨d, e1, e2⟩ := ex.obj
  exact ⟨a, C, d, k, c, cv, b, rfl, hv, e1, e2, T, e, q⟩
theorem pe_getX {n : Str} (he : PE X e te) (hb : attributeBase e n X.env (eval e X.env) = eval e X.env := by rfl) : PE X (.Attribute e n pos) (tGetX X.K n te) := by
  refine pe_weak (pe_atX (pe_up he) hb) fun σ H Q q => ⟨_, q, fun x H1 q1 => ?_⟩
  obtain ⟨a, C, fs, v, k, rfl, ⟨d, e1, e2⟩, T, hno, l, q⟩ := q1
  exact ⟨a, C, d, fs, v, k, rfl, e1, e2, T, hno, l, q⟩
end
end L2.Lr

set_option maxHeartbeats 4000000
namespace L2.Lr
open PySem PySem.Spec PyProof.Rows LR
/-! own exceptions raised and caught -/
theorem pmk_weak {X : Cx} {e : Expr} {t t' : St → Hp → XK → Prop} (h : PMk X e t) (i : ∀ σ H Q, t' σ H Q → t σ H Q) : PMk X e t' := fun pins s σ H Q I q => h pins s σ H Q I (i σ H Q q)
/-- raise C(y): d holds the fields -/
def tNewR (C : Addr) (te : TE) : St → Hp → XK → Prop := fun σ H Q => te σ H fun y H1 => ∀ d H', Same H1 H' → H1 d = none → H' d = some (.xd [("value", y)]) → Q (.ref C) (some d) H'
def tNewR2 (C : Addr) (tz ty : TE) : St → Hp → XK → Prop := fun σ H Q => tz σ H fun z H1 => ty σ H1 fun y H2 => ∀ d H', Same H2 H' → H2 d = none → H' d = some (.xd [("value", y), ("word", z)]) → Q (.ref C) (some d) H'
def tNewR0 (C : Addr) : St → Hp → XK → Prop := fun _ H Q => Q (.ref C) none H
section
variable {X : Cx} {e e2 : Expr} {es : List Expr} {te t2 : TE} {ta : TA} {p p' p1 p2 pos : Pos}
theorem xc_raises {k : Kd} {C : Addr} (T : XC X.K k C) : Raises X (.ref C) := raises_own (T.sub "BaseException" k.hE) T.tyC
theorem pmk_x {CX : CXT} {x : Str} {C fI : Addr} {j : Nat} {fd : FuncData} {ps : List Str} {sp : Sp} {ds : List Value} {dvs : List V} {k : Kd} (T : XC X.K k C) (iC : PySem.W.findIn X.K (.ref C) "__init__" = some (some (.ref fI))) (tI : PySem.W.typeIn X.K (.ref fI) = some (.type "function"))
    (F1 : FnOk X.prog X.w X.K X.mg X.base CX j fI fd ps sp) (hr : Room (j + 1) X.A) (hb : Binds X.K fd ps ds) (hd : Vals dvs ds) (hx : Passes CX X (fun _ _ _ => False)) (hg : Gl X x) (hm : X.mg x = some (.ref C)) (ha : PA X (e :: es) ta)
    (hdb : (x == ("__debug__" : Str)) = false := by decide) (he : starEach (e :: es) X.env = (false, eval e X.env) :: starEach es X.env := by rfl) (hpl : (backTo pos (starEach es X.env)).any (·.1) = false := by rfl) :
    PMk X (.Call (.Name x p) (e :: es) [] pos) (tMkO C sp dvs ta) := by
  intro pins s σ H Q I hh
  obtain ⟨nm, q, N, bs, bm, sn, sub, ab, col, dd, k0, k1, k2, k3, k5, hC, hbm⟩ := T.cls
  refine wpAny_Call_Name_kw (ld_glob I hg hm ?_ hdb)
  refine PySem.W.callWith_K (h₀ := X.base) I.ok.mod.kin T.kC (thn (ha.run pos pins s σ H _ I hh) fun us s1 ⟨vs, H1, I1, r1, hz, q1⟩ => ⟨I1.kIn, ?_⟩) he hpl
  show wpAny _ _ (call (.ref C) us) _ _ _
  obtain ⟨hp, g, dr, tk, os⟩ := s1
  obtain ⟨na, ena⟩ : ∃ na, na = hp.objs.size + 1 := ⟨_, rfl⟩
  have hsz : hp.objs.size ≤ na := by omega
  have hn : H1 na = none := I1.hok.fresh hsz
  have hq := q1 na hn
  obtain ⟨G, eG⟩ : ∃ G, G = (hp.push (PySem.W.kdv_tup us)).push (PySem.HandSPX.excO C hp.objs.size) := ⟨_, rfl⟩
  have kk : ∀ b o, hp.get? b = some o → G.get? b = some o := fun b o e1 => by rw [eG]; exact Heap.get?_push_of_some _ (Heap.get?_push_of_some _ e1)
  have there : G.get? na = some (PySem.HandSPX.excO C hp.objs.size) := by rw [eG, ena]; heap_get
  have I2 : Inv X pins σ (upd H1 na (xo na C none)) ⟨G, g, dr, tk, os⟩ := I1.laid (t' := tk) (a := na) (o := xo na C none) (h' := G) kk hsz (xo_ok there)
  have r2 : Vals (V.ref na :: (vs ++ dvs)) (Value.ref na :: (us ++ ds)) := .cons rfl (r1.append hd)
  have hl : (Value.ref na :: us ++ ds).length = ps.length := by
    have e1 := r2.length
    rw [F1.len _ _ _ _ hq] at e1
    exact e1.symm
  have hus : us.length ≤ sizeLine := by
    rw [← Paired.length r1, sizeLine_eq]
    omega
  refine wpAny_call (run_class k hbm (I1.kIn _ _ hC) (PySem.W.looks_findIn I1.kIn iC) (fun self => PySem.W.bind_fn I1.kIn self tI) hus ?_)
  rw [← eG, ← ena]
  refine codeAny_mono (F1.run _ X.stack _ _ ⟨Value.ref na :: us, []⟩ (Value.ref na :: (us ++ ds)) _ _ (fun _ _ _ => False) (hr.make C us []) (I2.env0.make C us []) (hb _ (Value.ref na :: us) I2.kIn hl) r2 hq) fun r s' hq' => ?_
  cases r with
  | error er => exact hx pins σ _ _ er s' I2 hq'
  | ok fl =>
    cases fl with
    | ret u =>
      obtain ⟨v, H2, os2, bare2, un2, hok2, rv, ev, d, fs, ea, ed, hd1, q2⟩ := hq'
      subst ev
      obtain ⟨h2, g2, d2, t2, os'⟩ := s'
      exact ⟨rv, mk_end (xc_raises T) I1 hsz kk un2 hok2 os2 bare2 ea ed hd1 q2⟩
    | next => exact False.elim hq'
    | brk => exact False.elim hq'
    | cont => exact False.elim hq'
theorem pmk_new {x : Str} {C fI : Addr} {j : Nat} {fd : FuncData} {k : Kd} (S : k.SF) (T : XC X.K k C) (nv : PySem.W.findIn X.K (.ref C) "value" = some none) (iC : PySem.W.findIn X.K (.ref C) "__init__" = some (some (.ref fI))) (tI : PySem.W.typeIn X.K (.ref fI) = some (.type "function"))
    (F1 : FnOk X.prog X.w X.K X.mg X.base CX0 j fI fd ["self", "value"] (spIni X.K)) (hr : Room (j + 1) X.A) (hb : Binds X.K fd ["self", "value"] []) (hm : X.mg x = some (.ref C)) (ha : PE X e te) (hg : Gl X x := by rfl)
    (hdb : (x == ("__debug__" : Str)) = false := by decide) (he : starEach (e :: []) X.env = (false, eval e X.env) :: starEach [] X.env := by rfl) (hpl : (backTo pos (starEach [] X.env)).any (·.1) = false := by rfl) :
    PMk X (.Call (.Name x p) [e] [] pos) (tNewR C te) := by
  refine pmk_weak (pmk_x (e := e) (es := []) (dvs := []) T iC tI F1 hr hb .nil pass0 hg hm (pa_cons (pe_up ha) pa_nil he) hdb he hpl) fun σ H Q q => ?_
  refine ⟨_, q, fun y H1 q1 => ⟨by show 1 ≤ 1000; decide, fun a hn => ⟨a, C, k, y, rfl, S, T, nv, upd_same, fun H2 d hd ne keep e1 e2 => ⟨rfl, d, _, e1, e2, ?_, ?_⟩⟩⟩⟩
  · exact (upd_ne ne).symm.trans hd
  · refine q1 d _ (fun b o z => ?_) ((upd_ne ne).symm.trans hd) upd_same
    have nb : b ≠ a := ne_of_none z hn
    have nd : b ≠ d := ne_of_none z ((upd_ne ne).symm.trans hd)
    exact (upd_ne nd).trans ((del_ne nb).trans (keep b o ((upd_ne nb).trans z) nb))
theorem pmk_new2 {x : Str} {C fI : Addr} {j : Nat} {fd : FuncData} {k : Kd} (S : k.SF) (T : XC X.K k C) (nv : PySem.W.findIn X.K (.ref C) "value" = some none) (nw : PySem.W.findIn X.K (.ref C) "word" = some none) (iC : PySem.W.findIn X.K (.ref C) "__init__" = some (some (.ref fI))) (tI : PySem.W.typeIn X.K (.ref fI) = some (.type "function"))
    (F1 : FnOk X.prog X.w X.K X.mg X.base CX0 j fI fd ["self", "word", "value"] (spIni2 X.K)) (hr : Room (j + 1) X.A) (hb : Binds X.K fd ["self", "word", "value"] []) (hm : X.mg x = some (.ref C)) (ha : PE X e te) (ha2 : PE X e2 t2) (hg : Gl X x := by rfl)
    (hdb : (x == ("__debug__" : Str)) = false := by decide) (he : starEach (e :: [e2]) X.env = (false, eval e X.env) :: starEach [e2] X.env := by rfl) (he2 : starEach (e2 :: []) X.env = (false, eval e2 X.env) :: starEach [] X.env := by rfl) (hpl : (backTo pos (starEach [e2] X.env)).any (·.1) = false := by rfl) :
    PMk X (.Call (.Name x p) [e, e2] [] pos) (tNewR2 C te t2) := by
  refine pmk_weak (pmk_x (e := e) (es := [e2]) (dvs := []) T iC tI F1 hr hb .nil pass0 hg hm (pa_cons (pe_up ha) (pa_cons (pe_up ha2) pa_nil he2) he) hdb he hpl) fun σ H Q q => ?_
  refine ⟨_, q, fun z H1 q1 => ⟨_, q1, fun y H2 q2 => ⟨by show 2 ≤ 1000; decide, fun a hn => ⟨a, C, k, z, y, rfl, S, T, nv, nw, upd_same, fun H3 d hd ne keep e1 e2 => ⟨rfl, d, _, e1, e2, ?_, ?_⟩⟩⟩⟩⟩
  · exact (upd_ne ne).symm.trans hd
  · refine q2 d _ (fun b o z => ?_) ((upd_ne ne).symm.trans hd) upd_same
    have nb : b ≠ a := ne_of_none z hn
    have nd : b ≠ d := ne_of_none z ((upd_ne ne).symm.trans hd)
    exact (upd_ne nd).trans ((del_ne nb).trans (keep b o ((upd_ne nb).trans z) nb))
theorem pmk_new0 {x : Str} {C : Addr} {bmB : List Value} {B newId initId : String} {k : Kd} (T : XC X.K k C) (F : ExcBaseFacts B newId initId bmB) (q : PySem.W.excIn X.K C bmB newId = true) (kC : PySem.W.keepIn X.K (.ref C) = true) (hm : X.mg x = some (.ref C)) (hg : Gl X x := by rfl) (hdb : (x == ("__debug__" : Str)) = false := by decide) :
    PMk X (.Call (.Name x p) [] [] pos) (tNewR0 C) := by
  intro pins s σ H Q I h
  refine wpAny_Call_Name_kw (ld_glob I hg hm (PySem.W.callWith_K0 I.kIn kC ?_) hdb)
  obtain ⟨bm, N, nm, qn, bs, hdct, sn, sub, ab, col, dd, k0, k1, k2, k3, k5, mN, hC, hN, hni, T'⟩ := exc_obj I.kIn q
  refine wpAny_call_exc_subT F T' hC hN hni (fun h' a hm' => ?_) (Nat.zero_le _)
  exact mk_of I hm' (xc_raises T) h (I.hok.gone hm'.new)
end
/-! ### in an except suite -/
theorem obj_of {P : Program} {w : World} {H : Hp} {h : Heap} {dx : Addr} {q : HO} (hok : HOk P w H h) (e : H dx = some q) : ∃ ob, h.get? dx = some ob := by
  have z := hok dx q e
  cases q with
  | lst xs => obtain ⟨_, _, _, _, e1⟩ := z; exact ⟨_, e1⟩
  | tup xs => obtain ⟨_, _, _, o1, e1, _⟩ := z; exact ⟨_, e1⟩
  | dK kvs => obtain ⟨_, _, _, _, o1, _, _, e1, _⟩ := z; exact ⟨_, e1⟩
  | dT kvs => obtain ⟨_, _, _, _, o1, _, _, e1, _⟩ := z; exact ⟨_, e1⟩
  | set S n => obtain ⟨o1, _, _, _, e1, _⟩ := z; exact ⟨_, e1⟩
  | ins C1 d1 f1 => obtain ⟨_, _, _, e1, _⟩ := z; exact ⟨_, e1⟩
  | own y => obtain ⟨_, e1⟩ := z; exact ⟨_, e1⟩
  | xd fs => obtain ⟨_, ⟨_, _, _, e1, _⟩, _⟩ := z; exact ⟨_, e1⟩
  | rng lo hi => obtain ⟨_, _, _, e1⟩ := z; exact ⟨_, e1⟩
  | frz ob u => obtain ⟨e1, _⟩ := z; exact ⟨_, e1⟩
  | tbl ps => have e1 : h.get? dx = some _ := z; exact ⟨_, e1⟩
  | met f1 y => have e1 : h.get? dx = some _ := z; exact ⟨_, e1⟩
  | ext φ => obtain ⟨_, ⟨_, e1⟩, _⟩ := z; exact ⟨_, e1⟩
/-- e.n, e the caught exception at a -/
def tXv (K : PySem.W.Frag) (a : Addr) (cls : Value) (d : Option Addr) (n : Str) (te : TE) : TE := fun σ H Q => te σ H fun x H1 => x = .ref a ∧ ∃ (C dx : Addr) (fs : List (Str × V)) (v : V) (k : Kd), cls = .ref C ∧ d = some dx ∧ XC K k C ∧
  PySem.W.findIn K (.ref C) n = some none ∧ H1 dx = some (.xd fs) ∧ fs.lookup n = some v ∧ Q v H1
/-- isinstance(e, c) -/
def rIsS (K : PySem.W.Frag) (a : Addr) (cls : Value) (d : Option Addr) : List V → Hp → VK → Prop := fun xs H Q => ∃ (C : Addr) (k : Kd) (c : V) (cv : Value) (b : Bool), xs = [.ref a, c] ∧ cls = .ref C ∧ (∀ u, RelV c u → u = cv) ∧
  (∀ dx, d = some dx → ∃ o, H dx = some o) ∧ XC K k C ∧ PySem.W.kitOne K (.ref C) cv = some b ∧ Q (.bl b) H
def tIsS (K : PySem.W.Frag) (a : Addr) (cls : Value) (d : Option Addr) (te : TE) (cv : Value) : TE := fun σ H Q => te σ H fun x H1 => x = .ref a ∧ ∃ (C : Addr) (k : Kd) (b : Bool), cls = .ref C ∧ (∀ dx, d = some dx → ∃ o, H1 dx = some o) ∧ XC K k C ∧ PySem.W.kitOne K (.ref C) cv = some b ∧ Q (.bl b) H1
section
variable {X : Cx} {a : Addr} {oe : Obj} {cls : Value} {d : Option Addr} {pn : List (Addr × Obj)} {e e2 : Expr} {te : TE} {p pos : Pos}
theorem inst_at {C : Addr} {pins : List (Addr × Obj)} {σ : St} {H : Hp} {s : Shared} (I : Inv (X.suite a ((a, oe) :: pn)) pins σ H s) (hz : Zc cls d oe) (hf : ∃ vs, oe.data = .fields vs) (ec : cls = .ref C) (hd : ∀ dx, d = some dx → ∃ o, H dx = some o) :
    ∃ od : Option Obj, PySem.W.InstAt s.heap a oe C od ∧ ∀ dx, d = some dx → ∃ q, od = some q ∧ s.heap.get? dx = some q := by
  obtain ⟨ha, _⟩ := I.pin (a, oe) (List.mem_append_left _ List.mem_cons_self)
  obtain ⟨vs, hv⟩ := hf
  obtain ⟨z1, z2⟩ := hz
  have nc : PySem.W.notCls oe := by unfold PySem.W.notCls; rw [hv] <;> rfl
  cases d with
  | none => exact ⟨none, ⟨ha, z1.trans ec, nc, by rw [z2]; trivial⟩, fun dx z => by cases z⟩
  | some dx =>
    obtain ⟨q, hq⟩ := hd dx rfl
    obtain ⟨ob, hb⟩ := obj_of I.hok hq
    exact ⟨some ob, ⟨ha, z1.trans ec, nc, by rw [z2]; exact hb⟩, fun dy z => by cases z; exact ⟨ob, rfl, hb⟩⟩
theorem pe_xv {n : Str} (hz : Zc cls d oe) (hf : ∃ vs, oe.data = .fields vs) (he : PE (X.suite a ((a, oe) :: pn)) e te) (hb : attributeBase e n X.env (eval e X.env) = eval e X.env := by rfl) :
    PE (X.suite a ((a, oe) :: pn)) (.Attribute e n pos) (tXv X.K a cls d n te) := by
  refine ⟨fun pins s σ H Q I hh => attr_of hb (thn (he.run pins s σ H _ I hh) fun u s1 ⟨x, H1, I1, rx, q⟩ => ?_)⟩
  obtain ⟨rfl, C, dx, fs, v, k, ec, ed, T, hno, hx, l, q⟩ := q
  cases (show u = Value.ref a from rx)
  obtain ⟨od, J, hd⟩ := inst_at I1 hz hf ec fun dy z => by rw [ed] at z; cases z; exact ⟨_, hx⟩
  obtain ⟨ob, eo, ho⟩ := hd dx ed
  have hx2 : ObjOk X.prog X.w H1 s1.heap dx (.xd fs) := I1.hok dx _ hx
  obtain ⟨mA, hns, hr⟩ := hx2
  obtain ⟨o2, ho2, hl⟩ := lookIn_ns hns
  cases ho.symm.trans ho2
  subst eo
  obtain ⟨z, hz', rz⟩ := RelO.some_of (v := v) (o := mA n) (by rw [← l]; exact hr n)
  exact HandSPX.exc_get I1.kIn J T.ga T.gg (T.sub "BaseException" k.hE) (PySem.W.findObj_own T.hd hno rfl (by rw [hl, hz'])) (handed_of rz) ⟨v, H1, I1.tok _, rz, q⟩
theorem call_isS (hz : Zc cls d oe) (hf : ∃ vs, oe.data = .fields vs) : CallR (X.suite a ((a, oe) :: pn)) (.builtin "isinstance") (rIsS X.K a cls d) := by
  intro pins s σ H xs us Q I r q
  obtain ⟨C, k, c, cv, b, rfl, ec, hcv, hd, T, e, q⟩ := q
  cases r with
  | cons rx rr =>
    cases rr with
    | cons rt rr =>
      cases rr
      cases rx
      cases hcv _ rt
      obtain ⟨od, J, _⟩ := inst_at I hz hf ec hd
      exact PySem.W.kia_one (PySem.W.kitx_exc T.isC T.ga T.gg (T.sub "BaseException" k.hE) T.cl oc_get oc_take (T.sub "object" k.hO)) I.kIn J e (fun z => nomatch z) fun tk => ⟨.bl b, H, I.kept (t' := tk) fun _ _ z => z, rfl, q⟩
theorem pe_isS {c : V} {cv : Value} (hz : Zc cls d oe) (hf : ∃ vs, oe.data = .fields vs) (pe2 : PE (X.suite a ((a, oe) :: pn)) e2 (tC c)) (hv : ∀ u, RelV c u → u = cv) (hm : X.mg "isinstance" = none) (ha : PE (X.suite a ((a, oe) :: pn)) e te) (hg : Gl X "isinstance" := by rfl)
    (he : starEach (e :: [e2]) X.env = (false, eval e X.env) :: starEach [e2] X.env := by rfl) (he2 : starEach (e2 :: []) X.env = (false, eval e2 X.env) :: starEach [] X.env := by rfl) (hpl : (backTo pos (starEach [e2] X.env)).any (·.1) = false := by rfl) :
    PE (X.suite a ((a, oe) :: pn)) (.Call (.Name "isinstance" p) [e, e2] [] pos) (tIsS X.K a cls d te cv) := by
  refine pe_weak (pe_callB (e := e) (es := [e2]) (call_isS hz hf) hg hm boot_isinstance (pa_cons (pe_up ha) (pa_cons pe2 pa_nil he2) he) (by decide) (by decide) he hpl) fun σ H Q q => ?_
  refine ⟨_, q, fun x H1 q1 => ?_⟩
  obtain ⟨rfl, C, k, b, ec, hd, T, e, q⟩ := q1
  exact ⟨C, k, c, cv, b, rfl, ec, hv, hd, T, e, q⟩
end
end L2.Lr

set_option maxHeartbeats 4000000
namespace L2.Lr
open PySem PySem.Spec PyProof.Rows LR
/-! words for any law -/
/-- a loop whose body's ends are a letter -/
theorem for_rangeD {lo : Int} {n : Nat} {g : TG} {tb : TS} {D : Ends} {σ : St} {H : Hp} (Pv : Nat → St → Hp → Prop) (h0 : Pv 0 σ H)
    (hs : ∀ (D' : Ends) (i : Nat) (σ : St) (H : Hp), D'.rt = D.rt → (∀ σ H, Pv (i + 1) σ H → D'.nx σ H) → (∀ σ H, Pv (i + 1) σ H → D'.ct σ H) → (∀ σ H, D.nx σ H → D'.bk σ H) → i < n → Pv i σ H → g (.int (lo + i)) σ H fun σ2 H2 => tb D' σ2 H2) (hd : ∀ σ H, Pv n σ H → D.nx σ H) :
    ∃ W : Nat → Nat → St → Hp → Prop, (∃ m, W 0 m σ H) ∧ ∀ i m σ H, W i m σ H →
      ((Itr lo n).stop i H ∧ D.nx σ H) ∨ ((Itr lo n).go i H ∧ ∃ N : St → Hp → Prop, (∀ σ' H', N σ' H' → ∃ m', m' < m ∧ W (i + 1) m' σ' H') ∧ ∀ x H', (Itr lo n).yld i H x H' → g x σ H' fun σ2 H2 => tb { D with nx := N, ct := N, bk := D.nx } σ2 H2) :=
  for_range Pv h0 (fun i σ H hi hp => hs { D with nx := Pv (i + 1), ct := Pv (i + 1), bk := D.nx } i σ H rfl (fun _ _ h => h) (fun _ _ h => h) (fun _ _ h => h) hi hp) hd
theorem for_listD {K : PySem.W.Frag} {a : Addr} {xs : List V} {g : TG} {tb : TS} {D : Ends} {σ : St} {H : Hp} (Pv : Nat → St → Hp → Prop) (h0 : Pv 0 σ H) (hl : ∀ i σ H, i ≤ xs.length → Pv i σ H → SqL K H a xs)
    (hs : ∀ (D' : Ends) (i : Nat) (x : V) (σ : St) (H : Hp), D'.rt = D.rt → (∀ σ H, Pv (i + 1) σ H → D'.nx σ H) → (∀ σ H, Pv (i + 1) σ H → D'.ct σ H) → (∀ σ H, D.nx σ H → D'.bk σ H) → xs[i]? = some x → Pv i σ H → g x σ H fun σ2 H2 => tb D' σ2 H2) (hd : ∀ σ H, Pv xs.length σ H → D.nx σ H) :
    ∃ W : Nat → Nat → St → Hp → Prop, (∃ m, W 0 m σ H) ∧ ∀ i m σ H, W i m σ H →
      ((Itl K a).stop i H ∧ D.nx σ H) ∨ ((Itl K a).go i H ∧ ∃ N : St → Hp → Prop, (∀ σ' H', N σ' H' → ∃ m', m' < m ∧ W (i + 1) m' σ' H') ∧ ∀ x H', (Itl K a).yld i H x H' → g x σ H' fun σ2 H2 => tb { D with nx := N, ct := N, bk := D.nx } σ2 H2) :=
  for_list Pv h0 hl (fun i x σ H hi hp => hs { D with nx := Pv (i + 1), ct := Pv (i + 1), bk := D.nx } i x σ H rfl (fun _ _ h => h) (fun _ _ h => h) (fun _ _ h => h) hi hp) hd
theorem for_tupD {K : PySem.W.Frag} {a : Addr} {xs : List V} {g : TG} {tb : TS} {D : Ends} {σ : St} {H : Hp} (Pv : Nat → St → Hp → Prop) (h0 : Pv 0 σ H) (hl : ∀ i σ H, i ≤ xs.length → Pv i σ H → SqT K H a xs)
    (hs : ∀ (D' : Ends) (i : Nat) (x : V) (σ : St) (H : Hp), D'.rt = D.rt → (∀ σ H, Pv (i + 1) σ H → D'.nx σ H) → (∀ σ H, Pv (i + 1) σ H → D'.ct σ H) → (∀ σ H, D.nx σ H → D'.bk σ H) → xs[i]? = some x → Pv i σ H → g x σ H fun σ2 H2 => tb D' σ2 H2) (hd : ∀ σ H, Pv xs.length σ H → D.nx σ H) :
    ∃ W : Nat → Nat → St → Hp → Prop, (∃ m, W 0 m σ H) ∧ ∀ i m σ H, W i m σ H →
      ((Itt K a).stop i H ∧ D.nx σ H) ∨ ((Itt K a).go i H ∧ ∃ N : St → Hp → Prop, (∀ σ' H', N σ' H' → ∃ m', m' < m ∧ W (i + 1) m' σ' H') ∧ ∀ x H', (Itt K a).yld i H x H' → g x σ H' fun σ2 H2 => tb { D with nx := N, ct := N, bk := D.nx } σ2 H2) :=
  for_tup Pv h0 hl (fun i x σ H hi hp => hs { D with nx := Pv (i + 1), ct := Pv (i + 1), bk := D.nx } i x σ H rfl (fun _ _ h => h) (fun _ _ h => h) (fun _ _ h => h) hi hp) hd
theorem ite_dec {p : Prop} [Decidable p] {A B : Prop} (h1 : p → A) (h2 : ¬ p → B) : if decide p = true then A else B := by
  by_cases h : p
  · rw [if_pos (decide_eq_true h)]
    exact h1 h
  · rw [if_neg (by rw [decide_eq_false h]; exact Bool.false_ne_true)]
    exact h2 h
theorem go_next {D : Ends} {σ : St} {H : Hp} (h : D.nx σ H) : tNext D σ H := h
theorem go_seq {t u : TS} {D : Ends} {σ : St} {H : Hp} (h : t { D with nx := u D } σ H) : tSeq t u D σ H := h
theorem go_asg {te : TE} {g : TG} {D : Ends} {σ : St} {H : Hp} (h : te σ H fun x H1 => g x σ H1 D.nx) : tAsg te g D σ H := h
theorem eqv_ne {d e : PyData} {A B : Prop} (h : PyData.eqv d e = true) (b : B) : if (!PyData.eqv d e) = true then A else B := by
  rw [h]
  exact iteF b
theorem all_range {n : Nat} {p : Nat → Bool} (h : (List.range n).all p = true) (i : Nat) (hi : i < n) : p i = true := List.all_eq_true.mp h i (List.mem_range.mpr hi)
/-! ### a Hook with a check of one's own -/
def obsEG (n : Nat) (chk : PySem.W.Frag → Bool) (fa : List He.Fa) (fn : List He.DefD) (g : Addr → Option Obj) : Bool × He.AlD := (fun K => (chk K, He.obsD fa fn K)) (He.frG g (He.asD g n))
def hookE (n : Nat) (chk : PySem.W.Frag → Bool) (fa : List He.Fa) (fn : List He.DefD) : PySem.W.Hook where
  α := Bool × He.AlD
  obs := fun s => obsEG n chk fa fn s.heap.get?
  val := fun _ => (true, He.valD fn)
  says := fun _ h => ∃ K : PySem.W.Frag, K.In h ∧ chk K = true ∧ He.SaysD fa fn K
  of := fun _ _ e => ⟨_, He.frG_in, congrArg (fun z : Bool × He.AlD => z.1) e, congrArg (fun z : Bool × He.AlD => z.2) e⟩
  keeps := fun _ _ _ ⟨K, hK, c⟩ k => ⟨K, PySem.W.Frag.In.keeps hK k, c⟩
theorem obsEG_eq {n : Nat} {chk : PySem.W.Frag → Bool} {fa : List He.Fa} {fn : List He.DefD} {g : Addr → Option Obj} {s : Shared} (h : ∀ a, g a = s.heap.get? a) : obsEG n chk fa fn g = (hookE n chk fa fn).obs s := by
  have e : g = s.heap.get? := funext h
  rw [e]
  rfl
/-! ### int(x) -/
def tInt (te : TE) : TE := fun σ H Q => te σ H fun x H1 => ∃ i, x = .int i ∧ Q (.int i) H1
def tIntB (te : TE) : TE := fun σ H Q => te σ H fun x H1 => ∃ k, x = .bl k ∧ Q (.int (if k then 1 else 0)) H1
section
variable {X : Cx} {e : Expr} {te : TE} {p pos : Pos}
theorem pe_toI (hm : X.mg "int" = none) (ha : PE X e te) (hg : Gl X "int" := by rfl) (he : starEach (e :: []) X.env = (false, eval e X.env) :: starEach [] X.env := by rfl) (hpl : (backTo pos (starEach [] X.env)).any (·.1) = false := by rfl) : PE X (.Call (.Name "int" p) [e] [] pos) (tInt te) :=
  pe_weak (pe_callTy (e := e) (es := []) call_int1 hg hm (by decide +kernel) (pa_cons (pe_up ha) pa_nil he) (by decide) (by decide) he hpl) fun σ H Q q => ⟨_, q, fun x H1 ⟨i, ex, q1⟩ => .inl ⟨i, by rw [ex], q1⟩⟩
theorem pe_toIB (hm : X.mg "int" = none) (ha : PE X e te) (hg : Gl X "int" := by rfl) (he : starEach (e :: []) X.env = (false, eval e X.env) :: starEach [] X.env := by rfl) (hpl : (backTo pos (starEach [] X.env)).any (·.1) = false := by rfl) : PE X (.Call (.Name "int" p) [e] [] pos) (tIntB te) :=
  pe_weak (pe_callTy (e := e) (es := []) call_int1 hg hm (by decide +kernel) (pa_cons (pe_up ha) pa_nil he) (by decide) (by decide) he hpl) fun σ H Q q => ⟨_, q, fun x H1 ⟨i, ex, q1⟩ => .inr ⟨i, by rw [ex], q1⟩⟩
end
/-! ### data -/
def tyN : PyData → String
  | .none => "NoneType"
  | .bool _ => "bool"
  | .int _ => "int"
  | .str _ => "str"
  | .list _ => "list"
  | .tuple _ => "tuple"
  | .dict _ => "dict"
theorem tyD {K : PySem.W.Frag} {H : Hp} {x : V} {d : PyData} (h : Dp K H x d) : TyX K H x (.type (tyN d)) := by
  cases h with
  | non => exact .base .non
  | bl b => exact .base (.bl b)
  | int i => exact .base (.int i)
  | str s => exact .base (.str s)
  | lst h _ =>
    rcases h with (h | ⟨o, h⟩) | ⟨o, its, n, h, c, _⟩
    · exact .base (.lst h)
    · exact .base (.frz h)
    · exact .kList h c
  | tup h _ =>
    rcases h with (h | ⟨o, h⟩) | ⟨o, its, n, h, c, _⟩
    · exact .base (.tup h)
    · exact .fTuple h
    · exact .kTuple h c
theorem seqT {K : PySem.W.Frag} {H H' : Hp} {a : Addr} {xs : List V} (s : Same H H') (h : SqT K H a xs) : SqT K H' a xs := by
  rcases h with (h | ⟨o, h⟩) | h
  · exact .inl (.inl (s _ _ h))
  · exact .inl (.inr ⟨o, s _ _ h⟩)
  · exact .inr h
mutual
theorem Dp.same {K : PySem.W.Frag} {H H' : Hp} (s : Same H H') : ∀ {v : V} {d : PyData}, Dp K H v d → Dp K H' v d
  | _, _, .non => .non
  | _, _, .bl b => .bl b
  | _, _, .int i => .int i
  | _, _, .str x => .str x
  | _, _, .lst h a => .lst (s.seq h) (DpAll.same s a)
  | _, _, .tup h a => .tup (seqT s h) (DpAll.same s a)
theorem DpAll.same {K : PySem.W.Frag} {H H' : Hp} (s : Same H H') : ∀ {vs : List V} {ds : List PyData}, DpAll K H vs ds → DpAll K H' vs ds
  | _, _, .nil => .nil
  | _, _, .cons h a => .cons (Dp.same s h) (DpAll.same s a)
end
/-- isinstance(x, t) of data -/
def tIsD (K : PySem.W.Frag) (t : String) (te : TE) : TE := fun σ H Q => te σ H fun x H1 => ∃ d b, Dp K H1 x d ∧ kitB (tyN d) t = some b ∧ Q (.bl b) H1
theorem pe_isD {X : Cx} {e e2 : Expr} {te : TE} {p pos : Pos} {t : String} (hm : X.mg "isinstance" = none) (ha : PE X e te) (pe2 : PE X e2 (tC (.ty t))) (hg : Gl X "isinstance" := by rfl)
    (he : starEach (e :: [e2]) X.env = (false, eval e X.env) :: starEach [e2] X.env := by rfl) (he2 : starEach (e2 :: []) X.env = (false, eval e2 X.env) :: starEach [] X.env := by rfl) (hpl : (backTo pos (starEach [e2] X.env)).any (·.1) = false := by rfl) :
    PE X (.Call (.Name "isinstance" p) [e, e2] [] pos) (tIsD X.K t te) :=
  pe_weak (pe_callB (e := e) (es := [e2]) call_isi hg hm boot_isinstance (pa_cons (pe_up ha) (pa_cons pe2 pa_nil he2) he) (by decide) (by decide) he hpl) fun σ H Q q => ⟨_, q, fun x H1 ⟨d, b, hd, hk, q1⟩ => ⟨x, .ty t, .type (tyN d), .type t, b, rfl, .ty t, tyD hd, kit_ty hk, q1⟩⟩
/-! ### displays of constants -/
/-- the value is this data -/
def tDat (K : PySem.W.Frag) (d : PyData) : TE := fun _ H Q => ∀ v H', Same H H' → Dp K H' v d → Q v H'
def tDats (K : PySem.W.Frag) (ds : List PyData) : TA := fun _ H Q => ∀ vs H', Same H H' → DpAll K H' vs ds → Q vs H'
/-- a new list of this data -/
def tDatL (K : PySem.W.Frag) (ds : List PyData) : TE := fun _ H Q => ∀ p vs H', Same H H' → H' p = some (.lst vs) → DpAll K H' vs ds → Q (.ref p) H'
theorem DpAll.length {K : PySem.W.Frag} {H : Hp} : ∀ {vs : List V} {ds : List PyData}, DpAll K H vs ds → vs.length = ds.length
  | _, _, .nil => rfl
  | _, _, .cons _ a => by simp [DpAll.length a]
theorem DpAll.append {K : PySem.W.Frag} {H : Hp} : ∀ {vs us : List V} {ds es : List PyData}, DpAll K H vs ds → DpAll K H us es → DpAll K H (vs ++ us) (ds ++ es)
  | _, _, _, _, .nil, b => b
  | _, _, _, _, .cons h a, b => .cons h (DpAll.append a b)
theorem DpAll.at {K : PySem.W.Frag} {H : Hp} : ∀ {vs : List V} {ds : List PyData} {i : Nat} {v : V}, DpAll K H vs ds → vs[i]? = some v → ∃ d, ds[i]? = some d ∧ Dp K H v d
  | _, _, _, _, .nil, e => by simp at e
  | _, _, 0, _, .cons h a, e => by simp at e; subst e; exact ⟨_, rfl, h⟩
  | _ :: vs, _ :: ds, i + 1, v, .cons h a, e => DpAll.at (vs := vs) (ds := ds) (i := i) a (by simpa using e)
section
variable {X : Cx} {e : Expr} {es : List Expr} {d : PyData} {ds : List PyData} {p pos : Pos}
theorem pd_int {i : Int} {k} : PE X (.Constant (.int i) k p) (tDat X.K (.int i)) := pe_weak pe_int fun σ H Q q => q _ _ (Same.refl H) (.int i)
theorem pd_str {x : Str} {k} : PE X (.Constant (.str x) k p) (tDat X.K (.str x)) := pe_weak pe_str fun σ H Q q => q _ _ (Same.refl H) (.str x)
theorem pd_bl {b : Bool} {k} : PE X (.Constant (.bool b) k p) (tDat X.K (.bool b)) := pe_weak pe_bl fun σ H Q q => q _ _ (Same.refl H) (.bl b)
theorem pd_non {k} : PE X (.Constant .none k p) (tDat X.K .none) := pe_weak pe_non fun σ H Q q => q _ _ (Same.refl H) .non
theorem pd_neg {i : Int} {k} : PE X (.UnaryOp .USub (.Constant (.int i) k p) pos) (tDat X.K (.int (-i))) := pe_weak (pe_un un_neg pe_int) fun σ H Q q => ⟨i, rfl, q _ _ (Same.refl H) (.int (-i))⟩
theorem pd_nil : PA X [] (tDats X.K []) := pa_weak pa_nil fun σ H Q q => q [] H (Same.refl H) .nil
theorem pd_cons (h1 : PE X e (tDat X.K d)) (h2 : PA X es (tDats X.K ds)) (hs : starEach (e :: es) X.env = (false, eval e X.env) :: starEach es X.env := by rfl) : PA X (e :: es) (tDats X.K (d :: ds)) :=
  pa_weak (pa_cons h1 h2 hs) fun σ H Q q v H1 s1 h1 vs H2 s2 h2 => q (v :: vs) H2 (s1.trans s2) (.cons (Dp.same s2 h1) h2)
theorem pd_tup {x1} (h : PA X es (tDats X.K ds)) (hz : ds.length ≤ sizeLine := by show _ ≤ _; decide) : PE X (.Tuple es x1 pos) (tDat X.K (.tuple ds)) :=
  pe_weak (pe_tup h) fun σ H Q q vs H1 s1 h1 => ⟨by rw [DpAll.length h1]; exact hz, fun p np => q _ _ (s1.trans (same_upd np)) (.tup (SqT.of upd_same) (DpAll.same (same_upd np) h1))⟩
theorem pd_lst {x1} (h : PA X es (tDats X.K ds)) (hz : ds.length ≤ sizeLine := by show _ ≤ _; decide) : PE X (.List es x1) (tDat X.K (.list ds)) :=
  pe_weak (pe_lst h) fun σ H Q q vs H1 s1 h1 => ⟨by rw [DpAll.length h1]; exact hz, fun p np => q _ _ (s1.trans (same_upd np)) (.lst (SqL.of upd_same) (DpAll.same (same_upd np) h1))⟩
theorem pd_lstL {x1} (h : PA X es (tDats X.K ds)) (hz : ds.length ≤ sizeLine := by show _ ≤ _; decide) : PE X (.List es x1) (tDatL X.K ds) :=
  pe_weak (pe_lst h) fun σ H Q q vs H1 s1 h1 => ⟨by rw [DpAll.length h1]; exact hz, fun p np => q p vs _ (s1.trans (same_upd np)) upd_same (DpAll.same (same_upd np) h1)⟩
end
/-! ### displays of pairs of names -/
/-- tuples of the values of two slots each -/
def tPairs (l : List (Nat × Nat)) : TA := fun σ H Q => ∃ f : Nat → V, (∀ q, q ∈ l → σ[q.1]? = some (some (f q.1)) ∧ σ[q.2]? = some (some (f q.2))) ∧
  ∀ (as : List Addr) (H' : Hp), Same H H' → as.length = l.length → (∀ (n : Nat) (a : Addr) (q : Nat × Nat), as[n]? = some a → l[n]? = some q → H' a = some (.tup [f q.1, f q.2])) → Q (as.map V.ref) H'
section
variable {X : Cx} {e1 e2 : Expr} {es : List Expr} {i j : Nat} {l : List (Nat × Nat)} {p pos : Pos}
theorem pa_pair0 : PA X [] (tPairs []) := pa_weak pa_nil fun σ H Q ⟨f, _, q⟩ => q [] H (Same.refl H) rfl fun n a r e => by simp at e
theorem pa_pair {x1} (h1 : PE X e1 (tVar i)) (h2 : PE X e2 (tVar j)) (h : PA X es (tPairs l)) (he : starEach (e1 :: [e2]) X.env = (false, eval e1 X.env) :: starEach [e2] X.env := by rfl) (he2 : starEach (e2 :: []) X.env = (false, eval e2 X.env) :: starEach [] X.env := by rfl)
    (hs : starEach (.Tuple [e1, e2] x1 pos :: es) X.env = (false, eval (.Tuple [e1, e2] x1 pos) X.env) :: starEach es X.env := by rfl) : PA X (.Tuple [e1, e2] x1 pos :: es) (tPairs ((i, j) :: l)) :=
  pa_weak (pa_cons (pe_tup (pa_cons h1 (pa_cons h2 pa_nil he2) he)) h hs) fun σ H Q ⟨f, hf, q⟩ => by
    obtain ⟨f1, f2⟩ := hf (i, j) (List.mem_cons_self ..)
    refine ⟨_, f1, _, f2, by show 2 ≤ sizeLine; decide, fun a na => ⟨f, fun q m => hf q (List.mem_cons_of_mem _ m), fun as H2 s2 hl ha => q (a :: as) H2 ((same_upd na).trans s2) (by simp [hl]) fun n b r e1 e2 => ?_⟩⟩
    cases n with
    | zero =>
      simp at e1 e2
      subst e1 e2
      exact s2 _ _ upd_same
    | succ n => exact ha n b r (by simpa using e1) (by simpa using e2)
end
end L2.Lr


set_option maxHeartbeats 4000000
namespace L2.Tx
open PySem PySem.Spec PyProof.Rows NumText L2 TL
/-! ### ints as texts, with their sign -/
def intT (a : Int) : Str := Str.ofString (toString a)
def sgnL (a : Int) : List Nat := if a < 0 then 45 :: numL a.natAbs else numL a.natAbs
def plusL (a : Int) : List Nat := (if a < 0 then 45 else 43) :: numL a.natAbs
def plusT (a : Int) : Str := ⟨(plusL a).toArray⟩
theorem tl_inj {x y : Str} (h : tl x = tl y) : x = y := by
  cases x; cases y
  congr 1
  exact Array.toList_inj.mp h
theorem tl_int (a : Int) : tl (intT a) = sgnL a := by
  unfold intT sgnL
  cases a with
  | ofNat n =>
    rw [if_neg (by show ¬ ((n : Int) < 0); omega)]
    exact tl_num n
  | negSucc n =>
    rw [if_pos (Int.negSucc_lt_zero n)]
    rw [tl_ofString]
    show ("-" ++ toString (n + 1)).toList.map Char.toNat = 45 :: numL (n + 1)
    rw [String.toList_append, List.map_append]
    have e : (toString (n + 1)).toList.map Char.toNat = numL (n + 1) := by
      have z := tl_num (n + 1)
      rw [tl_ofString] at z
      exact z
    rw [e]
    rfl
theorem tl_plus (a : Int) : tl (plusT a) = plusL a := tl_mk _
theorem plus_pos {a : Int} (h : 0 < a) : plusT a = Str.ofString "+" ++ intT a := by
  apply tl_inj
  rw [tl_plus, tl_append, tl_int]
  unfold plusL sgnL
  rw [if_neg (by omega), if_neg (by omega)]
  rfl
theorem plus_neg {a : Int} (h : a < 0) : plusT a = intT a := by
  apply tl_inj
  rw [tl_plus, tl_int]
  unfold plusL sgnL
  rw [if_pos h, if_pos h]
theorem numL_sz {a : Int} (h : a.natAbs < 10 ^ 400) : (numL a.natAbs).length ≤ 400 := numL_len (by decide) h
/-- no m in a number -/
theorem sgn_free {a : Int} {s : Nat} (h : 57 < s) : s ∉ sgnL a := by
  unfold sgnL
  split
  · intro z
    rcases List.mem_cons.mp z with z | z
    · omega
    · exact numL_free (.inr h) z
  · exact numL_free (.inr h)
theorem intText_plus {x : Str} {cs : List Nat} (hx : x.cps.toList = 43 :: cs) (h : AllDigits cs) (h1 : cs ≠ []) (h2 : x.length ≤ 4300) : intText? x = some ((digitsVal cs : Nat) : Int) := by
  have hl : x.cps.toList.length = x.length := Array.length_toList
  rw [hx, List.length_cons] at hl
  have hs : ∀ c ∈ x.cps.toList, 33 ≤ c ∧ c < 128 := by
    rw [hx]
    intro c hc
    rcases List.mem_cons.mp hc with e | hc
    · omega
    · have := h c hc
      omega
  have e1 : numTextOf x = x.cps.toList := by
    refine if_pos ?_
    rw [← Array.all_toList, List.all_eq_true]
    exact fun c hc => decide_eq_true (hs c hc).2
  have e2 : numSeenOf x = x.cps.toList := by
    show (numTextOf x).takeWhile _ = _
    rw [e1]
    exact takeWhile_all fun c hc => bne_iff_ne.mpr (by have := hs c hc; omega)
  have es : sign ((43 :: cs).dropWhile blank) = (false, cs) := by
    rw [dropWhile_of (by decide)]
    rfl
  have ec : core (43 :: cs) = cs := by
    unfold core
    rw [es]
    show (cs.reverse.dropWhile blank).reverse = cs
    rw [dropWhile_digits h.reverse, List.reverse_reverse]
  unfold intText?
  rw [e1, e2, hx]
  refine (if_pos (beq_self_eq_true _)).trans ?_
  rw [ec, es, digits_of h h1]
  have hsz := push_size cs #[]
  have hv := push_foldl cs #[]
  show (if _ ≤ 4300 then some (worth false _) else none) = _
  rw [if_pos (by rw [hsz, Array.size_empty]; omega)]
  unfold worth digitsVal
  rw [hv]
  rfl
theorem natAbs_cast (a : Int) : ((a.natAbs : Nat) : Int) = if a < 0 then -a else a := by split <;> omega
/-- int(text) of what was written -/
theorem int_back {a : Int} (h : a.natAbs < 10 ^ 400) : intText? (intT a) = some a := by
  have hs := numL_sz h
  have hl : tl (intT a) = sgnL a := tl_int a
  have len : (intT a).length ≤ 4300 := by
    rw [len_tl, hl]
    unfold sgnL
    split
    · rw [List.length_cons]; omega
    · omega
  unfold sgnL at hl
  by_cases hn : a < 0
  · rw [if_pos hn] at hl
    have z := intText_neg (x := intT a) hl (numL_digits _) (numL_ne _) len
    rw [numL_val, natAbs_cast, if_pos hn] at z
    rw [z]
    congr 1
    omega
  · rw [if_neg hn] at hl
    have hl' : (intT a).cps.toList = numL a.natAbs := hl
    have z := intText_digits (x := intT a) (by rw [hl']; exact numL_digits _) (by rw [hl']; exact numL_ne _) len
    rw [hl', numL_val, natAbs_cast, if_neg hn] at z
    exact z
theorem plus_back {a : Int} (h : a.natAbs < 10 ^ 400) : intText? (plusT a) = some a := by
  by_cases hn : a < 0
  · rw [plus_neg hn]
    exact int_back h
  · have hs := numL_sz h
    have hl : (plusT a).cps.toList = 43 :: numL a.natAbs := by
      have z := tl_plus a
      unfold plusL at z
      rw [if_neg hn] at z
      exact z
    have z := intText_plus hl (numL_digits _) (numL_ne _) (by
      have e : (plusT a).length = (tl (plusT a)).length := len_tl _
      rw [e, show tl (plusT a) = 43 :: numL a.natAbs from hl, List.length_cons]
      omega)
    rw [numL_val, natAbs_cast, if_neg hn] at z
    exact z
/-! ### a line as text -/
def mT : Str := Str.ofString "m"
def headT (e : Int) : Str := if e = 1 then mT else if e = -1 then Str.ofString "-m" else intT e ++ mT
def tailT (z : Int) : Str := if z = 0 then Str.empty else plusT z
def lineT (z e : Int) : Str := if e = 0 then intT z else headT e ++ tailT z
/-- what stands ahead of the m -/
def preT (e : Int) : Str := if e = 1 then Str.empty else if e = -1 then Str.ofString "-" else intT e
theorem tl_m : tl mT = [109] := rfl
theorem head_pre (e : Int) : headT e = preT e ++ mT := by
  unfold headT preT
  split
  · exact tl_inj (by rw [tl_append]; rfl)
  · split
    · exact tl_inj (by rw [tl_append]; rfl)
    · rfl
theorem pre_free (e : Int) : 109 ∉ tl (preT e) := by
  unfold preT
  split
  · intro z; cases z
  · split
    · decide
    · rw [tl_int]; exact sgn_free (by decide)
theorem line_part {z e : Int} (h : e ≠ 0) : Txt.partition (lineT z e) mT = (preT e, mT, tailT z) := by
  unfold lineT
  rw [if_neg h, head_pre]
  exact partition_app (y := mT) (s := 109) (S := []) tl_m (pre_free e)
theorem int_ne (a : Int) : tl (intT a) ≠ [] := by
  rw [tl_int]
  unfold sgnL
  split
  · exact fun z => by cases z
  · exact numL_ne _
theorem empty_iff {x : Str} : x = Str.ofString "" ↔ tl x = [] := ⟨fun h => by rw [h]; rfl, fun h => tl_inj (by rw [h]; rfl)⟩
theorem pre_empty (e : Int) : preT e = Str.ofString "" ↔ e = 1 := by
  rw [empty_iff]
  unfold preT
  by_cases h1 : e = 1
  · rw [if_pos h1]; exact ⟨fun _ => h1, fun _ => rfl⟩
  · rw [if_neg h1]
    refine ⟨fun z => ?_, fun z => absurd z h1⟩
    by_cases h2 : e = -1
    · rw [if_pos h2] at z; cases z
    · rw [if_neg h2] at z; exact absurd z (int_ne e)
theorem sgn_minus {e : Int} (h : tl (intT e) = [45]) : False := by
  rw [tl_int] at h
  unfold sgnL at h
  split at h
  · have := List.cons.inj h
    exact numL_ne _ this.2
  · have d := numL_digits e.natAbs 45 (by rw [h]; exact List.mem_cons_self)
    omega
theorem pre_minus (e : Int) : preT e = Str.ofString "-" ↔ e = -1 := by
  unfold preT
  by_cases h1 : e = 1
  · rw [if_pos h1]
    exact ⟨fun z => absurd (congrArg tl z) (by intro q; cases q), fun z => by omega⟩
  · rw [if_neg h1]
    by_cases h2 : e = -1
    · rw [if_pos h2]; exact ⟨fun _ => h2, fun _ => rfl⟩
    · rw [if_neg h2]
      exact ⟨fun z => (sgn_minus (congrArg tl z)).elim, fun z => absurd z h2⟩
theorem tail_empty (z : Int) : tailT z = Str.ofString "" ↔ z = 0 := by
  rw [empty_iff]
  unfold tailT
  by_cases h1 : z = 0
  · rw [if_pos h1]; exact ⟨fun _ => h1, fun _ => rfl⟩
  · rw [if_neg h1, tl_plus]
    exact ⟨fun q => (by unfold plusL at q; cases q), fun q => absurd q h1⟩
/-- one text, one line -/
theorem line_inj {z e z' e' : Int} (hz : z.natAbs < 10 ^ 400) (he : e.natAbs < 10 ^ 400) (hz' : z'.natAbs < 10 ^ 400) (he' : e'.natAbs < 10 ^ 400) (h : lineT z e = lineT z' e') : z = z' ∧ e = e' := by
  have free : ∀ a : Int, Txt.partition (intT a) mT = (intT a, Str.empty, Str.empty) := fun a => partition_none (y := mT) (s := 109) (S := []) tl_m (by rw [tl_int]; exact sgn_free (by decide))
  have mne : mT ≠ Str.empty := fun q => by cases congrArg tl q
  by_cases h0 : e = 0
  · by_cases h1 : e' = 0
    · unfold lineT at h
      rw [if_pos h0, if_pos h1] at h
      have b := int_back hz
      rw [h, int_back hz'] at b
      exact ⟨(Option.some.inj b).symm, by omega⟩
    · have p := line_part (z := z') h1
      rw [← h] at p
      unfold lineT at p
      rw [if_pos h0, free] at p
      exact absurd (congrArg (fun q : Str × Str × Str => q.2.1) p).symm mne
  · by_cases h1 : e' = 0
    · have p := line_part (z := z) h0
      rw [h] at p
      unfold lineT at p
      rw [if_pos h1, free] at p
      exact absurd (congrArg (fun q : Str × Str × Str => q.2.1) p).symm mne
    · have p := line_part (z := z) h0
      rw [h, line_part h1] at p
      have q1 : preT e' = preT e := congrArg (fun q : Str × Str × Str => q.1) p
      have q3 : tailT z' = tailT z := congrArg (fun q : Str × Str × Str => q.2.2) p
      refine ⟨?_, ?_⟩
      · by_cases z0 : z = 0
        · have := (tail_empty z).mpr z0
          rw [← q3] at this
          rw [(tail_empty z').mp this, z0]
        · have z1 : z' ≠ 0 := fun q => z0 ((tail_empty z).mp (q3 ▸ (tail_empty z').mpr q))
          unfold tailT at q3
          rw [if_neg z0, if_neg z1] at q3
          have b := plus_back hz
          rw [← q3, plus_back hz'] at b
          exact (Option.some.inj b).symm
      · by_cases e1 : e = 1
        · have := (pre_empty e).mpr e1
          rw [← q1] at this
          rw [(pre_empty e').mp this, e1]
        · by_cases e2 : e = -1
          · have := (pre_minus e).mpr e2
            rw [← q1] at this
            rw [(pre_minus e').mp this, e2]
          · have f1 : e' ≠ 1 := fun q => e1 ((pre_empty e).mp (q1 ▸ (pre_empty e').mpr q))
            have f2 : e' ≠ -1 := fun q => e2 ((pre_minus e).mp (q1 ▸ (pre_minus e').mpr q))
            unfold preT at q1
            rw [if_neg e1, if_neg e2, if_neg f1, if_neg f2] at q1
            have b := int_back he
            rw [← q1, int_back he'] at b
            exact (Option.some.inj b).symm
end L2.Tx

set_option maxHeartbeats 400000
/-! what an own class says of +, -, *, ==, str(o), o(m); f'{x:+}' -/
namespace L2.Lr
open PySem PySem.Spec PyProof.Rows LR StX
section
variable {X : Cx} {CX : CXT} {k n : Nat} {f C : Addr} {fd : FuncData} {ps : List Str} {sp : Sp} {E : XK}
/-- a def that the machine calls, some levels deeper -/
theorem run_at {A : Around} {pins : List (Addr × Obj)} {σ : St} {H : Hp} {s : Shared} {Q : VK} {us : List Value} {vs : List V} (sb : Sub X k A) (F : FnOk X.prog X.w X.K X.mg X.base CX k f fd ps sp) (hb : Binds X.K fd ps []) (hx : Passes CX X E)
    (I : Inv X pins σ H s) (r : Vals vs us) (h : sp vs H Q E) : wpAny (model X.prog X.w) A (call (.ref f) us) (EP X pins σ Q) X.xe s := by
  have e := I.env0
  have e0 : Env0 X.prog X.w X.K X.mg X.base A X.stack s H := ⟨sb.fr.trans e.frames, e.mod, e.bs, e.bsz, e.funs, e.frf, e.hok, e.bare⟩
  have hl : us.length = ps.length := r.length.symm.trans (F.len _ _ _ _ h)
  refine wpAny_call (codeAny_mono (F.run A X.stack s H ⟨us, []⟩ us vs Q E sb.room e0 (by simpa using hb s us I.kIn (by simpa using hl)) r h) fun r s' hq => ?_)
  match r, hq with
  | .error e, hq => exact hx pins σ H s e s' I hq
  | .ok (.ret u), hq => exact I.after hq
  | .ok .next, hq => exact hq.elim
  | .ok .brk, hq => exact hq.elim
  | .ok .cont, hq => exact hq.elim
/-- what a class's own def of this name must have -/
structure Dun (K : PySem.W.Frag) (C f : Addr) (m : Str) : Prop where
  at_ : PySem.W.findIn K (.ref C) m = some (some (.ref f))
  fn : PySem.W.isFn K (.ref f) = true
/-- str(o) by the own __str__ -/
def rStrO (C : Addr) (sp : Sp) (E : XK) : List V → Hp → VK → Prop := fun xs H Q => ∃ a dx fs, xs = [.ref a] ∧ H a = some (.ins C dx fs) ∧ sp [.ref a] H (fun v H' => ∃ y, v = .str y ∧ Q (.str y) H') E
theorem call_strO (d : Dun X.K C f "__str__") (F : FnOk X.prog X.w X.K X.mg X.base CX k f fd ps sp) (hr : Room (k + 2) X.A) (hb : Binds X.K fd ps []) (hx : Passes CX X E) : CallR X (.type "str") (rStrO C sp E) := by
  intro pins s σ H xs us Q I r h
  obtain ⟨a, dx, fs, rfl, ha, h⟩ := h
  obtain ⟨u, rfl, ru⟩ := vals1 r
  cases ru
  obtain ⟨ox, od, J, _⟩ := insC_at I (.inr ⟨dx, fs, ha⟩)
  refine PySem.W.kso_call hr.in1.in1.units0 I.kIn J d.at_ d.fn (wpAny_mono (run_at (A := X.A.in1.in1) ⟨hr.in1.in1, rfl⟩ F hb hx I (vs := [.ref a]) (us := [.ref a]) (.cons rfl .nil) h) (fun v s' z => ?_) fun _ _ z => z)
  obtain ⟨x, H', I', rv, y, rfl, q⟩ := z
  obtain ⟨t, rfl⟩ := rv
  exact ⟨.str y, H', I', ⟨t, rfl⟩, q⟩
/-- .. for an operator -/
structure OwnOp (K : PySem.W.Frag) (C f : Addr) (op : Operator) : Prop where
  at_ : PySem.W.findIn K (.ref C) (PySem.dunder op.info.2) = some (some (.ref f))
  fn : PySem.W.isFn K (.ref f) = true
  first : PySem.W.selfFirst K C = true
  rc : PySem.W.findIn K (.ref C) (dunderR op.info.2) = some none
  t1 : (PySem.W.findIn K (.type "int") (PySem.dunder op.info.2)).isSome = true
  t2 : (PySem.W.findIn K (.type "int") (dunderR op.info.2)).isSome = true
  sub : PySem.W.subIn K (.type "int") (.ref C) = some false
def ownB (K : PySem.W.Frag) (C f : Addr) (op : Operator) : Bool := He.eqO (PySem.W.findIn K (.ref C) (PySem.dunder op.info.2)) (some (some (.ref f))) && (PySem.W.isFn K (.ref f) && (PySem.W.selfFirst K C && (He.eqO (PySem.W.findIn K (.ref C) (dunderR op.info.2)) (some none) &&
  ((PySem.W.findIn K (.type "int") (PySem.dunder op.info.2)).isSome && ((PySem.W.findIn K (.type "int") (dunderR op.info.2)).isSome && decide (PySem.W.subIn K (.type "int") (.ref C) = some false))))))
theorem ownB_ok {K : PySem.W.Frag} {op : Operator} (q : ownB K C f op = true) : OwnOp K C f op := by
  obtain ⟨q1, q⟩ := He.ba q
  obtain ⟨q2, q⟩ := He.ba q
  obtain ⟨q3, q⟩ := He.ba q
  obtain ⟨q4, q⟩ := He.ba q
  obtain ⟨q5, q⟩ := He.ba q
  obtain ⟨q6, q7⟩ := He.ba q
  exact ⟨He.eqO_ok q1, q2, q3, He.eqO_ok q4, q5, q6, of_decide_eq_true q7⟩
def dunB (K : PySem.W.Frag) (C f : Addr) (m : Str) : Bool := He.eqO (PySem.W.findIn K (.ref C) m) (some (some (.ref f))) && PySem.W.isFn K (.ref f)
theorem dunB_ok {K : PySem.W.Frag} {m : Str} (q : dunB K C f m = true) : Dun K C f m := by
  obtain ⟨q1, q2⟩ := He.ba q
  exact ⟨He.eqO_ok q1, q2⟩
/-- a op b, by the left one's own def -/
def rOwn (C : Addr) (sp : Sp) (E : XK) : R2 := fun x y H Q => ∃ a dx fs, x = .ref a ∧ H a = some (.ins C dx fs) ∧ ((∃ i, y = .int i) ∨ ∃ b dy gs, y = .ref b ∧ H b = some (.ins C dy gs)) ∧ sp [.ref a, y] H Q E
theorem cmp_back {pins : List (Addr × Obj)} {σ : St} {Q : VK} {v : Value} {s' : Shared} (z : EP X pins σ Q v s') : PySem.W.CmpBack (EP X pins σ Q) v s' := by
  have nz : v ≠ .notImplemented := by
    rintro rfl
    obtain ⟨x, H', I', rv, q⟩ := z
    cases x <;> first
      | (obtain ⟨t, e⟩ := rv; cases e)
      | cases rv
  cases v <;> first
    | exact absurd rfl nz
    | exact z
theorem op_own {op : Operator} (o : OwnOp X.K C f op) (F : FnOk X.prog X.w X.K X.mg X.base CX k f fd ps sp) (hr : Room k X.A) (hb : Binds X.K fd ps []) (hx : Passes CX X E) : OpR X (binaryOp op) (rOwn C sp E) := by
  intro pins s σ H x y v u Q I rx ry h
  obtain ⟨a, dx, fs, rfl, ha, hy, h⟩ := h
  cases rx
  obtain ⟨ox, od, J, _⟩ := insC_at I (.inr ⟨dx, fs, ha⟩)
  obtain ⟨m, hF⟩ := I.fr
  have run := wpAny_mono (run_at (A := X.A) ⟨hr, rfl⟩ F hb hx I (vs := [.ref a, y]) (us := [.ref a, u]) (.cons rfl (.cons ry .nil)) h) (fun v s' z => cmp_back z) fun _ _ z => z
  rcases hy with ⟨i, rfl⟩ | ⟨b, dy, gs, rfl, hb'⟩
  · obtain ⟨t, rfl⟩ := ry
    obtain ⟨fo, e1⟩ := Option.isSome_iff_exists.mp o.t1
    obtain ⟨ro, e2⟩ := Option.isSome_iff_exists.mp o.t2
    exact PySem.W.ksp_binT hF I.ok.mod.kin J rfl o.first o.at_ o.fn o.rc (.inl rfl) e1 e2 o.sub run
  · cases ry
    obtain ⟨oy, od', J', _⟩ := insC_at I (.inr ⟨dy, gs, hb'⟩)
    exact PySem.W.binop_K hF I.ok.mod.kin J J'.type o.first o.at_ o.fn run
/-- a == b, by the left one's own __eq__ -/
theorem op_eqO (d : Dun X.K C f "__eq__") (F : FnOk X.prog X.w X.K X.mg X.base CX k f fd ps sp) (hr : Room k X.A) (hb : Binds X.K fd ps []) (hx : Passes CX X E) :
    OpR X (compareOp .Eq) (fun x y H Q => ∃ a dx fs b dy gs, x = .ref a ∧ H a = some (.ins C dx fs) ∧ y = .ref b ∧ H b = some (.ins C dy gs) ∧ sp [.ref a, .ref b] H Q E) := by
  intro pins s σ H x y v u Q I rx ry h
  obtain ⟨a, dx, fs, b, dy, gs, rfl, ha, rfl, hb', h⟩ := h
  cases rx
  cases ry
  obtain ⟨ox, od, J, _⟩ := insC_at I (.inr ⟨dx, fs, ha⟩)
  obtain ⟨oy, od', J', _⟩ := insC_at I (.inr ⟨dy, gs, hb'⟩)
  obtain ⟨m, hF⟩ := I.fr
  show wpAny (model X.prog X.w) X.A (richCompare .Eq _ _) _ X.xe s
  refine PySem.W.cmp_K (op := .Eq) (tb := .ref C) hr.units0 hF I.ok.mod.kin J J'.type (by simp [PySem.W.notFirst]) d.at_ d.fn ?_
  exact wpAny_mono (run_at (A := X.A) ⟨hr, rfl⟩ F hb hx I (vs := [.ref a, .ref b]) (us := [.ref a, .ref b]) (.cons rfl (.cons rfl .nil)) h) (fun v s' z => cmp_back z) fun _ _ z => z
end
/-- C(k = v, ..): keywords alone -/
theorem pe_makeK {X : Cx} {CX : CXT} {k : Nat} {f C : Addr} {fd : FuncData} {ps ks : List Str} {sp : Sp} {E : XK} {x : Str} {p pos : Pos} {kws : List Keyword} {tk : TA} {g : List Value → List Value → List Value} {gV : List V → List V → List V}
    (M : Mk X.K C f) (F : FnOk X.prog X.w X.K X.mg X.base CX k f fd ps sp) (hr : Room (k + 1) X.A) (hg : Gl X x) (hm : X.mg x = some (.ref C)) (hb : KBn X.K fd ps 1 ks g gV) (hx : Passes CX X E) (hkw : PK X kws tk)
    (hall : (backToKw pos (keywordEach kws X.env)).all (·.1.isSome) = true := by rfl) (hks : (backToKw pos (keywordEach kws X.env)).filterMap (·.1) = ks := by rfl) (hdb : (x == ("__debug__" : Str)) = false := by decide)
    (hpl : ((backTo pos (starEach [] X.env)).any (·.1) || (backToKw pos (keywordEach kws X.env)).any (·.1.isNone)) = false := by rfl) : PE X (.Call (.Name x p) [] kws pos) (tMakeN C 0 ks.length sp gV E tNil tk) := by
  refine ⟨fun pins s σ H Q I h => ?_⟩
  refine wpAny_Call_Name_kw (ld_glob I hg hm ?_ hdb)
  refine PySem.W.callWith_KW0 (h₀ := X.base) I.ok.mod.kin M.kp hall (thn (hkw.run pos pins s σ H _ I h) fun ws s2 ⟨zs, H2, I2, rz, l1, l2, q2⟩ => ⟨I2.kIn, ?_⟩) hpl
  rw [hks]
  exact run_makeN (us := []) (vs := []) M F hr hb hx I2 .nil rz l1 l2 q2
/-! ### f'{x:+}' of an int -/
theorem plus_field (a : Int) : intField' { fill := 32, align := 62, sign := some 43 } (decide (a < 0)) [] ((Nat.toDigits 10 a.natAbs).map fun c => (if (100 : Nat) == 88 then c.toUpper else c).toNat) [] 3 = Tx.plusT a := by
  have en : ((Nat.toDigits 10 a.natAbs).map fun c => (if (100 : Nat) == 88 then c.toUpper else c).toNat) = TL.numL a.natAbs := rfl
  rw [en]
  have ne := TL.numL_ne a.natAbs
  have e1 : (TL.numL a.natAbs).isEmpty = false := by
    cases h : TL.numL a.natAbs with
    | nil => exact absurd h ne
    | cons c r => rfl
  have pad : (-1 - 1 - ((TL.numL a.natAbs).length : Int)).toNat = 0 := by omega
  unfold intField' Tx.plusT Tx.plusL
  cases hd : decide (a < 0) with
  | true =>
    rw [if_pos (of_decide_eq_true hd)]
    simp [e1]
  | false =>
    rw [if_neg (of_decide_eq_false hd)]
    simp [e1]
open Builtin Builtin.Str Builtin.Int Builtin.Float in
theorem gives_plus (a : Int) (t u : Tok) (hd : a.natAbs.log2 < 1920) : Gives (Builtin.«int.__format__» ⟨[.int a t, .str (Str.ofString "+") u], []⟩) (.str (Tx.plusT a)) := by
  intro prog w A R s hq
  obtain ⟨f, hp, ff⟩ : ∃ f, parseFormatSpec (Str.ofString "+").cps.toList "int" 62 = .ok f ∧ f = { fill := 32, align := 62, sign := some 43 } := ⟨_, rfl, rfl⟩
  unfold Builtin.«int.__format__»
  simp only [selfAndOne, noKeywords, Int.intOfSelf, asInt?, asStr?, List.isEmpty_nil, if_true, pure_bind, bind_pure, bind_assoc, Bool.false_eq_true, if_false,
    show ((Str.ofString "+").length == 0) = false from rfl, show (Value.str (Str.ofString "+") u == Value.none) = false from rfl,
    show (((Str.ofString "+").cps.toList.drop 1).any (· ≥ 128) || ((Str.ofString "+").cps.getD 0 0 ≥ 128 && !([60, 62, 61, 94] : List Nat).contains ((Str.ofString "+").cps.getD 1 0))) = false from rfl]
  refine wpAny_bind (wpAny_typeNameOf (T := "str") (typeIs_str _ _ _) (by decide) fun _ => ?_)
  refine wpAny_bind (wpAny_typeNameOfCut_int ?_)
  have hty : f.type.getD (if (Str.ofString "+").cps.back? == some 0 then 0 else 100) = 100 := by subst ff; rfl
  simp only [hp, hty]
  rw [if_pos (by decide)]
  have hpr : f.precision = none := by subst ff; rfl
  have hz : f.noNeg0 = false := by subst ff; rfl
  have hw : ¬ (f.width.getD 0 > 100000) := by subst ff; decide
  show wpAny _ _ (if _ then _ else _) _ _ _
  rw [if_neg (by simp [hpr])]
  show wpAny _ _ (if _ then _ else _) _ _ _
  rw [if_neg (by simp [hz])]
  show wpAny _ _ (if _ then _ else _) _ _ _
  rw [if_neg (by decide)]
  show wpAny _ _ (do let r ← Builtin.overDigitLimit? a; _) _ _ _
  rw [PySem.overDigitLimit_small hd]
  show wpAny _ _ (if _ then _ else _) _ _ _
  rw [if_neg (by simpa using hw)]
  subst ff
  have key : ∀ Y : Str, Y = Tx.plusT a → wpAny (model prog w) A.in1 (retStr Y) (fun fin s' => match fin with
      | .done f => R (.ok f) s'
      | .again c' => c'.quiet = true ∧ codeAny (model prog w) A c' R s') (fun e s' => R (.error e) s') s := by
    intro Y e
    subst e
    unfold retStr
    refine wpAny_bind (wpAny_mkStr (wpAny_pure ?_) ?_)
    · exact hq.2
    · exact hq.1
  refine key _ (Eq.trans ?_ (plus_field a))
  simp only [Bool.false_eq_true, if_false, show ((10 : Nat) == 10) = true by decide, if_true]
  rfl
/-- {x:+} of an int -/
def tFmtP (te : TE) : TE := fun σ H Q => te σ H fun x H1 => ∃ i : Int, x = .int i ∧ i.natAbs.log2 < 1920 ∧ (Tx.plusT i).length ≤ sizeLine ∧ Q (.str (Tx.plusT i)) H1
theorem pe_fmtP {X : Cx} {e : Expr} {te : TE} {pos p1 p2 : Pos} {k} (he : PE X e te) : PE X (.FormattedValue e (-1) (some (.JoinedStr [.Constant (.str "+") k p1] p2)) pos) (tFmtP te) := by
  refine ⟨fun pins s σ H Q I h => ?_⟩
  refine wpAny_FormattedValue_spec (thn (he.run pins s σ H _ I h) fun v s1 hv => ?_)
  obtain ⟨x, H1, I1, r1, i, rfl, hd, hz, q⟩ := hv
  obtain ⟨t, rfl⟩ := r1
  have js : PE X (.JoinedStr [.Constant (.str "+") k p1] p2) (tC (.str "+")) := pe_joined1 pe_str
  refine thn (js.run pins s1 σ H1 (fun v H2 => v = .str "+" ∧ Q (.str (Tx.plusT i)) H2) I1 ⟨rfl, q⟩) fun r s2 hr => ?_
  obtain ⟨y, H2, I2, r2, ey, q2⟩ := hr
  subst ey
  obtain ⟨t2, rfl⟩ := r2
  refine ⟨_, t2, rfl, ?_⟩
  exact wpAny_formatField_spec (T := "int") (idf := "int.__format__") (B := Builtin.«int.__format__») (by decide) (fun s' => typeIs_int s' i t) PyProof.Rows.slot_int_format PyProof.Rows.entry_int_format (fun a b => PyProof.Rows.args_int_format a b) (fun u => gives_plus i t u hd)
    ⟨.str (Tx.plusT i), H2, I2.tok _, ⟨_, rfl⟩, q2⟩ (by decide) hz
end L2.Lr

set_option maxHeartbeats 1000000
namespace L2.L50
open PySem PySem.Spec PyProof.Rows LR L2.Lr L2.Tx
local macro_rules | `(tactic| walk_at "rd") => `(tactic| simp only [tSeq, tAsg, gName, tIfS, tTest, tOp, tIf, tInt, rI, rI0, tVar, tC, tCB, tCons, tNil, tNext, tRet, tLst, rIxL, CPow, CMul, gSub, rSetL, rIxT,
  List.getElem?_cons_zero, List.getElem?_cons_succ, List.set_cons_zero, List.set_cons_succ, Option.some.injEq, V.int.injEq, V.ref.injEq, V.bl.injEq, V.str.injEq, List.cons.injEq, and_true, true_and, exists_and_left, exists_eq_left', exists_eq_left, exists_eq, decide_eq_true_eq, or_true, true_or, List.length_cons, List.length_nil, Nat.zero_add, Nat.reduceAdd])
local macro_rules | `(tactic| walk_at "so") => `(tactic| repeat (first | refine And.intro (by omega) ?_ | refine And.intro (by decide) ?_))
def top (i : Nat) : Stmt := PySem.Challenge.pw_leastrooms_k50_lines_as_text.main.body.getD i (.Pass ⟨0, 0, 0, 0⟩)
abbrev sInt : Stmt := top 7
abbrev sBtw : Stmt := top 8
abbrev sIni : Stmt := inClass (top 11) 0
abbrev sCal : Stmt := inClass (top 11) 1
abbrev sAdd : Stmt := inClass (top 11) 2
abbrev sSub : Stmt := inClass (top 11) 3
abbrev sMul : Stmt := inClass (top 11) 4
abbrev sEq : Stmt := inClass (top 11) 5
abbrev sStr : Stmt := inClass (top 11) 6
abbrev sNum : Stmt := top 12
abbrev sHead : Stmt := top 13
abbrev sPool : Stmt := top 15
abbrev sTake : Stmt := top 16
abbrev sNmb : Stmt := top 17
abbrev sText : Stmt := top 18
abbrev sRead : Stmt := top 19
abbrev sLaw : Stmt := top 20
abbrev FnP (K : PySem.W.Frag) (x : Str) (st : Stmt) (f : Addr) (fd : FuncData) : Prop := FunD K x x (defArgs st) (defBody st) (defScope st) [] [] f fd
abbrev FnM (K : PySem.W.Frag) (x q : Str) (st : Stmt) (f : Addr) (fd : FuncData) : Prop := FunD K x q (defArgs st) (defBody st) (defScope st) [] [] f fd
theorem scN : FnScope ["thing"] ["thing"] (defScope sInt) := ⟨rfl, rfl, rfl, by decide +kernel, rfl, by decide +kernel, by decide +kernel⟩
theorem scB : FnScope ["thing", "low", "high"] ["thing", "low", "high"] (defScope sBtw) := ⟨rfl, rfl, rfl, by decide +kernel, rfl, by decide +kernel, by decide +kernel⟩
theorem scI : FnScope ["self", "at_zero", "slope", "number"] ["self", "at_zero", "slope"] (defScope sIni) := ⟨rfl, rfl, rfl, by decide +kernel, rfl, by decide +kernel, by decide +kernel⟩
theorem scC : FnScope ["self", "m"] ["self", "m"] (defScope sCal) := ⟨rfl, rfl, rfl, by decide +kernel, rfl, by decide +kernel, by decide +kernel⟩
theorem scA : FnScope ["self", "other", "at_zero", "slope"] ["self", "other"] (defScope sAdd) := ⟨rfl, rfl, rfl, by decide +kernel, rfl, by decide +kernel, by decide +kernel⟩
theorem scS : FnScope ["self", "other", "at_zero", "slope"] ["self", "other"] (defScope sSub) := ⟨rfl, rfl, rfl, by decide +kernel, rfl, by decide +kernel, by decide +kernel⟩
theorem scM : FnScope ["self", "other"] ["self", "other"] (defScope sMul) := ⟨rfl, rfl, rfl, by decide +kernel, rfl, by decide +kernel, by decide +kernel⟩
theorem scE : FnScope ["self", "other"] ["self", "other"] (defScope sEq) := ⟨rfl, rfl, rfl, by decide +kernel, rfl, by decide +kernel, by decide +kernel⟩
theorem scT : FnScope ["self", "tail"] ["self"] (defScope sStr) := ⟨rfl, rfl, rfl, by decide +kernel, rfl, by decide +kernel, by decide +kernel⟩
theorem scO : FnScope ["other"] ["other"] (defScope sNum) := ⟨rfl, rfl, rfl, by decide +kernel, rfl, by decide +kernel, by decide +kernel⟩
theorem scH : FnScope ["slope"] ["slope"] (defScope sHead) := ⟨rfl, rfl, rfl, by decide +kernel, rfl, by decide +kernel, by decide +kernel⟩
def CL (K : PySem.W.Frag) : Addr := He.ga K "Line"
structure Txt (K : PySem.W.Frag) (mg : Str → Option Value) : Prop where
  gL : mg "Line" = some (.ref (CL K))
  cl : Cls K (CL K)
  nZ : NoAttr K (CL K) "at_zero"
  nS : NoAttr K (CL K) "slope"
  ic : C8.InsC K (CL K)
  most : ∃ t, mg "MOST" = some (.int (10 ^ 400) t)
  far : ∃ t, mg "LARGEST_NUMBER" = some (.int (10 ^ 30) t)
  isn : mg "isinstance" = none
  len : mg "len" = none
  range : mg "range" = none
  max : mg "max" = none
  min : mg "min" = none
  int : mg "int" = none
  bool : mg "bool" = none
  str : mg "str" = none
/-! ### a line -/
def flds (z e : Int) : List (Str × V) := putF "slope" (.int e) (putF "at_zero" (.int z) [])
theorem kzs : ¬ (("at_zero" : Str) = "slope") := by decide +kernel
theorem kzs' : ¬ (("slope" : Str) = "at_zero") := by decide +kernel
theorem flds_z (z e : Int) : (flds z e).lookup ("at_zero" : Str) = some (.int z) := by
  unfold flds
  rw [lookup_putF, if_neg kzs, lookup_putF, if_pos rfl]
theorem flds_e (z e : Int) : (flds z e).lookup ("slope" : Str) = some (.int e) := by
  unfold flds
  rw [lookup_putF, if_pos rfl]
def LineAt (K : PySem.W.Frag) (H : Hp) (p : Addr) (z e : Int) : Prop := ∃ dx, H p = some (.ins (CL K) dx (flds z e))
theorem LineAt.same {K : PySem.W.Frag} {H H' : Hp} {p : Addr} {z e : Int} (h : LineAt K H p z e) (s : Same H H') : LineAt K H' p z e := let ⟨dx, h⟩ := h; ⟨dx, s _ _ h⟩
def Far (z : Int) : Prop := -(10 ^ 400) ≤ z ∧ z ≤ 10 ^ 400
def spInt : Sp := fun vs H Q _ => ∃ i, vs = [.int i] ∧ Q (.bl true) H
def spBtw : Sp := fun vs H Q _ => ∃ i lo hi, vs = [.int i, .int lo, .int hi] ∧ lo ≤ i ∧ i ≤ hi ∧ Q (.bl true) H
def spIni (K : PySem.W.Frag) : Sp := fun vs H Q _ => ∃ (p dx : Addr) (z e : Int), vs = [.ref p, .int z, .int e] ∧ H p = some (.ins (CL K) dx []) ∧ Far z ∧ Far e ∧
  ∀ H', (∀ b o, H b = some o → b ≠ p → H' b = some o) → LineAt K H' p z e → Q .non H'
def spCal (K : PySem.W.Frag) : Sp := fun vs H Q _ => ∃ (p : Addr) (z e m : Int), vs = [.ref p, .int m] ∧ LineAt K H p z e ∧ Far e ∧ 0 ≤ m ∧ m ≤ 10 ^ 30 ∧ Q (.int (z + e * m)) H
def spNum (K : PySem.W.Frag) : Sp := fun vs H Q _ => ∃ (p : Addr) (z e : Int), vs = [.ref p] ∧ LineAt K H p z e ∧ ∀ t, H t = none → Q (.ref t) (upd H t (.tup [.int z, .int e]))
def spAdd (K : PySem.W.Frag) : Sp := fun vs H Q _ => ∃ (p q : Addr) (z e y d : Int), vs = [.ref p, .ref q] ∧ LineAt K H p z e ∧ LineAt K H q y d ∧ Far (z + y) ∧ Far (e + d) ∧ ∀ r H', Same H H' → LineAt K H' r (z + y) (e + d) → Q (.ref r) H'
def spSub (K : PySem.W.Frag) : Sp := fun vs H Q _ => ∃ (p q : Addr) (z e y d : Int), vs = [.ref p, .ref q] ∧ LineAt K H p z e ∧ LineAt K H q y d ∧ Far (z - y) ∧ Far (e - d) ∧ ∀ r H', Same H H' → LineAt K H' r (z - y) (e - d) → Q (.ref r) H'
def spMul (K : PySem.W.Frag) : Sp := fun vs H Q _ => ∃ (p : Addr) (z e i : Int), vs = [.ref p, .int i] ∧ LineAt K H p z e ∧ -2 ^ 64 < i ∧ i < 2 ^ 64 ∧ Far (z * i) ∧ Far (e * i) ∧ ∀ r H', Same H H' → LineAt K H' r (z * i) (e * i) → Q (.ref r) H'
def spEq (K : PySem.W.Frag) : Sp := fun vs H Q _ => ∃ (p q : Addr) (z e y d : Int), vs = [.ref p, .ref q] ∧ LineAt K H p z e ∧ LineAt K H q y d ∧ Q (.bl (decide (z = y) && decide (e = d))) H
def spStr (K : PySem.W.Frag) : Sp := fun vs H Q _ => ∃ (p : Addr) (z e : Int), vs = [.ref p] ∧ LineAt K H p z e ∧ z.natAbs < 10 ^ 400 ∧ e.natAbs < 10 ^ 400 ∧ Q (.str (lineT z e)) H
def spHead : Sp := fun vs H Q _ => ∃ (e : Int), vs = [.int e] ∧ e.natAbs < 10 ^ 400 ∧ Q (.str (headT e)) H
theorem log_lt {a : Int} (h : a.natAbs < 10 ^ 400) : a.natAbs.log2 < 1920 := by
  have h2 : a.natAbs < 2 ^ 1920 := Nat.lt_trans h (by decide +kernel)
  by_cases h0 : a.natAbs = 0
  · rw [h0]; decide
  · exact (Nat.log2_lt h0).mpr h2
theorem len_int {a : Int} (h : a.natAbs < 10 ^ 400) : (intT a).length ≤ 401 := by
  have hs := numL_sz h
  rw [TL.len_tl, tl_int]
  unfold sgnL
  split
  · rw [List.length_cons]; omega
  · omega
theorem len_plus {a : Int} (h : a.natAbs < 10 ^ 400) : (plusT a).length ≤ 401 := by
  have hs := numL_sz h
  rw [TL.len_tl, tl_plus]
  unfold plusL
  rw [List.length_cons]; omega
theorem len_head {a : Int} (h : a.natAbs < 10 ^ 400) : (headT a).length ≤ 402 := by
  have hs := len_int h
  unfold headT
  split
  · decide
  · split
    · decide
    · rw [TL.len_tl] at hs ⊢
      rw [TL.tl_append, List.length_append]
      show _ + 1 ≤ _
      omega
theorem len_tail {a : Int} (h : a.natAbs < 10 ^ 400) : (tailT a).length ≤ 401 := by
  unfold tailT
  split
  · decide
  · exact len_plus h
theorem len_app (x y : Str) : (x ++ y).length = x.length + y.length := by
  rw [TL.len_tl, TL.len_tl, TL.len_tl, TL.tl_append, List.length_append]
theorem len_line {z e : Int} (h : z.natAbs < 10 ^ 400) (h' : e.natAbs < 10 ^ 400) : (lineT z e).length ≤ 803 := by
  have h1 := len_int h
  have h2 := len_head h'
  have h3 := len_tail h
  unfold lineT
  split
  · omega
  · rw [len_app]; omega
theorem far_of {z : Int} (h : z.natAbs < 10 ^ 400) : Far z := ⟨by omega, by omega⟩
theorem far_nat {z : Int} (h : Far z) : z.natAbs < 2 ^ 1400 := by
  obtain ⟨h1, h2⟩ := h
  have e : (10 : Int) ^ 400 < 2 ^ 1400 := by decide +kernel
  omega
/-- a def as its callers need it -/
structure Def (P : Program) (w : World) (K : PySem.W.Frag) (mg : Str → Option Value) (base : Heap) (CX : CXT) (k : Nat) (x : Str) (f : Addr) (fd : FuncData) (ps : List Str) (sp : Sp) : Prop where
  ok : FnOk P w K mg base CX k f fd ps sp
  g : mg x = some (.ref f)
  k : PySem.W.keepIn K (.ref f) = true
  b : Binds K fd ps []
section
variable {P : Program} {w : World} {K : PySem.W.Frag} {mg : Str → Option Value} {base : Heap}
theorem bbI : bootBuiltins "int" = some (.type "int") := by decide +kernel
theorem bbB : bootBuiltins "bool" = some (.type "bool") := by decide +kernel
theorem bbS : bootBuiltins "str" = some (.type "str") := by decide +kernel
theorem pe_gI {X : Cx} {x : Str} {i : Int} {t : Tok} {p : Pos} (hm : X.mg x = some (.int i t)) (hg : Gl X x := by rfl) (hd : (x == ("__debug__" : Str)) = false := by decide) : PE X (.Name x p) (tC (.int i)) := pe_glob hg hm (show RelV (.int i) (.int i t) from ⟨t, rfl⟩) hd
theorem ok_int {f : Addr} {fd : FuncData} (F : FnP K "is_integer" sInt f fd) (T : Txt K mg) : FnOk P w K mg base CX0 1 f fd ["thing"] spInt := by
  refine F.ok scN (fun vs H Q E h => ?_) (fun cdv A outer s H vs Q E hr h => ?_)
  · obtain ⟨i, rfl, _⟩ := h
    rfl
  · obtain ⟨i, rfl, q⟩ := h
    refine ⟨_, pss_one (ps_ret (pe_and (pe_isD T.isn (pv 0) (pe_bltn (by rfl) T.int bbI (by rfl)) (by rfl)) (pe_one (pe_not (pe_isD T.isn (pv 0) (pe_bltn (by rfl) T.bool bbB (by rfl)) (by rfl)))))), ?_⟩
    exact ⟨_, rfl, _, _, .int i, (by decide +kernel : kitB "int" "int" = some true), _, rfl, iteT ⟨_, rfl, _, _, .int i, (by decide +kernel : kitB "int" "bool" = some false), _, rfl, q⟩⟩
theorem ok_btw {f fN : Addr} {fd dN : FuncData} (F : FnP K "is_between" sBtw f fd) (N : Def P w K mg base CX0 1 "is_integer" fN dN ["thing"] spInt) : FnOk P w K mg base CX0 2 f fd ["thing", "low", "high"] spBtw := by
  refine F.ok scB (fun vs H Q E h => ?_) (fun cdv A outer s H vs Q E hr h => ?_)
  · obtain ⟨i, lo, hi, rfl, _⟩ := h
    rfl
  · obtain ⟨i, lo, hi, rfl, h1, h2, q⟩ := h
    refine ⟨_, pss_one (ps_ret (pe_and (pe_call N.ok hr (by rfl) N.g N.k N.b .nil pass0 (pa_cons (pv 0) pa_nil)) (pe_one (pe_chain op_le op_le (pv 1) (pv 0) (pv 2))))), ?_⟩
    have e0 : start ["thing", "low", "high"] [.int i, .int lo, .int hi] = [some (.int i), some (.int lo), some (.int hi)] := rfl
    rw [e0]
    refine ⟨_, rfl, i, rfl, _, rfl, iteT ⟨_, rfl, _, rfl, _, _, rfl, rfl, _, rfl, ite_dec (fun h => ?_) fun h => absurd h1 h⟩⟩
    refine ⟨_, rfl, _, _, rfl, rfl, ?_⟩
    show Q (V.bl (decide (i ≤ hi))) H
    rw [decide_eq_true h2]
    exact q
theorem ok_ini {f fN : Addr} {fd dN : FuncData} (F : FunD K "__init__" "Line.__init__" (defArgs sIni) (defBody sIni) (defScope sIni) [.int 0] [] f fd) (T : Txt K mg) (N : Def P w K mg base CX0 2 "is_between" fN dN ["thing", "low", "high"] spBtw) : FnOk P w K mg base CX0 3 f fd ["self", "at_zero", "slope"] (spIni K) := by
  refine F.ok scI (fun vs H Q E h => ?_) (fun cdv A outer s H vs Q E hr h => ?_)
  · obtain ⟨p, dx, z, e, rfl, _⟩ := h
    rfl
  · obtain ⟨p, dx, z, e, rfl, hp, hz, he, q⟩ := h
    obtain ⟨tm, hm⟩ := T.most
    refine ⟨_, PSs.nox (pss_cons (ps_for PassesOwn.never rfl (pi_tup (pe_tup (pa_cons (pv 1) (pa_cons (pv 2) pa_nil)))) (pg_name (i := 3) scI.nd rfl (Or.inl rfl))
        (pss_one (ps_if (pt_not (pt_val (pe_call N.ok hr (by rfl) N.g N.k N.b .nil pass0 (pa_cons (pv 3) (pa_cons (pe_un un_neg (pe_gI hm (by rfl))) (pa_cons (pe_gI hm (by rfl)) pa_nil)))))) pss_never pss_nil)))
      (pss_cons (ps_fld (pv 0) (pv 1) rfl) (pss_one (ps_fld (pv 0) (pv 2) rfl)))), ?_⟩
    have e0 : start ["self", "at_zero", "slope", "number"] [V.ref p, .int z, .int e] = [some (.ref p), some (.int z), some (.int e), none] := rfl
    rw [e0]
    refine go_seq ?_
    refine ⟨_, rfl, _, rfl, by show 2 ≤ sizeLine; decide, fun t ht => ⟨t, rfl, ⟨_, SqT.of upd_same⟩, for_tupD (K := K) (a := t) (xs := [.int z, .int e]) (fun i σ H' => H' = upd H t (.tup [.int z, .int e]) ∧ ∃ o, σ = [some (.ref p), some (.int z), some (.int e), o])
      ⟨rfl, _, rfl⟩ (fun i σ H' _ q => by rw [q.1]; exact SqT.of upd_same) ?_ ?_⟩⟩
    · rintro D' i v σ H2 hrt hnx - - hi ⟨rfl, ⟨o, rfl⟩⟩
      obtain ⟨n, rfl, hn⟩ : ∃ n, v = .int n ∧ Far n := by
        match i, hi with
        | 0, hi => cases hi; exact ⟨z, rfl, hz⟩
        | 1, hi => cases hi; exact ⟨e, rfl, he⟩
      refine ⟨_, rfl, _, rfl, n, _, _, rfl, hn.1, hn.2, _, rfl, ?_⟩
      exact hnx _ _ ⟨rfl, _, rfl⟩
    · rintro σ H2 ⟨rfl, ⟨o, rfl⟩⟩
      have npt : p ≠ t := ne_of_none hp ht
      refine go_seq ?_
      refine ⟨_, rfl, _, rfl, p, CL K, dx, [], rfl, (upd_ne npt).trans hp, T.cl, T.nZ, by show 0 < 1000; decide, ?_⟩
      refine ⟨_, rfl, _, rfl, p, CL K, dx, _, rfl, upd_same, T.cl, T.nS, by show 1 < 1000; decide, ?_⟩
      refine q _ (fun b o' e' nb => ?_) ⟨dx, upd_same⟩
      exact (upd_ne nb).trans ((upd_ne nb).trans ((upd_ne (ne_of_none e' ht)).trans e'))
end
end L2.L50

set_option maxHeartbeats 1000000
namespace L2.L50
open PySem PySem.Spec PyProof.Rows LR L2.Lr L2.Tx
/-- how a line is made -/
structure MkL (P : Program) (w : World) (K : PySem.W.Frag) (mg : Str → Option Value) (base : Heap) (fI : Addr) (dI : FuncData) : Prop where
  m : Mk K (CL K) fI
  ok : FnOk P w K mg base CX0 3 fI dI ["self", "at_zero", "slope"] (spIni K)
  b : Binds K dI ["self", "at_zero", "slope"] []
/-- the question of Line(a, b) -/
theorem make_go {K : PySem.W.Frag} {H : Hp} {z e : Int} {Q : VK} {E : XK} (hz : Far z) (he : Far e) (q : ∀ r H', Same H H' → H r = none → LineAt K H' r z e → Q (.ref r) H') :
    ∀ x dx, H x = none → H dx = none → dx ≠ x → spIni K [.ref x, .int z, .int e] (upd (upd H dx (.own x)) x (.ins (CL K) dx [])) (fun v H2 => v = .non ∧ Q (.ref x) H2) E := by
  intro x dx hx hdx hne
  refine ⟨x, dx, z, e, rfl, upd_same, hz, he, fun H' keep hL => ⟨rfl, q x H' (fun b o hb => ?_) hx hL⟩⟩
  have n1 : b ≠ x := ne_of_none hb hx
  have n2 : b ≠ dx := ne_of_none hb hdx
  exact keep b o ((upd_ne n1).trans ((upd_ne n2).trans hb)) n1
section
variable {P : Program} {w : World} {K : PySem.W.Frag} {mg : Str → Option Value} {base : Heap}
theorem ok_cal {f fN : Addr} {fd dN : FuncData} (F : FnM K "__call__" "Line.__call__" sCal f fd) (T : Txt K mg) (N : Def P w K mg base CX0 2 "is_between" fN dN ["thing", "low", "high"] spBtw) : FnOk P w K mg base CX0 3 f fd ["self", "m"] (spCal K) := by
  refine F.ok scC (fun vs H Q E h => ?_) (fun cdv A outer s H vs Q E hr h => ?_)
  · obtain ⟨p, z, e, m, rfl, _⟩ := h
    rfl
  · obtain ⟨p, z, e, m, rfl, ⟨dx, hp⟩, he, h0, h1, q⟩ := h
    obtain ⟨tf, hfar⟩ := T.far
    refine ⟨_, pss_cons (ps_if (pt_not (pt_val (pe_call N.ok hr (by rfl) N.g N.k N.b .nil pass0 (pa_cons (pv 1) (pa_cons pe_int (pa_cons (pe_gI hfar (by rfl)) pa_nil)))))) pss_never pss_nil)
      (pss_one (ps_ret (pe_op op_add (pe_fld (pv 0) rfl) (pe_op op_mulW (pe_fld (pv 0) rfl) (pv 1))))), ?_⟩
    have e0 : start ["self", "m"] [V.ref p, .int m] = [some (.ref p), some (.int m)] := rfl
    rw [e0]
    refine go_seq ?_
    refine ⟨_, rfl, m, 0, _, rfl, h0, h1, _, rfl, ?_⟩
    refine ⟨_, rfl, p, CL K, dx, _, _, rfl, hp, T.cl, T.nZ, flds_z _ _, _, rfl, p, CL K, dx, _, _, rfl, hp, T.cl, T.nS, flds_e _ _, _, rfl, _, _, rfl, rfl, wide_mul (b := 200) (far_nat he) ?_ (by decide) (by decide) (by decide), _, _, rfl, rfl, q⟩
    have e2 : (10 : Int) ^ 30 < 2 ^ 200 := by decide +kernel
    omega
theorem ok_num {f : Addr} {fd : FuncData} (F : FnP K "_numbers_of" sNum f fd) (T : Txt K mg) : FnOk P w K mg base CX0 1 f fd ["other"] (spNum K) := by
  refine F.ok scO (fun vs H Q E h => ?_) (fun cdv A outer s H vs Q E hr h => ?_)
  · obtain ⟨p, z, e, rfl, _⟩ := h
    rfl
  · obtain ⟨p, z, e, rfl, ⟨dx, hp⟩, q⟩ := h
    refine ⟨_, pss_cons (ps_if (pt_val (pe_callB (C8.call_isC T.ic) (by rfl) T.isn boot_isinstance (pa_cons (pv 0) (pa_cons (pe_glob (v := .ref (CL K)) (by rfl) T.gL rfl) pa_nil)))) (pss_one (ps_ret (pe_tup (pa_cons (pe_fld (pv 0) rfl) (pa_cons (pe_fld (pv 0) rfl) pa_nil))))) pss_nil) pss_never, ?_⟩
    have e0 : start ["other"] [V.ref p] = [some (.ref p)] := rfl
    rw [e0]
    refine go_seq ?_
    refine ⟨_, rfl, p, dx, _, rfl, hp, _, rfl, iteT ?_⟩
    exact ⟨_, rfl, p, CL K, dx, _, _, rfl, hp, T.cl, T.nZ, flds_z _ _, _, rfl, p, CL K, dx, _, _, rfl, hp, T.cl, T.nS, flds_e _ _, by show 2 ≤ sizeLine; decide, q⟩
theorem ok_add {f fN fI : Addr} {fd dN dI : FuncData} (F : FnM K "__add__" "Line.__add__" sAdd f fd) (T : Txt K mg) (N : Def P w K mg base CX0 1 "_numbers_of" fN dN ["other"] (spNum K)) (M : MkL P w K mg base fI dI) : FnOk P w K mg base CX0 5 f fd ["self", "other"] (spAdd K) := by
  refine F.ok scA (fun vs H Q E h => ?_) (fun cdv A outer s H vs Q E hr h => ?_)
  · obtain ⟨p, q, z, e, y, d, rfl, _⟩ := h
    rfl
  · obtain ⟨p, q, z, e, y, d, rfl, ⟨dx, hp⟩, hq, h1, h2, go⟩ := h
    refine ⟨_, pss_cons (ps_asg (pe_call N.ok (hr.mono (by decide)) (by rfl) N.g N.k N.b .nil pass0 (pa_cons (pv 1) pa_nil)) (pg_tup rfl (pgs_cons (pg_name (i := 2) scA.nd rfl (Or.inl rfl)) (pgs_cons (pg_name (i := 3) scA.nd rfl (Or.inl rfl)) pgs_nil))))
      (pss_one (ps_ret (pe_make M.m M.ok hr (by rfl) T.gL M.b .nil pass0 (pa_cons (pe_op op_add (pe_fld (pv 0) rfl) (pv 2)) (pa_cons (pe_op op_add (pe_fld (pv 0) rfl) (pv 3)) pa_nil))))), ?_⟩
    have e0 : start ["self", "other", "at_zero", "slope"] [V.ref p, .ref q] = [some (.ref p), some (.ref q), none, none] := rfl
    rw [e0]
    refine go_seq (go_asg ?_)
    refine ⟨_, rfl, q, y, d, rfl, hq, fun t ht => ?_⟩
    have hp' := fun o => (upd_ne (o := o) (ne_of_none hp ht)).trans hp
    refine ⟨t, _, rfl, SqT.of upd_same, rfl, _, _, rfl, _, _, rfl, rfl, ?_⟩
    refine ⟨_, rfl, p, CL K, dx, _, _, rfl, hp' _, T.cl, T.nZ, flds_z _ _, _, rfl, _, _, rfl, rfl, _, rfl, p, CL K, dx, _, _, rfl, hp' _, T.cl, T.nS, flds_e _ _, _, rfl, _, _, rfl, rfl, ?_⟩
    exact make_go h1 h2 fun r H' s' _ hL => go r H' ((same_upd ht).trans s') hL
theorem ok_sub {f fN fI : Addr} {fd dN dI : FuncData} (F : FnM K "__sub__" "Line.__sub__" sSub f fd) (T : Txt K mg) (N : Def P w K mg base CX0 1 "_numbers_of" fN dN ["other"] (spNum K)) (M : MkL P w K mg base fI dI) : FnOk P w K mg base CX0 5 f fd ["self", "other"] (spSub K) := by
  refine F.ok scS (fun vs H Q E h => ?_) (fun cdv A outer s H vs Q E hr h => ?_)
  · obtain ⟨p, q, z, e, y, d, rfl, _⟩ := h
    rfl
  · obtain ⟨p, q, z, e, y, d, rfl, ⟨dx, hp⟩, hq, h1, h2, go⟩ := h
    refine ⟨_, pss_cons (ps_asg (pe_call N.ok (hr.mono (by decide)) (by rfl) N.g N.k N.b .nil pass0 (pa_cons (pv 1) pa_nil)) (pg_tup rfl (pgs_cons (pg_name (i := 2) scS.nd rfl (Or.inl rfl)) (pgs_cons (pg_name (i := 3) scS.nd rfl (Or.inl rfl)) pgs_nil))))
      (pss_one (ps_ret (pe_make M.m M.ok hr (by rfl) T.gL M.b .nil pass0 (pa_cons (pe_op op_sub (pe_fld (pv 0) rfl) (pv 2)) (pa_cons (pe_op op_sub (pe_fld (pv 0) rfl) (pv 3)) pa_nil))))), ?_⟩
    have e0 : start ["self", "other", "at_zero", "slope"] [V.ref p, .ref q] = [some (.ref p), some (.ref q), none, none] := rfl
    rw [e0]
    refine go_seq (go_asg ?_)
    refine ⟨_, rfl, q, y, d, rfl, hq, fun t ht => ?_⟩
    have hp' := fun o => (upd_ne (o := o) (ne_of_none hp ht)).trans hp
    refine ⟨t, _, rfl, SqT.of upd_same, rfl, _, _, rfl, _, _, rfl, rfl, ?_⟩
    refine ⟨_, rfl, p, CL K, dx, _, _, rfl, hp' _, T.cl, T.nZ, flds_z _ _, _, rfl, _, _, rfl, rfl, _, rfl, p, CL K, dx, _, _, rfl, hp' _, T.cl, T.nS, flds_e _ _, _, rfl, _, _, rfl, rfl, ?_⟩
    exact make_go h1 h2 fun r H' s' _ hL => go r H' ((same_upd ht).trans s') hL
theorem ok_mul {f fN fI : Addr} {fd dN dI : FuncData} (F : FnM K "__mul__" "Line.__mul__" sMul f fd) (T : Txt K mg) (N : Def P w K mg base CX0 1 "is_integer" fN dN ["thing"] spInt) (M : MkL P w K mg base fI dI) : FnOk P w K mg base CX0 5 f fd ["self", "other"] (spMul K) := by
  refine F.ok scM (fun vs H Q E h => ?_) (fun cdv A outer s H vs Q E hr h => ?_)
  · obtain ⟨p, z, e, i, rfl, _⟩ := h
    rfl
  · obtain ⟨p, z, e, i, rfl, ⟨dx, hp⟩, i0, i1, h1, h2, go⟩ := h
    refine ⟨_, pss_cons (ps_if (pt_not (pt_val (pe_call N.ok (hr.mono (by decide)) (by rfl) N.g N.k N.b .nil pass0 (pa_cons (pv 1) pa_nil)))) pss_never pss_nil)
      (pss_one (ps_ret (pe_make M.m M.ok hr (by rfl) T.gL M.b .nil pass0 (pa_cons (pe_op op_mul (pe_fld (pv 0) rfl) (pv 1)) (pa_cons (pe_op op_mul (pe_fld (pv 0) rfl) (pv 1)) pa_nil))))), ?_⟩
    have e0 : start ["self", "other"] [V.ref p, .int i] = [some (.ref p), some (.int i)] := rfl
    rw [e0]
    refine go_seq ?_
    refine ⟨_, rfl, i, rfl, _, rfl, ?_⟩
    refine ⟨_, rfl, p, CL K, dx, _, _, rfl, hp, T.cl, T.nZ, flds_z _ _, _, rfl, _, _, rfl, rfl, .inr ⟨i0, i1⟩, _, rfl, p, CL K, dx, _, _, rfl, hp, T.cl, T.nS, flds_e _ _, _, rfl, _, _, rfl, rfl, .inr ⟨i0, i1⟩, ?_⟩
    exact make_go h1 h2 fun r H' s' _ hL => go r H' s' hL
theorem ok_eq {f : Addr} {fd : FuncData} (F : FnM K "__eq__" "Line.__eq__" sEq f fd) (T : Txt K mg) : FnOk P w K mg base CX0 1 f fd ["self", "other"] (spEq K) := by
  refine F.ok scE (fun vs H Q E h => ?_) (fun cdv A outer s H vs Q E hr h => ?_)
  · obtain ⟨p, q, z, e, y, d, rfl, _⟩ := h
    rfl
  · obtain ⟨p, q, z, e, y, d, rfl, ⟨dx, hp⟩, ⟨dy, hq⟩, go⟩ := h
    refine ⟨_, pss_one (ps_ret (pe_and (pe_callB (C8.call_isC T.ic) (by rfl) T.isn boot_isinstance (pa_cons (pv 1) (pa_cons (pe_glob (v := .ref (CL K)) (by rfl) T.gL rfl) pa_nil)))
      (pe_and (pe_cmpR op_eq (pe_fld (pv 0) rfl) (pe_fld (pv 1) rfl) (nomark _)) (pe_one (pe_cmpR op_eq (pe_fld (pv 0) rfl) (pe_fld (pv 1) rfl) (nomark _)))))), ?_⟩
    have e0 : start ["self", "other"] [V.ref p, .ref q] = [some (.ref p), some (.ref q)] := rfl
    rw [e0]
    refine ⟨_, rfl, q, dy, _, rfl, hq, _, rfl, iteT ?_⟩
    refine ⟨_, rfl, p, CL K, dx, _, _, rfl, hp, T.cl, T.nZ, flds_z _ _, _, rfl, q, CL K, dy, _, _, rfl, hq, T.cl, T.nZ, flds_z _ _, rfl, _, rfl, ?_⟩
    have e1 : ∀ (a b : Int), decide (V.int a = V.int b) = decide (a = b) := fun a b => by
      by_cases hab : a = b
      · rw [decide_eq_true hab, hab, decide_eq_true rfl]
      · rw [decide_eq_false hab, decide_eq_false fun q => hab (V.int.inj q)]
    show if decide (V.int z = V.int y) = true then _ else _
    rw [e1]
    by_cases h1 : z = y
    · rw [decide_eq_true h1]
      refine iteT ⟨_, rfl, p, CL K, dx, _, _, rfl, hp, T.cl, T.nS, flds_e _ _, _, rfl, q, CL K, dy, _, _, rfl, hq, T.cl, T.nS, flds_e _ _, rfl, ?_⟩
      show Q (.bl (decide (V.int e = V.int d))) H
      rw [e1]
      rw [decide_eq_true h1, Bool.true_and] at go
      exact go
    · rw [decide_eq_false h1]
      rw [decide_eq_false h1, Bool.false_and] at go
      exact iteF go
theorem empty_app (x : Str) : Str.empty ++ x = x := tl_inj (by rw [TL.tl_append]; rfl)
theorem ok_head {f : Addr} {fd : FuncData} (F : FnP K "_head_of" sHead f fd) (T : Txt K mg) : FnOk P w K mg base CX0 1 f fd ["slope"] spHead := by
  refine F.ok scH (fun vs H Q E h => ?_) (fun cdv A outer s H vs Q E hr h => ?_)
  · obtain ⟨e, rfl, _⟩ := h
    rfl
  · obtain ⟨e, rfl, he, go⟩ := h
    refine ⟨_, pss_cons (ps_if (pt_cmpR op_eq (pv 0) pe_int (nomark _)) (pss_one (ps_ret pe_str)) pss_nil)
      (pss_one (ps_ret (pe_ifExp (pt_cmpR op_eq (pv 0) (pe_un un_neg pe_int) (nomark _)) pe_str (pe_joined (.cons (pe_fmt (pv 0)) (.cons pe_str .nil)))))), ?_⟩
    have e0 : start ["slope"] [V.int e] = [some (.int e)] := rfl
    rw [e0]
    have e1 : ∀ (a b : Int), decide (V.int a = V.int b) = decide (a = b) := fun a b => by
      by_cases hab : a = b
      · rw [decide_eq_true hab, hab, decide_eq_true rfl]
      · rw [decide_eq_false hab, decide_eq_false fun q => hab (V.int.inj q)]
    unfold headT at go
    refine go_seq ?_
    refine ⟨_, rfl, rfl, ?_⟩
    refine ⟨_, rfl, ?_⟩
    show if decide (V.int e = V.int 1) = true then _ else _
    rw [e1]
    refine ite_dec (fun h1 => ?_) fun h1 => ?_
    · rw [if_pos h1] at go
      exact go
    · rw [if_neg h1] at go
      refine go_next ?_
      refine ⟨_, rfl, _, rfl, rfl, ?_⟩
      refine ⟨_, rfl, ?_⟩
      show if decide (V.int e = V.int (-1)) = true then _ else _
      rw [e1]
      refine ite_dec (fun h2 => ?_) fun h2 => ?_
      · rw [if_pos h2] at go
        exact go
      · rw [if_neg h2] at go
        have l1 := len_int he
        refine ⟨_, rfl, .inr ⟨e, rfl, log_lt he, intT e, rfl, ?_, mT, rfl, ?_, ?_⟩⟩
        · rw [empty_app, sizeLine_eq]; omega
        · rw [empty_app, len_app, sizeLine_eq]
          show _ + 1 ≤ _
          omega
        · rw [empty_app]
          exact go
theorem ok_str {f fH : Addr} {fd dH : FuncData} (F : FnM K "__str__" "Line.__str__" sStr f fd) (T : Txt K mg) (N : Def P w K mg base CX0 1 "_head_of" fH dH ["slope"] spHead) : FnOk P w K mg base CX0 2 f fd ["self"] (spStr K) := by
  refine F.ok scT (fun vs H Q E h => ?_) (fun cdv A outer s H vs Q E hr h => ?_)
  · obtain ⟨p, z, e, rfl, _⟩ := h
    rfl
  · obtain ⟨p, z, e, rfl, ⟨dx, hp⟩, hz, he, go⟩ := h
    refine ⟨_, pss_cons (ps_if (pt_cmpR op_eq (pe_fld (pv 0) rfl) pe_int (nomark _)) (pss_one (ps_ret (pe_callTy call_str_int (by rfl) T.str bbS (pa_cons (pe_fld (pv 0) rfl) pa_nil)))) pss_nil)
      (pss_cons (ps_set (i := 1) scT.nd rfl (Or.inl rfl) (pe_ifExp (pt_cmpR op_ne (pe_fld (pv 0) rfl) pe_int (nomark _)) (pe_joined1 (pe_fmtP (pe_fld (pv 0) rfl))) pe_str))
      (pss_one (ps_ret (pe_joined (.cons (pe_fmt (pe_call N.ok hr (by rfl) N.g N.k N.b .nil pass0 (pa_cons (pe_fld (pv 0) rfl) pa_nil))) (.cons (pe_fmt (pv 1)) .nil)))))), ?_⟩
    have e0 : start ["self", "tail"] [V.ref p] = [some (.ref p), none] := rfl
    rw [e0]
    have e1 : ∀ (a b : Int), decide (V.int a = V.int b) = decide (a = b) := fun a b => by
      by_cases hab : a = b
      · rw [decide_eq_true hab, hab, decide_eq_true rfl]
      · rw [decide_eq_false hab, decide_eq_false fun q => hab (V.int.inj q)]
    unfold lineT at go
    refine go_seq ?_
    refine ⟨_, rfl, p, CL K, dx, _, _, rfl, hp, T.cl, T.nS, flds_e _ _, rfl, _, rfl, ?_⟩
    show if decide (V.int e = V.int 0) = true then _ else _
    rw [e1]
    refine ite_dec (fun h1 => ?_) fun h1 => ?_
    · rw [if_pos h1] at go
      exact ⟨_, rfl, p, CL K, dx, _, _, rfl, hp, T.cl, T.nZ, flds_z _ _, z, rfl, log_lt hz, go⟩
    · rw [if_neg h1] at go
      refine go_next ?_
      dsimp only
      have fin : ∀ tl : Str, tl = tailT z → ∀ D : Ends, D.rt = Q → (tRet (fun σ H Q => tJs [tFmt (tCall spHead [] E0 (tCons (tFld K (tVar 0) "slope") tNil)), tFmt (tVar 1)] Str.empty σ H fun out H1 => Q (.str out) H1)) D [some (.ref p), some (.str tl)] H := by
        intro tl et D hD
        subst et
        have l1 := len_head he
        have l2 := len_tail hz
        refine ⟨_, rfl, p, CL K, dx, _, _, rfl, hp, T.cl, T.nS, flds_e _ _, e, rfl, he, .inl ⟨headT e, rfl, by rw [sizeLine_eq]; omega, headT e, rfl, by rw [empty_app, sizeLine_eq]; omega, _, rfl, .inl ⟨tailT z, rfl, by rw [sizeLine_eq]; omega, tailT z, rfl, by rw [empty_app, len_app, sizeLine_eq]; omega, ?_⟩⟩⟩
        rw [empty_app, hD]
        exact go
      refine go_seq (go_asg ?_)
      refine ⟨_, rfl, p, CL K, dx, _, _, rfl, hp, T.cl, T.nZ, flds_z _ _, rfl, ?_⟩
      refine ⟨_, rfl, ?_⟩
      show if (!decide (V.int z = V.int 0)) = true then _ else _
      rw [e1]
      by_cases h2 : z = 0
      · rw [decide_eq_true h2]
        refine iteF ?_
        exact fin _ (by unfold tailT; rw [if_pos h2]; rfl) _ rfl
      · rw [decide_eq_false h2]
        refine iteT ?_
        refine ⟨_, rfl, p, CL K, dx, _, _, rfl, hp, T.cl, T.nZ, flds_z _ _, z, rfl, log_lt hz, by have := len_plus hz; rw [sizeLine_eq]; omega, ?_⟩
        exact fin _ (by unfold tailT; rw [if_neg h2]) _ rfl
end
end L2.L50

set_option maxHeartbeats 1000000
namespace L2.L50
open PySem PySem.Spec PyProof.Rows LR L2.Lr L2.Tx
local macro_rules | `(tactic| walk_at "rd") => `(tactic| simp only [tSeq, tAsg, gName, tIfS, tTest, tOp, tIf, tInt, rI, rI0, tVar, tC, tCB, tCons, tNil, tNext, tRet, tLst, rIxL, CPow, CMul, gSub, rSetL, rIxT,
  List.getElem?_cons_zero, List.getElem?_cons_succ, List.set_cons_zero, List.set_cons_succ, Option.some.injEq, V.int.injEq, V.ref.injEq, V.bl.injEq, V.str.injEq, List.cons.injEq, and_true, true_and, exists_and_left, exists_eq_left', exists_eq_left, exists_eq, decide_eq_true_eq, or_true, true_or, List.length_cons, List.length_nil, Nat.zero_add, Nat.reduceAdd])
local macro_rules | `(tactic| walk_at "so") => `(tactic| repeat (first | refine And.intro (by omega) ?_ | refine And.intro (by decide) ?_))
local macro_rules | `(tactic| walk_at "nx") => `(tactic| dsimp only [gName, tNext, tSeq, tAsg, List.set_cons_zero, List.set_cons_succ])
theorem scP : FnScope ["_law_script", "_law_k", "_law_cell", "_law_seed"] ["_law_script", "_law_k"] (defScope sPool) := ⟨rfl, rfl, rfl, by decide +kernel, rfl, by decide +kernel, by decide +kernel⟩
theorem scK : FnScope ["_law_pool_here", "_law_many", "_law_found"] ["_law_pool_here", "_law_many"] (defScope sTake) := ⟨rfl, rfl, rfl, by decide +kernel, rfl, by decide +kernel, by decide +kernel⟩
theorem scD : FnScope ["_law_pool_here", "_law_way", "_law_small", "_law_great", "_law_turn"] ["_law_pool_here"] (defScope sNmb) := ⟨rfl, rfl, rfl, by decide +kernel, rfl, by decide +kernel, by decide +kernel⟩
theorem scX : FnScope ["_law_zero", "_law_each", "_law_head"] ["_law_zero", "_law_each"] (defScope sText) := ⟨rfl, rfl, rfl, by decide +kernel, rfl, by decide +kernel, by decide +kernel⟩
theorem scR : FnScope ["_law_text_here", "_law_m", "_law_head", "_law_sign", "_law_tail", "_law_each"] ["_law_text_here", "_law_m"] (defScope sRead) := ⟨rfl, rfl, rfl, by decide +kernel, rfl, by decide +kernel, by decide +kernel⟩
/-! ### what the law draws -/
def PoolAt (H : Hp) (p : Addr) : Prop := ∃ c s : Int, H p = some (.lst [.int c, .int s]) ∧ 0 ≤ c ∧ 0 ≤ s ∧ s < 2147483648
/-- all but p stays -/
def Adv (p : Addr) (H H' : Hp) : Prop := ∀ b o, H b = some o → b ≠ p → H' b = some o
theorem Adv.refl {p : Addr} {H : Hp} : Adv p H H := fun _ _ h _ => h
theorem Adv.trans {p : Addr} {H H1 H2 : Hp} (a : Adv p H H1) (b : Adv p H1 H2) : Adv p H H2 := fun c o h n => b c o (a c o h n) n
theorem Adv.same {p : Addr} {H H1 H2 : Hp} (a : Adv p H H1) (b : Same H1 H2) : Adv p H H2 := fun c o h n => b c o (a c o h n)
theorem Same.adv {p : Addr} {H H1 H2 : Hp} (a : Same H H1) (b : Adv p H1 H2) : Adv p H H2 := fun c o h n => b c o (a c o h) n
theorem Adv.new {p : Addr} {H H1 : Hp} (n : H p = none) (a : Adv p H H1) : Same H H1 := fun c o h => a c o h (ne_of_none h n)
theorem PoolAt.ne {H : Hp} {p t : Addr} {xs : List V} (h : PoolAt H p) (e : H t = some (.tup xs)) : t ≠ p := by
  obtain ⟨c, s, hp, _⟩ := h
  intro z
  rw [z, hp] at e
  cases e
theorem PoolAt.same {H H' : Hp} {p : Addr} (h : PoolAt H p) (s : Same H H') : PoolAt H' p := by
  obtain ⟨c, s', hp, q⟩ := h
  exact ⟨c, s', s _ _ hp, q⟩
theorem Adv.none {p t : Addr} {H H1 : Hp} (a : Adv p H H1) (hp : PoolAt H1 p) (n : H1 t = .none) : H t = .none := by
  cases e : H t with
  | none => rfl
  | some o =>
    obtain ⟨c, s, hq, _⟩ := hp
    by_cases h : t = p
    · rw [h, hq] at n
      cases n
    · rw [a t o e h] at n
      cases n
def spPool (K : PySem.W.Frag) : Sp := fun vs H Q _ => ∃ (a : Addr) (ns : List Int) (k : Int), vs = [.ref a, .int k] ∧ SqL K H a (ns.map V.int) ∧ ns.length ≤ 1000 ∧ 0 ≤ k ∧ k < 1000 ∧
  ∀ (p : Addr) (H' : Hp), H p = none → Same H H' → PoolAt H' p → Q (.ref p) H'
def spTake : Sp := fun vs H Q _ => ∃ (p : Addr) (m : Int), vs = [.ref p, .int m] ∧ PoolAt H p ∧ 0 < m ∧ m < 2 ^ 128 ∧
  ∀ (r : Int) (H' : Hp), 0 ≤ r → r < m → Adv p H H' → PoolAt H' p → Q (.int r) H'
def spNmb : Sp := fun vs H Q _ => ∃ p : Addr, vs = [.ref p] ∧ PoolAt H p ∧ ∀ (r : Int) (H' : Hp), r.natAbs < 10 ^ 60 → Adv p H H' → PoolAt H' p → Q (.int r) H'
def spText : Sp := fun vs H Q _ => ∃ z e : Int, vs = [.int z, .int e] ∧ z.natAbs < 10 ^ 400 ∧ e.natAbs < 10 ^ 400 ∧ Q (.str (lineT z e)) H
def spRead : Sp := fun vs H Q _ => ∃ z e m : Int, vs = [.str (lineT z e), .int m] ∧ z.natAbs < 10 ^ 400 ∧ e.natAbs < 10 ^ 400 ∧ 0 ≤ m ∧ m < 2 ^ 64 ∧ ∀ H', Same H H' → Q (.int (e * m + z)) H'
theorem dec_vi (a b : Int) : decide (V.int a = V.int b) = decide (a = b) := by
  by_cases h : a = b
  · rw [decide_eq_true h, h, decide_eq_true rfl]
  · rw [decide_eq_false h, decide_eq_false fun q => h (V.int.inj q)]
theorem dec_vs (a b : Str) : decide (V.str a = V.str b) = decide (a = b) := by
  by_cases h : a = b
  · rw [decide_eq_true h, h, decide_eq_true rfl]
  · rw [decide_eq_false h, decide_eq_false fun q => h (V.str.inj q)]
section
variable {P : Program} {w : World} {K : PySem.W.Frag} {mg : Str → Option Value} {base : Heap}
theorem ok_pool {f : Addr} {fd : FuncData} (F : FnP K "_law_pool" sPool f fd) (T : Txt K mg) : FnOk P w K mg base CX0 1 f fd ["_law_script", "_law_k"] (spPool K) := by
  refine F.ok scP (fun vs H Q E h => ?_) (fun cdv A outer s H vs Q E hr h => ?_)
  · obtain ⟨a, ns, k, rfl, _⟩ := h
    rfl
  · obtain ⟨a, ns, k, rfl, hS, hl, h0, h1, q⟩ := h
    refine ⟨_, pss_cons (ps_set (i := 2) scP.nd rfl (Or.inl rfl) (pe_ifExp (pt_cmpR op_lt (pv 1) (pe_callB call_len (by rfl) T.len boot_len (pa_cons (pv 0) pa_nil)) (nomark _)) (pe_ix ix_list (pv 0) (pv 1) (fun _ _ => rfl)) pe_int))
      (pss_cons (ps_set (i := 3) scP.nd rfl (Or.inl rfl) (pe_op op_mul (pe_toI T.int (pe_op op_add (pe_op op_add (pe_op op_mod (pe_toI T.int (pv 2) (by rfl)) pe_int) (pe_op op_mul (pe_op op_mul pe_int (pv 1)) (pv 1))) pe_int) (by rfl)) pe_int))
      (pss_one (ps_ret (pe_lst (pa_cons (pe_ifExp (pt_cmpR op_ge (pv 2) (pe_op op_pow pe_int pe_int) (nomark _)) (pv 2) pe_int) (pa_cons (pe_op op_add (pe_op op_mod (pe_toI T.int (pv 3) (by rfl)) pe_int) pe_int) pa_nil)))))), ?_⟩
    have e0 : start ["_law_script", "_law_k", "_law_cell", "_law_seed"] [V.ref a, V.int k] = [some (.ref a), some (.int k), none, none] := rfl
    rw [e0]
    have fin : ∀ (c x : Int) (p : Addr), 0 ≤ c → H p = none → Q (.ref p) (upd H p (.lst [.int c, .int (x % 2147483647 + 1)])) := fun c x p hc hp => q p _ hp (same_upd hp) ⟨c, _, upd_same, hc, by omega, by omega⟩
    walk_at "rd"
    have e2 : (10 : Int) ^ (Int.toNat 18) = 1000000000000000000 := by decide
    rw [e2]
    refine ⟨(ns.map V.int).length, Or.inl ⟨_, hS, rfl⟩, ?_⟩
    rw [List.length_map]
    split
    · rename_i hk
      obtain ⟨z, ez⟩ : ∃ z, ns[k.toNat]? = some z := ⟨_, List.getElem?_eq_getElem (by omega)⟩
      refine ⟨_, hS, .int z, ?_, z, rfl, ?_⟩
      · have e1 : k = (k.toNat : Int) := by omega
        rw [e1]
        exact atI_nat (by rw [List.getElem?_map, ez]; rfl)
      · walk_at "so"
        refine ⟨z, rfl, ?_⟩
        split
        · rename_i hz
          refine ⟨by decide, by show 2 ≤ sizeLine; decide, fun p hp => fin z _ p (by omega) hp⟩
        · exact ⟨by decide, by show 2 ≤ sizeLine; decide, fun p hp => fin 0 _ p (Int.le_refl 0) hp⟩
    · walk_at "so"
      exact fun p hp => fin 0 _ p (Int.le_refl 0) hp
theorem ok_take {f : Addr} {fd : FuncData} (F : FnP K "_law_take" sTake f fd) (T : Txt K mg) : FnOk P w K mg base CX0 1 f fd ["_law_pool_here", "_law_many"] spTake := by
  refine F.ok scK (fun vs H Q E h => ?_) (fun cdv A outer s H vs Q E hr h => ?_)
  · obtain ⟨a, m, rfl, _⟩ := h
    rfl
  · obtain ⟨p, m, rfl, ⟨c, s, hp, hc, hs0, hs1⟩, hm0, hm1, q⟩ := h
    refine ⟨_, pss_cons (ps_if (pt_cmpR op_gt (pe_ix ix_list (pv 0) pe_int (fun _ _ => rfl)) pe_int (nomark _))
        (pss_cons (ps_set (i := 2) scK.nd rfl (Or.inl rfl) (pe_op op_mod (pe_toI T.int (pe_ix ix_list (pv 0) pe_int (fun _ _ => rfl)) (by rfl)) (pv 1)))
        (pss_cons (ps_asg (pe_op op_fdivW (pe_ix ix_list (pv 0) pe_int (fun _ _ => rfl)) (pv 1)) (pg_sub (pv 0) pe_int set_list))
        (pss_one (ps_ret (pv 2))))) pss_nil)
      (pss_cons (ps_asg (pe_op op_mod (pe_toI T.int (pe_op op_add (pe_op op_mul (pe_ix ix_list (pv 0) pe_int (fun _ _ => rfl)) pe_int) pe_int) (by rfl)) pe_int) (pg_sub (pv 0) pe_int set_list))
      (pss_one (ps_ret (pe_op op_mod (pe_op op_fdiv (pe_op op_mod (pe_toI T.int (pe_op op_mul (pe_ix ix_list (pv 0) pe_int (fun _ _ => rfl)) (pe_ix ix_list (pv 0) pe_int (fun _ _ => rfl))) (by rfl)) pe_int) pe_int) (pv 1))))), ?_⟩
    have e0 : start ["_law_pool_here", "_law_many", "_law_found"] [V.ref p, V.int m] = [some (.ref p), some (.int m), none] := rfl
    rw [e0]
    have fin : ∀ (r c' s' : Int), 0 ≤ r → r < m → 0 ≤ c' → 0 ≤ s' → s' < 2147483648 → Q (.int r) (upd H p (.lst [.int c', .int s'])) := fun r c' s' h0 h1 hc' hs0' hs1' =>
      q r _ h0 h1 (fun b o e n => (upd_ne n).trans e) ⟨c', s', upd_same, hc', hs0', hs1'⟩
    walk_at "rd"
    refine ⟨_, SqL.of hp, _, rfl, c, rfl, ?_⟩
    split
    · refine ⟨_, SqL.of hp, _, rfl, c, rfl, hm0, _, SqL.of hp, _, rfl, c, rfl, wide_div (b := 128) hm0 (by omega) (by decide) (by decide), _, hp, 0, rfl, ?_⟩
      exact fin _ _ s (Int.emod_nonneg _ (by omega)) (Int.emod_lt_of_pos _ hm0) (Int.ediv_nonneg hc (by omega)) hs0 hs1
    · refine ⟨_, SqL.of hp, .int s, rfl, s, rfl, by omega, by decide, _, hp, 1, rfl, _, SqL.of upd_same, _, rfl, _, SqL.of upd_same, _, rfl, _, rfl, _, rfl, .inl (by omega), by decide, ⟨by decide, by decide⟩, hm0, ?_⟩
      exact fin _ c _ (Int.emod_nonneg _ (by omega)) (Int.emod_lt_of_pos _ hm0) hc (by omega) (by omega)
theorem ok_nmb {f fT : Addr} {fd dT : FuncData} (F : FnP K "_law_number" sNmb f fd) (T : Txt K mg) (N : Def P w K mg base CX0 1 "_law_take" fT dT ["_law_pool_here", "_law_many"] spTake) : FnOk P w K mg base CX0 2 f fd ["_law_pool_here"] spNmb := by
  refine F.ok scD (fun vs H Q E h => ?_) (fun cdv A outer s H vs Q E hr h => ?_)
  · obtain ⟨p, rfl, _⟩ := h
    rfl
  · obtain ⟨p, rfl, hp, q⟩ := h
    refine ⟨_, PSs.nox (pss_cons (ps_par (i := 1) (j := 2) (by rfl) scD.nd rfl rfl (by decide) rfl rfl (pa_cons (pe_call N.ok hr (by rfl) N.g N.k N.b .nil pass0 (pa_cons (pv 0) (pa_cons pe_int pa_nil))) (pa_cons (pe_op op_sub (pe_call N.ok hr (by rfl) N.g N.k N.b .nil pass0 (pa_cons (pv 0) (pa_cons pe_int pa_nil))) pe_int) pa_nil)) (by rfl))
      (pss_cons (ps_set (i := 3) scD.nd rfl (Or.inl rfl) pe_int)
      (pss_cons (ps_for PassesOwn.never rfl (pi_range1 (by rfl) T.range (pa_cons pe_int pa_nil)) (pg_name (i := 4) scD.nd rfl (Or.inl rfl))
        (pss_one (ps_set (i := 3) scD.nd rfl (Or.inl rfl) (pe_op op_add (pe_op op_mul (pv 3) (pe_op op_pow pe_int pe_int)) (pe_call N.ok hr (by rfl) N.g N.k N.b .nil pass0 (pa_cons (pv 0) (pa_cons (pe_op op_pow pe_int pe_int) pa_nil)))))))
      (pss_one (ps_ret (pe_ix ix_list (pe_lst (pa_cons (pv 2) (pa_cons (pv 2) (pa_cons (pv 3) (pa_cons (pe_un un_neg (pv 3)) pa_nil))))) (pv 1) (fun _ _ => rfl))))))), ?_⟩
    have e0 : start ["_law_pool_here", "_law_way", "_law_small", "_law_great", "_law_turn"] [V.ref p] = [some (.ref p), none, none, none, none] := rfl
    rw [e0]
    refine go_seq ?_
    refine ⟨_, rfl, p, 4, rfl, hp, by decide, by decide, fun way H1 w0 w1 a1 hp1 => ?_⟩
    refine ⟨_, rfl, p, 25, rfl, hp1, by decide, by decide, fun sm H2 s0 s1 a2 hp2 => ?_⟩
    refine ⟨_, _, rfl, rfl, _, _, rfl, ?_⟩
    walk_at "nx"
    refine ⟨6, rfl, by decide, by decide, for_rangeD (n := 6) (lo := 0) (fun i σ H' => Adv p H H' ∧ PoolAt H' p ∧ ∃ g o, σ = [some (.ref p), some (.int way), some (.int (sm - 12)), some (.int g), o] ∧ 0 ≤ g ∧ g < 10 ^ (10 * i)) ⟨a1.trans a2, hp2, 0, _, rfl, by decide, by decide⟩ ?_ ?_⟩
    · rintro D i σ H3 hrt hnx - - hi ⟨a3, hp3, g, o, rfl, g0, g1⟩
      walk_at "nx"
      refine ⟨_, rfl, _, _, rfl, rfl, ⟨by decide, by decide, by decide⟩, _, _, rfl, rfl, .inr ⟨by decide, by decide⟩, ?_⟩
      refine ⟨_, rfl, _, _, rfl, rfl, ⟨by decide, by decide, by decide⟩, p, _, rfl, hp3, by decide, by decide, fun r H4 r0 r1 a4 hp4 => ?_⟩
      refine ⟨_, _, rfl, rfl, hnx _ _ ⟨a3.trans a4, hp4, _, _, rfl, ?_, ?_⟩⟩
      · have e : ((10 : Int) ^ (Int.toNat 10)) = 10000000000 := by decide
        rw [e]
        omega
      · have e : ((10 : Int) ^ (Int.toNat 10)) = 10000000000 := by decide
        rw [e] at r1 ⊢
        have e2 : (10 : Int) ^ (10 * (i + 1)) = 10 ^ (10 * i) * 10000000000 := by
          rw [Nat.mul_add, Int.pow_add]
          rfl
        rw [e2]
        omega
    · rintro σ H3 ⟨a3, hp3, g, o, rfl, g0, g1⟩
      walk_at "nx"
      have g2 : g.natAbs < 10 ^ 60 := by
        have e : (10 : Int) ^ (10 * 6) = ((10 ^ 60 : Nat) : Int) := by decide +kernel
        rw [e] at g1
        omega
      have hs : (sm - 12).natAbs < 10 ^ 60 := by
        have e : (100 : Nat) < 10 ^ 60 := by decide +kernel
        omega
      refine ⟨_, rfl, _, rfl, _, rfl, _, rfl, _, rfl, by show 4 ≤ sizeLine; decide, fun l nl => ?_⟩
      obtain ⟨r, hr, hr2⟩ : ∃ r : Int, atI [V.int (sm - 12), V.int (sm - 12), V.int g, V.int (-g)] way = some (.int r) ∧ r.natAbs < 10 ^ 60 := by
        have h4 : way = 0 ∨ way = 1 ∨ way = 2 ∨ way = 3 := by omega
        rcases h4 with rfl | rfl | rfl | rfl
        · exact ⟨_, rfl, hs⟩
        · exact ⟨_, rfl, hs⟩
        · exact ⟨_, rfl, g2⟩
        · exact ⟨_, rfl, by rw [Int.natAbs_neg]; exact g2⟩
      refine ⟨_, rfl, l, _, way, _, rfl, rfl, SqL.of upd_same, hr, ?_⟩
      have sl := same_upd (o := .lst [V.int (sm - 12), V.int (sm - 12), V.int g, V.int (-g)]) nl
      exact q r _ hr2 (a3.same sl) (hp3.same sl)
theorem line_law (z e : Int) : lineT z e = if e = 0 then intT z else if z = 0 then headT e else if 0 < z then headT e ++ Str.ofString "+" ++ intT z else headT e ++ intT z := by
  unfold lineT tailT
  split
  · rfl
  · split
    · apply tl_inj
      rw [TL.tl_append]
      exact List.append_nil _
    · split
      · rw [plus_pos (by assumption)]
        apply tl_inj
        rw [TL.tl_append, TL.tl_append, TL.tl_append, TL.tl_append, List.append_assoc]
      · rw [plus_neg (by omega)]
theorem ok_text {f : Addr} {fd : FuncData} (F : FnP K "_law_text" sText f fd) (T : Txt K mg) : FnOk P w K mg base CX0 1 f fd ["_law_zero", "_law_each"] spText := by
  refine F.ok scX (fun vs H Q E h => ?_) (fun cdv A outer s H vs Q E hr h => ?_)
  · obtain ⟨z, e, rfl, _⟩ := h
    rfl
  · obtain ⟨z, e, rfl, hz, he, q⟩ := h
    refine ⟨_, pss_cons (ps_if (pt_cmpR op_eq (pv 1) pe_int (nomark _)) (pss_one (ps_ret (pe_callTy call_str_int (by rfl) T.str bbS (pa_cons (pv 0) pa_nil)))) pss_nil)
      (C8.pss_cut (ps_set (i := 2) scX.nd rfl (Or.inl rfl) (pe_ifExp (pt_cmpR op_eq (pv 1) pe_int (nomark _)) pe_str (pe_ifExp (pt_cmpR op_eq (pv 1) (pe_un un_neg pe_int) (nomark _)) pe_str (pe_op op_add_str (pe_callTy call_str_int (by rfl) T.str bbS (pa_cons (pv 1) pa_nil)) pe_str))))
      (pss_cons (ps_if (pt_cmpR op_eq (pv 0) pe_int (nomark _)) (pss_one (ps_ret (pv 2))) pss_nil)
      (pss_one (ps_ret (pe_ifExp (pt_cmpR op_gt (pv 0) pe_int (nomark _)) (pe_op op_add_str (pe_op op_add_str (pv 2) pe_str) (pe_callTy call_str_int (by rfl) T.str bbS (pa_cons (pv 0) pa_nil))) (pe_op op_add_str (pv 2) (pe_callTy call_str_int (by rfl) T.str bbS (pa_cons (pv 0) pa_nil)))))))), ?_⟩
    have e0 : start ["_law_zero", "_law_each", "_law_head"] [V.int z, .int e] = [some (.int z), some (.int e), none] := rfl
    rw [e0]
    rw [line_law] at q
    have l1 := len_int hz
    have l2 := len_int he
    have l3 := len_head he
    refine go_seq ?_
    refine ⟨_, rfl, rfl, _, rfl, ?_⟩
    show if decide (V.int e = V.int 0) = true then _ else _
    rw [dec_vi]
    refine ite_dec (fun h1 => ?_) fun h1 => ?_
    · rw [if_pos h1] at q
      exact ⟨_, rfl, z, rfl, log_lt hz, q⟩
    · rw [if_neg h1] at q
      refine go_next ?_
      dsimp only
      refine ⟨fun σ' H' => σ' = [some (.int z), some (.int e), some (.str (headT e))] ∧ H' = H, ?_, ?_⟩
      · refine go_asg ?_
        refine ⟨_, rfl, rfl, _, rfl, ?_⟩
        show if decide (V.int e = V.int 1) = true then _ else _
        rw [dec_vi]
        unfold headT
        refine ite_dec (fun h2 => ?_) fun h2 => ?_
        · rw [if_pos h2]
          exact ⟨rfl, rfl⟩
        · rw [if_neg h2]
          refine ⟨_, rfl, _, rfl, rfl, _, rfl, ?_⟩
          show if decide (V.int e = V.int (-1)) = true then _ else _
          rw [dec_vi]
          refine ite_dec (fun h3 => ?_) fun h3 => ?_
          · rw [if_pos h3]
            exact ⟨rfl, rfl⟩
          · rw [if_neg h3]
            refine ⟨_, rfl, e, rfl, log_lt he, intT e, mT, rfl, rfl, ?_, ?_⟩
            · rw [sizeLine_eq]
              show _ + 1 ≤ _
              omega
            · exact ⟨rfl, rfl⟩
      · rintro σ' H' ⟨rfl, rfl⟩
        refine go_seq ?_
        refine ⟨_, rfl, rfl, _, rfl, ?_⟩
        show if decide (V.int z = V.int 0) = true then _ else _
        rw [dec_vi]
        refine ite_dec (fun h2 => ?_) fun h2 => ?_
        · rw [if_pos h2] at q
          exact ⟨_, rfl, q⟩
        · rw [if_neg h2] at q
          refine go_next ?_
          refine ⟨_, rfl, _, _, rfl, rfl, _, rfl, ?_⟩
          refine ite_dec (fun h3 => ?_) fun h3 => ?_
          · rw [if_pos h3] at q
            refine ⟨_, rfl, _, _, rfl, rfl, ?_, _, rfl, z, rfl, log_lt hz, _, _, rfl, rfl, ?_, q⟩
            · rw [sizeLine_eq]
              show _ + 1 ≤ _
              omega
            · rw [sizeLine_eq, len_app]
              show _ + 1 + (intT z).length ≤ _
              omega
          · rw [if_neg h3] at q
            refine ⟨_, rfl, _, rfl, z, rfl, log_lt hz, _, _, rfl, rfl, ?_, q⟩
            rw [sizeLine_eq]
            show _ + (intT z).length ≤ _
            omega
theorem eq_ch {x y : Str} {p : Prop} [Decidable p] {A B : Prop} (i : x = y ↔ p) (h1 : p → A) (h2 : ¬ p → B) : if decide (V.str x = V.str y) = true then A else B := by
  rw [dec_vs]
  refine ite_dec (fun h => h1 (i.mp h)) fun h => h2 fun q => h (i.mpr q)
theorem ok_read {f : Addr} {fd : FuncData} (F : FnP K "_law_read" sRead f fd) (T : Txt K mg) : FnOk P w K mg base CX0 1 f fd ["_law_text_here", "_law_m"] spRead := by
  refine F.ok scR (fun vs H Q E h => ?_) (fun cdv A outer s H vs Q E hr h => ?_)
  · obtain ⟨z, e, m, rfl, _⟩ := h
    rfl
  · obtain ⟨z, e, m, rfl, hz, he, m0, m1, q⟩ := h
    refine ⟨_, pss_cons (ps_if (pt_cmpR op_notIn_sign pe_str (pv 0) (by rfl)) (pss_one (ps_ret (pe_callTy call_int_str (by rfl) T.int bbI (pa_cons (pv 0) pa_nil)))) pss_nil)
      (pss_cons (ps_asg (pe_partition (pv 0) pe_str) (pg_tup rfl (pgs_cons (pg_name (i := 2) scR.nd rfl (Or.inl rfl)) (pgs_cons (pg_name (i := 3) scR.nd rfl (Or.inl rfl)) (pgs_cons (pg_name (i := 4) scR.nd rfl (Or.inl rfl)) pgs_nil)))))
      (C8.pss_cut (ps_set (i := 5) scR.nd rfl (Or.inl rfl) (pe_ifExp (pt_cmpR op_eq (pv 2) pe_str (nomark _)) pe_int (pe_ifExp (pt_cmpR op_eq (pv 2) pe_str (nomark _)) (pe_un un_neg pe_int) (pe_callTy call_int_str (by rfl) T.int bbI (pa_cons (pv 2) pa_nil)))))
      (pss_one (ps_ret (pe_op op_add (pe_op op_mul (pv 5) (pv 1)) (pe_ifExp (pt_cmpR op_eq (pv 4) pe_str (nomark _)) pe_int (pe_callTy call_int_str (by rfl) T.int bbI (pa_cons (pv 4) pa_nil)))))))), ?_⟩
    have e0 : start ["_law_text_here", "_law_m", "_law_head", "_law_sign", "_law_tail", "_law_each"] [V.str (lineT z e), .int m] = [some (.str (lineT z e)), some (.int m), none, none, none, none] := rfl
    rw [e0]
    have l0 := len_line hz he
    have l1 := len_int hz
    have l2 := len_int he
    have l3 := len_tail hz
    refine go_seq ?_
    refine ⟨_, rfl, 109, lineT z e, rfl, rfl, _, rfl, ?_⟩
    have hin : (109 ∈ (lineT z e).cps.toList) ↔ e ≠ 0 := by
      show 109 ∈ TL.tl (lineT z e) ↔ _
      unfold lineT
      by_cases h : e = 0
      · rw [if_pos h, tl_int]
        exact ⟨fun x => absurd x (sgn_free (by decide)), fun x => absurd h x⟩
      · rw [if_neg h, TL.tl_append, head_pre, TL.tl_append]
        exact ⟨fun _ => h, fun _ => List.mem_append_left _ (List.mem_append_right _ List.mem_cons_self)⟩
    by_cases h1 : e = 0
    · rw [decide_eq_false fun x => hin.mp x h1]
      refine iteT ?_
      have el : lineT z e = intT z := by unfold lineT; rw [if_pos h1]
      refine ⟨_, rfl, _, z, rfl, by rw [el]; exact int_back hz, by rw [el]; omega, ?_⟩
      have z2 := q H (Same.refl H)
      rw [h1, Int.zero_mul, Int.zero_add] at z2
      exact z2
    · rw [decide_eq_true (hin.mpr h1)]
      refine iteF ?_
      refine go_next ?_
      dsimp only
      refine go_seq (go_asg ?_)
      refine ⟨_, rfl, ⟨_, rfl⟩, _, _, rfl, rfl, rfl, by rw [sizeLine_eq]; omega, fun t ht => ?_⟩
      have ep : Txt.partition (lineT z e) (Str.ofString "m") = (preT e, mT, tailT z) := line_part h1
      rw [ep]
      refine ⟨t, _, rfl, SqT.of upd_same, rfl, _, _, rfl, _, _, rfl, _, _, rfl, rfl, ?_⟩
      have st := same_upd (o := .tup [.str (preT e), .str mT, .str (tailT z)]) ht
      refine ⟨fun σ' H' => (∃ o, σ' = [some (.str (lineT z e)), some (.int m), o, some (.str mT), some (.str (tailT z)), some (.int e)]) ∧ Same H H', ?_, ?_⟩
      · refine go_asg ?_
        refine ⟨_, rfl, rfl, _, rfl, eq_ch (pre_empty e) (fun h2 => ?_) fun h2 => ?_⟩
        · subst h2
          exact ⟨⟨_, rfl⟩, st⟩
        · refine ⟨_, rfl, rfl, _, rfl, eq_ch (pre_minus e) (fun h3 => ?_) fun h3 => ?_⟩
          · subst h3
            exact ⟨_, rfl, ⟨_, rfl⟩, st⟩
          · have ep2 : preT e = intT e := by unfold preT; rw [if_neg h2, if_neg h3]
            refine ⟨_, rfl, _, e, rfl, by rw [ep2]; exact int_back he, by rw [ep2]; exact Nat.le_trans l2 (by decide), ⟨_, rfl⟩, st⟩
      · rintro σ' H' ⟨⟨o, rfl⟩, s'⟩
        refine ⟨_, rfl, _, rfl, _, _, rfl, rfl, .inr ⟨by omega, m1⟩, ?_⟩
        refine ⟨_, rfl, rfl, _, rfl, eq_ch (tail_empty z) (fun h2 => ?_) fun h2 => ?_⟩
        · refine ⟨_, _, rfl, rfl, ?_⟩
          have z2 := q H' s'
          rw [h2] at z2
          exact z2
        · have et : tailT z = plusT z := by unfold tailT; rw [if_neg h2]
          refine ⟨_, rfl, _, z, rfl, by rw [et]; exact plus_back hz, by omega, _, _, rfl, rfl, ?_⟩
          exact q H' s'
end
end L2.L50

set_option maxHeartbeats 2000000
namespace L2.L50
open PySem PySem.Spec PyProof.Rows LR L2.Lr L2.Tx
local macro_rules | `(tactic| walk_at "nx") => `(tactic| dsimp only [gName, tNext, tSeq, tAsg, List.set_cons_zero, List.set_cons_succ])
abbrev NL : List Str := ["_law_script", "_law_k", "_law_pool_here", "_law_one", "_law_two", "_law_line", "_law_other", "_law_total", "_law_far", "_law_pair", "_law_made", "_law_m"]
theorem scL : FnScope NL ["_law_script"] (defScope sLaw) := ⟨rfl, rfl, rfl, by decide +kernel, rfl, by decide +kernel, by decide +kernel⟩
/-- what the law calls -/
structure Defs (P : Program) (w : World) (K : PySem.W.Frag) (mg : Str → Option Value) (base : Heap) (fP fT fN fX fR fI fS fA fU fM fE fC : Addr) (xP xT xN xX xR xI xS xA xU xM xE xC : FuncData) : Prop where
  dP : Def P w K mg base CX0 1 "_law_pool" fP xP ["_law_script", "_law_k"] (spPool K)
  dT : Def P w K mg base CX0 1 "_law_take" fT xT ["_law_pool_here", "_law_many"] spTake
  dN : Def P w K mg base CX0 2 "_law_number" fN xN ["_law_pool_here"] spNmb
  dX : Def P w K mg base CX0 1 "_law_text" fX xX ["_law_zero", "_law_each"] spText
  dR : Def P w K mg base CX0 1 "_law_read" fR xR ["_law_text_here", "_law_m"] spRead
  m : MkL P w K mg base fI xI
  b1 : ∃ ds, Vals [.int 0] ds ∧ Binds K xI ["self", "at_zero", "slope"] ds
  bk : ∃ g gV, KBn K xI ["self", "at_zero", "slope"] 1 ["at_zero", "slope"] g gV ∧ ∀ x a b, gV [x] [a, b] = [x, a, b]
  sD : Dun K (CL K) fS "__str__"
  sF : FnOk P w K mg base CX0 2 fS xS ["self"] (spStr K)
  sB : Binds K xS ["self"] []
  aD : OwnOp K (CL K) fA .Add
  aF : FnOk P w K mg base CX0 5 fA xA ["self", "other"] (spAdd K)
  aB : Binds K xA ["self", "other"] []
  uD : OwnOp K (CL K) fU .Sub
  uF : FnOk P w K mg base CX0 5 fU xU ["self", "other"] (spSub K)
  uB : Binds K xU ["self", "other"] []
  mD : OwnOp K (CL K) fM .Mult
  mF : FnOk P w K mg base CX0 5 fM xM ["self", "other"] (spMul K)
  mB : Binds K xM ["self", "other"] []
  eD : Dun K (CL K) fE "__eq__"
  eF : FnOk P w K mg base CX0 1 fE xE ["self", "other"] (spEq K)
  eB : Binds K xE ["self", "other"] []
  cD : StX.CallO K (CL K) fC
  cF : FnR P w K mg base CX0 3 fC (spCal K)
def spLaw (K : PySem.W.Frag) : Sp := fun vs H Q _ => ∃ (a : Addr) (ns : List Int), vs = [.ref a] ∧ SqL K H a (ns.map V.int) ∧ ns.length ≤ 63 ∧ ∀ H', Q (.bl true) H'
def Sm (z : Int) : Prop := z.natAbs < 10 ^ 70
theorem Sm.far {z : Int} (h : Sm z) : z.natAbs < 10 ^ 400 := by unfold Sm at h; omega
theorem Sm.Far {z : Int} (h : Sm z) : Far z := far_of h.far
/-- the two pairs and their pool -/
structure Two (H : Hp) (pp l1 l2 : Addr) (z e y d : Int) : Prop where
  po : PoolAt H pp
  one : H l1 = some (.lst [.int z, .int e])
  two : H l2 = some (.lst [.int y, .int d])
  n1 : l1 ≠ pp
  n2 : l2 ≠ pp
  hz : z.natAbs < 10 ^ 60
  he : e.natAbs < 10 ^ 60
  hy : y.natAbs < 10 ^ 60
  hd : d.natAbs ≤ 10 ^ 60
/-- what stands behind the drawing -/
structure Made (K : PySem.W.Frag) (H : Hp) (l1 l2 p q t : Addr) (z e y d f : Int) : Prop where
  one : H l1 = some (.lst [.int z, .int e])
  two : H l2 = some (.lst [.int y, .int d])
  lp : LineAt K H p z e
  lq : LineAt K H q y d
  lt : LineAt K H t (z + y) (e + d)
  hz : z.natAbs < 10 ^ 60
  he : e.natAbs < 10 ^ 60
  hy : y.natAbs < 10 ^ 60
  hd : d.natAbs ≤ 10 ^ 60
  f0 : 0 ≤ f
  f1 : f < 10 ^ 9
theorem Made.same {K : PySem.W.Frag} {H H' : Hp} {l1 l2 p q t : Addr} {z e y d f : Int} (m : Made K H l1 l2 p q t z e y d f) (s : Same H H') : Made K H' l1 l2 p q t z e y d f :=
  ⟨s _ _ m.one, s _ _ m.two, m.lp.same s, m.lq.same s, m.lt.same s, m.hz, m.he, m.hy, m.hd, m.f0, m.f1⟩
def St5 (K : PySem.W.Frag) (H0 : Hp) (a : Addr) (σ : St) (H : Hp) : Prop := ∃ (l1 l2 p q t : Addr) (z e y d f : Int) (o1 o2 o9 o10 o11 : Option V),
  σ = [some (.ref a), o1, o2, some (.ref l1), some (.ref l2), some (.ref p), some (.ref q), some (.ref t), some (.int f), o9, o10, o11] ∧ Made K H l1 l2 p q t z e y d f ∧ Same H0 H
theorem make_same {H H' : Hp} {x dx : Addr} {u1 u2 : HO} (hx : H x = none) (hdx : H dx = none) (keep : ∀ b o, upd (upd H dx u1) x u2 b = some o → b ≠ x → H' b = some o) : Same H H' := fun b o hb =>
  have n1 : b ≠ x := ne_of_none hb hx
  have n2 : b ≠ dx := ne_of_none hb hdx
  keep b o ((upd_ne n1).trans ((upd_ne n2).trans hb)) n1
section
variable {P : Program} {w : World} {K : PySem.W.Frag} {mg : Str → Option Value} {base : Heap}
theorem ok_law {f : Addr} {fd : FuncData} {fP fT fN fX fR fI fS fA fU fM fE fC : Addr} {xP xT xN xX xR xI xS xA xU xM xE xC : FuncData} (F : FnP K "law" sLaw f fd) (T : Txt K mg)
    (D : Defs P w K mg base fP fT fN fX fR fI fS fA fU fM fE fC xP xT xN xX xR xI xS xA xU xM xE xC) : FnOk P w K mg base CX0 7 f fd ["_law_script"] (spLaw K) := by
  refine F.ok scL (fun vs H Q E h => ?_) (fun cdv A outer s H vs Q E hr h => ?_)
  · obtain ⟨a, ns, rfl, _⟩ := h
    rfl
  · obtain ⟨a, ns, rfl, hS, hlen, q⟩ := h
    have hr1 : Room 1 _ := hr.mono (by decide)
    have hr2 : Room 2 _ := hr.mono (by decide)
    have hr3 : Room 3 _ := hr.mono (by decide)
    have hr4 : Room 4 _ := hr.mono (by decide)
    have hr5 : Room 5 _ := hr.mono (by decide)
    have hu := hr.units
    obtain ⟨ds, vds, b1⟩ := D.b1
    obtain ⟨kg, kgV, bk, ek⟩ := D.bk
    refine ⟨_, PSs.nox (pss_cons (ps_for PassesOwn.never rfl (pi_range1 (by rfl) T.range (pa_cons (pe_callB (call_max2 rfl) (by rfl) T.max boot_max (pa_cons pe_int (pa_cons (pe_callB (call_min2 rfl) (by rfl) T.min boot_min (pa_cons (pe_callB call_len (by rfl) T.len boot_len (pa_cons (pv 0) pa_nil)) (pa_cons pe_int pa_nil))) pa_nil))) pa_nil)) (pg_name (i := 1) scL.nd rfl (Or.inl rfl))
      (pss_cons (ps_set (i := 2) scL.nd rfl (Or.inl rfl) (pe_call D.dP.ok hr1 (by rfl) D.dP.g D.dP.k D.dP.b .nil pass0 (pa_cons (pv 0) (pa_cons (pv 1) pa_nil))))
      (C8.pss_cut (ps_par (i := 3) (j := 4) (by rfl) scL.nd rfl rfl (by decide) rfl rfl (pa_cons (pe_lst (pa_cons (pe_call D.dN.ok hr2 (by rfl) D.dN.g D.dN.k D.dN.b .nil pass0 (pa_cons (pv 2) pa_nil)) (pa_cons (pe_call D.dN.ok hr2 (by rfl) D.dN.g D.dN.k D.dN.b .nil pass0 (pa_cons (pv 2) pa_nil)) pa_nil)))
          (pa_cons (pe_lst (pa_cons (pe_call D.dN.ok hr2 (by rfl) D.dN.g D.dN.k D.dN.b .nil pass0 (pa_cons (pv 2) pa_nil)) (pa_cons (pe_call D.dN.ok hr2 (by rfl) D.dN.g D.dN.k D.dN.b .nil pass0 (pa_cons (pv 2) pa_nil)) pa_nil))) pa_nil)) (by rfl))
      (C8.pss_cut (ps_if (pt_cmpR op_eq (pe_call D.dT.ok hr1 (by rfl) D.dT.g D.dT.k D.dT.b .nil pass0 (pa_cons (pv 2) (pa_cons pe_int pa_nil))) pe_int (nomark _))
          (pss_one (ps_set (i := 4) scL.nd rfl (Or.inl rfl) (pe_lst (pa_cons (pe_ix ix_list (pv 3) pe_int (fun _ _ => rfl)) (pa_cons (pe_op op_add (pe_ix ix_list (pv 3) pe_int (fun _ _ => rfl)) (pe_call D.dT.ok hr1 (by rfl) D.dT.g D.dT.k D.dT.b .nil pass0 (pa_cons (pv 2) (pa_cons pe_int pa_nil)))) pa_nil))))) pss_nil)
      (C8.pss_cut (ps_par (i := 5) (j := 6) (by rfl) scL.nd rfl rfl (by decide) rfl rfl (pa_cons (pe_make D.m.m D.m.ok hr4 (by rfl) T.gL D.m.b .nil pass0 (pa_cons (pe_ix ix_list (pv 3) pe_int (fun _ _ => rfl)) (pa_cons (pe_ix ix_list (pv 3) pe_int (fun _ _ => rfl)) pa_nil)))
          (pa_cons (pe_makeK D.m.m D.m.ok hr4 (by rfl) T.gL bk pass0 (pk_cons (pe_ix ix_list (pv 4) pe_int (fun _ _ => rfl)) (pk_cons (pe_ix ix_list (pv 4) pe_int (fun _ _ => rfl)) pk_nil))) pa_nil)) (by rfl))
      (C8.pss_cut (ps_par (i := 7) (j := 8) (by rfl) scL.nd rfl rfl (by decide) rfl rfl (pa_cons (pe_op (op_own D.aD D.aF hr5 D.aB pass0) (pv 5) (pv 6)) (pa_cons (pe_call D.dT.ok hr1 (by rfl) D.dT.g D.dT.k D.dT.b .nil pass0 (pa_cons (pv 2) (pa_cons (pe_op op_pow pe_int pe_int) pa_nil))) pa_nil)) (by rfl))
      (C8.pss_cut (ps_for PassesOwn.never rfl (pi_list (pe_lst (pa_cons (pe_tup (pa_cons (pv 3) (pa_cons (pv 5) pa_nil))) (pa_cons (pe_tup (pa_cons (pv 4) (pa_cons (pv 6) pa_nil))) (pa_cons (pe_tup (pa_cons (pe_lst (pa_cons (pe_op op_add (pe_ix ix_list (pv 3) pe_int (fun _ _ => rfl)) (pe_ix ix_list (pv 4) pe_int (fun _ _ => rfl))) (pa_cons (pe_op op_add (pe_ix ix_list (pv 3) pe_int (fun _ _ => rfl)) (pe_ix ix_list (pv 4) pe_int (fun _ _ => rfl))) pa_nil))) (pa_cons (pv 7) pa_nil))) pa_nil))))) (pg_tup rfl (pgs_cons (pg_name (i := 9) scL.nd rfl (Or.inl rfl)) (pgs_cons (pg_name (i := 10) scL.nd rfl (Or.inl rfl)) pgs_nil)))
          (pss_cons (ps_if (PW.pt (pw_or (pt_cmpR op_ne (pe_callTy (call_strO D.sD D.sF hr4 D.sB pass0) (by rfl) T.str bbS (pa_cons (pv 10) pa_nil)) (pe_call D.dX.ok hr1 (by rfl) D.dX.g D.dX.k D.dX.b .nil pass0 (pa_cons (pe_ix ix_list (pv 9) pe_int (fun _ _ => rfl)) (pa_cons (pe_ix ix_list (pv 9) pe_int (fun _ _ => rfl)) pa_nil))) (nomark _)) (pw_or1 (pt_cmpR op_ne (pe_callTy (call_strO D.sD D.sF hr4 D.sB pass0) (by rfl) T.str bbS (pa_cons (pv 10) pa_nil)) (pe_callTy (call_strO D.sD D.sF hr4 D.sB pass0) (by rfl) T.str bbS (pa_cons (pv 10) pa_nil)) (nomark _))))) (pss_one (ps_ret pe_bl)) pss_nil)
          (pss_one (ps_for PassesOwn.never rfl (pi_list (pe_lst (pa_cons pe_int (pa_cons pe_int (pa_cons (pv 8) pa_nil))))) (pg_name (i := 11) scL.nd rfl (Or.inl rfl)) (pss_one (ps_if (pt_cmpR op_ne (pe_call D.dR.ok hr1 (by rfl) D.dR.g D.dR.k D.dR.b .nil pass0 (pa_cons (pe_callTy (call_strO D.sD D.sF hr4 D.sB pass0) (by rfl) T.str bbS (pa_cons (pv 10) pa_nil)) (pa_cons (pv 11) pa_nil))) (StX.pe_callO (pv 10) D.cD D.cF hr3 pass0 (pa_cons (pv 11) pa_nil)) (nomark _)) (pss_one (ps_ret pe_bl)) pss_nil))))))
      (C8.pss_cut (ps_if (PW.pt (pw_or (pt_cmpR op_ne (pe_cmpR op_eq (pe_callTy (call_strO D.sD D.sF hr4 D.sB pass0) (by rfl) T.str bbS (pa_cons (pv 5) pa_nil)) (pe_callTy (call_strO D.sD D.sF hr4 D.sB pass0) (by rfl) T.str bbS (pa_cons (pv 6) pa_nil)) (nomark _)) (pe_cmpR (op_eqO D.eD D.eF hr1 D.eB pass0) (pv 5) (pv 6) (nomark _)) (nomark _)) (pw_or1 (pt_cmpR op_ne (pe_cmpR (op_eqD hu) (pv 3) (pv 4) (nomark _)) (pe_cmpR (op_eqO D.eD D.eF hr1 D.eB pass0) (pv 5) (pv 6) (nomark _)) (nomark _))))) (pss_one (ps_ret pe_bl)) pss_nil)
      (C8.pss_cut (ps_if (PW.pt (pw_or (pt_cmpR op_ne (pe_callTy (call_strO D.sD D.sF hr4 D.sB pass0) (by rfl) T.str bbS (pa_cons (pe_make D.m.m D.m.ok hr4 (by rfl) T.gL b1 vds pass0 (pa_cons (pe_ix ix_list (pv 3) pe_int (fun _ _ => rfl)) pa_nil)) pa_nil)) (pe_callTy call_str_int (by rfl) T.str bbS (pa_cons (pe_ix ix_list (pv 3) pe_int (fun _ _ => rfl)) pa_nil)) (nomark _)) (pw_or (pt_cmpR op_ne (pe_callTy (call_strO D.sD D.sF hr4 D.sB pass0) (by rfl) T.str bbS (pa_cons (pe_op (op_own D.uD D.uF hr5 D.uB pass0) (pv 5) (pv 5)) pa_nil)) pe_str (nomark _)) (pw_or1 (pt_cmpR op_ne (pe_callTy (call_strO D.sD D.sF hr4 D.sB pass0) (by rfl) T.str bbS (pa_cons (pe_op (op_own D.mD D.mF hr5 D.mB pass0) (pv 5) pe_int) pa_nil)) pe_str (nomark _)))))) (pss_one (ps_ret pe_bl)) pss_nil)
      (pss_one (ps_if (pt_cmpR op_ne (pe_callTy (call_strO D.sD D.sF hr4 D.sB pass0) (by rfl) T.str bbS (pa_cons (pv 5) pa_nil)) (pe_call D.dX.ok hr1 (by rfl) D.dX.g D.dX.k D.dX.b .nil pass0 (pa_cons (pe_ix ix_list (pv 3) pe_int (fun _ _ => rfl)) (pa_cons (pe_ix ix_list (pv 3) pe_int (fun _ _ => rfl)) pa_nil))) (nomark _)) (pss_one (ps_ret pe_bl)) pss_nil)))))))))))
      (pss_one (ps_ret pe_bl))), ?_⟩
    have hrd : ∀ H', Same H H' → SqL K H' a (ns.map V.int) := fun H' s => s.seq hS
    refine ⟨_, rfl, _, (ns.map V.int).length, rfl, Or.inl ⟨_, hS, rfl⟩, _, _, rfl, _, _, rfl, _, rfl, ?_, ?_, ?_⟩
    · split <;> split <;> omega
    · split <;> split <;> omega
    refine for_rangeD (lo := 0) (fun i σ H' => Same H H' ∧ ∃ o1 o2 o3 o4 o5 o6 o7 o8 o9 o10 o11, σ = [some (.ref a), o1, o2, o3, o4, o5, o6, o7, o8, o9, o10, o11]) ⟨Same.refl H, none, none, none, none, none, none, none, none, none, none, none, rfl⟩ ?_ (fun σ H' _ => q H')
    rintro D1 k σ H1 - hD1 - - hk ⟨s1, o1, o2, o3, o4, o5, o6, o7, o8, o9, o10, o11, rfl⟩
    have hk6 : k < 6 := by
      revert hk
      split <;> split <;> omega
    -- the pool
    refine ⟨_, rfl, _, rfl, a, ns, 0 + (k : Int), rfl, hrd H1 s1, by omega, by omega, by omega, fun pp H2 np s2 hp2 => ?_⟩
    walk_at "nx"
    -- the numbers
    refine ⟨fun σ' H' => ∃ l1 l2 z e y d, σ' = [some (.ref a), some (.int (0 + (k : Int))), some (.ref pp), some (.ref l1), some (.ref l2), o5, o6, o7, o8, o9, o10, o11] ∧ Two H' pp l1 l2 z e y d ∧ Adv pp H2 H', ?_, ?_⟩
    · refine ⟨_, rfl, pp, rfl, hp2, fun z H3 hz a3 hp3 => ?_⟩
      refine ⟨_, rfl, pp, rfl, hp3, fun e H4 he a4 hp4 => ⟨by show 2 ≤ sizeLine; decide, fun l1 n1 => ?_⟩⟩
      have sl1 := same_upd (o := .lst [.int z, .int e]) n1
      have e1 : l1 ≠ pp := fun x => by
        obtain ⟨c, s', e', _⟩ := hp4
        rw [x, e'] at n1; cases n1
      refine ⟨_, rfl, pp, rfl, hp4.same sl1, fun y H5 hy a5 hp5 => ?_⟩
      refine ⟨_, rfl, pp, rfl, hp5, fun d H6 hd a6 hp6 => ⟨by show 2 ≤ sizeLine; decide, fun l2 n2 => ?_⟩⟩
      have sl2 := same_upd (o := .lst [.int y, .int d]) n2
      have e2 : l2 ≠ pp := fun x => by
        obtain ⟨c, s', e', _⟩ := hp6
        rw [x, e'] at n2; cases n2
      refine ⟨_, _, rfl, l1, l2, z, e, y, d, rfl, ⟨hp6.same sl2, sl2 _ _ (a6 _ _ (a5 _ _ upd_same e1) e1), upd_same, e1, e2, hz, he, hy, Nat.le_of_lt hd⟩, ?_⟩
      exact ((a3.trans a4).same sl1).trans ((a5.trans a6).same sl2)
    rintro σ2 H3 ⟨l1, l2, z, e, y, d, rfl, W, a3⟩
    -- now and then the second like the first
    refine ⟨fun σ' H' => ∃ l1 l2 z e y d, σ' = [some (.ref a), some (.int (0 + (k : Int))), some (.ref pp), some (.ref l1), some (.ref l2), o5, o6, o7, o8, o9, o10, o11] ∧ Two H' pp l1 l2 z e y d ∧ Adv pp H2 H', ?_, ?_⟩
    · refine ⟨_, rfl, pp, 3, rfl, W.po, by decide, by decide, fun r H4 r0 r1 a4 hp4 => ?_⟩
      have W4 : Two H4 pp l1 l2 z e y d := ⟨hp4, a4 _ _ W.one W.n1, a4 _ _ W.two W.n2, W.n1, W.n2, W.hz, W.he, W.hy, W.hd⟩
      refine ⟨rfl, _, rfl, ?_⟩
      show if decide (V.int r = V.int 0) = true then _ else _
      rw [dec_vi]
      refine ite_dec (fun _ => ?_) fun _ => ?_
      · walk_at "nx"
        refine ⟨_, rfl, l1, _, 0, .int z, rfl, rfl, SqL.of W4.one, rfl, ?_⟩
        refine ⟨_, rfl, l1, _, 1, .int e, rfl, rfl, SqL.of W4.one, rfl, ?_⟩
        refine ⟨_, rfl, pp, 2, rfl, W4.po, by decide, by decide, fun x H5 x0 x1 a5 hp5 => ⟨_, _, rfl, rfl, by show 2 ≤ sizeLine; decide, fun l3 n3 => ?_⟩⟩
        have sl3 := same_upd (o := .lst [.int z, .int (e + x)]) n3
        have e3 : l3 ≠ pp := fun x => by
          obtain ⟨c, s', e', _⟩ := hp5
          rw [x, e'] at n3; cases n3
        refine ⟨l1, l3, z, e, z, e + x, rfl, ⟨hp5.same sl3, sl3 _ _ (a5 _ _ W4.one W.n1), upd_same, W.n1, e3, W.hz, W.he, W.hz, ?_⟩, ((a3.trans a4).trans a5).same sl3⟩
        have := W.he
        omega
      · exact ⟨l1, l2, z, e, y, d, rfl, W4, a3.trans a4⟩
    clear W a3
    rintro σ3 H4 ⟨l1, l2, z, e, y, d, rfl, W, a4⟩
    have Fz : Far z := far_of (by have := W.hz; omega)
    have Fe : Far e := far_of (by have := W.he; omega)
    have Fy : Far y := far_of (by have := W.hy; omega)
    have Fd : Far d := far_of (by have := W.hd; omega)
    -- the lines
    refine ⟨fun σ' H' => ∃ p q, σ' = [some (.ref a), some (.int (0 + (k : Int))), some (.ref pp), some (.ref l1), some (.ref l2), some (.ref p), some (.ref q), o7, o8, o9, o10, o11] ∧ LineAt K H' p z e ∧ LineAt K H' q y d ∧ Same H4 H', ?_, ?_⟩
    · refine ⟨_, rfl, l1, _, 0, .int z, rfl, rfl, SqL.of W.one, rfl, ?_⟩
      refine ⟨_, rfl, l1, _, 1, .int e, rfl, rfl, SqL.of W.one, rfl, ?_⟩
      intro p dx hx hdx hne
      refine ⟨p, dx, z, e, rfl, upd_same, Fz, Fe, fun H5 keep lp => ⟨rfl, ?_⟩⟩
      have s5 := make_same hx hdx keep
      refine ⟨_, rfl, l2, _, 0, .int y, rfl, rfl, SqL.of (s5 _ _ W.two), rfl, ?_⟩
      refine ⟨_, rfl, l2, _, 1, .int d, rfl, rfl, SqL.of (s5 _ _ W.two), rfl, ?_⟩
      refine ⟨rfl, rfl, ?_⟩
      intro q dx hx hdx hne
      rw [ek]
      refine ⟨q, dx, y, d, rfl, upd_same, Fy, Fd, fun H6 keep lq => ⟨rfl, ?_⟩⟩
      have s6 := make_same hx hdx keep
      exact ⟨_, _, rfl, p, q, rfl, lp.same s6, lq, s5.trans s6⟩
    rintro σ4 H5 ⟨p, q2, rfl, lp, lq, s5⟩
    have W5 : Two H5 pp l1 l2 z e y d := ⟨W.po.same s5, s5 _ _ W.one, s5 _ _ W.two, W.n1, W.n2, W.hz, W.he, W.hy, W.hd⟩
    have a5 := a4.same s5
    clear W a4 s5
    -- the sum, a far m
    refine ⟨St5 K H a, ?_, ?_⟩
    · obtain ⟨dp, hdp⟩ := lp
      obtain ⟨dq, hdq⟩ := lq
      refine ⟨_, rfl, _, rfl, p, dp, _, rfl, hdp, .inr ⟨q2, dq, _, rfl, hdq⟩, p, q2, z, e, y, d, rfl, ⟨dp, hdp⟩, ⟨dq, hdq⟩, ?_, ?_, fun r H6 s6 lr => ?_⟩
      · exact far_of (by have := W5.hz; have := W5.hy; omega)
      · exact far_of (by have := W5.he; have := W5.hd; omega)
      refine ⟨_, rfl, _, _, rfl, rfl, ⟨by decide, by decide, by decide⟩, pp, _, rfl, W5.po.same s6, by decide, by decide, fun m H7 m0 m1 a7 hp7 => ?_⟩
      have nl : ∀ {u : Addr} {z e : Int}, LineAt K H6 u z e → LineAt K H7 u z e := fun {u z e} ⟨du, hu⟩ => ⟨du, a7 _ _ hu fun x => by
        obtain ⟨c, s', e', _⟩ := W5.po.same s6
        rw [x, e'] at hu; cases hu⟩
      refine ⟨_, _, rfl, l1, l2, p, q2, r, z, e, y, d, m, _, _, _, _, _, rfl, ⟨a7 _ _ (s6 _ _ W5.one) W5.n1, a7 _ _ (s6 _ _ W5.two) W5.n2, nl (LineAt.same ⟨dp, hdp⟩ s6), nl (LineAt.same ⟨dq, hdq⟩ s6), nl lr, W5.hz, W5.he, W5.hy, W5.hd, m0, m1⟩, ?_⟩
      exact s1.trans (Adv.new np (Same.adv s2 ((a5.same s6).trans a7)))
    rintro σ5 H6 S6
    obtain ⟨o1, o2, hend⟩ : ∃ o1 o2 : Option V, ∀ σ H', St5 K H a σ H' → D1.nx σ H' := ⟨none, none, fun σ H' ⟨l1, l2, p, q, t, z, e, y, d, f, o1, o2, o9, o10, o11, e1, _, s⟩ => hD1 _ _ ⟨s, _, _, _, _, _, _, _, _, _, _, _, e1⟩⟩
    clear W5 a5 lp lq hp2 s2 np
    refine ⟨St5 K H a, ?_, ?_⟩
    · obtain ⟨l1, l2, p, q2, t, z, e, y, d, f, o1, o2, o9, o10, o11, rfl, M, s6⟩ := S6
      refine ⟨_, rfl, _, rfl, by show 2 ≤ sizeLine; decide, fun t1 n1 => ?_⟩
      refine ⟨_, rfl, _, rfl, by show 2 ≤ sizeLine; decide, fun t2 n2 => ?_⟩
      have M2 := (M.same (same_upd (o := .tup [.ref l1, .ref p]) n1)).same (same_upd (o := .tup [.ref l2, .ref q2]) n2)
      refine ⟨_, rfl, l1, _, 0, .int z, rfl, rfl, SqL.of M2.one, rfl, _, rfl, l2, _, 0, .int y, rfl, rfl, SqL.of M2.two, rfl, _, _, rfl, rfl, ?_⟩
      refine ⟨_, rfl, l1, _, 1, .int e, rfl, rfl, SqL.of M2.one, rfl, _, rfl, l2, _, 1, .int d, rfl, rfl, SqL.of M2.two, rfl, _, _, rfl, rfl, by show 2 ≤ sizeLine; decide, fun l3 n3 => ?_⟩
      refine ⟨_, rfl, by show 2 ≤ sizeLine; decide, fun t3 n4 => ⟨by show 3 ≤ sizeLine; decide, fun L nL => ⟨L, rfl, ⟨_, SqL.of upd_same⟩, ?_⟩⟩⟩
      have g3 := same_upd (o := .lst [.int (z + y), .int (e + d)]) n3
      have g4 := same_upd (o := .tup [.ref l3, .ref t]) n4
      have g5 := same_upd (o := .lst [.ref t1, .ref t2, .ref t3]) nL
      have ht1 := g5 _ _ (g4 _ _ (g3 _ _ (same_upd (o := .tup [.ref l2, .ref q2]) n2 _ _ (upd_same (H := H6) (a := t1) (o := .tup [.ref l1, .ref p])))))
      have ht2 := g5 _ _ (g4 _ _ (g3 _ _ (upd_same (H := upd H6 t1 (.tup [.ref l1, .ref p])) (a := t2) (o := .tup [.ref l2, .ref q2]))))
      have hl3 := g5 _ _ (g4 _ _ (upd_same (H := upd (upd H6 t1 (.tup [.ref l1, .ref p])) t2 (.tup [.ref l2, .ref q2])) (a := l3) (o := .lst [.int (z + y), .int (e + d)])))
      have ht3 := g5 _ _ (upd_same (H := upd (upd (upd H6 t1 (.tup [.ref l1, .ref p])) t2 (.tup [.ref l2, .ref q2])) l3 (.lst [.int (z + y), .int (e + d)])) (a := t3) (o := .tup [.ref l3, .ref t]))
      have hL := upd_same (H := upd (upd (upd (upd H6 t1 (.tup [.ref l1, .ref p])) t2 (.tup [.ref l2, .ref q2])) l3 (.lst [.int (z + y), .int (e + d)])) t3 (.tup [.ref l3, .ref t])) (a := L) (o := .lst [.ref t1, .ref t2, .ref t3])
      have MG := ((M2.same g3).same g4).same g5
      have sG := s6.trans ((same_upd (o := .tup [.ref l1, .ref p]) n1).trans ((same_upd (o := .tup [.ref l2, .ref q2]) n2).trans (g3.trans (g4.trans g5))))
      generalize upd (upd (upd (upd (upd H6 t1 (.tup [.ref l1, .ref p])) t2 (.tup [.ref l2, .ref q2])) l3 (.lst [.int (z + y), .int (e + d)])) t3 (.tup [.ref l3, .ref t])) L (.lst [.ref t1, .ref t2, .ref t3]) = G at ht1 ht2 hl3 ht3 hL MG sG ⊢
      clear M2 n1 n2 n3 n4 nL g3 g4 g5 M
      have item : ∀ (i : Nat) v, [V.ref t1, .ref t2, .ref t3][i]? = some v → ∃ u la pa x c, v = .ref u ∧ G u = some (.tup [.ref la, .ref pa]) ∧ G la = some (.lst [.int x, .int c]) ∧ LineAt K G pa x c ∧ x.natAbs < 10 ^ 400 ∧ c.natAbs < 10 ^ 400 := by
        intro i v hv
        have hz := MG.hz
        have he := MG.he
        have hy := MG.hy
        have hd := MG.hd
        match i, hv with
        | 0, hv => cases hv; exact ⟨t1, l1, p, z, e, rfl, ht1, MG.one, MG.lp, by omega, by omega⟩
        | 1, hv => cases hv; exact ⟨t2, l2, q2, y, d, rfl, ht2, MG.two, MG.lq, by omega, by omega⟩
        | 2, hv => cases hv; exact ⟨t3, l3, t, z + y, e + d, rfl, ht3, hl3, MG.lt, by omega, by omega⟩
      refine for_listD (K := K) (a := L) (xs := [.ref t1, .ref t2, .ref t3]) (fun i σ H' => Same G H' ∧ ∃ o9 o10 o11, σ = [some (.ref a), o1, o2, some (.ref l1), some (.ref l2), some (.ref p), some (.ref q2), some (.ref t), some (.int f), o9, o10, o11])
        ⟨Same.refl G, _, _, _, rfl⟩ (fun i σ H' _ h => SqL.of (h.1 _ _ hL)) ?_ ?_
      · rintro D2 i v σ H9 hrt hD2 - - hi ⟨s9, o9, o10, o11, rfl⟩
        obtain ⟨u, la, pa, x, c, rfl, hu1, hla, lpa, hx, hc⟩ := item i v hi
        refine ⟨u, _, rfl, SqT.of (s9 _ _ hu1), rfl, _, _, rfl, _, _, rfl, rfl, ?_⟩
        obtain ⟨dx, hdx⟩ := lpa.same s9
        have hla' := s9 _ _ hla
        walk_at "nx"
        refine ⟨_, rfl, pa, dx, _, rfl, hdx, pa, x, c, rfl, ⟨dx, hdx⟩, hx, hc, _, rfl, ?_⟩
        refine ⟨_, rfl, la, _, 0, .int x, rfl, rfl, SqL.of hla', rfl, _, rfl, la, _, 1, .int c, rfl, rfl, SqL.of hla', rfl, x, c, rfl, hx, hc, rfl, _, rfl, ?_⟩
        refine iteNS rfl ?_
        refine ⟨_, rfl, pa, dx, _, rfl, hdx, pa, x, c, rfl, ⟨dx, hdx⟩, hx, hc, _, rfl, ?_⟩
        refine ⟨_, rfl, pa, dx, _, rfl, hdx, pa, x, c, rfl, ⟨dx, hdx⟩, hx, hc, _, rfl, rfl, _, rfl, ?_⟩
        refine iteNS rfl ?_
        refine go_next ?_
        dsimp only
        have f0 := MG.f0
        have f1 := MG.f1
        refine ⟨_, rfl, by show 3 ≤ sizeLine; decide, fun lm nm => ⟨lm, rfl, ⟨_, SqL.of upd_same⟩, ?_⟩⟩
        have sm := same_upd (o := .lst [.int 0, .int 1, .int f]) nm
        have hlm : (upd H9 lm (.lst [.int 0, .int 1, .int f])) lm = some (.lst [.int 0, .int 1, .int f]) := upd_same
        have hdm := sm _ _ hdx
        generalize upd H9 lm (.lst [.int 0, .int 1, .int f]) = G2 at sm hlm hdm ⊢
        refine for_listD (K := K) (a := lm) (xs := [.int 0, .int 1, .int f]) (fun i σ H' => Same G2 H' ∧ ∃ o11, σ = [some (.ref a), o1, o2, some (.ref l1), some (.ref l2), some (.ref p), some (.ref q2), some (.ref t), some (.int f), some (.ref la), some (.ref pa), o11])
          ⟨Same.refl G2, _, rfl⟩ (fun i σ H' _ h => SqL.of (h.1 _ _ hlm)) ?_ ?_
        · rintro D3 j v σ H10 hrt3 hD3 - - hj ⟨s10, o11, rfl⟩
          obtain ⟨m, rfl, m0, m1⟩ : ∃ m, v = .int m ∧ 0 ≤ m ∧ m < 10 ^ 9 := by
            match j, hj with
            | 0, hj => cases hj; exact ⟨0, rfl, by decide, by decide⟩
            | 1, hj => cases hj; exact ⟨1, rfl, by decide, by decide⟩
            | 2, hj => cases hj; exact ⟨f, rfl, f0, f1⟩
          have hd10 := s10 _ _ hdm
          walk_at "nx"
          refine ⟨_, rfl, pa, dx, _, rfl, hd10, pa, x, c, rfl, ⟨dx, hd10⟩, hx, hc, _, rfl, ?_⟩
          refine ⟨_, rfl, x, c, m, rfl, hx, hc, m0, by omega, fun H11 s11 => ?_⟩
          have hd11 := s11 _ _ hd10
          refine ⟨_, rfl, pa, rfl, _, rfl, .inr ⟨dx, _, hd11⟩, pa, x, c, m, rfl, ⟨dx, hd11⟩, far_of hc, m0, by omega, rfl, _, rfl, ?_⟩
          refine iteNS (congrArg V.int (Int.add_comm _ _)) ?_
          exact hD3 _ _ ⟨s10.trans s11, _, rfl⟩
        · rintro σ H10 ⟨s10, o11, rfl⟩
          exact hD2 _ _ ⟨s9.trans (sm.trans s10), _, _, _, rfl⟩
      · rintro σ H9 ⟨s9, o9, o10, o11, rfl⟩
        exact ⟨l1, l2, p, q2, t, z, e, y, d, f, _, _, _, _, _, rfl, MG.same s9, sG.trans s9⟩
    clear S6
    rintro σ6 H7 ⟨l1, l2, p, q2, t, z, e, y, d, f, o1, o2, o9, o10, o11, rfl, M, s7⟩
    have hz : z.natAbs < 10 ^ 400 := by have := M.hz; omega
    have he : e.natAbs < 10 ^ 400 := by have := M.he; omega
    have hy : y.natAbs < 10 ^ 400 := by have := M.hy; omega
    have hd : d.natAbs < 10 ^ 400 := by have := M.hd; omega
    have hiff : (lineT z e = lineT y d) ↔ (z = y ∧ e = d) := ⟨fun h => line_inj hz he hy hd h, fun h => by rw [h.1, h.2]⟩
    have hand : decide (V.str (lineT z e) = V.str (lineT y d)) = (decide (z = y) && decide (e = d)) := by
      rw [dec_vs]
      by_cases h : z = y ∧ e = d
      · rw [decide_eq_true (hiff.mpr h), decide_eq_true h.1, decide_eq_true h.2]; rfl
      · rw [decide_eq_false fun x => h (hiff.mp x)]
        by_cases h1 : z = y
        · rw [decide_eq_false fun x => h ⟨h1, x⟩, Bool.and_false]
        · rw [decide_eq_false h1, Bool.false_and]
    have heqv : PyData.eqv (.list [.int z, .int e]) (.list [.int y, .int d]) = (decide (z = y) && decide (e = d)) := by
      simp only [PyData.eqv, PyData.eqvAll, Bool.and_true]
      rfl
    refine ⟨St5 K H a, ?_, ?_⟩
    · obtain ⟨dp, hdp⟩ := id M.lp
      obtain ⟨dq, hdq⟩ := id M.lq
      refine ⟨_, rfl, p, dp, _, rfl, hdp, p, z, e, rfl, ⟨dp, hdp⟩, hz, he, _, rfl, ?_⟩
      refine ⟨_, rfl, q2, dq, _, rfl, hdq, q2, y, d, rfl, ⟨dq, hdq⟩, hy, hd, _, rfl, rfl, ?_⟩
      refine ⟨_, rfl, _, rfl, p, dp, _, q2, dq, _, rfl, hdp, rfl, hdq, p, q2, z, e, y, d, rfl, ⟨dp, hdp⟩, ⟨dq, hdq⟩, rfl, _, rfl, ?_⟩
      refine iteNS (congrArg V.bl hand) ?_
      refine ⟨_, rfl, _, rfl, _, _, .lst (SqL.of M.one) (.cons (.int z) (.cons (.int e) .nil)), .lst (SqL.of M.two) (.cons (.int y) (.cons (.int d) .nil)), rfl, rfl, ?_⟩
      refine ⟨_, rfl, _, rfl, p, dp, _, q2, dq, _, rfl, hdp, rfl, hdq, p, q2, z, e, y, d, rfl, ⟨dp, hdp⟩, ⟨dq, hdq⟩, rfl, _, rfl, ?_⟩
      refine iteNS (congrArg V.bl heqv) ?_
      exact ⟨l1, l2, p, q2, t, z, e, y, d, f, _, _, _, _, _, rfl, M, s7⟩
    clear M hz he hy hd hiff hand heqv
    rintro σ7 H8 ⟨l1, l2, p, q2, t, z, e, y, d, f, o1, o2, o9, o10, o11, rfl, M, s8⟩
    have hz : z.natAbs < 10 ^ 400 := by have := M.hz; omega
    have he : e.natAbs < 10 ^ 400 := by have := M.he; omega
    have z0 : lineT 0 0 = Str.ofString "0" := by decide +kernel
    have h0 : (0 : Int).natAbs < 10 ^ 400 := by decide
    refine ⟨St5 K H a, ?_, ?_⟩
    · refine ⟨_, rfl, l1, _, 0, .int z, rfl, rfl, SqL.of M.one, rfl, ?_⟩
      intro r dr hr0 hdr hne
      refine ⟨r, dr, z, 0, rfl, upd_same, far_of hz, far_of h0, fun H9 keep lr => ⟨rfl, ?_⟩⟩
      have s9 := make_same hr0 hdr keep
      obtain ⟨dx, hdx⟩ := id lr
      refine ⟨r, dx, _, rfl, hdx, r, z, 0, rfl, lr, hz, h0, _, rfl, ?_⟩
      have M9 := M.same s9
      refine ⟨_, rfl, l1, _, 0, .int z, rfl, rfl, SqL.of M9.one, rfl, z, rfl, log_lt hz, rfl, _, rfl, ?_⟩
      refine iteNS (congrArg V.str (if_pos rfl)) ?_
      obtain ⟨dp, hdp⟩ := id M9.lp
      refine ⟨_, rfl, _, rfl, p, dp, _, rfl, hdp, .inr ⟨p, dp, _, rfl, hdp⟩, p, p, z, e, z, e, rfl, ⟨dp, hdp⟩, ⟨dp, hdp⟩, ?_, ?_, fun r2 H10 s10 lr2 => ?_⟩
      · rw [Int.sub_self]; exact far_of h0
      · rw [Int.sub_self]; exact far_of h0
      rw [Int.sub_self, Int.sub_self] at lr2
      obtain ⟨dx2, hdx2⟩ := id lr2
      refine ⟨r2, dx2, _, rfl, hdx2, r2, 0, 0, rfl, lr2, h0, h0, _, rfl, rfl, _, rfl, ?_⟩
      refine iteNS (congrArg V.str z0) ?_
      have M10 := M9.same s10
      obtain ⟨dp, hdp⟩ := id M10.lp
      refine ⟨_, rfl, p, dp, _, rfl, hdp, .inl ⟨0, rfl⟩, p, z, e, 0, rfl, ⟨dp, hdp⟩, by decide, by decide, ?_, ?_, fun r3 H11 s11 lr3 => ?_⟩
      · rw [Int.mul_zero]; exact far_of h0
      · rw [Int.mul_zero]; exact far_of h0
      rw [Int.mul_zero, Int.mul_zero] at lr3
      obtain ⟨dx3, hdx3⟩ := id lr3
      refine ⟨r3, dx3, _, rfl, hdx3, r3, 0, 0, rfl, lr3, h0, h0, _, rfl, rfl, _, rfl, ?_⟩
      refine iteNS (congrArg V.str z0) ?_
      exact ⟨l1, l2, p, q2, t, z, e, y, d, f, _, _, _, _, _, rfl, M10.same s11, s8.trans (s9.trans (s10.trans s11))⟩
    clear M hz he
    rintro σ8 H9 ⟨l1, l2, p, q2, t, z, e, y, d, f, o1, o2, o9, o10, o11, rfl, M, s9⟩
    have hz : z.natAbs < 10 ^ 400 := by have := M.hz; omega
    have he : e.natAbs < 10 ^ 400 := by have := M.he; omega
    obtain ⟨dp, hdp⟩ := id M.lp
    refine ⟨_, rfl, p, dp, _, rfl, hdp, p, z, e, rfl, ⟨dp, hdp⟩, hz, he, _, rfl, ?_⟩
    refine ⟨_, rfl, l1, _, 0, .int z, rfl, rfl, SqL.of M.one, rfl, _, rfl, l1, _, 1, .int e, rfl, rfl, SqL.of M.one, rfl, z, e, rfl, hz, he, rfl, _, rfl, ?_⟩
    refine iteNS rfl ?_
    exact hend _ _ ⟨l1, l2, p, q2, t, z, e, y, d, f, _, _, _, _, _, rfl, M, s9⟩
end
end L2.L50

set_option maxHeartbeats 0
namespace L2.L50
open PySem PySem.Spec PyProof.Rows LR L2.Lr
def me (K : PySem.W.Frag) (m : Str) : Addr := He.ma K (CL K) m
def insB (K : PySem.W.Frag) : Bool := He.eqO (PySem.W.findIn K (.ref (CL K)) "__class__") (some (some (.builtin "object.__class__"))) && (He.eqO (PySem.W.specialIn K (.builtin "object.__class__") "__get__") (some (some (.builtin "getset_descriptor.__get__"))) &&
  (decide (PySem.W.takesIn K (.builtin "object.__class__") = some true) && (decide (PySem.W.mroIn K (CL K) (.type "object") = some true) && decide (PySem.W.kitOne K (.ref (CL K)) (.ref (CL K)) = some true))))
def chk (K : PySem.W.Frag) : Bool := insB K && (dunB K (CL K) (me K "__str__") "__str__" && (dunB K (CL K) (me K "__eq__") "__eq__" && (ownB K (CL K) (me K "__add__") .Add && (ownB K (CL K) (me K "__sub__") .Sub && (ownB K (CL K) (me K "__mul__") .Mult &&
  (dunB K (CL K) (me K "__call__") "__call__" && PySem.W.fnIn K (me K "__call__")))))))
def dF (x : Str) (st : Stmt) : He.DefD := ⟨(x, none), x, x, defArgs st, defBody st, defScope st, [], []⟩
def dM (x q : Str) (st : Stmt) : He.DefD := ⟨("Line", some x), x, q, defArgs st, defBody st, defScope st, [], []⟩
def fn : List He.DefD := [dF "is_integer" sInt, dF "is_between" sBtw, ⟨("Line", some "__init__"), "__init__", "Line.__init__", defArgs sIni, defBody sIni, defScope sIni, [.int 0], []⟩, dM "__call__" "Line.__call__" sCal, dM "__add__" "Line.__add__" sAdd, dM "__sub__" "Line.__sub__" sSub,
  dM "__mul__" "Line.__mul__" sMul, dM "__eq__" "Line.__eq__" sEq, dM "__str__" "Line.__str__" sStr, dF "_numbers_of" sNum, dF "_head_of" sHead, dF "_law_pool" sPool, dF "_law_take" sTake, dF "_law_number" sNmb, dF "_law_text" sText, dF "_law_read" sRead, dF "law" sLaw]
def fa : List He.Fa := [.glo "is_integer", .glo "is_between", .glo "_numbers_of", .glo "_head_of", .glo "_law_pool", .glo "_law_take", .glo "_law_number", .glo "_law_text", .glo "_law_read", .glo "law", .glo "Line", .cls "Line", .noat "Line" "at_zero", .noat "Line" "slope", .mkr "Line",
  .int "MOST" (10 ^ 400), .int "LARGEST_NUMBER" (10 ^ 30), .free "isinstance", .free "len", .free "range", .free "max", .free "min", .free "int", .free "bool", .free "str"]
abbrev R : PySem.W.OpenRow := PySem.W.OpenLaw.row PySem.Challenge.rw_leastrooms_k50_lines_as_text
abbrev hk : PySem.W.Hook := hookE 5 chk fa fn
def ob (s : PySem.W.SharedT) : Bool × He.AlD := obsEG 5 chk fa fn (HandSHeadRun.getT s)
theorem ob_eq (s : PySem.W.SharedT) : ob s = hk.obs s.abs := obsEG_eq (HandSHeadRun.getT_eq s)
def looseS : List String := ["RoomError", "BadNumber", "BadLine", "Line", "LARGEST_NUMBER", "MOST", "is_integer", "is_between", "_numbers_of", "_head_of", "_wall", "_law_pool", "_law_take", "_law_number", "_law_text", "_law_read"]
def loose : List Str := looseS.map Str.ofString
theorem run (w : World) : HandSHeadRun.RunEq R (PySem.W.view R.prog [20]) hk ob 9000 loose w := by
  intro os
  kernel_rfl
end L2.L50

set_option maxHeartbeats 0
namespace L2.L50
open PySem PySem.Spec PyProof.Rows LR L2.Lr
theorem ini_binds {K : PySem.W.Frag} {f : Addr} {fd : FuncData} (F : FunD K "__init__" "Line.__init__" (defArgs sIni) (defBody sIni) (defScope sIni) [.int 0] [] f fd) : Binds K fd ["self", "at_zero", "slope"] [] ∧ (∃ ds, Vals [.int 0] ds ∧ Binds K fd ["self", "at_zero", "slope"] ds) ∧
    ∃ g gV, KBn K fd ["self", "at_zero", "slope"] 1 ["at_zero", "slope"] g gV ∧ ∀ x a b, gV [x] [a, b] = [x, a, b] := by
  refine ⟨?_, ?_, ?_⟩
  · obtain ⟨ds, v, b⟩ := F.binds1 (ps := ["self", "at_zero", "slope"]) 3 1 (by simp) rfl fun T kV doc pm an cdv ct us its h1 h2 => match us, its, h1, h2 with
      | [a, b, c], [d], _, _ => ⟨_, rfl, rfl⟩
    cases v
    exact b
  · obtain ⟨ds, v, b⟩ := F.binds1 (ps := ["self", "at_zero", "slope"]) 2 0 (by simp) rfl fun T kV doc pm an cdv ct us its h1 h2 => match us, its, h1, h2 with
      | [a, b], [d], _, _ => ⟨_, rfl, rfl⟩
    exact ⟨ds, v, b⟩
  · obtain ⟨its, b⟩ := F.kbindsD (ps := ["self", "at_zero", "slope"]) 1 ["at_zero", "slope"] (fun us _ ws => us ++ ws) (by simp) (fun a _ c => a.append c) fun T kV doc pm an cdv ct us its ws h1 h2 h3 => match us, its, ws, h1, h2, h3 with
      | [a], [d], [b, c], _, _, _ => ⟨_, rfl, rfl⟩
    exact ⟨_, _, b, fun x a b => rfl⟩
theorem facts {P : Program} {w : World} {K : PySem.W.Frag} {h : Heap} {mg : Str → Option Value} {f : Addr} (X : K.In h) (G : h.Ns mainGlobals mg) (hfa : mg ("law" : Str) = some (.ref f)) (c : chk K = true) (s : He.SaysD fa fn K) :
    ∃ fd : FuncData, (∀ (s : Shared) (v : Value), BindsTo s fd ⟨[v], []⟩ [("_law_script", v)]) ∧ ∀ base : Heap, K.In base → base.Ns mainGlobals mg → FnOk P w K mg base CX0 7 f fd ["_law_script"] (spLaw K) := by
  obtain ⟨c1, c⟩ := He.ba c
  obtain ⟨c2, c⟩ := He.ba c
  obtain ⟨c3, c⟩ := He.ba c
  obtain ⟨c4, c⟩ := He.ba c
  obtain ⟨c5, c⟩ := He.ba c
  obtain ⟨c6, c⟩ := He.ba c
  obtain ⟨c7, c8⟩ := He.ba c
  obtain ⟨i1, i⟩ := He.ba c1
  obtain ⟨i2, i⟩ := He.ba i
  obtain ⟨i3, i⟩ := He.ba i
  obtain ⟨i4, i5⟩ := He.ba i
  have g : ∀ (i : Nat) (x : Str), fa[i]? = some (.glo x) → mg x = some (.ref (He.ga K x)) := fun i x e => He.glo_ok X G (s.fact i (f := .glo x) e)
  have cl : Cls K (CL K) := He.cls_ok (s.fact 11 (f := .cls "Line") rfl)
  have T : Txt K mg := {
    gL := g 10 "Line" rfl
    cl := cl
    nZ := He.noat_ok (s.fact 12 (f := .noat "Line" "at_zero") rfl)
    nS := He.noat_ok (s.fact 13 (f := .noat "Line" "slope") rfl)
    ic := ⟨cl, He.eqO_ok i1, He.eqO_ok i2, of_decide_eq_true i3, of_decide_eq_true i4, of_decide_eq_true i5⟩
    most := He.int_ok X G (s.fact 15)
    far := He.int_ok X G (s.fact 16)
    isn := He.free_ok X G (s.fact 17)
    len := He.free_ok X G (s.fact 18)
    range := He.free_ok X G (s.fact 19)
    max := He.free_ok X G (s.fact 20)
    min := He.free_ok X G (s.fact 21)
    int := He.free_ok X G (s.fact 22)
    bool := He.free_ok X G (s.fact 23)
    str := He.free_ok X G (s.fact 24) }
  have M : Mk K (CL K) (me K "__init__") := He.mkr_ok (s.fact 14 (f := .mkr "Line") rfl)
  obtain ⟨dN, FN⟩ := s.def_ 0
  obtain ⟨dB, FB⟩ := s.def_ 1
  obtain ⟨dI, FI⟩ := s.def_ 2
  obtain ⟨dC, FC⟩ := s.def_ 3
  obtain ⟨dA, FA⟩ := s.def_ 4
  obtain ⟨dU, FU⟩ := s.def_ 5
  obtain ⟨dM, FM⟩ := s.def_ 6
  obtain ⟨dE, FE⟩ := s.def_ 7
  obtain ⟨dS, FS⟩ := s.def_ 8
  obtain ⟨dO, FO⟩ := s.def_ 9
  obtain ⟨dH, FH⟩ := s.def_ 10
  obtain ⟨dP, FP⟩ := s.def_ 11
  obtain ⟨dT, FT⟩ := s.def_ 12
  obtain ⟨dD, FD⟩ := s.def_ 13
  obtain ⟨dX, FX⟩ := s.def_ 14
  obtain ⟨dR, FR⟩ := s.def_ 15
  obtain ⟨fd, FL⟩ := s.def_ 16
  cases hfa.symm.trans (g 9 "law" rfl)
  have b := FunD.bindsA (ps := ["_law_script"]) FL fun _ _ _ _ _ _ us hl => match us, hl with | [_], _ => rfl
  refine ⟨fd, fun s v => b s [v] rfl, fun base _ _ => ?_⟩
  obtain ⟨bI, bI1, bIk⟩ := ini_binds FI
  have N : Def P w K mg base CX0 1 "is_integer" _ dN ["thing"] spInt := ⟨ok_int FN T, g 0 _ rfl, FN.kp, FN.bindsN fun _ _ _ _ _ _ us hl => match us, hl with | [_], _ => rfl⟩
  have B : Def P w K mg base CX0 2 "is_between" _ dB ["thing", "low", "high"] spBtw := ⟨ok_btw FB N, g 1 _ rfl, FB.kp, FB.bindsN fun _ _ _ _ _ _ us hl => match us, hl with | [_, _, _], _ => rfl⟩
  have ML : MkL P w K mg base (me K "__init__") dI := ⟨M, ok_ini FI T B, bI⟩
  have O : Def P w K mg base CX0 1 "_numbers_of" _ dO ["other"] (spNum K) := ⟨ok_num FO T, g 2 _ rfl, FO.kp, FO.bindsN fun _ _ _ _ _ _ us hl => match us, hl with | [_], _ => rfl⟩
  have Hd : Def P w K mg base CX0 1 "_head_of" _ dH ["slope"] spHead := ⟨ok_head FH T, g 3 _ rfl, FH.kp, FH.bindsN fun _ _ _ _ _ _ us hl => match us, hl with | [_], _ => rfl⟩
  have Pl : Def P w K mg base CX0 1 "_law_pool" _ dP ["_law_script", "_law_k"] (spPool K) := ⟨ok_pool FP T, g 4 _ rfl, FP.kp, FP.bindsN fun _ _ _ _ _ _ us hl => match us, hl with | [_, _], _ => rfl⟩
  have Tk : Def P w K mg base CX0 1 "_law_take" _ dT ["_law_pool_here", "_law_many"] spTake := ⟨ok_take FT T, g 5 _ rfl, FT.kp, FT.bindsN fun _ _ _ _ _ _ us hl => match us, hl with | [_, _], _ => rfl⟩
  have Nb : Def P w K mg base CX0 2 "_law_number" _ dD ["_law_pool_here"] spNmb := ⟨ok_nmb FD T Tk, g 6 _ rfl, FD.kp, FD.bindsN fun _ _ _ _ _ _ us hl => match us, hl with | [_], _ => rfl⟩
  have Tx : Def P w K mg base CX0 1 "_law_text" _ dX ["_law_zero", "_law_each"] spText := ⟨ok_text FX T, g 7 _ rfl, FX.kp, FX.bindsN fun _ _ _ _ _ _ us hl => match us, hl with | [_, _], _ => rfl⟩
  have Rd : Def P w K mg base CX0 1 "_law_read" _ dR ["_law_text_here", "_law_m"] spRead := ⟨ok_read FR T, g 8 _ rfl, FR.kp, FR.bindsN fun _ _ _ _ _ _ us hl => match us, hl with | [_, _], _ => rfl⟩
  have bS : Binds K dS ["self"] [] := FS.bindsN fun _ _ _ _ _ _ us hl => match us, hl with | [_], _ => rfl
  have bA : Binds K dA ["self", "other"] [] := FA.bindsN fun _ _ _ _ _ _ us hl => match us, hl with | [_, _], _ => rfl
  have bU : Binds K dU ["self", "other"] [] := FU.bindsN fun _ _ _ _ _ _ us hl => match us, hl with | [_, _], _ => rfl
  have bM : Binds K dM ["self", "other"] [] := FM.bindsN fun _ _ _ _ _ _ us hl => match us, hl with | [_, _], _ => rfl
  have bE : Binds K dE ["self", "other"] [] := FE.bindsN fun _ _ _ _ _ _ us hl => match us, hl with | [_, _], _ => rfl
  have bC : Binds K dC ["self", "m"] [] := FC.bindsN fun _ _ _ _ _ _ us hl => match us, hl with | [_, _], _ => rfl
  have dc := dunB_ok c7
  have cF : FnR P w K mg base CX0 3 (me K "__call__") (spCal K) := by
    have z := FnOk.raw (ok_cal (P := P) (w := w) (base := base) FC T B) bC .nil
    exact z.imp fun vs H Q E q => by rw [List.append_nil]; exact q
  exact ok_law (xC := dC) FL T ⟨Pl, Tk, Nb, Tx, Rd, ML, bI1, bIk, dunB_ok c2, ok_str FS T Hd, bS, ownB_ok c4, ok_add FA T O ML, bA, ownB_ok c5, ok_sub FU T O ML, bU, ownB_ok c6, ok_mul FM T N ML, bM, dunB_ok c3, ok_eq FE T, bE, ⟨dc.at_, dc.fn, c8⟩, cF⟩
end L2.L50
open PySem PySem.W PySem.Calls PyProof.Rows
theorem PySem.Challenge.cw_leastrooms_k50_lines_as_text_holds : PySem.Challenge.rw_leastrooms_k50_lines_as_text.Holds := by
  w_on; o_law
  refine HandSHeadRun.head_any (r := OpenLaw.row PySem.Challenge.rw_leastrooms_k50_lines_as_text) (q := view (OpenLaw.row PySem.Challenge.rw_leastrooms_k50_lines_as_text).prog [20]) (H := L2.L50.hk) (ob := L2.L50.ob) (M := 9000) (loose := L2.L50.loose) (d := HandSHeadRun.topDef (OpenLaw.row PySem.Challenge.rw_leastrooms_k50_lines_as_text).prog 20) (kwd := []) L2.L50.ob_eq
    (by kernel_rfl) (fun s => by kernel_rfl) L2.L50.run (by kernel_rfl) (by kernel_rfl) (by kernel_rfl) (by rfl) (by first | assumption | decide +kernel) (by decide +kernel) ⟨rfl, rfl, rfl, rfl, rfl, by decide +kernel⟩ ?hw ?hc
  case hw => w_witness2
  case hc =>
    refine L2.walk_ofE (l := PySem.Challenge.rw_leastrooms_k50_lines_as_text) (n := 63) (k := 7) (x := "_law_script") (CX := L2.CX0) rfl (by decide) (by kernel_rfl) ⟨rfl, by decide, by decide⟩ ?F (fun _ _ _ _ z => z)
    intro w mg fa h Y G hmg0
    obtain ⟨K, KX, c1, c2⟩ := Y
    have hmg : mg ("law" : PySem.Str) = some (.ref fa) := by
      have e : (HandSHeadRun.topDef (OpenLaw.row PySem.Challenge.rw_leastrooms_k50_lines_as_text).prog 20).name = ("law" : PySem.Str) := by kernel_rfl
      rw [← e]
      exact hmg0
    obtain ⟨fd, hb, hF⟩ := L2.L50.facts (P := (PySem.Challenge.rw_leastrooms_k50_lines_as_text).prog) (w := w) KX G hmg c1 c2
    exact ⟨K, fd, L2.L50.spLaw K, KX, hb, fun H a ns hl _ hS => ⟨a, ns, rfl, hS, hl, fun _ => rfl⟩, hF⟩
