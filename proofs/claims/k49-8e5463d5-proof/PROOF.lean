import PyProof.Rows.All
import Wide.All
import OpenK.AllK
import Wide.FinOn
import KE.KExcInit
import KE.KExcIs
import KE.KIsAll
import HandS.ForMost
import HandS.ForSpec
import HandS.ExcInit
import HandS.ExcValue
import HandS.ExcIs
import HandS.Wide
import HandS.Defaults
import HandS.HeadHook2
import HandS.ExcOwn
import HandS.Words
import HandS.IsInst
import HandS.WordsExc
import HandS.Text
import HandS.Head0
import HandS.Head1
import HandS.Head2
import HandS.HeadEnd
import HandS.HeadHook1
import KE.KStateDown
import PyProof.Rows.StrIntSpec
import HandS.Star
import HandS.OwnEq
import HandS.FStr
import HandS.MakeKw
import HandS.Codes
import KE.KOpsOwn
import KE.KCallOwn
import PyProof.FString3
import HandS.ClsMeth
import HandS.DeepEq
import KE.KFmtOwn
import PyProof.FactsAll.object_2
import PySem.Challenge.RW_leastrooms_k49_lines_reckoned
set_option Elab.async false
set_option linter.all false
set_option maxRecDepth 100000
set_option maxHeartbeats 4000000
/-! own exceptions under ValueError, KeyError, RuntimeError, as values -/
namespace LR
open PySem PySem.W PySem.Calls PyProof.Rows Builtin Builtin.ObjectAttr
/-- a family of own exceptions: the built-in class that makes them, and the end of their mro -/
structure Kd where
  B : String
  nid : String
  iid : String
  bmB : List Value
  tl : List Value
  F : ExcBaseFacts B nid iid bmB
  hB : tl.contains (.type B) = true
  hA : tl.contains (.type "AttributeError") = false
  hN : tl.contains (.type "NameError") = false
  hO : tl.contains (.type "object") = true
  hE : tl.contains (.type "BaseException") = true
  pass : ∀ self, refuseLoop self "__setattr__" tl = pure ()
def tlV : List Value := [.type "ValueError", .type "Exception", .type "BaseException", .type "object"]
def tlK : List Value := [.type "KeyError", .type "LookupError", .type "Exception", .type "BaseException", .type "object"]
def tlR : List Value := [.type "RuntimeError", .type "Exception", .type "BaseException", .type "object"]
def xV : Kd := ⟨_, _, _, _, tlV, F.excBase_ValueError, by decide +kernel, by decide +kernel, by decide +kernel, by decide +kernel, by decide +kernel, fun self => F.store_ValueError.passes self⟩
def xK : Kd := ⟨_, _, _, _, tlK, F.excBase_LookupError, by decide +kernel, by decide +kernel, by decide +kernel, by decide +kernel, by decide +kernel, fun self => by kernel_rfl⟩
def xR : Kd := ⟨_, _, _, _, tlR, F.excBase_RuntimeError, by decide +kernel, by decide +kernel, by decide +kernel, by decide +kernel, by decide +kernel, fun self => F.store_RuntimeError.passes self⟩

section
variable {M : Model} {A : Around} {E : Value → Shared → Prop} {h : Heap} {g : Array GenState} {d : Drawn} {t : Nat} {os : OsState}
variable {nm q : Str} {C N : Addr} {bs bm : List Value} {hdct : Bool} {sn : List Str} {sub : List Value} {ab : Bool} {col : Option Bool} {dd : Option Addr} {k0 k1 k2 k3 k5 : Option Value}
theorem Kd.has (k : Kd) (ht : excTail k.tl bm = true) (X : String) {b : Bool} (e : k.tl.contains (.type X) = b) : (Value.ref C :: bm).contains (.type X) = b := by
  rw [List.contains_cons, excTail_contains X bm ht, e]
  cases b <;> rfl
theorem chk_new (k : Kd) (ht : excTail k.tl bm = true) {rest : List Value} {Q : Unit → Shared → Prop}
    (hC : h.get? C = some (excClassObj nm q C N bs bm hdct sn sub ab col dd k0 k1 k2 k3 k5 k.nid)) (hq : Q () ⟨h, g, d, t, os⟩) :
    wpAny M A (checkBuiltinCall k.nid ⟨.ref C :: rest, []⟩) Q E ⟨h, g, d, t, os⟩ := by
  have c1 : (Value.ref C :: bm).contains (.type k.B) = true := k.has ht _ k.hB
  have nst := k.F.noStar
  simp only [checkBuiltinCall, k.F.newKind, k.F.newSplit, k.F.newRow]
  repeat (first
    | refine wpAny_loadPart_at hC ?_
    | (refine wpAny_isSubtype_exc hC ?_; rw [c1])
    | refine wpAny_staticBase_exc hC ?_
    | refine wpAny_madeBy_exc hC ?_
    | simp only [bne_self_eq_false, Bool.false_eq_true, if_false]
    | wp_step)
  exact hq
end
section
variable {prog : Program} {w : World} {A : Around} {E : Value → Shared → Prop} {R : Result → Shared → Prop} {h : Heap} {g : Array GenState} {d : Drawn} {t : Nat} {os : OsState}
variable {nm q : Str} {C N : Addr} {bs bm : List Value} {hdct : Bool} {sn : List Str} {sub : List Value} {ab : Bool} {col : Option Bool} {dd : Option Addr} {k0 k1 k2 k3 k5 : Option Value}
theorem run_new (k : Kd) (ht : excTail k.tl bm = true) {rest : List Value}
    (hC : h.get? C = some (excClassObj nm q C N bs bm hdct sn sub ab col dd k0 k1 k2 k3 k5 k.nid))
    (hq : R (.ok (.ret (.ref (h.objs.size + 1)))) ⟨(h.push (kdv_tup rest)).push (HandSPX.excO C h.objs.size), g, d, t, os⟩) (hr : rest.length ≤ sizeLine) :
    codeAny (model prog w) A (.builtin k.nid ⟨.ref C :: rest, []⟩) R ⟨h, g, d, t, os⟩ := by
  have en := k.F.ends
  have c1 : (Value.ref C :: bm).contains (.type k.B) = true := k.has ht _ k.hB
  have c2 : (Value.ref C :: bm).contains (.type "AttributeError") = false := k.has ht _ k.hA
  have c3 : (Value.ref C :: bm).contains (.type "NameError") = false := k.has ht _ k.hN
  refine codeAny_builtinAt k.F.entry ?_
  unfold Builtin.«BaseException.__new__»
  refine PySem.wpAt_bind ?_
  show PySem.wpAt _ _ _ (stack >>= _) _ _ _
  refine PySem.wpAt_bind (PySem.wpAt_stack fun p below => PySem.wpAt_of_wpAny ?_)
  wp_walk
  refine PySem.wpAt_of_wpAny ?_
  rw [k.F.owner]
  repeat (first
    | with_reducible refine wpAny_madeHere_exc k.F.canon hC ?_
    | with_reducible refine wpAny_loadPart_at hC ?_
    | (with_reducible refine wpAny_isSubtype_exc hC ?_; first | rw [c1] | rw [c2] | rw [c3])
    | wp_step)
  show R _ _
  rw [Heap.size_push]
  exact hq
theorem run_type (k : Kd) (ht : excTail k.tl bm = true) {rest : List Value} {fI : Addr} {Q : Fin → Shared → Prop}
    (hC : h.get? C = some (excClassObj nm q C N bs bm hdct sn sub ab col dd k0 k1 k2 k3 k5 k.nid))
    (hi : Looks (model prog w) h (typeLookup (.ref C) "__init__") (some (.ref fI))) (hb : ∀ self, Looks (model prog w) h (bindSpecial (.ref fI) self) (.ref fI, [self])) (hr : rest.length ≤ sizeLine)
    (hq : codeAny (model prog w) A (.call (.ref fI) ⟨.ref (h.objs.size + 1) :: rest, []⟩)
      (fun r s' => match r with | .ok (.ret v) => v = .none ∧ Q (.done (.ret (.ref (h.objs.size + 1)))) s' | .ok _ => False | .error e => E e s')
      ⟨(h.push (kdv_tup rest)).push (HandSPX.excO C h.objs.size), g, d, t, os⟩) :
    wpAny (model prog w) A (Builtin.«type.__call__» ⟨.ref C :: rest, []⟩) Q E ⟨h, g, d, t, os⟩ := by
  repeat (first
    | with_reducible refine wpAny_loadPart_at hC ?_
    | with_reducible refine wpAny_madeBy_exc hC ?_
    | wp_step)
  refine codeAny_call_builtin_code (Code.quiet_builtin _ k.F.quiet) (chk_new k ht hC (run_new k ht hC ?_ hr))
  show wpAny _ _ _ _ _ _
  have kp : ∀ b o, h.get? b = some o → ((h.push (kdv_tup rest)).push (HandSPX.excO C h.objs.size)).get? b = some o := fun b o e =>
    Heap.get?_push_of_some _ (Heap.get?_push_of_some _ e)
  have hC1 := kp _ _ hC
  have hnew : ((h.push (kdv_tup rest)).push (HandSPX.excO C h.objs.size)).get? (h.objs.size + 1) = some (HandSPX.excO C h.objs.size) := by heap_get
  have self1 : (Value.ref C :: bm).contains (.ref C) = true := by simp
  have i1 := hi.keeps kp
  have b1 := (hb (.ref (h.objs.size + 1))).keeps kp
  unfold isInstance
  repeat (first
    | with_reducible refine wpAny_loadPart_at hnew ?_
    | (with_reducible refine wpAny_isSubtype_exc hC1 ?_; rw [self1])
    | wp_step)
  show wpAny _ _ (typeLookup (.ref C) _) _ _ _
  refine i1.at (wpAny_holding (wpAny_bind (b1.at ?_)))
  refine wpAny_bind (wpAny_call (codeAny_mono hq fun r s' z => ?_))
  rcases r with e | (v | _ | _ | _) <;> first | exact z | exact z.elim | skip
  obtain ⟨rfl, z⟩ := z
  first
    | exact wpAny_pure (wpAny_pure z)
    | (wp_walk; exact z)
/-- C(rest), C with an own __init__ at fI -/
theorem run_class (k : Kd) (ht : excTail k.tl bm = true) {rest : List Value} {fI : Addr}
    (hC : h.get? C = some (excClassObj nm q C N bs bm hdct sn sub ab col dd k0 k1 k2 k3 k5 k.nid))
    (hi : Looks (model prog w) h (typeLookup (.ref C) "__init__") (some (.ref fI))) (hb : ∀ self, Looks (model prog w) h (bindSpecial (.ref fI) self) (.ref fI, [self])) (hr : rest.length ≤ sizeLine)
    (hq : codeAny (model prog w) (A.under (.builtin "type.__call__" ⟨.ref C :: rest, []⟩)) (.call (.ref fI) ⟨.ref (h.objs.size + 1) :: rest, []⟩) (InitBack (h.objs.size + 1) R)
      ⟨(h.push (kdv_tup rest)).push (HandSPX.excO C h.objs.size), g, d, t, os⟩) :
    codeAny (model prog w) A (.call (.ref C) ⟨rest, []⟩) R ⟨h, g, d, t, os⟩ := by
  have f1 := tc_lookup
  have f2 := tc_bind (.ref C)
  have hTy : (⟨h, g, d, t, os⟩ : Shared).TypeIs (.ref C) "type" := ⟨_, hC, rfl⟩
  refine codeAny_of_tree ?_
  show wpAny _ _ (callAny (.ref C) _) _ _ _
  repeat (any_goals (first
    | assumption
    | with_reducible refine wpAny_loadPart_at hC ?_
    | wp_step))
  refine ⟨rfl, codeAny_call_builtin_at (Code.quiet_builtin _ (by decide +kernel)) entry_typeCall (wpAny_check_type_call_sub hC (run_type k ht hC hi hb hr ?_))⟩
  refine codeAny_mono hq fun r s' z => ?_
  rcases r with e | (v | _ | _ | _) <;> exact z
end
end LR

set_option maxHeartbeats 4000000
namespace LR
open PySem PySem.W PySem.Calls PyProof.Rows Builtin Builtin.ObjectAttr
theorem sfK : StoreFacts "KeyError" tlK "object.__setattr__" "object" :=
  { F.store_object with
    mro := by kernel_rfl
    hasOwner := by decide +kernel
    passes := fun self => xK.pass self
    slot := .of (owner := "object") (n := "__setattr__")
      (by rw [typeLookup_type, builtinLookup_eq_fast]; kernel_rfl)
      (by decide +kernel) (by decide +kernel) (by decide +kernel)
      (by first
          | exact .inl (by decide +kernel)
          | exact .inr (by decide +kernel))
      (by rw [isSubtype_type]; kernel_rfl) }
/-- a store by the object's own rule is known for the family -/
def Kd.SF (k : Kd) : Prop := ∃ B, StoreFacts B k.tl "object.__setattr__" "object"
theorem sV : xV.SF := ⟨_, F.store_ValueError⟩
theorem sK : xK.SF := ⟨_, sfK⟩
theorem sR : xR.SF := ⟨_, F.store_RuntimeError⟩
/-- what the written part says of an exception class at C -/
structure XC (K : Frag) (k : Kd) (C : Addr) : Prop where
  cls : ∃ nm q N bs bm sn sub ab col dd k0 k1 k2 k3 k5, K.lookup C = some (excClassObj nm q C N bs bm true sn sub ab col dd k0 k1 k2 k3 k5 k.nid) ∧ excTail k.tl bm = true
  sa : findIn K (.ref C) "__setattr__" = some (some (.builtin "object.__setattr__"))
  ga : findIn K (.ref C) "__getattribute__" = some (some (.builtin "BaseException.__getattribute__"))
  gg : findIn K (.ref C) "__getattr__" = some none
  cl : findIn K (.ref C) "__class__" = some (some (.builtin "object.__class__"))
  kC : keepIn K (.ref C) = true
section
variable {K : Frag} {k : Kd} {C : Addr}
theorem XC.cd (T : XC K k C) : ∃ cd bm, clsIn K C = some cd ∧ cd.mro = .ref C :: bm ∧ excTail k.tl bm = true ∧ cd.hasDict = true := by
  obtain ⟨nm, q, N, bs, bm, sn, sub, ab, col, dd, k0, k1, k2, k3, k5, hC, hb⟩ := T.cls
  exact ⟨_, bm, by unfold clsIn; rw [hC], rfl, hb, rfl⟩
theorem XC.isC (T : XC K k C) : (clsIn K C).isSome = true := by
  obtain ⟨cd, bm, h, _⟩ := T.cd
  rw [h]; rfl
theorem XC.hd (T : XC K k C) : hasDictIn K C = true := by
  obtain ⟨cd, bm, h, _, _, hd⟩ := T.cd
  unfold hasDictIn; rw [h]; exact hd
theorem XC.over (T : XC K k C) : excOver K C k.tl = true := by
  obtain ⟨cd, bm, h, hm, hb, _⟩ := T.cd
  unfold excOver; rw [h]
  simp [hm, hb]
theorem XC.sub (T : XC K k C) (X : String) (e : k.tl.contains (.type X) = true) : mroIn K C (.type X) = some true := by
  obtain ⟨cd, bm, h, hm, hb, _⟩ := T.cd
  unfold mroIn
  rw [h, Option.bind_some, hm]
  show some ((Value.ref C :: bm).contains (.type X)) = some true
  rw [k.has hb X e]
theorem XC.tyC (T : XC K k C) : typeIn K (.ref C) = some (.type "type") := by
  obtain ⟨nm, q, N, bs, bm, sn, sub, ab, col, dd, k0, k1, k2, k3, k5, hC, hb⟩ := T.cls
  show Option.map (fun x => x.cls) (List.lookup C K) = _
  rw [hC]; rfl
end
theorem noTake {K : Frag} {C : Addr} {f : Str} (h : findIn K (.ref C) f = some none) : takerIn K C f = some none := by
  unfold takerIn; rw [h]; rfl
section
variable {prog : Program} {w : World} {A : Around} {E : Value → Shared → Prop} {R : Result → Shared → Prop} {hp : Heap} {g : Array GenState} {d : Drawn} {t : Nat} {os : OsState}
variable {K : Frag} {k : Kd} {C x : Addr} {name : Str} {tk : Tok} {v : Value} {fv : Array Value}
theorem osa_first (S : k.SF) (T : XC K k C) (X : K.In hp) (hx : hp.get? x = some { cls := .ref C, data := .fields fv }) (hno : findIn K (.ref C) name = some none)
    (hq : ∀ h' tk' dx, (∀ b o, b ≠ x → hp.get? b = some o → h'.get? b = some o) → hp.objs.size ≤ dx → dx ≠ x → h'.get? x = some { cls := .ref C, dict := some dx, data := .fields fv } →
      h'.Ns1 dx (fun y => if y = name then some v else none) → R (.ok (.ret .none)) ⟨h', g, d, tk', os⟩) :
    codeAny (model prog w) A (.call (.builtin "object.__setattr__") ⟨[.ref x, .str name tk, v], []⟩) R ⟨hp, g, d, t, os⟩ := by
  obtain ⟨B, SF⟩ := S
  obtain ⟨cd, bm, hcd, hm, hb, hh⟩ := T.cd
  have I : InstAt hp x { cls := .ref C, data := .fields fv } C none := ⟨hx, rfl, rfl, trivial⟩
  have nx : x ≠ hp.objs.size := Nat.ne_of_lt (Heap.lt_size hx)
  have hcls : Looks (model prog w) hp (classData C) cd := looks_clsIn X hcd
  refine osa_openX (s := ⟨hp, g, d, t, os⟩) (r := none) SF X I T.over (noTake hno) fun b => ?_
  obtain ⟨nm, bs, mro, ns, qn, hd, sn, sb, ab, col, del⟩ := cd
  dsimp only at hh
  subst hh
  dsimp only
  unfold storeInOwnDict ownDictForStores
  repeat (first
    | with_reducible refine HandSPX.store_in_new ?_ ?_
    | with_reducible refine wpAny_loadPart_at hx ?_
    | with_reducible refine hcls.at ?_
    | wp_step)
  · exact ⟨_, #[], _, (Heap.get?_update_ne _ _ _ _ nx.symm).trans (Heap.get?_push_at rfl rfl), rfl, fun e he => absurd he (by simp), fun _ => rfl⟩
  · intro h' tk' hn' hs
    have hx1 : (hp.push { cls := .type "dict", data := .dict #[] }).get? x = some { cls := .ref C, data := .fields fv } := Heap.get?_push_of_some _ hx
    refine hq h' tk' hp.objs.size (fun b o ne ho => ?_) (Nat.le_refl _) nx.symm ?_ hn'
    · have z1 := Heap.get?_push_of_some { cls := .type "dict", data := .dict #[] } ho
      have z2 := hs.2 b (Nat.ne_of_lt (Heap.lt_size ho))
      exact z2.trans ((Heap.get?_update_ne _ _ _ _ ne).trans z1)
    · exact (hs.2 x nx).trans (Heap.get?_update_self _ hx1 rfl)
theorem osa_later {dx : Addr} {m0 : Str → Option Value} {nl : List Str} (S : k.SF) (T : XC K k C) (X : K.In hp) (hx : hp.get? x = some { cls := .ref C, dict := some dx, data := .fields fv })
    (hns : hp.Ns1 dx m0) (hw : Within m0 nl) (hz : nl.length ≤ 1000) (hno : findIn K (.ref C) name = some none)
    (hq : ∀ h' tk', (∀ b o, b ≠ dx → hp.get? b = some o → h'.get? b = some o) → h'.Ns1 dx (fun y => if y = name then some v else m0 y) → R (.ok (.ret .none)) ⟨h', g, d, tk', os⟩) :
    codeAny (model prog w) A (.call (.builtin "object.__setattr__") ⟨[.ref x, .str name tk, v], []⟩) R ⟨hp, g, d, t, os⟩ := by
  obtain ⟨B, SF⟩ := S
  obtain ⟨cd, bm, hcd, hm, hb, hh⟩ := T.cd
  obtain ⟨oD, _, _, hoD, _, _⟩ := hns.count hw
  have I : InstAt hp x { cls := .ref C, dict := some dx, data := .fields fv } C (some oD) := ⟨hx, rfl, rfl, hoD⟩
  have hcls : Looks (model prog w) hp (classData C) cd := looks_clsIn X hcd
  refine osa_openX (s := ⟨hp, g, d, t, os⟩) (r := none) SF X I T.over (noTake hno) fun b => ?_
  obtain ⟨nm, bs, mro, ns, qn, hd, sn, sb, ab, col, del⟩ := cd
  dsimp only at hh
  subst hh
  dsimp only
  unfold storeInOwnDict ownDictForStores
  repeat (first
    | with_reducible refine OEX.store_in_old hns hw hz ?_
    | with_reducible refine wpAny_loadPart_at hx ?_
    | with_reducible refine hcls.at ?_
    | wp_step)
  intro h' tk' hn' hs
  exact hq h' tk' (fun b o ne ho => (hs.2 b ne).trans ho) hn'
end
end LR

set_option maxHeartbeats 4000000
namespace L2.Lr
open PySem PySem.Spec PyProof.Rows LR
/-- at a: an exception of the class at C, its dict (none as yet | at d) -/
abbrev xo (a C : Addr) (d : Option Addr) : HO := exo a C d
theorem xo_at {P : Program} {w : World} {H : Hp} {h : Heap} {a C : Addr} {d : Option Addr} (hok : HOk P w H h) (e : H a = some (xo a C d)) : ∃ t1 : Addr, h.get? a = some ({ cls := .ref C, dict := d, data := .fields #[.ref t1, .none, .none, .none, .bool false, .none] } : Obj) := exo_at hok e
theorem xo_ok {P : Program} {w : World} {H : Hp} {h : Heap} {a C t1 : Addr} {d : Option Addr} (e : h.get? a = some ({ cls := .ref C, dict := d, data := .fields #[.ref t1, .none, .none, .none, .bool false, .none] } : Obj)) : ObjOk P w H h a (xo a C d) := exo_ok e
theorem xo_ne {a C : Addr} {d : Option Addr} {o : HO} (n : ∀ φ, HO.ext φ ≠ o) : xo a C d ≠ o := n _
section
variable {X : Cx} {pins : List (Addr × Obj)} {σ : St} {H : Hp} {s : Shared} {a C dx : Addr} {f : Str} {y : V} {u : Value} {fs : List (Str × V)} {Q : Unit → Shared → Prop} {E : Value → Shared → Prop} {A : Around} {k : Kd}
/-- self.f = y, the first field -/
theorem st_first (S : k.SF) (T : XC X.K k C) (I : Inv X pins σ H s) (e : H a = some (xo a C none)) (hno : PySem.W.findIn X.K (.ref C) f = some none) (ry : RelV y u)
    (go : ∀ dx s', H dx = none → dx ≠ a → Inv X pins σ (upd (upd H dx (exd dx [(f, y)])) a (xo a C (some dx))) s' → Q () s') : wpAny (model X.prog X.w) A (setAttr (.ref a) f u) Q E s := by
  obtain ⟨fv, ho⟩ := xo_at I.hok e
  obtain ⟨hp, g, d, t, os⟩ := s
  refine PySem.W.set_plain I.kIn (ox := { cls := .ref C, dict := none, data := .fields #[.ref fv, .none, .none, .none, .bool false, .none] }) (od := none) ⟨ho, rfl, rfl, trivial⟩ T.sa (osa_first S T I.kIn ho hno fun h' tk' dx kk dn dne hx hn => ?_)
  have fresh : H dx = none := I.hok.fresh dn
  have old : ∀ {b : Addr} {o : Obj}, hp.get? b = some o → b ≠ dx := fun {b o} q => Nat.ne_of_lt (Nat.lt_of_lt_of_le (Heap.lt_size q) dn)
  have off : ∀ {b : Addr}, H b = none → b ≠ a := fun {b} n z => by
    rw [z, e] at n
    cases n
  have own : ∀ {b c : Addr}, H b = some (.own c) → b ≠ a := fun {b c} q => at_ne e q (xo_ne fun _ z => by cases z)
  have tup : ∀ {b : Addr} {xs : List V}, H b = some (.tup xs) → b ≠ a := fun {b xs} q => at_ne e q (xo_ne fun _ z => by cases z)
  have frz : ∀ {b : Addr} {o : Obj} {v : HO}, H b = some (.frz o v) → b ≠ a := fun {b o v} q => at_ne e q (xo_ne fun _ z => by cases z)
  have tbl : ∀ {b : Addr} {ps : Array Value}, H b = some (.tbl ps) → b ≠ a := fun {b ps} q => at_ne e q (xo_ne fun _ z => by cases z)
  have U : Un X.fs [] H (upd (upd H dx (exd dx [(f, y)])) a (xo a C (some dx))) hp h' :=
    ⟨fun b o q n _ _ => kk b o (off n) q, fun b o q n _ _ => ⟨o.slots, kk b o (off n) q⟩,
     fun b o q n _ => (upd_ne (off n)).trans ((upd_ne (old q)).trans n),
     fun b o q _ => (Classical.em (b = a)).elim (fun hb => hb.symm ▸ (⟨_, hx⟩ : ∃ o', h'.get? a = some o')) fun hb => ⟨o, kk b o hb q⟩,
     fun b xs q => (upd_ne (tup q)).trans ((upd_ne (ne_of_none q fresh)).trans q),
     fun b o v q => (upd_ne (frz q)).trans ((upd_ne (ne_of_none q fresh)).trans q),
     fun b ps q => ⟨#[], by rw [upd_ne (tbl q), upd_ne (ne_of_none q fresh), q]; simp⟩⟩
  refine go dx _ fresh dne (I.un (t' := tk') U fun b o q => ?_)
  by_cases hb : b = a
  · subst hb
    cases upd_same.symm.trans q
    exact xo_ok hx
  · rw [upd_ne hb] at q
    by_cases hd : b = dx
    · subst hd
      cases upd_same.symm.trans q
      exact exd_ok hn (relO_put (fs := []) ry fun g => True.intro)
    · rw [upd_ne hd] at q
      refine (I.hok b o q).stay (fun c v hc z => kk c v ?_ z) (fun c hc => (upd_ne (own hc)).trans ((upd_ne (ne_of_none hc fresh)).trans hc)) fun c xs hc => (upd_ne (tup hc)).trans ((upd_ne (ne_of_none hc fresh)).trans hc)
      rcases hc with hc | hc
      · rw [hc]; exact hb
      · exact own hc
/-- self.f = y, a later field -/
theorem st_later (S : k.SF) (T : XC X.K k C) (I : Inv X pins σ H s) (e : H a = some (xo a C (some dx))) (ed : H dx = some (exd dx fs)) (hl : fs.length ≤ 900) (hno : PySem.W.findIn X.K (.ref C) f = some none) (ry : RelV y u)
    (go : ∀ s', Inv X pins σ (upd H dx (exd dx ((f, y) :: fs))) s' → Q () s') : wpAny (model X.prog X.w) A (setAttr (.ref a) f u) Q E s := by
  obtain ⟨fv, ho⟩ := xo_at I.hok e
  obtain ⟨mA, hns, rel⟩ := exd_at I.hok ed
  have hw := within_of rel
  obtain ⟨hp, g, d, t, os⟩ := s
  obtain ⟨oD, _, _, hoD, _, _⟩ := hns.count hw
  refine PySem.W.set_plain I.kIn (ox := { cls := .ref C, dict := some dx, data := .fields #[.ref fv, .none, .none, .none, .bool false, .none] }) (od := some oD) ⟨ho, rfl, rfl, hoD⟩ T.sa (osa_later S T I.kIn ho hns hw (by rw [List.length_map]; omega) hno fun h' tk' kk hn => ?_)
  have there : ∃ o, h'.get? dx = some o := by
    obtain ⟨o, _, _, e', _⟩ := hn
    exact ⟨o, e'⟩
  exact go _ (I.write (t' := tk') (x := dx) (e := dx) (o := exd dx ((f, y) :: fs)) (by rw [ed]; exact True.intro) (.inl rfl) kk there (exd_ok hn (relO_put ry rel)))
end
/-! ### readings -/
/-- self.f = e -/
def tStX (K : PySem.W.Frag) (f : Str) (to te : TE) : TS := fun D σ H => te σ H fun y H1 => to σ H1 fun x H2 => ∃ (a C : Addr) (k : Kd), x = .ref a ∧ k.SF ∧ XC K k C ∧ PySem.W.findIn K (.ref C) f = some none ∧
  ((H2 a = some (xo a C none) ∧ ∀ dx, H2 dx = none → dx ≠ a → D.nx σ (upd (upd H2 dx (exd dx [(f, y)])) a (xo a C (some dx)))) ∨
    ∃ (dx : Addr) (fs : List (Str × V)), H2 a = some (xo a C (some dx)) ∧ H2 dx = some (exd dx fs) ∧ fs.length ≤ 900 ∧ D.nx σ (upd H2 dx (exd dx ((f, y) :: fs))))
/-- C(e, ..), C's __init__ keeping sp: the new exception as a value -/
def tMkX (C : Addr) (sp : Sp) (dvs : List V) (ta : TA) : TE := fun σ H Q => ta σ H fun vs H1 => vs.length ≤ 1000 ∧ ∀ a, H1 a = none → sp (.ref a :: (vs ++ dvs)) (upd H1 a (xo a C none)) (fun v H2 => v = .non ∧ Q (.ref a) H2) (fun _ _ _ => False)
/-- e.n of such an exception -/
def tAtX (K : PySem.W.Frag) (n : Str) (te : TE) : TE := fun σ H Q => te σ H fun x H1 => ∃ (a C dx : Addr) (fs : List (Str × V)) (v : V) (k : Kd), x = .ref a ∧ H1 a = some (xo a C (some dx)) ∧ H1 dx = some (exd dx fs) ∧ XC K k C ∧
  PySem.W.findIn K (.ref C) n = some none ∧ fs.lookup n = some v ∧ Q v H1
/-- isinstance(e, c) -/
def rIsX (K : PySem.W.Frag) : List V → Hp → VK → Prop := fun xs H Q => ∃ (a C : Addr) (d : Option Addr) (k : Kd) (c : V) (cv : Value) (b : Bool), xs = [.ref a, c] ∧ (∀ u, RelV c u → u = cv) ∧ H a = some (xo a C d) ∧
  (∀ dx, d = some dx → ∃ o, H dx = some o) ∧ XC K k C ∧ PySem.W.kitOne K (.ref C) cv = some b ∧ Q (.bl b) H
theorem oc_get {K : PySem.W.Frag} : PySem.W.specialIn K (.builtin "object.__class__") "__get__" = some (some (.builtin "getset_descriptor.__get__")) := by kernel_rfl
theorem oc_take {K : PySem.W.Frag} : PySem.W.takesIn K (.builtin "object.__class__") = some true := by kernel_rfl
section
variable {X : Cx} {o e : Expr} {es : List Expr} {to te : TE} {ta : TA} {f : Str} {p p' p1 p2 pos : Pos}
theorem inst_of {pins : List (Addr × Obj)} {σ : St} {H : Hp} {s : Shared} {a C : Addr} {d : Option Addr} (I : Inv X pins σ H s) (e : H a = some (xo a C d)) (hd : ∀ dx, d = some dx → ∃ o, H dx = some o) :
    ∃ (ox : Obj) (od : Option Obj), PySem.W.InstAt s.heap a ox C od ∧ ∀ dx, d = some dx → ∃ q, od = some q ∧ s.heap.get? dx = some q := by
  obtain ⟨fv, ho⟩ := xo_at I.hok e
  cases d with
  | none => exact ⟨_, none, ⟨ho, rfl, rfl, trivial⟩, fun dx z => by cases z⟩
  | some dx =>
    obtain ⟨q, hq⟩ := hd dx rfl
    obtain ⟨ob, hb⟩ : ∃ ob, s.heap.get? dx = some ob := by
      have z := (I.hok dx q hq).lt
      cases r : s.heap.get? dx with
      | some ob => exact ⟨ob, rfl⟩
      | none => exact absurd r (by
          have zz := I.hok dx q hq
          cases q with
          | lst xs => obtain ⟨_, _, _, _, e1⟩ := zz; rw [e1]; simp
          | tup xs => obtain ⟨_, _, _, o1, e1, _⟩ := zz; rw [e1]; simp
          | dK kvs => obtain ⟨_, _, _, _, o1, _, _, e1, _⟩ := zz; rw [e1]; simp
          | dT kvs => obtain ⟨_, _, _, _, o1, _, _, e1, _⟩ := zz; rw [e1]; simp
          | set S n => obtain ⟨o1, _, _, _, e1, _⟩ := zz; rw [e1]; simp
          | ins C1 d1 f1 => obtain ⟨_, _, _, e1, _⟩ := zz; rw [e1]; simp
          | own y => obtain ⟨_, e1⟩ := zz; rw [e1]; simp
          | xd fs => obtain ⟨_, ⟨_, _, _, e1, _⟩, _⟩ := zz; rw [e1]; simp
          | rng lo hi => obtain ⟨_, _, _, e1⟩ := zz; rw [e1]; simp
          | frz ob u => obtain ⟨e1, _⟩ := zz; rw [e1]; simp
          | tbl ps => have e1 : s.heap.get? dx = some _ := zz; rw [e1]; simp
          | met f1 y => have e1 : s.heap.get? dx = some _ := zz; rw [e1]; simp
          | ext φ => obtain ⟨_, ⟨_, e1⟩, _⟩ := zz; rw [e1]; simp)
    exact ⟨_, some ob, ⟨ho, rfl, rfl, hb⟩, fun dy z => by cases z; exact ⟨ob, rfl, hb⟩⟩
theorem ps_stX (ho : PE X o to) (he : PE X e te) (hs : swapsWith e (some (.Attribute o f p')) pos.line X.env = pure false := by rfl) : PS X (.Assign [.Attribute o f p'] e pos) (tStX X.K f to te) := by
  refine ⟨fun pins s σ H D I hh => plainObj_wpAny_Assign_Attribute (thn (he.run pins s σ H _ I hh) fun v s1 ⟨y, H1, I1, r1, q1⟩ => thn (ho.run pins s1 σ H1 _ I1 q1) fun u s2 ⟨x, H2, I2, r2, q⟩ => ?_) hs⟩
  obtain ⟨a, C, k, rfl, S, T, hno, q⟩ := q
  cases (show u = Value.ref a from r2)
  rcases q with ⟨ea, q⟩ | ⟨dx, fs, ea, ed, hl, q⟩
  · exact st_first S T I2 ea hno r1 fun dx s' n ne J => ⟨σ, _, J, q dx n ne⟩
  · exact st_later S T I2 ea ed hl hno r1 fun s' J => ⟨σ, _, J, q⟩
theorem pe_mkX {CX : CXT} {x : Str} {C fI : Addr} {j : Nat} {fd : FuncData} {ps : List Str} {sp : Sp} {ds : List Value} {dvs : List V} {k : Kd} (T : XC X.K k C) (iC : PySem.W.findIn X.K (.ref C) "__init__" = some (some (.ref fI))) (tI : PySem.W.typeIn X.K (.ref fI) = some (.type "function"))
    (F1 : FnOk X.prog X.w X.K X.mg X.base CX j fI fd ps sp) (hr : Room (j + 1) X.A) (hb : Binds X.K fd ps ds) (hd : Vals dvs ds) (hx : Passes CX X (fun _ _ _ => False)) (hg : Gl X x) (hm : X.mg x = some (.ref C)) (ha : PA X (e :: es) ta)
    (hdb : (x == ("__debug__" : Str)) = false := by decide) (he : starEach (e :: es) X.env = (false, eval e X.env) :: starEach es X.env := by rfl) (hpl : (backTo pos (starEach es X.env)).any (·.1) = false := by rfl) :
    PE X (.Call (.Name x p) (e :: es) [] pos) (tMkX C sp dvs ta) := by
  refine ⟨fun pins s σ H Q I hh => ?_⟩
  obtain ⟨nm, q, N, bs, bm, sn, sub, ab, col, dd, k0, k1, k2, k3, k5, hC, hbm⟩ := T.cls
  refine wpAny_Call_Name_kw (ld_glob I hg hm ?_ hdb)
  refine PySem.W.callWith_K (h₀ := X.base) I.ok.mod.kin T.kC (thn (ha.run pos pins s σ H _ I hh) fun us s1 ⟨vs, H1, I1, r1, hz, q1⟩ => ⟨I1.kIn, ?_⟩) he hpl
  show wpAny _ _ (call (.ref C) us) _ _ _
  obtain ⟨hp, g, dr, tk, os⟩ := s1
  obtain ⟨na, ena⟩ : ∃ na, na = hp.objs.size + 1 := ⟨_, rfl⟩
  have hsz : hp.objs.size ≤ na := by omega
  have hn : H1 na = none := I1.hok.fresh hsz
  have hq := q1 na hn
  obtain ⟨G, eG⟩ : ∃ G, G = (hp.push (PySem.W.kdv_tup us)).push (PySem.HandSPX.excO C hp.objs.size) := ⟨_, rfl⟩
  have kk : ∀ b o, hp.get? b = some o → G.get? b = some o := fun b o e1 => by rw [eG]; exact Heap.get?_push_of_some _ (Heap.get?_push_of_some _ e1)
  have there : G.get? na = some (PySem.HandSPX.excO C hp.objs.size) := by rw [eG, ena]; heap_get
  have I2 : Inv X pins σ (upd H1 na (xo na C none)) ⟨G, g, dr, tk, os⟩ := I1.laid (t' := tk) (a := na) (o := xo na C none) (h' := G) kk hsz (xo_ok there)
  have r2 : Vals (V.ref na :: (vs ++ dvs)) (Value.ref na :: (us ++ ds)) := .cons rfl (r1.append hd)
  have hl : (Value.ref na :: us ++ ds).length = ps.length := by
    have e1 := r2.length
    rw [F1.len _ _ _ _ hq] at e1
    exact e1.symm
  have hus : us.length ≤ sizeLine := by
    rw [← Paired.length r1, sizeLine_eq]
    omega
  refine wpAny_call (run_class k hbm (I1.kIn _ _ hC) (PySem.W.looks_findIn I1.kIn iC) (fun self => PySem.W.bind_fn I1.kIn self tI) hus ?_)
  rw [← eG, ← ena]
  refine codeAny_mono (F1.run _ X.stack _ _ ⟨Value.ref na :: us, []⟩ (Value.ref na :: (us ++ ds)) _ _ (fun _ _ _ => False) (hr.make C us []) (I2.env0.make C us []) (hb _ (Value.ref na :: us) I2.kIn hl) r2 hq) fun r s' hq' => ?_
  cases r with
  | error er => exact hx pins σ _ _ er s' I2 hq'
  | ok fl =>
    cases fl with
    | ret u =>
      obtain ⟨v, H2, os2, bare2, un2, hok2, rv, ev, q2⟩ := hq'
      subst ev
      exact ⟨rv, .ref na, H2, I2.call' (ch := []) os2 un2 hok2 bare2 fun b z => absurd z (by simp), rfl, q2⟩
    | next => exact False.elim hq'
    | brk => exact False.elim hq'
    | cont => exact False.elim hq'
theorem pe_atX {n : Str} (he : PE X e te) (hb : attributeBase e n X.env (eval e X.env) = eval e X.env := by rfl) : PE X (.Attribute e n pos) (tAtX X.K n te) := by
  refine ⟨fun pins s σ H Q I hh => attr_of hb (thn (he.run pins s σ H _ I hh) fun u s1 ⟨x, H1, I1, rx, q⟩ => ?_)⟩
  obtain ⟨a, C, dx, fs, v, k, rfl, ea, ed, T, hno, l, q⟩ := q
  cases (show u = Value.ref a from rx)
  obtain ⟨ox, od, J, hd⟩ := inst_of I1 ea fun d z => by cases z; exact ⟨_, ed⟩
  obtain ⟨ob, eo, ho⟩ := hd dx rfl
  obtain ⟨mA, hns, hr⟩ := exd_at I1.hok ed
  obtain ⟨o2, ho2, hl⟩ := lookIn_ns hns
  cases ho.symm.trans ho2
  subst eo
  obtain ⟨z, hz, rz⟩ := RelO.some_of (v := v) (o := mA n) (by rw [← l]; exact hr n)
  exact HandSPX.exc_get I1.kIn J T.ga T.gg (T.sub "BaseException" k.hE) (PySem.W.findObj_own T.hd hno rfl (by rw [hl, hz])) (handed_of rz) ⟨v, H1, I1.tok _, rz, q⟩
theorem call_isX : CallR X (.builtin "isinstance") (rIsX X.K) := by
  intro pins s σ H xs us Q I r q
  obtain ⟨a, C, d, k, c, cv, b, rfl, hcv, ea, hd, T, e, q⟩ := q
  cases r with
  | cons rx rr =>
    cases rr with
    | cons rt rr =>
      cases rr
      cases rx
      cases hcv _ rt
      obtain ⟨ox, od, J, _⟩ := inst_of I ea hd
      exact PySem.W.kia_one (PySem.W.kitx_exc T.isC T.ga T.gg (T.sub "BaseException" k.hE) T.cl oc_get oc_take (T.sub "object" k.hO)) I.kIn J e (fun z => nomatch z) fun tk => ⟨.bl b, H, I.kept (t' := tk) fun _ _ z => z, rfl, q⟩
end
end L2.Lr

set_option maxHeartbeats 4000000
namespace L2.Lr
open PySem PySem.Spec PyProof.Rows LR
/-! ### facts of a class, reckoned -/
def clB (K : PySem.W.Frag) (k : Kd) (C : Addr) : Bool := match K.lookup C with
  | some ⟨.type "type", _, .cls cd, sl⟩ => (match cd.mro, sl.toList with
    | .ref C' :: bm, [_, _, _, _, some (.builtin n), _] => C' == C && n == k.nid && !cd.hasDel && cd.hasDict && PySem.W.excTail k.tl bm
    | _, _ => false)
  | _ => false
theorem clB_ok {K : PySem.W.Frag} {k : Kd} {C : Addr} (q : clB K k C = true) : ∃ nm qn N bs bm sn sub ab col dd k0 k1 k2 k3 k5, K.lookup C = some (excClassObj nm qn C N bs bm true sn sub ab col dd k0 k1 k2 k3 k5 k.nid) ∧ PySem.W.excTail k.tl bm = true := by
  unfold clB at q
  split at q
  · rename_i dd cd sl ho
    split at q
    · rename_i C' bm k0 k1 k2 k3 n k5 hm hs
      simp only [Bool.and_eq_true, beq_iff_eq, Bool.not_eq_true'] at q
      obtain ⟨⟨⟨⟨rfl, rfl⟩, hdel⟩, hdict⟩, ht⟩ := q
      obtain ⟨nm, bs, mro, ns, qn, hd, sn, sub, ab, col, del⟩ := cd
      dsimp only at hm hdel hdict
      subst hm hdel hdict
      have es : sl = #[k0, k1, k2, k3, some (.builtin k.nid), k5] := by
        rw [← hs]
      subst es
      exact ⟨nm, qn, ns, bs, bm, sn, sub, ab, col, dd, k0, k1, k2, k3, k5, ho, ht⟩
    · cases q
  · cases q
def xcB (K : PySem.W.Frag) (k : Kd) (C : Addr) : Bool := clB K k C && (He.eqO (PySem.W.findIn K (.ref C) "__setattr__") (some (some (.builtin "object.__setattr__"))) && (He.eqO (PySem.W.findIn K (.ref C) "__getattribute__") (some (some (.builtin "BaseException.__getattribute__"))) &&
  (He.eqO (PySem.W.findIn K (.ref C) "__getattr__") (some none) && (He.eqO (PySem.W.findIn K (.ref C) "__class__") (some (some (.builtin "object.__class__"))) && PySem.W.keepIn K (.ref C)))))
theorem xcB_ok {K : PySem.W.Frag} {k : Kd} {C : Addr} (q : xcB K k C = true) : XC K k C := by
  obtain ⟨q1, q⟩ := He.ba q
  obtain ⟨q2, q⟩ := He.ba q
  obtain ⟨q3, q⟩ := He.ba q
  obtain ⟨q4, q⟩ := He.ba q
  obtain ⟨q5, q6⟩ := He.ba q
  exact ⟨clB_ok q1, He.eqO_ok q2, He.eqO_ok q3, He.eqO_ok q4, He.eqO_ok q5, q6⟩
/-! ### exceptions as the heap holds them -/
/-- at a: an exception of the class at C with these fields (none: no dict) -/
def ExF (H : Hp) (a C : Addr) : Option (List (Str × V)) → Prop
  | some fs => ∃ d, H a = some (xo a C (some d)) ∧ H d = some (exd d fs)
  | none => H a = some (xo a C none)
theorem ExF.same {H H' : Hp} {a C : Addr} {o : Option (List (Str × V))} (e : ExF H a C o) (s : Same H H') : ExF H' a C o := by
  cases o with
  | none => exact s _ _ e
  | some fs =>
    obtain ⟨d, e1, e2⟩ := e
    exact ⟨d, s _ _ e1, s _ _ e2⟩
theorem ExF.obj {H : Hp} {a C : Addr} {o : Option (List (Str × V))} (e : ExF H a C o) : ∃ d, H a = some (xo a C d) ∧ ∀ dx, d = some dx → ∃ u, H dx = some u := by
  cases o with
  | none => exact ⟨none, e, fun dx z => by cases z⟩
  | some fs =>
    obtain ⟨d, e1, e2⟩ := e
    exact ⟨some d, e1, fun dx z => by cases z; exact ⟨_, e2⟩⟩
theorem same_upd {H : Hp} {p : Addr} {o : HO} (n : H p = none) : Same H (upd H p o) := fun b u e => (upd_ne (ne_of_none e n)).trans e
theorem pe_weak {X : Cx} {e : Expr} {t t' : TE} (h : PE X e t) (i : ∀ σ H Q, t' σ H Q → t σ H Q) : PE X e t' := ⟨fun pins s σ H Q I q => h.run pins s σ H Q I (i σ H Q q)⟩
theorem pt_weak {X : Cx} {e : Expr} {t t' : TT} (h : PT X e t) (i : ∀ σ H Q, t' σ H Q → t σ H Q) : PT X e t' := ⟨fun pins s σ H Q I q => h.run pins s σ H Q I (i σ H Q q)⟩
theorem pa_weak {X : Cx} {es : List Expr} {t t' : TA} (h : PA X es t) (i : ∀ σ H Q, t' σ H Q → t σ H Q) : PA X es t' := ⟨fun p pins s σ H Q I q => h.run p pins s σ H Q I (i σ H Q q)⟩
/-- C(y): the new exception keeps y -/
def tNew (C : Addr) (te : TE) : TE := fun σ H Q => te σ H fun y H1 => ∀ a H', Same H1 H' → H1 a = none → ExF H' a C (some [("value", y)]) → Q (.ref a) H'
/-- C(z, y): .. keeps both -/
def tNew2 (C : Addr) (tz ty : TE) : TE := fun σ H Q => tz σ H fun z H1 => ty σ H1 fun y H2 => ∀ a H', Same H2 H' → H2 a = none → ExF H' a C (some [("value", y), ("word", z)]) → Q (.ref a) H'
/-- C() -/
def tNew0 (C : Addr) : TE := fun σ H Q => ∀ a, H a = none → Q (.ref a) (upd H a (xo a C none))
/-- isinstance(e, c): b -/
def tIsX (K : PySem.W.Frag) (te : TE) (cv : Value) : TE := fun σ H Q => te σ H fun x H1 => ∃ (a C : Addr) (o : Option (List (Str × V))) (k : Kd) (b : Bool), x = .ref a ∧ ExF H1 a C o ∧ XC K k C ∧ PySem.W.kitOne K (.ref C) cv = some b ∧ Q (.bl b) H1
/-- e.n -/
def tGetX (K : PySem.W.Frag) (n : Str) (te : TE) : TE := fun σ H Q => te σ H fun x H1 => ∃ (a C : Addr) (fs : List (Str × V)) (v : V) (k : Kd), x = .ref a ∧ ExF H1 a C (some fs) ∧ XC K k C ∧ PySem.W.findIn K (.ref C) n = some none ∧ fs.lookup n = some v ∧ Q v H1
/-! ### the promises of the __init__s -/
def spIni (K : PySem.W.Frag) : Sp := fun vs H Q _ => ∃ (a C : Addr) (k : Kd) (y : V), vs = [.ref a, y] ∧ k.SF ∧ XC K k C ∧ PySem.W.findIn K (.ref C) "value" = some none ∧ H a = some (xo a C none) ∧
  ∀ H' d, H d = none → d ≠ a → (∀ b o, H b = some o → b ≠ a → H' b = some o) → H' a = some (xo a C (some d)) → H' d = some (exd d [("value", y)]) → Q .non H'
def spIni2 (K : PySem.W.Frag) : Sp := fun vs H Q _ => ∃ (a C : Addr) (k : Kd) (z y : V), vs = [.ref a, z, y] ∧ k.SF ∧ XC K k C ∧ PySem.W.findIn K (.ref C) "value" = some none ∧ PySem.W.findIn K (.ref C) "word" = some none ∧ H a = some (xo a C none) ∧
  ∀ H' d, H d = none → d ≠ a → (∀ b o, H b = some o → b ≠ a → H' b = some o) → H' a = some (xo a C (some d)) → H' d = some (exd d [("value", y), ("word", z)]) → Q .non H'
/-- a reading with a wish that may be stronger -/
def tUp (te : TE) : TE := fun σ H Q => ∃ Q' : VK, te σ H Q' ∧ ∀ v H', Q' v H' → Q v H'
theorem pe_up {X : Cx} {e : Expr} {te : TE} (h : PE X e te) : PE X e (tUp te) := ⟨fun pins s σ H Q I ⟨Q', q, i⟩ => thn (h.run pins s σ H Q' I q) fun u s1 ⟨v, H1, I1, r, q1⟩ => ⟨v, H1, I1, r, i v H1 q1⟩⟩
section
variable {X : Cx} {e e2 : Expr} {es : List Expr} {te t2 : TE} {ta : TA} {p p' p1 p2 pos : Pos}
theorem pe_new {x : Str} {C fI : Addr} {j : Nat} {fd : FuncData} {k : Kd} (S : k.SF) (T : XC X.K k C) (nv : PySem.W.findIn X.K (.ref C) "value" = some none) (iC : PySem.W.findIn X.K (.ref C) "__init__" = some (some (.ref fI))) (tI : PySem.W.typeIn X.K (.ref fI) = some (.type "function"))
    (F1 : FnOk X.prog X.w X.K X.mg X.base CX0 j fI fd ["self", "value"] (spIni X.K)) (hr : Room (j + 1) X.A) (hb : Binds X.K fd ["self", "value"] []) (hm : X.mg x = some (.ref C)) (ha : PE X e te) (hg : Gl X x := by rfl)
    (hdb : (x == ("__debug__" : Str)) = false := by decide) (he : starEach (e :: []) X.env = (false, eval e X.env) :: starEach [] X.env := by rfl) (hpl : (backTo pos (starEach [] X.env)).any (·.1) = false := by rfl) :
    PE X (.Call (.Name x p) [e] [] pos) (tNew C te) := by
  refine pe_weak (pe_mkX (e := e) (es := []) (dvs := []) T iC tI F1 hr hb .nil pass0 hg hm (pa_cons (pe_up ha) pa_nil he) hdb he hpl) fun σ H Q q => ?_
  refine ⟨_, q, fun y H1 q1 => ⟨by show 1 ≤ 1000; decide, fun a hn => ⟨a, C, k, y, rfl, S, T, nv, upd_same, fun H2 d hd ne keep e1 e2 => ⟨rfl, q1 a H2 (fun b o z => ?_) hn ⟨d, e1, e2⟩⟩⟩⟩⟩
  have ne : b ≠ a := ne_of_none z hn
  exact keep b o ((upd_ne ne).trans z) ne
theorem pe_new2 {x : Str} {C fI : Addr} {j : Nat} {fd : FuncData} {k : Kd} (S : k.SF) (T : XC X.K k C) (nv : PySem.W.findIn X.K (.ref C) "value" = some none) (nw : PySem.W.findIn X.K (.ref C) "word" = some none) (iC : PySem.W.findIn X.K (.ref C) "__init__" = some (some (.ref fI))) (tI : PySem.W.typeIn X.K (.ref fI) = some (.type "function"))
    (F1 : FnOk X.prog X.w X.K X.mg X.base CX0 j fI fd ["self", "word", "value"] (spIni2 X.K)) (hr : Room (j + 1) X.A) (hb : Binds X.K fd ["self", "word", "value"] []) (hm : X.mg x = some (.ref C)) (ha : PE X e te) (ha2 : PE X e2 t2) (hg : Gl X x := by rfl)
    (hdb : (x == ("__debug__" : Str)) = false := by decide) (he : starEach (e :: [e2]) X.env = (false, eval e X.env) :: starEach [e2] X.env := by rfl) (he2 : starEach (e2 :: []) X.env = (false, eval e2 X.env) :: starEach [] X.env := by rfl) (hpl : (backTo pos (starEach [e2] X.env)).any (·.1) = false := by rfl) :
    PE X (.Call (.Name x p) [e, e2] [] pos) (tNew2 C te t2) := by
  refine pe_weak (pe_mkX (e := e) (es := [e2]) (dvs := []) T iC tI F1 hr hb .nil pass0 hg hm (pa_cons (pe_up ha) (pa_cons (pe_up ha2) pa_nil he2) he) hdb he hpl) fun σ H Q q => ?_
  refine ⟨_, q, fun z H1 q1 => ⟨_, q1, fun y H2 q2 => ⟨by show 2 ≤ 1000; decide, fun a hn => ⟨a, C, k, z, y, rfl, S, T, nv, nw, upd_same, fun H3 d hd ne keep e1 e2 => ⟨rfl, q2 a H3 (fun b o zz => ?_) hn ⟨d, e1, e2⟩⟩⟩⟩⟩⟩
  have ne : b ≠ a := ne_of_none zz hn
  exact keep b o ((upd_ne ne).trans zz) ne
theorem pe_new0 {x : Str} {C : Addr} {bmB : List Value} {B newId initId : String} (F : ExcBaseFacts B newId initId bmB) (q : PySem.W.excIn X.K C bmB newId = true) (kC : PySem.W.keepIn X.K (.ref C) = true) (hm : X.mg x = some (.ref C)) (hg : Gl X x := by rfl) (hdb : (x == ("__debug__" : Str)) = false := by decide) :
    PE X (.Call (.Name x p) [] [] pos) (tNew0 C) := by
  refine ⟨fun pins s σ H Q I h => ?_⟩
  refine wpAny_Call_Name_kw (ld_glob I hg hm (PySem.W.callWith_K0 I.kIn kC ?_) hdb)
  obtain ⟨bm, N, nm, qn, bs, hdct, sn, sub, ab, col, dd, k0, k1, k2, k3, k5, mN, hC, hN, hni, T⟩ := exc_obj I.kIn q
  refine wpAny_call_exc_subT F T hC hN hni (fun h' a hm' => ?_) (Nat.zero_le _)
  have hn : H a = none := I.hok.gone hm'.new
  obtain ⟨t, ht, _, _⟩ := hm'.there
  exact ⟨.ref a, _, I.laidN hm'.keeps hm'.new hn (xo_ok ht), rfl, h a hn⟩
theorem pe_isX {c : V} {cv : Value} (pe2 : PE X e2 (tC c)) (hv : ∀ u, RelV c u → u = cv) (hm : X.mg "isinstance" = none) (ha : PE X e te) (hg : Gl X "isinstance" := by rfl)
    (he : starEach (e :: [e2]) X.env = (false, eval e X.env) :: starEach [e2] X.env := by rfl) (he2 : starEach (e2 :: []) X.env = (false, eval e2 X.env) :: starEach [] X.env := by rfl) (hpl : (backTo pos (starEach [e2] X.env)).any (·.1) = false := by rfl) :
    PE X (.Call (.Name "isinstance" p) [e, e2] [] pos) (tIsX X.K te cv) := by
  refine pe_weak (pe_callB (e := e) (es := [e2]) call_isX hg hm boot_isinstance (pa_cons (pe_up ha) (pa_cons pe2 pa_nil he2) he) (by decide) (by decide) he hpl) fun σ H Q q => ?_
  refine ⟨_, q, fun x H1 q1 => ?_⟩
  obtain ⟨a, C, o, k, b, rfl, ex, T, e, q⟩ := q1
  obtain ⟨d, e1, e2⟩ := ex.obj
  exact ⟨a, C, d, k, c, cv, b, rfl, hv, e1, e2, T, e, q⟩
theorem pe_getX {n : Str} (he : PE X e te) (hb : attributeBase e n X.env (eval e X.env) = eval e X.env := by rfl) : PE X (.Attribute e n pos) (tGetX X.K n te) := by
  refine pe_weak (pe_atX (pe_up he) hb) fun σ H Q q => ⟨_, q, fun x H1 q1 => ?_⟩
  obtain ⟨a, C, fs, v, k, rfl, ⟨d, e1, e2⟩, T, hno, l, q⟩ := q1
  exact ⟨a, C, d, fs, v, k, rfl, e1, e2, T, hno, l, q⟩
end
end L2.Lr

set_option maxHeartbeats 4000000
namespace L2.Lr
open PySem PySem.Spec PyProof.Rows LR
/-! own exceptions raised and caught -/
theorem pmk_weak {X : Cx} {e : Expr} {t t' : St → Hp → XK → Prop} (h : PMk X e t) (i : ∀ σ H Q, t' σ H Q → t σ H Q) : PMk X e t' := fun pins s σ H Q I q => h pins s σ H Q I (i σ H Q q)
/-- raise C(y): d holds the fields -/
def tNewR (C : Addr) (te : TE) : St → Hp → XK → Prop := fun σ H Q => te σ H fun y H1 => ∀ d H', Same H1 H' → H1 d = none → H' d = some (.xd [("value", y)]) → Q (.ref C) (some d) H'
def tNewR2 (C : Addr) (tz ty : TE) : St → Hp → XK → Prop := fun σ H Q => tz σ H fun z H1 => ty σ H1 fun y H2 => ∀ d H', Same H2 H' → H2 d = none → H' d = some (.xd [("value", y), ("word", z)]) → Q (.ref C) (some d) H'
def tNewR0 (C : Addr) : St → Hp → XK → Prop := fun _ H Q => Q (.ref C) none H
section
variable {X : Cx} {e e2 : Expr} {es : List Expr} {te t2 : TE} {ta : TA} {p p' p1 p2 pos : Pos}
theorem xc_raises {k : Kd} {C : Addr} (T : XC X.K k C) : Raises X (.ref C) := raises_own (T.sub "BaseException" k.hE) T.tyC
theorem pmk_x {CX : CXT} {x : Str} {C fI : Addr} {j : Nat} {fd : FuncData} {ps : List Str} {sp : Sp} {ds : List Value} {dvs : List V} {k : Kd} (T : XC X.K k C) (iC : PySem.W.findIn X.K (.ref C) "__init__" = some (some (.ref fI))) (tI : PySem.W.typeIn X.K (.ref fI) = some (.type "function"))
    (F1 : FnOk X.prog X.w X.K X.mg X.base CX j fI fd ps sp) (hr : Room (j + 1) X.A) (hb : Binds X.K fd ps ds) (hd : Vals dvs ds) (hx : Passes CX X (fun _ _ _ => False)) (hg : Gl X x) (hm : X.mg x = some (.ref C)) (ha : PA X (e :: es) ta)
    (hdb : (x == ("__debug__" : Str)) = false := by decide) (he : starEach (e :: es) X.env = (false, eval e X.env) :: starEach es X.env := by rfl) (hpl : (backTo pos (starEach es X.env)).any (·.1) = false := by rfl) :
    PMk X (.Call (.Name x p) (e :: es) [] pos) (tMkO C sp dvs ta) := by
  intro pins s σ H Q I hh
  obtain ⟨nm, q, N, bs, bm, sn, sub, ab, col, dd, k0, k1, k2, k3, k5, hC, hbm⟩ := T.cls
  refine wpAny_Call_Name_kw (ld_glob I hg hm ?_ hdb)
  refine PySem.W.callWith_K (h₀ := X.base) I.ok.mod.kin T.kC (thn (ha.run pos pins s σ H _ I hh) fun us s1 ⟨vs, H1, I1, r1, hz, q1⟩ => ⟨I1.kIn, ?_⟩) he hpl
  show wpAny _ _ (call (.ref C) us) _ _ _
  obtain ⟨hp, g, dr, tk, os⟩ := s1
  obtain ⟨na, ena⟩ : ∃ na, na = hp.objs.size + 1 := ⟨_, rfl⟩
  have hsz : hp.objs.size ≤ na := by omega
  have hn : H1 na = none := I1.hok.fresh hsz
  have hq := q1 na hn
  obtain ⟨G, eG⟩ : ∃ G, G = (hp.push (PySem.W.kdv_tup us)).push (PySem.HandSPX.excO C hp.objs.size) := ⟨_, rfl⟩
  have kk : ∀ b o, hp.get? b = some o → G.get? b = some o := fun b o e1 => by rw [eG]; exact Heap.get?_push_of_some _ (Heap.get?_push_of_some _ e1)
  have there : G.get? na = some (PySem.HandSPX.excO C hp.objs.size) := by rw [eG, ena]; heap_get
  have I2 : Inv X pins σ (upd H1 na (xo na C none)) ⟨G, g, dr, tk, os⟩ := I1.laid (t' := tk) (a := na) (o := xo na C none) (h' := G) kk hsz (xo_ok there)
  have r2 : Vals (V.ref na :: (vs ++ dvs)) (Value.ref na :: (us ++ ds)) := .cons rfl (r1.append hd)
  have hl : (Value.ref na :: us ++ ds).length = ps.length := by
    have e1 := r2.length
    rw [F1.len _ _ _ _ hq] at e1
    exact e1.symm
  have hus : us.length ≤ sizeLine := by
    rw [← Paired.length r1, sizeLine_eq]
    omega
  refine wpAny_call (run_class k hbm (I1.kIn _ _ hC) (PySem.W.looks_findIn I1.kIn iC) (fun self => PySem.W.bind_fn I1.kIn self tI) hus ?_)
  rw [← eG, ← ena]
  refine codeAny_mono (F1.run _ X.stack _ _ ⟨Value.ref na :: us, []⟩ (Value.ref na :: (us ++ ds)) _ _ (fun _ _ _ => False) (hr.make C us []) (I2.env0.make C us []) (hb _ (Value.ref na :: us) I2.kIn hl) r2 hq) fun r s' hq' => ?_
  cases r with
  | error er => exact hx pins σ _ _ er s' I2 hq'
  | ok fl =>
    cases fl with
    | ret u =>
      obtain ⟨v, H2, os2, bare2, un2, hok2, rv, ev, d, fs, ea, ed, hd1, q2⟩ := hq'
      subst ev
      obtain ⟨h2, g2, d2, t2, os'⟩ := s'
      exact ⟨rv, mk_end (xc_raises T) I1 hsz kk un2 hok2 os2 bare2 ea ed hd1 q2⟩
    | next => exact False.elim hq'
    | brk => exact False.elim hq'
    | cont => exact False.elim hq'
theorem pmk_new {x : Str} {C fI : Addr} {j : Nat} {fd : FuncData} {k : Kd} (S : k.SF) (T : XC X.K k C) (nv : PySem.W.findIn X.K (.ref C) "value" = some none) (iC : PySem.W.findIn X.K (.ref C) "__init__" = some (some (.ref fI))) (tI : PySem.W.typeIn X.K (.ref fI) = some (.type "function"))
    (F1 : FnOk X.prog X.w X.K X.mg X.base CX0 j fI fd ["self", "value"] (spIni X.K)) (hr : Room (j + 1) X.A) (hb : Binds X.K fd ["self", "value"] []) (hm : X.mg x = some (.ref C)) (ha : PE X e te) (hg : Gl X x := by rfl)
    (hdb : (x == ("__debug__" : Str)) = false := by decide) (he : starEach (e :: []) X.env = (false, eval e X.env) :: starEach [] X.env := by rfl) (hpl : (backTo pos (starEach [] X.env)).any (·.1) = false := by rfl) :
    PMk X (.Call (.Name x p) [e] [] pos) (tNewR C te) := by
  refine pmk_weak (pmk_x (e := e) (es := []) (dvs := []) T iC tI F1 hr hb .nil pass0 hg hm (pa_cons (pe_up ha) pa_nil he) hdb he hpl) fun σ H Q q => ?_
  refine ⟨_, q, fun y H1 q1 => ⟨by show 1 ≤ 1000; decide, fun a hn => ⟨a, C, k, y, rfl, S, T, nv, upd_same, fun H2 d hd ne keep e1 e2 => ⟨rfl, d, _, e1, e2, ?_, ?_⟩⟩⟩⟩
  · exact (upd_ne ne).symm.trans hd
  · refine q1 d _ (fun b o z => ?_) ((upd_ne ne).symm.trans hd) upd_same
    have nb : b ≠ a := ne_of_none z hn
    have nd : b ≠ d := ne_of_none z ((upd_ne ne).symm.trans hd)
    exact (upd_ne nd).trans ((del_ne nb).trans (keep b o ((upd_ne nb).trans z) nb))
theorem pmk_new2 {x : Str} {C fI : Addr} {j : Nat} {fd : FuncData} {k : Kd} (S : k.SF) (T : XC X.K k C) (nv : PySem.W.findIn X.K (.ref C) "value" = some none) (nw : PySem.W.findIn X.K (.ref C) "word" = some none) (iC : PySem.W.findIn X.K (.ref C) "__init__" = some (some (.ref fI))) (tI : PySem.W.typeIn X.K (.ref fI) = some (.type "function"))
    (F1 : FnOk X.prog X.w X.K X.mg X.base CX0 j fI fd ["self", "word", "value"] (spIni2 X.K)) (hr : Room (j + 1) X.A) (hb : Binds X.K fd ["self", "word", "value"] []) (hm : X.mg x = some (.ref C)) (ha : PE X e te) (ha2 : PE X e2 t2) (hg : Gl X x := by rfl)
    (hdb : (x == ("__debug__" : Str)) = false := by decide) (he : starEach (e :: [e2]) X.env = (false, eval e X.env) :: starEach [e2] X.env := by rfl) (he2 : starEach (e2 :: []) X.env = (false, eval e2 X.env) :: starEach [] X.env := by rfl) (hpl : (backTo pos (starEach [e2] X.env)).any (·.1) = false := by rfl) :
    PMk X (.Call (.Name x p) [e, e2] [] pos) (tNewR2 C te t2) := by
  refine pmk_weak (pmk_x (e := e) (es := [e2]) (dvs := []) T iC tI F1 hr hb .nil pass0 hg hm (pa_cons (pe_up ha) (pa_cons (pe_up ha2) pa_nil he2) he) hdb he hpl) fun σ H Q q => ?_
  refine ⟨_, q, fun z H1 q1 => ⟨_, q1, fun y H2 q2 => ⟨by show 2 ≤ 1000; decide, fun a hn => ⟨a, C, k, z, y, rfl, S, T, nv, nw, upd_same, fun H3 d hd ne keep e1 e2 => ⟨rfl, d, _, e1, e2, ?_, ?_⟩⟩⟩⟩⟩
  · exact (upd_ne ne).symm.trans hd
  · refine q2 d _ (fun b o z => ?_) ((upd_ne ne).symm.trans hd) upd_same
    have nb : b ≠ a := ne_of_none z hn
    have nd : b ≠ d := ne_of_none z ((upd_ne ne).symm.trans hd)
    exact (upd_ne nd).trans ((del_ne nb).trans (keep b o ((upd_ne nb).trans z) nb))
theorem pmk_new0 {x : Str} {C : Addr} {bmB : List Value} {B newId initId : String} {k : Kd} (T : XC X.K k C) (F : ExcBaseFacts B newId initId bmB) (q : PySem.W.excIn X.K C bmB newId = true) (kC : PySem.W.keepIn X.K (.ref C) = true) (hm : X.mg x = some (.ref C)) (hg : Gl X x := by rfl) (hdb : (x == ("__debug__" : Str)) = false := by decide) :
    PMk X (.Call (.Name x p) [] [] pos) (tNewR0 C) := by
  intro pins s σ H Q I h
  refine wpAny_Call_Name_kw (ld_glob I hg hm (PySem.W.callWith_K0 I.kIn kC ?_) hdb)
  obtain ⟨bm, N, nm, qn, bs, hdct, sn, sub, ab, col, dd, k0, k1, k2, k3, k5, mN, hC, hN, hni, T'⟩ := exc_obj I.kIn q
  refine wpAny_call_exc_subT F T' hC hN hni (fun h' a hm' => ?_) (Nat.zero_le _)
  exact mk_of I hm' (xc_raises T) h (I.hok.gone hm'.new)
end
/-! ### in an except suite -/
theorem obj_of {P : Program} {w : World} {H : Hp} {h : Heap} {dx : Addr} {q : HO} (hok : HOk P w H h) (e : H dx = some q) : ∃ ob, h.get? dx = some ob := by
  have z := hok dx q e
  cases q with
  | lst xs => obtain ⟨_, _, _, _, e1⟩ := z; exact ⟨_, e1⟩
  | tup xs => obtain ⟨_, _, _, o1, e1, _⟩ := z; exact ⟨_, e1⟩
  | dK kvs => obtain ⟨_, _, _, _, o1, _, _, e1, _⟩ := z; exact ⟨_, e1⟩
  | dT kvs => obtain ⟨_, _, _, _, o1, _, _, e1, _⟩ := z; exact ⟨_, e1⟩
  | set S n => obtain ⟨o1, _, _, _, e1, _⟩ := z; exact ⟨_, e1⟩
  | ins C1 d1 f1 => obtain ⟨_, _, _, e1, _⟩ := z; exact ⟨_, e1⟩
  | own y => obtain ⟨_, e1⟩ := z; exact ⟨_, e1⟩
  | xd fs => obtain ⟨_, ⟨_, _, _, e1, _⟩, _⟩ := z; exact ⟨_, e1⟩
  | rng lo hi => obtain ⟨_, _, _, e1⟩ := z; exact ⟨_, e1⟩
  | frz ob u => obtain ⟨e1, _⟩ := z; exact ⟨_, e1⟩
  | tbl ps => have e1 : h.get? dx = some _ := z; exact ⟨_, e1⟩
  | met f1 y => have e1 : h.get? dx = some _ := z; exact ⟨_, e1⟩
  | ext φ => obtain ⟨_, ⟨_, e1⟩, _⟩ := z; exact ⟨_, e1⟩
/-- e.n, e the caught exception at a -/
def tXv (K : PySem.W.Frag) (a : Addr) (cls : Value) (d : Option Addr) (n : Str) (te : TE) : TE := fun σ H Q => te σ H fun x H1 => x = .ref a ∧ ∃ (C dx : Addr) (fs : List (Str × V)) (v : V) (k : Kd), cls = .ref C ∧ d = some dx ∧ XC K k C ∧
  PySem.W.findIn K (.ref C) n = some none ∧ H1 dx = some (.xd fs) ∧ fs.lookup n = some v ∧ Q v H1
/-- isinstance(e, c) -/
def rIsS (K : PySem.W.Frag) (a : Addr) (cls : Value) (d : Option Addr) : List V → Hp → VK → Prop := fun xs H Q => ∃ (C : Addr) (k : Kd) (c : V) (cv : Value) (b : Bool), xs = [.ref a, c] ∧ cls = .ref C ∧ (∀ u, RelV c u → u = cv) ∧
  (∀ dx, d = some dx → ∃ o, H dx = some o) ∧ XC K k C ∧ PySem.W.kitOne K (.ref C) cv = some b ∧ Q (.bl b) H
def tIsS (K : PySem.W.Frag) (a : Addr) (cls : Value) (d : Option Addr) (te : TE) (cv : Value) : TE := fun σ H Q => te σ H fun x H1 => x = .ref a ∧ ∃ (C : Addr) (k : Kd) (b : Bool), cls = .ref C ∧ (∀ dx, d = some dx → ∃ o, H1 dx = some o) ∧ XC K k C ∧ PySem.W.kitOne K (.ref C) cv = some b ∧ Q (.bl b) H1
section
variable {X : Cx} {a : Addr} {oe : Obj} {cls : Value} {d : Option Addr} {pn : List (Addr × Obj)} {e e2 : Expr} {te : TE} {p pos : Pos}
theorem inst_at {C : Addr} {pins : List (Addr × Obj)} {σ : St} {H : Hp} {s : Shared} (I : Inv (X.suite a ((a, oe) :: pn)) pins σ H s) (hz : Zc cls d oe) (hf : ∃ vs, oe.data = .fields vs) (ec : cls = .ref C) (hd : ∀ dx, d = some dx → ∃ o, H dx = some o) :
    ∃ od : Option Obj, PySem.W.InstAt s.heap a oe C od ∧ ∀ dx, d = some dx → ∃ q, od = some q ∧ s.heap.get? dx = some q := by
  obtain ⟨ha, _⟩ := I.pin (a, oe) (List.mem_append_left _ List.mem_cons_self)
  obtain ⟨vs, hv⟩ := hf
  obtain ⟨z1, z2⟩ := hz
  have nc : PySem.W.notCls oe := by unfold PySem.W.notCls; rw [hv] <;> rfl
  cases d with
  | none => exact ⟨none, ⟨ha, z1.trans ec, nc, by rw [z2]; trivial⟩, fun dx z => by cases z⟩
  | some dx =>
    obtain ⟨q, hq⟩ := hd dx rfl
    obtain ⟨ob, hb⟩ := obj_of I.hok hq
    exact ⟨some ob, ⟨ha, z1.trans ec, nc, by rw [z2]; exact hb⟩, fun dy z => by cases z; exact ⟨ob, rfl, hb⟩⟩
theorem pe_xv {n : Str} (hz : Zc cls d oe) (hf : ∃ vs, oe.data = .fields vs) (he : PE (X.suite a ((a, oe) :: pn)) e te) (hb : attributeBase e n X.env (eval e X.env) = eval e X.env := by rfl) :
    PE (X.suite a ((a, oe) :: pn)) (.Attribute e n pos) (tXv X.K a cls d n te) := by
  refine ⟨fun pins s σ H Q I hh => attr_of hb (thn (he.run pins s σ H _ I hh) fun u s1 ⟨x, H1, I1, rx, q⟩ => ?_)⟩
  obtain ⟨rfl, C, dx, fs, v, k, ec, ed, T, hno, hx, l, q⟩ := q
  cases (show u = Value.ref a from rx)
  obtain ⟨od, J, hd⟩ := inst_at I1 hz hf ec fun dy z => by rw [ed] at z; cases z; exact ⟨_, hx⟩
  obtain ⟨ob, eo, ho⟩ := hd dx ed
  have hx2 : ObjOk X.prog X.w H1 s1.heap dx (.xd fs) := I1.hok dx _ hx
  obtain ⟨mA, hns, hr⟩ := hx2
  obtain ⟨o2, ho2, hl⟩ := lookIn_ns hns
  cases ho.symm.trans ho2
  subst eo
  obtain ⟨z, hz', rz⟩ := RelO.some_of (v := v) (o := mA n) (by rw [← l]; exact hr n)
  exact HandSPX.exc_get I1.kIn J T.ga T.gg (T.sub "BaseException" k.hE) (PySem.W.findObj_own T.hd hno rfl (by rw [hl, hz'])) (handed_of rz) ⟨v, H1, I1.tok _, rz, q⟩
theorem call_isS (hz : Zc cls d oe) (hf : ∃ vs, oe.data = .fields vs) : CallR (X.suite a ((a, oe) :: pn)) (.builtin "isinstance") (rIsS X.K a cls d) := by
  intro pins s σ H xs us Q I r q
  obtain ⟨C, k, c, cv, b, rfl, ec, hcv, hd, T, e, q⟩ := q
  cases r with
  | cons rx rr =>
    cases rr with
    | cons rt rr =>
      cases rr
      cases rx
      cases hcv _ rt
      obtain ⟨od, J, _⟩ := inst_at I hz hf ec hd
      exact PySem.W.kia_one (PySem.W.kitx_exc T.isC T.ga T.gg (T.sub "BaseException" k.hE) T.cl oc_get oc_take (T.sub "object" k.hO)) I.kIn J e (fun z => nomatch z) fun tk => ⟨.bl b, H, I.kept (t' := tk) fun _ _ z => z, rfl, q⟩
theorem pe_isS {c : V} {cv : Value} (hz : Zc cls d oe) (hf : ∃ vs, oe.data = .fields vs) (pe2 : PE (X.suite a ((a, oe) :: pn)) e2 (tC c)) (hv : ∀ u, RelV c u → u = cv) (hm : X.mg "isinstance" = none) (ha : PE (X.suite a ((a, oe) :: pn)) e te) (hg : Gl X "isinstance" := by rfl)
    (he : starEach (e :: [e2]) X.env = (false, eval e X.env) :: starEach [e2] X.env := by rfl) (he2 : starEach (e2 :: []) X.env = (false, eval e2 X.env) :: starEach [] X.env := by rfl) (hpl : (backTo pos (starEach [e2] X.env)).any (·.1) = false := by rfl) :
    PE (X.suite a ((a, oe) :: pn)) (.Call (.Name "isinstance" p) [e, e2] [] pos) (tIsS X.K a cls d te cv) := by
  refine pe_weak (pe_callB (e := e) (es := [e2]) (call_isS hz hf) hg hm boot_isinstance (pa_cons (pe_up ha) (pa_cons pe2 pa_nil he2) he) (by decide) (by decide) he hpl) fun σ H Q q => ?_
  refine ⟨_, q, fun x H1 q1 => ?_⟩
  obtain ⟨rfl, C, k, b, ec, hd, T, e, q⟩ := q1
  exact ⟨C, k, c, cv, b, rfl, ec, hv, hd, T, e, q⟩
end
end L2.Lr

set_option maxHeartbeats 4000000
namespace L2.Lr
open PySem PySem.Spec PyProof.Rows LR
/-! words for any law -/
/-- a loop whose body's ends are a letter -/
theorem for_rangeD {lo : Int} {n : Nat} {g : TG} {tb : TS} {D : Ends} {σ : St} {H : Hp} (Pv : Nat → St → Hp → Prop) (h0 : Pv 0 σ H)
    (hs : ∀ (D' : Ends) (i : Nat) (σ : St) (H : Hp), D'.rt = D.rt → (∀ σ H, Pv (i + 1) σ H → D'.nx σ H) → (∀ σ H, Pv (i + 1) σ H → D'.ct σ H) → (∀ σ H, D.nx σ H → D'.bk σ H) → i < n → Pv i σ H → g (.int (lo + i)) σ H fun σ2 H2 => tb D' σ2 H2) (hd : ∀ σ H, Pv n σ H → D.nx σ H) :
    ∃ W : Nat → Nat → St → Hp → Prop, (∃ m, W 0 m σ H) ∧ ∀ i m σ H, W i m σ H →
      ((Itr lo n).stop i H ∧ D.nx σ H) ∨ ((Itr lo n).go i H ∧ ∃ N : St → Hp → Prop, (∀ σ' H', N σ' H' → ∃ m', m' < m ∧ W (i + 1) m' σ' H') ∧ ∀ x H', (Itr lo n).yld i H x H' → g x σ H' fun σ2 H2 => tb { D with nx := N, ct := N, bk := D.nx } σ2 H2) :=
  for_range Pv h0 (fun i σ H hi hp => hs { D with nx := Pv (i + 1), ct := Pv (i + 1), bk := D.nx } i σ H rfl (fun _ _ h => h) (fun _ _ h => h) (fun _ _ h => h) hi hp) hd
theorem for_listD {K : PySem.W.Frag} {a : Addr} {xs : List V} {g : TG} {tb : TS} {D : Ends} {σ : St} {H : Hp} (Pv : Nat → St → Hp → Prop) (h0 : Pv 0 σ H) (hl : ∀ i σ H, i ≤ xs.length → Pv i σ H → SqL K H a xs)
    (hs : ∀ (D' : Ends) (i : Nat) (x : V) (σ : St) (H : Hp), D'.rt = D.rt → (∀ σ H, Pv (i + 1) σ H → D'.nx σ H) → (∀ σ H, Pv (i + 1) σ H → D'.ct σ H) → (∀ σ H, D.nx σ H → D'.bk σ H) → xs[i]? = some x → Pv i σ H → g x σ H fun σ2 H2 => tb D' σ2 H2) (hd : ∀ σ H, Pv xs.length σ H → D.nx σ H) :
    ∃ W : Nat → Nat → St → Hp → Prop, (∃ m, W 0 m σ H) ∧ ∀ i m σ H, W i m σ H →
      ((Itl K a).stop i H ∧ D.nx σ H) ∨ ((Itl K a).go i H ∧ ∃ N : St → Hp → Prop, (∀ σ' H', N σ' H' → ∃ m', m' < m ∧ W (i + 1) m' σ' H') ∧ ∀ x H', (Itl K a).yld i H x H' → g x σ H' fun σ2 H2 => tb { D with nx := N, ct := N, bk := D.nx } σ2 H2) :=
  for_list Pv h0 hl (fun i x σ H hi hp => hs { D with nx := Pv (i + 1), ct := Pv (i + 1), bk := D.nx } i x σ H rfl (fun _ _ h => h) (fun _ _ h => h) (fun _ _ h => h) hi hp) hd
theorem for_tupD {K : PySem.W.Frag} {a : Addr} {xs : List V} {g : TG} {tb : TS} {D : Ends} {σ : St} {H : Hp} (Pv : Nat → St → Hp → Prop) (h0 : Pv 0 σ H) (hl : ∀ i σ H, i ≤ xs.length → Pv i σ H → SqT K H a xs)
    (hs : ∀ (D' : Ends) (i : Nat) (x : V) (σ : St) (H : Hp), D'.rt = D.rt → (∀ σ H, Pv (i + 1) σ H → D'.nx σ H) → (∀ σ H, Pv (i + 1) σ H → D'.ct σ H) → (∀ σ H, D.nx σ H → D'.bk σ H) → xs[i]? = some x → Pv i σ H → g x σ H fun σ2 H2 => tb D' σ2 H2) (hd : ∀ σ H, Pv xs.length σ H → D.nx σ H) :
    ∃ W : Nat → Nat → St → Hp → Prop, (∃ m, W 0 m σ H) ∧ ∀ i m σ H, W i m σ H →
      ((Itt K a).stop i H ∧ D.nx σ H) ∨ ((Itt K a).go i H ∧ ∃ N : St → Hp → Prop, (∀ σ' H', N σ' H' → ∃ m', m' < m ∧ W (i + 1) m' σ' H') ∧ ∀ x H', (Itt K a).yld i H x H' → g x σ H' fun σ2 H2 => tb { D with nx := N, ct := N, bk := D.nx } σ2 H2) :=
  for_tup Pv h0 hl (fun i x σ H hi hp => hs { D with nx := Pv (i + 1), ct := Pv (i + 1), bk := D.nx } i x σ H rfl (fun _ _ h => h) (fun _ _ h => h) (fun _ _ h => h) hi hp) hd
theorem ite_dec {p : Prop} [Decidable p] {A B : Prop} (h1 : p → A) (h2 : ¬ p → B) : if decide p = true then A else B := by
  by_cases h : p
  · rw [if_pos (decide_eq_true h)]
    exact h1 h
  · rw [if_neg (by rw [decide_eq_false h]; exact Bool.false_ne_true)]
    exact h2 h
theorem go_next {D : Ends} {σ : St} {H : Hp} (h : D.nx σ H) : tNext D σ H := h
theorem go_seq {t u : TS} {D : Ends} {σ : St} {H : Hp} (h : t { D with nx := u D } σ H) : tSeq t u D σ H := h
theorem go_asg {te : TE} {g : TG} {D : Ends} {σ : St} {H : Hp} (h : te σ H fun x H1 => g x σ H1 D.nx) : tAsg te g D σ H := h
theorem eqv_ne {d e : PyData} {A B : Prop} (h : PyData.eqv d e = true) (b : B) : if (!PyData.eqv d e) = true then A else B := by
  rw [h]
  exact iteF b
theorem all_range {n : Nat} {p : Nat → Bool} (h : (List.range n).all p = true) (i : Nat) (hi : i < n) : p i = true := List.all_eq_true.mp h i (List.mem_range.mpr hi)
/-! ### a Hook with a check of one's own -/
def obsEG (n : Nat) (chk : PySem.W.Frag → Bool) (fa : List He.Fa) (fn : List He.DefD) (g : Addr → Option Obj) : Bool × He.AlD := (fun K => (chk K, He.obsD fa fn K)) (He.frG g (He.asD g n))
def hookE (n : Nat) (chk : PySem.W.Frag → Bool) (fa : List He.Fa) (fn : List He.DefD) : PySem.W.Hook where
  α := Bool × He.AlD
  obs := fun s => obsEG n chk fa fn s.heap.get?
  val := fun _ => (true, He.valD fn)
  says := fun _ h => ∃ K : PySem.W.Frag, K.In h ∧ chk K = true ∧ He.SaysD fa fn K
  of := fun _ _ e => ⟨_, He.frG_in, congrArg (fun z : Bool × He.AlD => z.1) e, congrArg (fun z : Bool × He.AlD => z.2) e⟩
  keeps := fun _ _ _ ⟨K, hK, c⟩ k => ⟨K, PySem.W.Frag.In.keeps hK k, c⟩
theorem obsEG_eq {n : Nat} {chk : PySem.W.Frag → Bool} {fa : List He.Fa} {fn : List He.DefD} {g : Addr → Option Obj} {s : Shared} (h : ∀ a, g a = s.heap.get? a) : obsEG n chk fa fn g = (hookE n chk fa fn).obs s := by
  have e : g = s.heap.get? := funext h
  rw [e]
  rfl
/-! ### int(x) -/
def tInt (te : TE) : TE := fun σ H Q => te σ H fun x H1 => ∃ i, x = .int i ∧ Q (.int i) H1
def tIntB (te : TE) : TE := fun σ H Q => te σ H fun x H1 => ∃ k, x = .bl k ∧ Q (.int (if k then 1 else 0)) H1
section
variable {X : Cx} {e : Expr} {te : TE} {p pos : Pos}
theorem pe_toI (hm : X.mg "int" = none) (ha : PE X e te) (hg : Gl X "int" := by rfl) (he : starEach (e :: []) X.env = (false, eval e X.env) :: starEach [] X.env := by rfl) (hpl : (backTo pos (starEach [] X.env)).any (·.1) = false := by rfl) : PE X (.Call (.Name "int" p) [e] [] pos) (tInt te) :=
  pe_weak (pe_callTy (e := e) (es := []) call_int1 hg hm (by decide +kernel) (pa_cons (pe_up ha) pa_nil he) (by decide) (by decide) he hpl) fun σ H Q q => ⟨_, q, fun x H1 ⟨i, ex, q1⟩ => .inl ⟨i, by rw [ex], q1⟩⟩
theorem pe_toIB (hm : X.mg "int" = none) (ha : PE X e te) (hg : Gl X "int" := by rfl) (he : starEach (e :: []) X.env = (false, eval e X.env) :: starEach [] X.env := by rfl) (hpl : (backTo pos (starEach [] X.env)).any (·.1) = false := by rfl) : PE X (.Call (.Name "int" p) [e] [] pos) (tIntB te) :=
  pe_weak (pe_callTy (e := e) (es := []) call_int1 hg hm (by decide +kernel) (pa_cons (pe_up ha) pa_nil he) (by decide) (by decide) he hpl) fun σ H Q q => ⟨_, q, fun x H1 ⟨i, ex, q1⟩ => .inr ⟨i, by rw [ex], q1⟩⟩
end
/-! ### data -/
def tyN : PyData → String
  | .none => "NoneType"
  | .bool _ => "bool"
  | .int _ => "int"
  | .str _ => "str"
  | .list _ => "list"
  | .tuple _ => "tuple"
  | .dict _ => "dict"
theorem tyD {K : PySem.W.Frag} {H : Hp} {x : V} {d : PyData} (h : Dp K H x d) : TyX K H x (.type (tyN d)) := by
  cases h with
  | non => exact .base .non
  | bl b => exact .base (.bl b)
  | int i => exact .base (.int i)
  | str s => exact .base (.str s)
  | lst h _ =>
    rcases h with (h | ⟨o, h⟩) | ⟨o, its, n, h, c, _⟩
    · exact .base (.lst h)
    · exact .base (.frz h)
    · exact .kList h c
  | tup h _ =>
    rcases h with (h | ⟨o, h⟩) | ⟨o, its, n, h, c, _⟩
    · exact .base (.tup h)
    · exact .fTuple h
    · exact .kTuple h c
theorem seqT {K : PySem.W.Frag} {H H' : Hp} {a : Addr} {xs : List V} (s : Same H H') (h : SqT K H a xs) : SqT K H' a xs := by
  rcases h with (h | ⟨o, h⟩) | h
  · exact .inl (.inl (s _ _ h))
  · exact .inl (.inr ⟨o, s _ _ h⟩)
  · exact .inr h
mutual
theorem Dp.same {K : PySem.W.Frag} {H H' : Hp} (s : Same H H') : ∀ {v : V} {d : PyData}, Dp K H v d → Dp K H' v d
  | _, _, .non => .non
  | _, _, .bl b => .bl b
  | _, _, .int i => .int i
  | _, _, .str x => .str x
  | _, _, .lst h a => .lst (s.seq h) (DpAll.same s a)
  | _, _, .tup h a => .tup (seqT s h) (DpAll.same s a)
theorem DpAll.same {K : PySem.W.Frag} {H H' : Hp} (s : Same H H') : ∀ {vs : List V} {ds : List PyData}, DpAll K H vs ds → DpAll K H' vs ds
  | _, _, .nil => .nil
  | _, _, .cons h a => .cons (Dp.same s h) (DpAll.same s a)
end
/-- isinstance(x, t) of data -/
def tIsD (K : PySem.W.Frag) (t : String) (te : TE) : TE := fun σ H Q => te σ H fun x H1 => ∃ d b, Dp K H1 x d ∧ kitB (tyN d) t = some b ∧ Q (.bl b) H1
theorem pe_isD {X : Cx} {e e2 : Expr} {te : TE} {p pos : Pos} {t : String} (hm : X.mg "isinstance" = none) (ha : PE X e te) (pe2 : PE X e2 (tC (.ty t))) (hg : Gl X "isinstance" := by rfl)
    (he : starEach (e :: [e2]) X.env = (false, eval e X.env) :: starEach [e2] X.env := by rfl) (he2 : starEach (e2 :: []) X.env = (false, eval e2 X.env) :: starEach [] X.env := by rfl) (hpl : (backTo pos (starEach [e2] X.env)).any (·.1) = false := by rfl) :
    PE X (.Call (.Name "isinstance" p) [e, e2] [] pos) (tIsD X.K t te) :=
  pe_weak (pe_callB (e := e) (es := [e2]) call_isi hg hm boot_isinstance (pa_cons (pe_up ha) (pa_cons pe2 pa_nil he2) he) (by decide) (by decide) he hpl) fun σ H Q q => ⟨_, q, fun x H1 ⟨d, b, hd, hk, q1⟩ => ⟨x, .ty t, .type (tyN d), .type t, b, rfl, .ty t, tyD hd, kit_ty hk, q1⟩⟩
/-! ### displays of constants -/
/-- the value is this data -/
def tDat (K : PySem.W.Frag) (d : PyData) : TE := fun _ H Q => ∀ v H', Same H H' → Dp K H' v d → Q v H'
def tDats (K : PySem.W.Frag) (ds : List PyData) : TA := fun _ H Q => ∀ vs H', Same H H' → DpAll K H' vs ds → Q vs H'
/-- a new list of this data -/
def tDatL (K : PySem.W.Frag) (ds : List PyData) : TE := fun _ H Q => ∀ p vs H', Same H H' → H' p = some (.lst vs) → DpAll K H' vs ds → Q (.ref p) H'
theorem DpAll.length {K : PySem.W.Frag} {H : Hp} : ∀ {vs : List V} {ds : List PyData}, DpAll K H vs ds → vs.length = ds.length
  | _, _, .nil => rfl
  | _, _, .cons _ a => by simp [DpAll.length a]
theorem DpAll.append {K : PySem.W.Frag} {H : Hp} : ∀ {vs us : List V} {ds es : List PyData}, DpAll K H vs ds → DpAll K H us es → DpAll K H (vs ++ us) (ds ++ es)
  | _, _, _, _, .nil, b => b
  | _, _, _, _, .cons h a, b => .cons h (DpAll.append a b)
theorem DpAll.at {K : PySem.W.Frag} {H : Hp} : ∀ {vs : List V} {ds : List PyData} {i : Nat} {v : V}, DpAll K H vs ds → vs[i]? = some v → ∃ d, ds[i]? = some d ∧ Dp K H v d
  | _, _, _, _, .nil, e => by simp at e
  | _, _, 0, _, .cons h a, e => by simp at e; subst e; exact ⟨_, rfl, h⟩
  | _ :: vs, _ :: ds, i + 1, v, .cons h a, e => DpAll.at (vs := vs) (ds := ds) (i := i) a (by simpa using e)
section
variable {X : Cx} {e : Expr} {es : List Expr} {d : PyData} {ds : List PyData} {p pos : Pos}
theorem pd_int {i : Int} {k} : PE X (.Constant (.int i) k p) (tDat X.K (.int i)) := pe_weak pe_int fun σ H Q q => q _ _ (Same.refl H) (.int i)
theorem pd_str {x : Str} {k} : PE X (.Constant (.str x) k p) (tDat X.K (.str x)) := pe_weak pe_str fun σ H Q q => q _ _ (Same.refl H) (.str x)
theorem pd_bl {b : Bool} {k} : PE X (.Constant (.bool b) k p) (tDat X.K (.bool b)) := pe_weak pe_bl fun σ H Q q => q _ _ (Same.refl H) (.bl b)
theorem pd_non {k} : PE X (.Constant .none k p) (tDat X.K .none) := pe_weak pe_non fun σ H Q q => q _ _ (Same.refl H) .non
theorem pd_neg {i : Int} {k} : PE X (.UnaryOp .USub (.Constant (.int i) k p) pos) (tDat X.K (.int (-i))) := pe_weak (pe_un un_neg pe_int) fun σ H Q q => ⟨i, rfl, q _ _ (Same.refl H) (.int (-i))⟩
theorem pd_nil : PA X [] (tDats X.K []) := pa_weak pa_nil fun σ H Q q => q [] H (Same.refl H) .nil
theorem pd_cons (h1 : PE X e (tDat X.K d)) (h2 : PA X es (tDats X.K ds)) (hs : starEach (e :: es) X.env = (false, eval e X.env) :: starEach es X.env := by rfl) : PA X (e :: es) (tDats X.K (d :: ds)) :=
  pa_weak (pa_cons h1 h2 hs) fun σ H Q q v H1 s1 h1 vs H2 s2 h2 => q (v :: vs) H2 (s1.trans s2) (.cons (Dp.same s2 h1) h2)
theorem pd_tup {x1} (h : PA X es (tDats X.K ds)) (hz : ds.length ≤ sizeLine := by show _ ≤ _; decide) : PE X (.Tuple es x1 pos) (tDat X.K (.tuple ds)) :=
  pe_weak (pe_tup h) fun σ H Q q vs H1 s1 h1 => ⟨by rw [DpAll.length h1]; exact hz, fun p np => q _ _ (s1.trans (same_upd np)) (.tup (SqT.of upd_same) (DpAll.same (same_upd np) h1))⟩
theorem pd_lst {x1} (h : PA X es (tDats X.K ds)) (hz : ds.length ≤ sizeLine := by show _ ≤ _; decide) : PE X (.List es x1) (tDat X.K (.list ds)) :=
  pe_weak (pe_lst h) fun σ H Q q vs H1 s1 h1 => ⟨by rw [DpAll.length h1]; exact hz, fun p np => q _ _ (s1.trans (same_upd np)) (.lst (SqL.of upd_same) (DpAll.same (same_upd np) h1))⟩
theorem pd_lstL {x1} (h : PA X es (tDats X.K ds)) (hz : ds.length ≤ sizeLine := by show _ ≤ _; decide) : PE X (.List es x1) (tDatL X.K ds) :=
  pe_weak (pe_lst h) fun σ H Q q vs H1 s1 h1 => ⟨by rw [DpAll.length h1]; exact hz, fun p np => q p vs _ (s1.trans (same_upd np)) upd_same (DpAll.same (same_upd np) h1)⟩
end
/-! ### displays of pairs of names -/
/-- tuples of the values of two slots each -/
def tPairs (l : List (Nat × Nat)) : TA := fun σ H Q => ∃ f : Nat → V, (∀ q, q ∈ l → σ[q.1]? = some (some (f q.1)) ∧ σ[q.2]? = some (some (f q.2))) ∧
  ∀ (as : List Addr) (H' : Hp), Same H H' → as.length = l.length → (∀ (n : Nat) (a : Addr) (q : Nat × Nat), as[n]? = some a → l[n]? = some q → H' a = some (.tup [f q.1, f q.2])) → Q (as.map V.ref) H'
section
variable {X : Cx} {e1 e2 : Expr} {es : List Expr} {i j : Nat} {l : List (Nat × Nat)} {p pos : Pos}
theorem pa_pair0 : PA X [] (tPairs []) := pa_weak pa_nil fun σ H Q ⟨f, _, q⟩ => q [] H (Same.refl H) rfl fun n a r e => by simp at e
theorem pa_pair {x1} (h1 : PE X e1 (tVar i)) (h2 : PE X e2 (tVar j)) (h : PA X es (tPairs l)) (he : starEach (e1 :: [e2]) X.env = (false, eval e1 X.env) :: starEach [e2] X.env := by rfl) (he2 : starEach (e2 :: []) X.env = (false, eval e2 X.env) :: starEach [] X.env := by rfl)
    (hs : starEach (.Tuple [e1, e2] x1 pos :: es) X.env = (false, eval (.Tuple [e1, e2] x1 pos) X.env) :: starEach es X.env := by rfl) : PA X (.Tuple [e1, e2] x1 pos :: es) (tPairs ((i, j) :: l)) :=
  pa_weak (pa_cons (pe_tup (pa_cons h1 (pa_cons h2 pa_nil he2) he)) h hs) fun σ H Q ⟨f, hf, q⟩ => by
    obtain ⟨f1, f2⟩ := hf (i, j) (List.mem_cons_self ..)
    refine ⟨_, f1, _, f2, by show 2 ≤ sizeLine; decide, fun a na => ⟨f, fun q m => hf q (List.mem_cons_of_mem _ m), fun as H2 s2 hl ha => q (a :: as) H2 ((same_upd na).trans s2) (by simp [hl]) fun n b r e1 e2 => ?_⟩⟩
    cases n with
    | zero =>
      simp at e1 e2
      subst e1 e2
      exact s2 _ _ upd_same
    | succ n => exact ha n b r (by simpa using e1) (by simpa using e2)
end
end L2.Lr


set_option maxHeartbeats 4000000
namespace L2.Tx
open PySem PySem.Spec PyProof.Rows NumText L2 TL
/-! ### ints as texts, with their sign -/
def intT (a : Int) : Str := Str.ofString (toString a)
def sgnL (a : Int) : List Nat := if a < 0 then 45 :: numL a.natAbs else numL a.natAbs
def plusL (a : Int) : List Nat := (if a < 0 then 45 else 43) :: numL a.natAbs
def plusT (a : Int) : Str := ⟨(plusL a).toArray⟩
theorem tl_inj {x y : Str} (h : tl x = tl y) : x = y := by
  cases x; cases y
  congr 1
  exact Array.toList_inj.mp h
theorem tl_int (a : Int) : tl (intT a) = sgnL a := by
  unfold intT sgnL
  cases a with
  | ofNat n =>
    rw [if_neg (by show ¬ ((n : Int) < 0); omega)]
    exact tl_num n
  | negSucc n =>
    rw [if_pos (Int.negSucc_lt_zero n)]
    rw [tl_ofString]
    show ("-" ++ toString (n + 1)).toList.map Char.toNat = 45 :: numL (n + 1)
    rw [String.toList_append, List.map_append]
    have e : (toString (n + 1)).toList.map Char.toNat = numL (n + 1) := by
      have z := tl_num (n + 1)
      rw [tl_ofString] at z
      exact z
    rw [e]
    rfl
theorem tl_plus (a : Int) : tl (plusT a) = plusL a := tl_mk _
theorem plus_pos {a : Int} (h : 0 < a) : plusT a = Str.ofString "+" ++ intT a := by
  apply tl_inj
  rw [tl_plus, tl_append, tl_int]
  unfold plusL sgnL
  rw [if_neg (by omega), if_neg (by omega)]
  rfl
theorem plus_neg {a : Int} (h : a < 0) : plusT a = intT a := by
  apply tl_inj
  rw [tl_plus, tl_int]
  unfold plusL sgnL
  rw [if_pos h, if_pos h]
theorem numL_sz {a : Int} (h : a.natAbs < 10 ^ 400) : (numL a.natAbs).length ≤ 400 := numL_len (by decide) h
/-- no m in a number -/
theorem sgn_free {a : Int} {s : Nat} (h : 57 < s) : s ∉ sgnL a := by
  unfold sgnL
  split
  · intro z
    rcases List.mem_cons.mp z with z | z
    · omega
    · exact numL_free (.inr h) z
  · exact numL_free (.inr h)
theorem intText_plus {x : Str} {cs : List Nat} (hx : x.cps.toList = 43 :: cs) (h : AllDigits cs) (h1 : cs ≠ []) (h2 : x.length ≤ 4300) : intText? x = some ((digitsVal cs : Nat) : Int) := by
  have hl : x.cps.toList.length = x.length := Array.length_toList
  rw [hx, List.length_cons] at hl
  have hs : ∀ c ∈ x.cps.toList, 33 ≤ c ∧ c < 128 := by
    rw [hx]
    intro c hc
    rcases List.mem_cons.mp hc with e | hc
    · omega
    · have := h c hc
      omega
  have e1 : numTextOf x = x.cps.toList := by
    refine if_pos ?_
    rw [← Array.all_toList, List.all_eq_true]
    exact fun c hc => decide_eq_true (hs c hc).2
  have e2 : numSeenOf x = x.cps.toList := by
    show (numTextOf x).takeWhile _ = _
    rw [e1]
    exact takeWhile_all fun c hc => bne_iff_ne.mpr (by have := hs c hc; omega)
  have es : sign ((43 :: cs).dropWhile blank) = (false, cs) := by
    rw [dropWhile_of (by decide)]
    rfl
  have ec : core (43 :: cs) = cs := by
    unfold core
    rw [es]
    show (cs.reverse.dropWhile blank).reverse = cs
    rw [dropWhile_digits h.reverse, List.reverse_reverse]
  unfold intText?
  rw [e1, e2, hx]
  refine (if_pos (beq_self_eq_true _)).trans ?_
  rw [ec, es, digits_of h h1]
  have hsz := push_size cs #[]
  have hv := push_foldl cs #[]
  show (if _ ≤ 4300 then some (worth false _) else none) = _
  rw [if_pos (by rw [hsz, Array.size_empty]; omega)]
  unfold worth digitsVal
  rw [hv]
  rfl
theorem natAbs_cast (a : Int) : ((a.natAbs : Nat) : Int) = if a < 0 then -a else a := by split <;> omega
/-- int(text) of what was written -/
theorem int_back {a : Int} (h : a.natAbs < 10 ^ 400) : intText? (intT a) = some a := by
  have hs := numL_sz h
  have hl : tl (intT a) = sgnL a := tl_int a
  have len : (intT a).length ≤ 4300 := by
    rw [len_tl, hl]
    unfold sgnL
    split
    · rw [List.length_cons]; omega
    · omega
  unfold sgnL at hl
  by_cases hn : a < 0
  · rw [if_pos hn] at hl
    have z := intText_neg (x := intT a) hl (numL_digits _) (numL_ne _) len
    rw [numL_val, natAbs_cast, if_pos hn] at z
    rw [z]
    congr 1
    omega
  · rw [if_neg hn] at hl
    have hl' : (intT a).cps.toList = numL a.natAbs := hl
    have z := intText_digits (x := intT a) (by rw [hl']; exact numL_digits _) (by rw [hl']; exact numL_ne _) len
    rw [hl', numL_val, natAbs_cast, if_neg hn] at z
    exact z
theorem plus_back {a : Int} (h : a.natAbs < 10 ^ 400) : intText? (plusT a) = some a := by
  by_cases hn : a < 0
  · rw [plus_neg hn]
    exact int_back h
  · have hs := numL_sz h
    have hl : (plusT a).cps.toList = 43 :: numL a.natAbs := by
      have z := tl_plus a
      unfold plusL at z
      rw [if_neg hn] at z
      exact z
    have z := intText_plus hl (numL_digits _) (numL_ne _) (by
      have e : (plusT a).length = (tl (plusT a)).length := len_tl _
      rw [e, show tl (plusT a) = 43 :: numL a.natAbs from hl, List.length_cons]
      omega)
    rw [numL_val, natAbs_cast, if_neg hn] at z
    exact z
/-! ### a line as text -/
def mT : Str := Str.ofString "m"
def headT (e : Int) : Str := if e = 1 then mT else if e = -1 then Str.ofString "-m" else intT e ++ mT
def tailT (z : Int) : Str := if z = 0 then Str.empty else plusT z
def lineT (z e : Int) : Str := if e = 0 then intT z else headT e ++ tailT z
/-- what stands ahead of the m -/
def preT (e : Int) : Str := if e = 1 then Str.empty else if e = -1 then Str.ofString "-" else intT e
theorem tl_m : tl mT = [109] := rfl
theorem head_pre (e : Int) : headT e = preT e ++ mT := by
  unfold headT preT
  split
  · exact tl_inj (by rw [tl_append]; rfl)
  · split
    · exact tl_inj (by rw [tl_append]; rfl)
    · rfl
theorem pre_free (e : Int) : 109 ∉ tl (preT e) := by
  unfold preT
  split
  · intro z; cases z
  · split
    · decide
    · rw [tl_int]; exact sgn_free (by decide)
theorem line_part {z e : Int} (h : e ≠ 0) : Txt.partition (lineT z e) mT = (preT e, mT, tailT z) := by
  unfold lineT
  rw [if_neg h, head_pre]
  exact partition_app (y := mT) (s := 109) (S := []) tl_m (pre_free e)
theorem int_ne (a : Int) : tl (intT a) ≠ [] := by
  rw [tl_int]
  unfold sgnL
  split
  · exact fun z => by cases z
  · exact numL_ne _
theorem empty_iff {x : Str} : x = Str.ofString "" ↔ tl x = [] := ⟨fun h => by rw [h]; rfl, fun h => tl_inj (by rw [h]; rfl)⟩
theorem pre_empty (e : Int) : preT e = Str.ofString "" ↔ e = 1 := by
  rw [empty_iff]
  unfold preT
  by_cases h1 : e = 1
  · rw [if_pos h1]; exact ⟨fun _ => h1, fun _ => rfl⟩
  · rw [if_neg h1]
    refine ⟨fun z => ?_, fun z => absurd z h1⟩
    by_cases h2 : e = -1
    · rw [if_pos h2] at z; cases z
    · rw [if_neg h2] at z; exact absurd z (int_ne e)
theorem sgn_minus {e : Int} (h : tl (intT e) = [45]) : False := by
  rw [tl_int] at h
  unfold sgnL at h
  split at h
  · have := List.cons.inj h
    exact numL_ne _ this.2
  · have d := numL_digits e.natAbs 45 (by rw [h]; exact List.mem_cons_self)
    omega
theorem pre_minus (e : Int) : preT e = Str.ofString "-" ↔ e = -1 := by
  unfold preT
  by_cases h1 : e = 1
  · rw [if_pos h1]
    exact ⟨fun z => absurd (congrArg tl z) (by intro q; cases q), fun z => by omega⟩
  · rw [if_neg h1]
    by_cases h2 : e = -1
    · rw [if_pos h2]; exact ⟨fun _ => h2, fun _ => rfl⟩
    · rw [if_neg h2]
      exact ⟨fun z => (sgn_minus (congrArg tl z)).elim, fun z => absurd z h2⟩
theorem tail_empty (z : Int) : tailT z = Str.ofString "" ↔ z = 0 := by
  rw [empty_iff]
  unfold tailT
  by_cases h1 : z = 0
  · rw [if_pos h1]; exact ⟨fun _ => h1, fun _ => rfl⟩
  · rw [if_neg h1, tl_plus]
    exact ⟨fun q => (by unfold plusL at q; cases q), fun q => absurd q h1⟩
/-- one text, one line -/
theorem line_inj {z e z' e' : Int} (hz : z.natAbs < 10 ^ 400) (he : e.natAbs < 10 ^ 400) (hz' : z'.natAbs < 10 ^ 400) (he' : e'.natAbs < 10 ^ 400) (h : lineT z e = lineT z' e') : z = z' ∧ e = e' := by
  have free : ∀ a : Int, Txt.partition (intT a) mT = (intT a, Str.empty, Str.empty) := fun a => partition_none (y := mT) (s := 109) (S := []) tl_m (by rw [tl_int]; exact sgn_free (by decide))
  have mne : mT ≠ Str.empty := fun q => by cases congrArg tl q
  by_cases h0 : e = 0
  · by_cases h1 : e' = 0
    · unfold lineT at h
      rw [if_pos h0, if_pos h1] at h
      have b := int_back hz
      rw [h, int_back hz'] at b
      exact ⟨(Option.some.inj b).symm, by omega⟩
    · have p := line_part (z := z') h1
      rw [← h] at p
      unfold lineT at p
      rw [if_pos h0, free] at p
      exact absurd (congrArg (fun q : Str × Str × Str => q.2.1) p).symm mne
  · by_cases h1 : e' = 0
    · have p := line_part (z := z) h0
      rw [h] at p
      unfold lineT at p
      rw [if_pos h1, free] at p
      exact absurd (congrArg (fun q : Str × Str × Str => q.2.1) p).symm mne
    · have p := line_part (z := z) h0
      rw [h, line_part h1] at p
      have q1 : preT e' = preT e := congrArg (fun q : Str × Str × Str => q.1) p
      have q3 : tailT z' = tailT z := congrArg (fun q : Str × Str × Str => q.2.2) p
      refine ⟨?_, ?_⟩
      · by_cases z0 : z = 0
        · have := (tail_empty z).mpr z0
          rw [← q3] at this
          rw [(tail_empty z').mp this, z0]
        · have z1 : z' ≠ 0 := fun q => z0 ((tail_empty z).mp (q3 ▸ (tail_empty z').mpr q))
          unfold tailT at q3
          rw [if_neg z0, if_neg z1] at q3
          have b := plus_back hz
          rw [← q3, plus_back hz'] at b
          exact (Option.some.inj b).symm
      · by_cases e1 : e = 1
        · have := (pre_empty e).mpr e1
          rw [← q1] at this
          rw [(pre_empty e').mp this, e1]
        · by_cases e2 : e = -1
          · have := (pre_minus e).mpr e2
            rw [← q1] at this
            rw [(pre_minus e').mp this, e2]
          · have f1 : e' ≠ 1 := fun q => e1 ((pre_empty e).mp (q1 ▸ (pre_empty e').mpr q))
            have f2 : e' ≠ -1 := fun q => e2 ((pre_minus e).mp (q1 ▸ (pre_minus e').mpr q))
            unfold preT at q1
            rw [if_neg e1, if_neg e2, if_neg f1, if_neg f2] at q1
            have b := int_back he
            rw [← q1, int_back he'] at b
            exact (Option.some.inj b).symm
end L2.Tx

set_option maxHeartbeats 400000
/-! what an own class says of +, -, *, ==, str(o), o(m); f'{x:+}' -/
namespace L2.Lr
open PySem PySem.Spec PyProof.Rows LR StX
section
variable {X : Cx} {CX : CXT} {k n : Nat} {f C : Addr} {fd : FuncData} {ps : List Str} {sp : Sp} {E : XK}
/-- a def that the machine calls, some levels deeper -/
theorem run_at {A : Around} {pins : List (Addr × Obj)} {σ : St} {H : Hp} {s : Shared} {Q : VK} {us : List Value} {vs : List V} (sb : Sub X k A) (F : FnOk X.prog X.w X.K X.mg X.base CX k f fd ps sp) (hb : Binds X.K fd ps []) (hx : Passes CX X E)
    (I : Inv X pins σ H s) (r : Vals vs us) (h : sp vs H Q E) : wpAny (model X.prog X.w) A (call (.ref f) us) (EP X pins σ Q) X.xe s := by
  have e := I.env0
  have e0 : Env0 X.prog X.w X.K X.mg X.base A X.stack s H := ⟨sb.fr.trans e.frames, e.mod, e.bs, e.bsz, e.funs, e.frf, e.hok, e.bare⟩
  have hl : us.length = ps.length := r.length.symm.trans (F.len _ _ _ _ h)
  refine wpAny_call (codeAny_mono (F.run A X.stack s H ⟨us, []⟩ us vs Q E sb.room e0 (by simpa using hb s us I.kIn (by simpa using hl)) r h) fun r s' hq => ?_)
  match r, hq with
  | .error e, hq => exact hx pins σ H s e s' I hq
  | .ok (.ret u), hq => exact I.after hq
  | .ok .next, hq => exact hq.elim
  | .ok .brk, hq => exact hq.elim
  | .ok .cont, hq => exact hq.elim
/-- what a class's own def of this name must have -/
structure Dun (K : PySem.W.Frag) (C f : Addr) (m : Str) : Prop where
  at_ : PySem.W.findIn K (.ref C) m = some (some (.ref f))
  fn : PySem.W.isFn K (.ref f) = true
/-- str(o) by the own __str__ -/
def rStrO (C : Addr) (sp : Sp) (E : XK) : List V → Hp → VK → Prop := fun xs H Q => ∃ a dx fs, xs = [.ref a] ∧ H a = some (.ins C dx fs) ∧ sp [.ref a] H (fun v H' => ∃ y, v = .str y ∧ Q (.str y) H') E
theorem call_strO (d : Dun X.K C f "__str__") (F : FnOk X.prog X.w X.K X.mg X.base CX k f fd ps sp) (hr : Room (k + 2) X.A) (hb : Binds X.K fd ps []) (hx : Passes CX X E) : CallR X (.type "str") (rStrO C sp E) := by
  intro pins s σ H xs us Q I r h
  obtain ⟨a, dx, fs, rfl, ha, h⟩ := h
  obtain ⟨u, rfl, ru⟩ := vals1 r
  cases ru
  obtain ⟨ox, od, J, _⟩ := insC_at I (.inr ⟨dx, fs, ha⟩)
  refine PySem.W.kso_call hr.in1.in1.units0 I.kIn J d.at_ d.fn (wpAny_mono (run_at (A := X.A.in1.in1) ⟨hr.in1.in1, rfl⟩ F hb hx I (vs := [.ref a]) (us := [.ref a]) (.cons rfl .nil) h) (fun v s' z => ?_) fun _ _ z => z)
  obtain ⟨x, H', I', rv, y, rfl, q⟩ := z
  obtain ⟨t, rfl⟩ := rv
  exact ⟨.str y, H', I', ⟨t, rfl⟩, q⟩
/-- .. for an operator -/
structure OwnOp (K : PySem.W.Frag) (C f : Addr) (op : Operator) : Prop where
  at_ : PySem.W.findIn K (.ref C) (PySem.dunder op.info.2) = some (some (.ref f))
  fn : PySem.W.isFn K (.ref f) = true
  first : PySem.W.selfFirst K C = true
  rc : PySem.W.findIn K (.ref C) (dunderR op.info.2) = some none
  t1 : (PySem.W.findIn K (.type "int") (PySem.dunder op.info.2)).isSome = true
  t2 : (PySem.W.findIn K (.type "int") (dunderR op.info.2)).isSome = true
  sub : PySem.W.subIn K (.type "int") (.ref C) = some false
def ownB (K : PySem.W.Frag) (C f : Addr) (op : Operator) : Bool := He.eqO (PySem.W.findIn K (.ref C) (PySem.dunder op.info.2)) (some (some (.ref f))) && (PySem.W.isFn K (.ref f) && (PySem.W.selfFirst K C && (He.eqO (PySem.W.findIn K (.ref C) (dunderR op.info.2)) (some none) &&
  ((PySem.W.findIn K (.type "int") (PySem.dunder op.info.2)).isSome && ((PySem.W.findIn K (.type "int") (dunderR op.info.2)).isSome && decide (PySem.W.subIn K (.type "int") (.ref C) = some false))))))
theorem ownB_ok {K : PySem.W.Frag} {op : Operator} (q : ownB K C f op = true) : OwnOp K C f op := by
  obtain ⟨q1, q⟩ := He.ba q
  obtain ⟨q2, q⟩ := He.ba q
  obtain ⟨q3, q⟩ := He.ba q
  obtain ⟨q4, q⟩ := He.ba q
  obtain ⟨q5, q⟩ := He.ba q
  obtain ⟨q6, q7⟩ := He.ba q
  exact ⟨He.eqO_ok q1, q2, q3, He.eqO_ok q4, q5, q6, of_decide_eq_true q7⟩
def dunB (K : PySem.W.Frag) (C f : Addr) (m : Str) : Bool := He.eqO (PySem.W.findIn K (.ref C) m) (some (some (.ref f))) && PySem.W.isFn K (.ref f)
theorem dunB_ok {K : PySem.W.Frag} {m : Str} (q : dunB K C f m = true) : Dun K C f m := by
  obtain ⟨q1, q2⟩ := He.ba q
  exact ⟨He.eqO_ok q1, q2⟩
/-- a op b, by the left one's own def -/
def rOwn (C : Addr) (sp : Sp) (E : XK) : R2 := fun x y H Q => ∃ a dx fs, x = .ref a ∧ H a = some (.ins C dx fs) ∧ ((∃ i, y = .int i) ∨ ∃ b dy gs, y = .ref b ∧ H b = some (.ins C dy gs)) ∧ sp [.ref a, y] H Q E
theorem cmp_back {pins : List (Addr × Obj)} {σ : St} {Q : VK} {v : Value} {s' : Shared} (z : EP X pins σ Q v s') : PySem.W.CmpBack (EP X pins σ Q) v s' := by
  have nz : v ≠ .notImplemented := by
    rintro rfl
    obtain ⟨x, H', I', rv, q⟩ := z
    cases x <;> first
      | (obtain ⟨t, e⟩ := rv; cases e)
      | cases rv
  cases v <;> first
    | exact absurd rfl nz
    | exact z
theorem op_own {op : Operator} (o : OwnOp X.K C f op) (F : FnOk X.prog X.w X.K X.mg X.base CX k f fd ps sp) (hr : Room k X.A) (hb : Binds X.K fd ps []) (hx : Passes CX X E) : OpR X (binaryOp op) (rOwn C sp E) := by
  intro pins s σ H x y v u Q I rx ry h
  obtain ⟨a, dx, fs, rfl, ha, hy, h⟩ := h
  cases rx
  obtain ⟨ox, od, J, _⟩ := insC_at I (.inr ⟨dx, fs, ha⟩)
  obtain ⟨m, hF⟩ := I.fr
  have run := wpAny_mono (run_at (A := X.A) ⟨hr, rfl⟩ F hb hx I (vs := [.ref a, y]) (us := [.ref a, u]) (.cons rfl (.cons ry .nil)) h) (fun v s' z => cmp_back z) fun _ _ z => z
  rcases hy with ⟨i, rfl⟩ | ⟨b, dy, gs, rfl, hb'⟩
  · obtain ⟨t, rfl⟩ := ry
    obtain ⟨fo, e1⟩ := Option.isSome_iff_exists.mp o.t1
    obtain ⟨ro, e2⟩ := Option.isSome_iff_exists.mp o.t2
    exact PySem.W.ksp_binT hF I.ok.mod.kin J rfl o.first o.at_ o.fn o.rc (.inl rfl) e1 e2 o.sub run
  · cases ry
    obtain ⟨oy, od', J', _⟩ := insC_at I (.inr ⟨dy, gs, hb'⟩)
    exact PySem.W.binop_K hF I.ok.mod.kin J J'.type o.first o.at_ o.fn run
/-- a == b, by the left one's own __eq__ -/
theorem op_eqO (d : Dun X.K C f "__eq__") (F : FnOk X.prog X.w X.K X.mg X.base CX k f fd ps sp) (hr : Room k X.A) (hb : Binds X.K fd ps []) (hx : Passes CX X E) :
    OpR X (compareOp .Eq) (fun x y H Q => ∃ a dx fs b dy gs, x = .ref a ∧ H a = some (.ins C dx fs) ∧ y = .ref b ∧ H b = some (.ins C dy gs) ∧ sp [.ref a, .ref b] H Q E) := by
  intro pins s σ H x y v u Q I rx ry h
  obtain ⟨a, dx, fs, b, dy, gs, rfl, ha, rfl, hb', h⟩ := h
  cases rx
  cases ry
  obtain ⟨ox, od, J, _⟩ := insC_at I (.inr ⟨dx, fs, ha⟩)
  obtain ⟨oy, od', J', _⟩ := insC_at I (.inr ⟨dy, gs, hb'⟩)
  obtain ⟨m, hF⟩ := I.fr
  show wpAny (model X.prog X.w) X.A (richCompare .Eq _ _) _ X.xe s
  refine PySem.W.cmp_K (op := .Eq) (tb := .ref C) hr.units0 hF I.ok.mod.kin J J'.type (by simp [PySem.W.notFirst]) d.at_ d.fn ?_
  exact wpAny_mono (run_at (A := X.A) ⟨hr, rfl⟩ F hb hx I (vs := [.ref a, .ref b]) (us := [.ref a, .ref b]) (.cons rfl (.cons rfl .nil)) h) (fun v s' z => cmp_back z) fun _ _ z => z
end
/-- C(k = v, ..): keywords alone -/
theorem pe_makeK {X : Cx} {CX : CXT} {k : Nat} {f C : Addr} {fd : FuncData} {ps ks : List Str} {sp : Sp} {E : XK} {x : Str} {p pos : Pos} {kws : List Keyword} {tk : TA} {g : List Value → List Value → List Value} {gV : List V → List V → List V}
    (M : Mk X.K C f) (F : FnOk X.prog X.w X.K X.mg X.base CX k f fd ps sp) (hr : Room (k + 1) X.A) (hg : Gl X x) (hm : X.mg x = some (.ref C)) (hb : KBn X.K fd ps 1 ks g gV) (hx : Passes CX X E) (hkw : PK X kws tk)
    (hall : (backToKw pos (keywordEach kws X.env)).all (·.1.isSome) = true := by rfl) (hks : (backToKw pos (keywordEach kws X.env)).filterMap (·.1) = ks := by rfl) (hdb : (x == ("__debug__" : Str)) = false := by decide)
    (hpl : ((backTo pos (starEach [] X.env)).any (·.1) || (backToKw pos (keywordEach kws X.env)).any (·.1.isNone)) = false := by rfl) : PE X (.Call (.Name x p) [] kws pos) (tMakeN C 0 ks.length sp gV E tNil tk) := by
  refine ⟨fun pins s σ H Q I h => ?_⟩
  refine wpAny_Call_Name_kw (ld_glob I hg hm ?_ hdb)
  refine PySem.W.callWith_KW0 (h₀ := X.base) I.ok.mod.kin M.kp hall (thn (hkw.run pos pins s σ H _ I h) fun ws s2 ⟨zs, H2, I2, rz, l1, l2, q2⟩ => ⟨I2.kIn, ?_⟩) hpl
  rw [hks]
  exact run_makeN (us := []) (vs := []) M F hr hb hx I2 .nil rz l1 l2 q2
/-! ### f'{x:+}' of an int -/
theorem plus_field (a : Int) : intField' { fill := 32, align := 62, sign := some 43 } (decide (a < 0)) [] ((Nat.toDigits 10 a.natAbs).map fun c => (if (100 : Nat) == 88 then c.toUpper else c).toNat) [] 3 = Tx.plusT a := by
  have en : ((Nat.toDigits 10 a.natAbs).map fun c => (if (100 : Nat) == 88 then c.toUpper else c).toNat) = TL.numL a.natAbs := rfl
  rw [en]
  have ne := TL.numL_ne a.natAbs
  have e1 : (TL.numL a.natAbs).isEmpty = false := by
    cases h : TL.numL a.natAbs with
    | nil => exact absurd h ne
    | cons c r => rfl
  have pad : (-1 - 1 - ((TL.numL a.natAbs).length : Int)).toNat = 0 := by omega
  unfold intField' Tx.plusT Tx.plusL
  cases hd : decide (a < 0) with
  | true =>
    rw [if_pos (of_decide_eq_true hd)]
    simp [e1]
  | false =>
    rw [if_neg (of_decide_eq_false hd)]
    simp [e1]
open Builtin Builtin.Str Builtin.Int Builtin.Float in
theorem gives_plus (a : Int) (t u : Tok) (hd : a.natAbs.log2 < 1920) : Gives (Builtin.«int.__format__» ⟨[.int a t, .str (Str.ofString "+") u], []⟩) (.str (Tx.plusT a)) := by
  intro prog w A R s hq
  obtain ⟨f, hp, ff⟩ : ∃ f, parseFormatSpec (Str.ofString "+").cps.toList "int" 62 = .ok f ∧ f = { fill := 32, align := 62, sign := some 43 } := ⟨_, rfl, rfl⟩
  unfold Builtin.«int.__format__»
  simp only [selfAndOne, noKeywords, Int.intOfSelf, asInt?, asStr?, List.isEmpty_nil, if_true, pure_bind, bind_pure, bind_assoc, Bool.false_eq_true, if_false,
    show ((Str.ofString "+").length == 0) = false from rfl, show (Value.str (Str.ofString "+") u == Value.none) = false from rfl,
    show (((Str.ofString "+").cps.toList.drop 1).any (· ≥ 128) || ((Str.ofString "+").cps.getD 0 0 ≥ 128 && !([60, 62, 61, 94] : List Nat).contains ((Str.ofString "+").cps.getD 1 0))) = false from rfl]
  refine wpAny_bind (wpAny_typeNameOf (T := "str") (typeIs_str _ _ _) (by decide) fun _ => ?_)
  refine wpAny_bind (wpAny_typeNameOfCut_int ?_)
  have hty : f.type.getD (if (Str.ofString "+").cps.back? == some 0 then 0 else 100) = 100 := by subst ff; rfl
  simp only [hp, hty]
  rw [if_pos (by decide)]
  have hpr : f.precision = none := by subst ff; rfl
  have hz : f.noNeg0 = false := by subst ff; rfl
  have hw : ¬ (f.width.getD 0 > 100000) := by subst ff; decide
  show wpAny _ _ (if _ then _ else _) _ _ _
  rw [if_neg (by simp [hpr])]
  show wpAny _ _ (if _ then _ else _) _ _ _
  rw [if_neg (by simp [hz])]
  show wpAny _ _ (if _ then _ else _) _ _ _
  rw [if_neg (by decide)]
  show wpAny _ _ (do let r ← Builtin.overDigitLimit? a; _) _ _ _
  rw [PySem.overDigitLimit_small hd]
  show wpAny _ _ (if _ then _ else _) _ _ _
  rw [if_neg (by simpa using hw)]
  subst ff
  have key : ∀ Y : Str, Y = Tx.plusT a → wpAny (model prog w) A.in1 (retStr Y) (fun fin s' => match fin with
      | .done f => R (.ok f) s'
      | .again c' => c'.quiet = true ∧ codeAny (model prog w) A c' R s') (fun e s' => R (.error e) s') s := by
    intro Y e
    subst e
    unfold retStr
    refine wpAny_bind (wpAny_mkStr (wpAny_pure ?_) ?_)
    · exact hq.2
    · exact hq.1
  refine key _ (Eq.trans ?_ (plus_field a))
  simp only [Bool.false_eq_true, if_false, show ((10 : Nat) == 10) = true by decide, if_true]
  rfl
/-- {x:+} of an int -/
def tFmtP (te : TE) : TE := fun σ H Q => te σ H fun x H1 => ∃ i : Int, x = .int i ∧ i.natAbs.log2 < 1920 ∧ (Tx.plusT i).length ≤ sizeLine ∧ Q (.str (Tx.plusT i)) H1
theorem pe_fmtP {X : Cx} {e : Expr} {te : TE} {pos p1 p2 : Pos} {k} (he : PE X e te) : PE X (.FormattedValue e (-1) (some (.JoinedStr [.Constant (.str "+") k p1] p2)) pos) (tFmtP te) := by
  refine ⟨fun pins s σ H Q I h => ?_⟩
  refine wpAny_FormattedValue_spec (thn (he.run pins s σ H _ I h) fun v s1 hv => ?_)
  obtain ⟨x, H1, I1, r1, i, rfl, hd, hz, q⟩ := hv
  obtain ⟨t, rfl⟩ := r1
  have js : PE X (.JoinedStr [.Constant (.str "+") k p1] p2) (tC (.str "+")) := pe_joined1 pe_str
  refine thn (js.run pins s1 σ H1 (fun v H2 => v = .str "+" ∧ Q (.str (Tx.plusT i)) H2) I1 ⟨rfl, q⟩) fun r s2 hr => ?_
  obtain ⟨y, H2, I2, r2, ey, q2⟩ := hr
  subst ey
  obtain ⟨t2, rfl⟩ := r2
  refine ⟨_, t2, rfl, ?_⟩
  exact wpAny_formatField_spec (T := "int") (idf := "int.__format__") (B := Builtin.«int.__format__») (by decide) (fun s' => typeIs_int s' i t) PyProof.Rows.slot_int_format PyProof.Rows.entry_int_format (fun a b => PyProof.Rows.args_int_format a b) (fun u => gives_plus i t u hd)
    ⟨.str (Tx.plusT i), H2, I2.tok _, ⟨_, rfl⟩, q2⟩ (by decide) hz
end L2.Lr

set_option maxHeartbeats 400000
/-! the same where something may be raised: C(..), a op b, o(..), C.f(..); a != b, a == b of unlike kinds -/
namespace L2.Lr
open PySem PySem.Spec PyProof.Rows LR StX
section
variable {X : Cx} {CX : CXT} {k n : Nat} {f C : Addr} {fd : FuncData} {ps : List Str} {sp : Sp}
theorem run_atS {A : Around} {pins : List (Addr × Obj)} {σ : St} {H : Hp} {s : Shared} {Q : VK} {E : XK} {us : List Value} {vs : List V} (sb : Sub X k A) (F : FnOk X.prog X.w X.K X.mg X.base CX k f fd ps sp) (hb : Binds X.K fd ps []) (hx : PassesAt CX X σ E)
    (I : Inv X pins σ H s) (r : Vals vs us) (h : sp vs H Q E) : wpAny (model X.prog X.w) A (call (.ref f) us) (EP X pins σ Q) X.xe s := by
  have e := I.env0
  have e0 : Env0 X.prog X.w X.K X.mg X.base A X.stack s H := ⟨sb.fr.trans e.frames, e.mod, e.bs, e.bsz, e.funs, e.frf, e.hok, e.bare⟩
  have hl : us.length = ps.length := r.length.symm.trans (F.len _ _ _ _ h)
  refine wpAny_call (codeAny_mono (F.run A X.stack s H ⟨us, []⟩ us vs Q E sb.room e0 (by simpa using hb s us I.kIn (by simpa using hl)) r h) fun r s' hq => ?_)
  match r, hq with
  | .error e, hq => exact hx pins H s e s' I hq
  | .ok (.ret u), hq => exact I.after hq
  | .ok .next, hq => exact hq.elim
  | .ok .brk, hq => exact hq.elim
  | .ok .cont, hq => exact hq.elim
/-- C(..) in a try -/
def tMakeS (C : Addr) (sp : Sp) (E : St → XK) (t : TA) : TE := fun σ H Q => t σ H fun vs H1 => ∀ x dx, H1 x = none → H1 dx = none → dx ≠ x → sp (.ref x :: vs) (upd (upd H1 dx (.own x)) x (.ins C dx [])) (fun v H2 => v = .non ∧ Q (.ref x) H2) (E σ)
theorem pe_makeS {E : St → XK} {x : Str} {p pos : Pos} {e : Expr} {es : List Expr} {t : TA} (M : Mk X.K C f) (F : FnOk X.prog X.w X.K X.mg X.base CX k f fd ps sp) (hr : Room (k + 1) X.A) (hg : Gl X x) (hm : X.mg x = some (.ref C)) (hb : Binds X.K fd ps []) (hx : ∀ σ, PassesAt CX X σ (E σ)) (ha : PA X (e :: es) t)
    (hdb : (x == ("__debug__" : Str)) = false := by decide) (he : starEach (e :: es) X.env = (false, eval e X.env) :: starEach es X.env := by rfl) (hpl : (backTo pos (starEach es X.env)).any (·.1) = false := by rfl) :
    PE X (.Call (.Name x p) (e :: es) [] pos) (tMakeS C sp E t) := by
  refine ⟨fun pins s0 σ H Q I0 h => wpAny_Call_Name_kw (ld_glob I0 hg hm (PySem.W.callWith_K (h₀ := X.base) I0.ok.mod.kin M.kp (thn (ha.run pos pins s0 σ H _ I0 h) fun us s ⟨vs, H1, I, r, q⟩ => ⟨I.kIn, ?_⟩) he hpl) hdb)⟩
  have hq := q (s.heap.objs.size + 1) s.heap.objs.size (I.hok.fresh (Nat.le_succ _)) (I.hok.fresh (Nat.le_refl _)) (Nat.ne_of_lt (Nat.lt_succ_self _))
  have I2 := Inv.made (C := C) I
  have r2 : Vals (V.ref (s.heap.objs.size + 1) :: vs) (Value.ref (s.heap.objs.size + 1) :: us) := .cons rfl r
  have hl : (Value.ref (s.heap.objs.size + 1) :: us).length = ps.length := r2.length.symm.trans (F.len _ _ _ _ hq)
  have bb : ∀ s2 : Shared, X.K.In s2.heap → BindsTo s2 fd ⟨Value.ref (s.heap.objs.size + 1) :: us, []⟩ (ps.zip (Value.ref (s.heap.objs.size + 1) :: us)) := fun s2 h2 => by simpa using hb s2 (Value.ref (s.heap.objs.size + 1) :: us) h2 (by simpa using hl)
  refine wpAny_call (make_map (f := f) I.kIn M.makes M.init (beq_iff_eq.mp M.fn) (codeAny_mono (F.run _ X.stack _ _ ⟨Value.ref (s.heap.objs.size + 1) :: us, []⟩ _ _ _ (E σ) (hr.make C us []) (I2.env0.make C us []) (bb _ I2.kIn) r2 hq) fun z s' hz => ?_))
  match z, hz with
  | .error e, hz => exact hx σ pins _ _ e s' I2 hz
  | .ok (.ret u), hz =>
    obtain ⟨v, H', I3, rv, ev, q3⟩ := I2.after hz
    subst ev
    exact ⟨rv, ⟨.ref (s.heap.objs.size + 1), H', I3, rfl, q3⟩⟩
  | .ok .next, hz => exact hz.elim
  | .ok .brk, hz => exact hz.elim
  | .ok .cont, hz => exact hz.elim
/-! ### operators -/
/-- a two-place operation at these slots -/
def OpA (X : Cx) (σ : St) (g : Value → Value → Sem Value) (r : R2) : Prop := ∀ (pins : List (Addr × Obj)) (s : Shared) (H : Hp) (x y : V) (v u : Value) (Q : VK), Inv X pins σ H s → RelV x v → RelV y u → r x y H Q → wpAny (model X.prog X.w) X.A (g v u) (EP X pins σ Q) X.xe s
def tOpA (r : St → R2) (ta tb : TE) : TE := fun σ H Q => ta σ H fun x H1 => tb σ H1 fun y H2 => r σ x y H2 Q
theorem pe_opA {a b : Expr} {ta tb : TE} {pos : Pos} {op : Operator} {r : St → R2} (ho : ∀ σ, OpA X σ (binaryOp op) (r σ)) (ha : PE X a ta) (hb : PE X b tb) : PE X (.BinOp a op b pos) (tOpA r ta tb) :=
  ⟨fun pins s σ H Q I h => wpAny_BinOp (binT ha hb (R := fun x y H2 => r σ x y H2 Q) I h fun v u s2 x y H2 I2 rx ry q => ho σ pins s2 H2 x y v u Q I2 rx ry q)⟩
/-- the kind of a value that is no own instance -/
inductive KindV (K : PySem.W.Frag) (H : Hp) : V → String → Prop where
  | non : KindV K H .non "NoneType"
  | bl (b : Bool) : KindV K H (.bl b) "bool"
  | int (i : Int) : KindV K H (.int i) "int"
  | str (x : Str) : KindV K H (.str x) "str"
  | lst {a : Addr} {xs : List V} (h : SqL K H a xs) : KindV K H (.ref a) "list"
  | tup {a : Addr} {xs : List V} (h : SqT K H a xs) : KindV K H (.ref a) "tuple"
theorem looks_ref {M : Model} {h : Heap} {a : Addr} {o : Obj} (e : h.get? a = some o) : PySem.W.Looks M h (typeOf (.ref a)) o.cls := fun A Q E s kp q => wpAny_typeOf_ref (kp _ _ e) q
theorem kind_looks {pins : List (Addr × Obj)} {σ : St} {H : Hp} {s : Shared} {x : V} {u : Value} {t : String} (I : Inv X pins σ H s) (h : KindV X.K H x t) (r : RelV x u) {M : Model} : PySem.W.Looks M s.heap (typeOf u) (.type t) := by
  cases h with
  | non => cases r; exact PySem.W.Looks.of_pure rfl
  | bl b => cases r; exact PySem.W.Looks.of_pure rfl
  | int i => obtain ⟨k, rfl⟩ := r; exact PySem.W.Looks.of_pure rfl
  | str i => obtain ⟨k, rfl⟩ := r; exact PySem.W.Looks.of_pure rfl
  | lst h =>
    cases r
    obtain ⟨its, rv, hl, _⟩ := I.list h
    obtain ⟨o, n, e, c, _⟩ := hl
    have z := looks_ref (M := M) e
    rw [c] at z
    exact z
  | tup h =>
    cases r
    obtain ⟨its, rv, hl, _⟩ := I.tuple h
    obtain ⟨o, e, c, _⟩ := hl
    have z := looks_ref (M := M) e
    rw [c] at z
    exact z
/-- the names of the kinds -/
def kinds : List String := ["NoneType", "bool", "int", "str", "list", "tuple"]
theorem KindV.mem {K : PySem.W.Frag} {H : Hp} {x : V} {t : String} (h : KindV K H x t) : t ∈ kinds := by
  cases h <;> decide
/-- what a class's own def for an operator must have, beside all kinds -/
structure OwnOps (K : PySem.W.Frag) (C f : Addr) (op : Operator) : Prop where
  at_ : PySem.W.findIn K (.ref C) (PySem.dunder op.info.2) = some (some (.ref f))
  fn : PySem.W.isFn K (.ref f) = true
  first : PySem.W.selfFirst K C = true
  rc : PySem.W.findIn K (.ref C) (dunderR op.info.2) = some none
  ks : ∀ t ∈ kinds, (PySem.W.findIn K (.type t) (PySem.dunder op.info.2)).isSome = true ∧ (PySem.W.findIn K (.type t) (dunderR op.info.2)).isSome = true ∧ PySem.W.subIn K (.type t) (.ref C) = some false
def kindB (K : PySem.W.Frag) (C : Addr) (op : Operator) (t : String) : Bool := (PySem.W.findIn K (.type t) (PySem.dunder op.info.2)).isSome && ((PySem.W.findIn K (.type t) (dunderR op.info.2)).isSome && decide (PySem.W.subIn K (.type t) (.ref C) = some false))
def ownsB (K : PySem.W.Frag) (C f : Addr) (op : Operator) : Bool := He.eqO (PySem.W.findIn K (.ref C) (PySem.dunder op.info.2)) (some (some (.ref f))) && (PySem.W.isFn K (.ref f) && (PySem.W.selfFirst K C && (He.eqO (PySem.W.findIn K (.ref C) (dunderR op.info.2)) (some none) && kinds.all (kindB K C op))))
theorem ownsB_ok {K : PySem.W.Frag} {op : Operator} (q : ownsB K C f op = true) : OwnOps K C f op := by
  obtain ⟨q1, q⟩ := He.ba q
  obtain ⟨q2, q⟩ := He.ba q
  obtain ⟨q3, q⟩ := He.ba q
  obtain ⟨q4, q5⟩ := He.ba q
  refine ⟨He.eqO_ok q1, q2, q3, He.eqO_ok q4, fun t ht => ?_⟩
  obtain ⟨a1, a⟩ := He.ba (List.all_eq_true.mp q5 t ht)
  obtain ⟨a2, a3⟩ := He.ba a
  exact ⟨a1, a2, of_decide_eq_true a3⟩
open PySem.W in
/-- a op b where b is of a built-in kind, told by a look -/
theorem bin_kind {prog : Program} {w : World} {A : Around} {W : Value → Shared → Prop} {s : Shared} {K : Frag} {x : Addr} {h₀ : Heap} {L : Addr} {m : Str → Option Value} {ox : Obj} {od : Option Obj} {op : Operator} {b : Value} {t : String} {Q : Value → Shared → Prop}
    (F : Fr h₀ L s.heap m) (X0 : K.In h₀) (I : InstAt s.heap x ox C od) (hb : Looks (model prog w) s.heap (typeOf b) (.type t)) (o : OwnOps K C f op) (ht : t ∈ kinds)
    (h : wpAny (model prog w) A (call (.ref f) [.ref x, b]) (PySem.W.CmpBack Q) W s) : wpAny (model prog w) A (binaryOp op (.ref x) b) Q W s := by
  have X := X0.keeps F.keep
  obtain ⟨cd, rest, hcd, hm⟩ := ksp_first o.first
  obtain ⟨k1, k2, k3⟩ := o.ks t ht
  obtain ⟨fo, h1⟩ := Option.isSome_iff_exists.mp k1
  obtain ⟨ro, h2⟩ := Option.isSome_iff_exists.mp k2
  have hs := o.at_
  have hr := o.rc
  rcases hi : op.info with ⟨sym, nm⟩
  rw [hi] at hs hr h1 h2
  dsimp only at hs hr h1 h2
  have one := ksp_try X I hs o.fn h
  obtain ⟨hh, g, d, tt, os⟩ := s
  have l1 : Looks (model prog w) hh (typeOf (.ref x)) (.ref C) := I.type
  have l2 : Looks (model prog w) hh (typeOf b) (.type t) := hb
  have l3 : Looks (model prog w) hh (fillsNumberSlot (.ref C) nm) true := fills_K X hcd hm hs
  have l4 : Looks (model prog w) hh (fillsNumberSlot (.type t) nm) ((fo.isSome && !isSeqSlot fo) || (ro.isSome && !isSeqSlot ro)) := ksp_fillsT X h1 h2
  have l5 : Looks (model prog w) hh (isSubtype (.type t) (.ref C)) false := looks_subIn X k3
  have l6 : Looks (model prog w) hh (numberSlotInPython (.ref C) nm) true := ksp_inPy X hs hr (.inl rfl)
  have l7 : Looks (model prog w) hh (numberSlotInPython (.type t) nm) false := Looks.of_pure rfl
  have l8 : Looks (model prog w) hh (typeLookup (.type t) (dunderR nm)) ro := looks_findIn X h2
  generalize ((fo.isSome && !isSeqSlot fo) || (ro.isSome && !isSeqSlot ro)) = right at l4
  have ne : (Value.ref C == Value.type t) = false := Bool.eq_false_iff.mpr fun q => by cases beq_iff_eq.mp q
  simp only [binaryOp, hi]
  refine wpAny_holding (wpAny_bind ?_)
  unfold binaryOp1
  refine wpAny_bind (l1.at (wpAny_bind (l2.at (wpAny_bind (l3.at ?_)))))
  simp only [ne, Bool.false_eq_true, if_false]
  cases right <;>
  · ksp_lk
    refine wpAny_mono one (fun r s' z => ?_) fun _ _ z => z
    obtain ⟨v, rfl, q⟩ := z
    ksp_lk
    exact q
/-- a op b, by the left one's own def, in a try -/
theorem op_ownA {op : Operator} {E : St → XK} (o : OwnOps X.K C f op) (F : FnOk X.prog X.w X.K X.mg X.base CX k f fd ps sp) (hr : Room k X.A) (hb : Binds X.K fd ps []) (hx : ∀ σ, PassesAt CX X σ (E σ)) (σ : St) :
    OpA X σ (binaryOp op) (fun x y H Q => ∃ a dx fs, x = .ref a ∧ H a = some (.ins C dx fs) ∧ ((∃ t, KindV X.K H y t) ∨ ∃ b dy gs, y = .ref b ∧ H b = some (.ins C dy gs)) ∧ sp [.ref a, y] H Q (E σ)) := by
  intro pins s H x y v u Q I rx ry h
  obtain ⟨a, dx, fs, rfl, ha, hy, h⟩ := h
  cases rx
  obtain ⟨ox, od, J, _⟩ := insC_at I (.inr ⟨dx, fs, ha⟩)
  obtain ⟨m, hF⟩ := I.fr
  have run := wpAny_mono (run_atS (A := X.A) ⟨hr, rfl⟩ F hb (hx σ) I (vs := [.ref a, y]) (us := [.ref a, u]) (.cons rfl (.cons ry .nil)) h) (fun v s' z => cmp_back z) fun _ _ z => z
  rcases hy with ⟨t, hk⟩ | ⟨b, dy, gs, rfl, hb'⟩
  · exact bin_kind hF I.ok.mod.kin J (kind_looks I hk ry) o hk.mem run
  · cases ry
    obtain ⟨oy, od', J', _⟩ := insC_at I (.inr ⟨dy, gs, hb'⟩)
    exact PySem.W.binop_K hF I.ok.mod.kin J J'.type o.first o.at_ o.fn run
/-- o(..) in a try -/
def tCallOS (X : Cx) (C : Addr) (sp : Sp) (E : St → XK) (tf : TE) (t : TA) : TE := fun σ H Q => tf σ H fun y H1 => ∃ a, y = V.ref a ∧ t σ H1 fun vs H2 => InsC X H2 a C ∧ sp (V.ref a :: vs) H2 Q (E σ)
theorem pe_callOS {E : St → XK} {fe e : Expr} {es : List Expr} {tf : TE} {t : TA} {pos : Pos} (hf : PE X fe tf) (c : CallO X.K C f) (F : FnOk X.prog X.w X.K X.mg X.base CX k f fd ps sp) (hr : Room k X.A) (hb : Binds X.K fd ps []) (hx : ∀ σ, PassesAt CX X σ (E σ)) (ha : PA X (e :: es) t)
    (ht : eval (.Call fe (e :: es) [] pos) X.env = (do callWith pos (← eval fe X.env) [] (backTo pos (starEach (e :: es) X.env)) (backToKw pos (keywordEach [] X.env))) := by rfl)
    (he : starEach (e :: es) X.env = (false, eval e X.env) :: starEach es X.env := by rfl) (hpl : (backTo pos (starEach es X.env)).any (·.1) = false := by rfl) : PE X (.Call fe (e :: es) [] pos) (tCallOS X C sp E tf t) := by
  refine ⟨fun pins s σ H Q I h => Call_ (thn (hf.run pins s σ H _ I h) fun u s1 ⟨y, H1, I1, ry, a, ey, q⟩ => ?_) ht⟩
  subst ey
  cases ry
  refine callO_with (thn (ha.run pos pins s1 σ H1 _ I1 q) fun us s2 ⟨vs, H2, I2, r, hi, q2⟩ => ?_) he hpl
  obtain ⟨ox, od, J, hd⟩ := insC_at I2 hi
  refine ⟨⟨_, _, _, J, hd⟩, ?_⟩
  have r2 : Vals (V.ref a :: vs) (Value.ref a :: us) := .cons rfl r
  have hl : (Value.ref a :: us).length = ps.length := r2.length.symm.trans (F.len _ _ _ _ q2)
  have bb : BindsTo s2 fd ⟨Value.ref a :: us, []⟩ (ps.zip (Value.ref a :: us)) := by simpa using hb s2 (Value.ref a :: us) I2.kIn (by simpa using hl)
  refine wpAny_call (PySem.W.kco_code I2.kIn J hd c.at_ c.fn c.fi (codeAny_mono (F.run X.A X.stack s2 H2 ⟨Value.ref a :: us, []⟩ _ _ Q (E σ) hr I2.env0 bb r2 q2) fun z s' hz => ?_))
  match z, hz with
  | .error e, hz => exact hx σ pins _ _ e s' I2 hz
  | .ok (.ret u), hz => exact I2.after hz
  | .ok .next, hz => exact hz.elim
  | .ok .brk, hz => exact hz.elim
  | .ok .cont, hz => exact hz.elim
/-- what a static method must have: its record at p, its def at g -/
structure Stat (K : PySem.W.Frag) (C p g : Addr) (m : Str) : Prop where
  rd : PySem.W.readsIn K C (.type "type") = true
  ga : PySem.W.specialIn K (.ref C) "__getattribute__" = some (some (.builtin "type.__getattribute__"))
  at_ : PySem.W.findCls K (.ref C) (.type "type") m = some (.get (.builtin "staticmethod.__get__") (.ref p) .none (.ref C))
  rc : ∃ rest, PySem.W.recIn K p "staticmethod" = some (.ref g :: rest)
  kp : PySem.W.keepIn K (.ref g) = true
/-- C.m(..), m a static method, in a try -/
theorem pe_statS {E : St → XK} {x m : Str} {p0 pos apos : Pos} {pr : Addr} {e : Expr} {es : List Expr} {t : TA} {pl : Sem Bool} (c : Stat X.K C pr f m) (F : FnOk X.prog X.w X.K X.mg X.base CX k f fd ps sp) (hr : Room k X.A) (hg : Gl X x) (hm : X.mg x = some (.ref C)) (hb : Binds X.K fd ps []) (hx : ∀ σ, PassesAt CX X σ (E σ))
    (ha : PA X (e :: es) t) (hdb : (x == ("__debug__" : Str)) = false := by decide) (hst : starEach (e :: es) X.env = (false, eval e X.env) :: starEach es X.env := by rfl) (hpl : (backTo pos (starEach es X.env)).any (·.1) = false := by rfl)
    (ht : eval (.Call (.Attribute (.Name x p0) m apos) (e :: es) [] pos) X.env = (do
      let ov ← eval (.Name x p0) X.env
      standAt apos.atName
      let (f, first) ← holding [ov] (getMethod ov m pl)
      callWith pos f first (backTo pos (starEach (e :: es) X.env)) (backToKw pos (keywordEach [] X.env))) := by rfl) :
    PE X (.Call (.Attribute (.Name x p0) m apos) (e :: es) [] pos) (tCallS sp E t) := by
  have hn : PE X (.Name x p0) (tC (.ref C)) := pe_glob hg hm rfl hdb
  refine ⟨fun pins s σ H Q I h => PySem.W.methodCall_KW (pl := pl) (thn (hn.run pins s σ H (fun v H1 => v = .ref C ∧ t σ H1 fun vs H2 => sp vs H2 Q (E σ)) I ⟨rfl, h⟩) fun u s1 ⟨v, H1, I1, rv, ev, q⟩ => ?_) ht⟩
  subst ev
  cases rv
  obtain ⟨rest, rc⟩ := c.rc
  refine PySem.W.method_cls I1.kIn c.ga (PySem.W.cls_bind I1.kIn c.rd c.at_ (wpAny_call (PySem.W.sm_get (s := { s1 with toks := s1.toks + 1 }) I1.kIn rc (PySem.W.handed_on rfl ?_))))
  have I2 := I1.tok (s1.toks + 1)
  refine PySem.W.callWith_K (first := []) (h₀ := X.base) I2.ok.mod.kin c.kp (thn (ha.run pos pins _ σ H1 _ I2 q) fun us s2 ⟨vs, H2, I3, r, q2⟩ => ⟨I3.kIn, ?_⟩) hst hpl
  exact run_atS (A := X.A) ⟨hr, rfl⟩ F hb (hx σ) I3 r q2
/-- a == b, b of a built-in kind: the left one's own __eq__ -/
theorem op_eqK {E : XK} (d : Dun X.K C f "__eq__") (F : FnOk X.prog X.w X.K X.mg X.base CX k f fd ps sp) (hr : Room k X.A) (hb : Binds X.K fd ps []) (hx : Passes CX X E) :
    OpR X (compareOp .Eq) (fun x y H Q => ∃ a dx fs t, x = .ref a ∧ H a = some (.ins C dx fs) ∧ KindV X.K H y t ∧ PySem.W.subIn X.K (.type t) (.ref C) = some false ∧ sp [.ref a, y] H Q E) := by
  intro pins s σ H x y v u Q I rx ry h
  obtain ⟨a, dx, fs, t, rfl, ha, hk, hs, h⟩ := h
  cases rx
  obtain ⟨ox, od, J, _⟩ := insC_at I (.inr ⟨dx, fs, ha⟩)
  obtain ⟨m, hF⟩ := I.fr
  show wpAny (model X.prog X.w) X.A (richCompare .Eq _ _) _ X.xe s
  refine PySem.W.cmp_K (op := .Eq) (tb := .type t) hr.units0 hF I.ok.mod.kin J (kind_looks I hk ry) (by simp [PySem.W.notFirst, hs]) d.at_ d.fn ?_
  exact wpAny_mono (run_at (A := X.A) ⟨hr, rfl⟩ F hb hx I (vs := [.ref a, y]) (us := [.ref a, u]) (.cons rfl (.cons ry .nil)) h) (fun v s' z => cmp_back z) fun _ _ z => z
end
open PySem.W Builtin in
theorem bound_bi {M : Model} {A : Around} {W : Value → Shared → Prop} {s : Shared} {K : Frag} {x C : Addr} {ox : Obj} {od : Option Obj} {name : Str} {id : String} {args : List Value} {Q : Option Value → Shared → Prop} (X : K.In s.heap) (I : InstAt s.heap x ox C od) (hs : findIn K (.ref C) name = some (some (.builtin id)))
    (hb : ∀ self, bindSpecial (.builtin id) self = pure (.builtin id, [self])) (h : wpAny M A (call (.builtin id) (.ref x :: args)) (fun v => Q (some v)) W s) : wpAny M A (callSpecialIfBound? (.ref x) name args) Q W s := by
  simp only [callSpecialIfBound?, bindSpecialIfBound?]
  refine wpAny_holding (wpAny_bind (wpAny_bind (wpAny_bind (I.type.here ((looks_findIn X hs).here ?_)))))
  refine wpAny_bind (wpAny_askSetting (wpAny_ite ?_))
  have fin : wpAny M A (call (.builtin id) ([.ref x] ++ args) >>= fun v => pure (some v)) Q W s := wpAny_bind (wpAny_mono h (fun v s' z => wpAny_pure z) fun _ _ z => z)
  split
  · exact wpAny_bind ((Looks.of_pure (hb _)).here (wpAny_pure (by exact fin)))
  · exact wpAny_tryCatch (wpAny_bind ((Looks.of_pure (hb _)).here (wpAny_pure (by exact fin))))
open PySem.W Builtin in
/-- a != b by the own __eq__ -/
theorem ne_own {prog : Program} {w : World} {A : Around} {W : Value → Shared → Prop} {s : Shared} {K : Frag} {x y C f : Addr} {h₀ : Heap} {L : Addr} {m : Str → Option Value} {ox oy : Obj} {od od' : Option Obj} {Q : Value → Shared → Prop} (hu : A.units < cLine) (hu1 : A.in1.units < cLine)
    (F : Fr h₀ L s.heap m) (X0 : K.In h₀) (I : InstAt s.heap x ox C od) (J : InstAt s.heap y oy C od') (hn : findIn K (.ref C) "__ne__" = some (some (.builtin "object.__ne__"))) (hm : mroIn K C (.type "object") = some true) (hs : findIn K (.ref C) "__eq__" = some (some (.ref f))) (hf : isFn K (.ref f) = true)
    (h : wpAny (model prog w) A.in1 (call (.ref f) [.ref x, .ref y]) (fun v s' => ∃ b, v = .bool b ∧ Q (.bool (!b)) s') W s) : wpAny (model prog w) A (richCompare .NotEq (.ref x) (.ref y)) Q W s := by
  have X := X0.keeps F.keep
  have inner : wpAny (model prog w) A (call (.builtin "object.__ne__") [.ref x, .ref y]) (fun v s' => ∃ b, v = .bool b ∧ Q (.bool b) s') W s := by
    refine wpAny_call (codeAny_call_builtin PySem.F.slot_object_ne.plain PySem.F.entry_object_ne (check_slot (i := "object.__ne__") (owner := "object") (n := "__ne__") (by decide +kernel) (by decide +kernel) (I.type.andThen (looks_mroIn X hm)) (PySem.F.args_object_ne_2 _ _) ?_))
    unfold Builtin.«object.__ne__»
    refine wpAny_bind (m := slotArgs "__ne__" 1 _) (wpAny_pure ?_)
    refine wpAny_bind (m := cRoomFor _ _) (wpAny_cRoomFor hu1 ?_)
    refine wpAny_bind (m := callSpecialIfBound? (.ref x) (Str.ofString "__eq__") _) (ifBound_K X I hs hf (wpAny_mono h (fun v s' z => ?_) fun _ _ z => z))
    obtain ⟨b, rfl, q⟩ := z
    refine wpAny_bind (m := truthy (.bool b)) (wpAny_truthy_bool ?_)
    exact wpAny_pure ⟨!b, rfl, q⟩
  have one : wpAny (model prog w) A (tryCompare (.ref x) (cmpInfo .NotEq).2.1 (.ref y)) (fun r s' => ∃ v, r = some v ∧ Q v s') W s := by
    unfold tryCompare
    refine wpAny_bind (bound_bi X I hn PySem.F.slot_object_ne.bind (wpAny_mono inner (fun v s' z => ?_) fun _ _ z => z))
    obtain ⟨b, rfl, q⟩ := z
    exact wpAny_pure ⟨_, rfl, q⟩
  unfold richCompare
  simp only [oneThing_ref]
  refine wpAny_holding (wpAny_bind (wpAny_cRoomFor hu ?_))
  refine wpAny_bind (I.type.here (wpAny_bind (J.type.here ?_)))
  split
  · rename_i q
    simp at q
  · refine wpAny_bind (wpAny_pure ?_)
    simp only [Bool.false_eq_true, if_false]
    refine wpAny_bind (wpAny_mono one (fun r s' z => ?_) fun _ _ z => z)
    obtain ⟨v, rfl, q⟩ := z
    exact wpAny_pure q
section
variable {X : Cx} {CX : CXT} {k n : Nat} {f C : Addr} {fd : FuncData} {ps : List Str} {sp : Sp}
/-- a != b of two of the class -/
theorem op_neO {E : XK} (d : Dun X.K C f "__eq__") (hn : PySem.W.findIn X.K (.ref C) "__ne__" = some (some (.builtin "object.__ne__"))) (hm : PySem.W.mroIn X.K C (.type "object") = some true) (F : FnOk X.prog X.w X.K X.mg X.base CX k f fd ps sp) (hr : Room (k + 1) X.A) (hb : Binds X.K fd ps []) (hx : Passes CX X E) :
    OpR X (compareOp .NotEq) (fun x y H Q => ∃ a dx fs b dy gs, x = .ref a ∧ H a = some (.ins C dx fs) ∧ y = .ref b ∧ H b = some (.ins C dy gs) ∧ sp [.ref a, .ref b] H (fun v H' => ∃ b, v = .bl b ∧ Q (.bl (!b)) H') E) := by
  intro pins s σ H x y v u Q I rx ry h
  obtain ⟨a, dx, fs, b, dy, gs, rfl, ha, rfl, hb', h⟩ := h
  cases rx
  cases ry
  obtain ⟨ox, od, J, _⟩ := insC_at I (.inr ⟨dx, fs, ha⟩)
  obtain ⟨oy, od', J', _⟩ := insC_at I (.inr ⟨dy, gs, hb'⟩)
  obtain ⟨m, hF⟩ := I.fr
  show wpAny (model X.prog X.w) X.A (richCompare .NotEq _ _) _ X.xe s
  refine ne_own hr.units0 hr.in1.units0 hF I.ok.mod.kin J J' hn hm d.at_ d.fn ?_
  refine wpAny_mono (run_at (A := X.A.in1) ⟨hr.in1, rfl⟩ F hb hx I (vs := [.ref a, .ref b]) (us := [.ref a, .ref b]) (.cons rfl (.cons rfl .nil)) h) (fun v s' z => ?_) fun _ _ z => z
  obtain ⟨x, H', I', rv, c, rfl, q⟩ := z
  cases rv
  exact ⟨c, rfl, .bl (!c), H', I', rfl, q⟩
/-- a != b, two lists of the very same things -/
theorem op_neS (hu : X.A.units + 64 < cLine) : OpR X (compareOp .NotEq) (fun x y H Q => ∃ a b xs, x = .ref a ∧ y = .ref b ∧ SqL X.K H a xs ∧ SqL X.K H b xs ∧ (∀ v ∈ xs, flatB v = true ∨ ∃ r, v = .ref r) ∧ Q (.bl false) H) := by
  intro pins s σ H x y v u Q I rx ry h
  obtain ⟨a, b, xs, rfl, rfl, ha, hb, hi, q⟩ := h
  cases rx
  cases ry
  obtain ⟨us, r1, p1, _⟩ := I.list ha
  obtain ⟨ws, r2, p2, _⟩ := I.list hb
  have hsz : us.toArray.size = ws.toArray.size := by rw [List.size_toArray, List.size_toArray, ← r1.length, ← r2.length]
  have he : ∀ j (h1 : j < us.toArray.size) (h2 : j < ws.toArray.size), SeqAt.EqAt X.A.in1 s us.toArray[j] ws.toArray[j] true := by
    intro j h1 h2
    have l1 : j < us.length := by simpa using h1
    have l2 : j < ws.length := by simpa using h2
    have hj : j < xs.length := by rw [r1.length]; exact l1
    obtain ⟨u1, e1, q1⟩ := r1.get (List.getElem?_eq_getElem hj)
    obtain ⟨u2, e2, q2⟩ := r2.get (List.getElem?_eq_getElem hj)
    have z1 : us.toArray[j] = u1 := by
      have := List.getElem?_eq_getElem l1
      rw [e1] at this
      simpa using (Option.some.inj this).symm
    have z2 : ws.toArray[j] = u2 := by
      have := List.getElem?_eq_getElem l2
      rw [e2] at this
      simpa using (Option.some.inj this).symm
    rw [z1, z2]
    rcases hi xs[j] (List.getElem_mem hj) with f | ⟨r, er⟩
    · exact eqAt_same q1 q2 f
    · rw [er] at q1 q2
      cases q1
      cases q2
      exact SeqAt.EqAt.same _
  have z := SeqAt.RcNeAt.lists (e := fun _ => true) p1.isList p2.isList hsz (show X.A.units < cLine by omega) he X.prog X.w X.xe (EP X pins σ Q)
  refine z ?_
  rw [show (List.range us.toArray.size).all (fun _ => true) = true from List.all_eq_true.mpr fun _ _ => rfl]
  exact ⟨.bl false, H, I, rfl, q⟩
/-- isinstance(x, C): an instance, or data -/
theorem call_isCD (c : C8.InsC X.K C) : CallR X (.builtin "isinstance") (fun xs H Q => ∃ x, xs = [x, .ref C] ∧ ((∃ d, Dp X.K H x d ∧ PySem.W.kitOne X.K (.type (tyN d)) (.ref C) = some false ∧ Q (.bl false) H) ∨ ∃ a dx fs, x = .ref a ∧ H a = some (.ins C dx fs) ∧ Q (.bl true) H)) := by
  intro pins s σ H xs us Q I r h
  obtain ⟨x, rfl, h⟩ := h
  rcases h with ⟨d, hd, hk, q⟩ | ⟨a, dx, fs, rfl, ha, q⟩
  · exact call_isi pins s σ H _ _ Q I r ⟨x, .ref C, .type (tyN d), .ref C, false, rfl, .own C, tyD hd, hk, q⟩
  · exact C8.call_isC c pins s σ H _ _ Q I r ⟨a, dx, fs, rfl, ha, q⟩
/-- isinstance(x, t), t built-in: data, or an instance of C -/
theorem call_isDT {t : String} (c : C8.InsC X.K C) (kf : PySem.W.kitOne X.K (.ref C) (.type t) = some false) : CallR X (.builtin "isinstance") (fun xs H Q => ∃ x, xs = [x, .ty t] ∧ ((∃ d b, Dp X.K H x d ∧ kitB (tyN d) t = some b ∧ Q (.bl b) H) ∨ ∃ a dx fs, x = .ref a ∧ H a = some (.ins C dx fs) ∧ Q (.bl false) H)) := by
  intro pins s σ H xs us Q I r h
  obtain ⟨x, rfl, h⟩ := h
  rcases h with ⟨d, b, hd, hk, q⟩ | ⟨a, dx, fs, rfl, ha, q⟩
  · exact call_isi pins s σ H _ _ Q I r ⟨x, .ty t, .type (tyN d), .type t, b, rfl, .ty t, tyD hd, kit_ty hk, q⟩
  · obtain ⟨u, w', rfl, ru, rw'⟩ := vals2 r
    cases rw'
    exact isinst_ok I ru (TyOf.ins ha c.cl c.ha c.hn c.htk c.hm) kf fun tk => ⟨.bl false, H, I.tok _, rfl, q⟩
end
end L2.Lr

set_option maxHeartbeats 1000000
namespace L2.L49
open PySem PySem.Spec PyProof.Rows LR L2.Lr
local macro_rules | `(tactic| walk_at "rd") => `(tactic| simp only [tSeq, tAsg, gName, tIfS, tTest, tOp, tIf, tInt, rI, rI0, tVar, tC, tCB, tCons, tNil, tNext, tRet, tLst, rIxL, CPow, CMul, gSub, rSetL, rIxT,
  List.getElem?_cons_zero, List.getElem?_cons_succ, List.set_cons_zero, List.set_cons_succ, Option.some.injEq, V.int.injEq, V.ref.injEq, V.bl.injEq, V.str.injEq, List.cons.injEq, and_true, true_and, exists_and_left, exists_eq_left', exists_eq_left, exists_eq, decide_eq_true_eq, or_true, true_or, List.length_cons, List.length_nil, Nat.zero_add, Nat.reduceAdd])
local macro_rules | `(tactic| walk_at "so") => `(tactic| repeat (first | refine And.intro (by omega) ?_ | refine And.intro (by decide) ?_))
local macro_rules | `(tactic| walk_at "nx") => `(tactic| dsimp only [gName, tNext, tSeq, tAsg, List.set_cons_zero, List.set_cons_succ])
def top (i : Nat) : Stmt := PySem.Challenge.pw_leastrooms_k49_lines_reckoned.main.body.getD i (.Pass ⟨0, 0, 0, 0⟩)
abbrev sRoom : Stmt := inClass (top 1) 0
abbrev sInt : Stmt := top 6
abbrev sBtw : Stmt := top 7
abbrev sIni : Stmt := inClass (top 10) 0
abbrev sCal : Stmt := inClass (top 10) 1
abbrev sAdd : Stmt := inClass (top 10) 2
abbrev sSub : Stmt := inClass (top 10) 3
abbrev sMul : Stmt := inClass (top 10) 4
abbrev sEq : Stmt := inClass (top 10) 5
abbrev sThr : Stmt := inClass (top 10) 7
abbrev sBet : Stmt := top 11
abbrev sNum : Stmt := top 12
abbrev FnP (K : PySem.W.Frag) (x : Str) (st : Stmt) (f : Addr) (fd : FuncData) : Prop := FunD K x x (defArgs st) (defBody st) (defScope st) [] [] f fd
abbrev FnM (K : PySem.W.Frag) (x q : Str) (st : Stmt) (f : Addr) (fd : FuncData) : Prop := FunD K x q (defArgs st) (defBody st) (defScope st) [] [] f fd
theorem scV : FnScope ["self", "value"] ["self", "value"] (defScope sRoom) := ⟨rfl, rfl, rfl, by decide +kernel, rfl, by decide +kernel, by decide +kernel⟩
theorem scN : FnScope ["thing"] ["thing"] (defScope sInt) := ⟨rfl, rfl, rfl, by decide +kernel, rfl, by decide +kernel, by decide +kernel⟩
theorem scB : FnScope ["thing", "low", "high"] ["thing", "low", "high"] (defScope sBtw) := ⟨rfl, rfl, rfl, by decide +kernel, rfl, by decide +kernel, by decide +kernel⟩
theorem scI : FnScope ["self", "at_zero", "slope", "number"] ["self", "at_zero", "slope"] (defScope sIni) := ⟨rfl, rfl, rfl, by decide +kernel, rfl, by decide +kernel, by decide +kernel⟩
theorem scC : FnScope ["self", "m"] ["self", "m"] (defScope sCal) := ⟨rfl, rfl, rfl, by decide +kernel, rfl, by decide +kernel, by decide +kernel⟩
theorem scA : FnScope ["self", "other", "at_zero", "slope"] ["self", "other"] (defScope sAdd) := ⟨rfl, rfl, rfl, by decide +kernel, rfl, by decide +kernel, by decide +kernel⟩
theorem scS : FnScope ["self", "other", "at_zero", "slope"] ["self", "other"] (defScope sSub) := ⟨rfl, rfl, rfl, by decide +kernel, rfl, by decide +kernel, by decide +kernel⟩
theorem scM : FnScope ["self", "other"] ["self", "other"] (defScope sMul) := ⟨rfl, rfl, rfl, by decide +kernel, rfl, by decide +kernel, by decide +kernel⟩
theorem scE : FnScope ["self", "other"] ["self", "other"] (defScope sEq) := ⟨rfl, rfl, rfl, by decide +kernel, rfl, by decide +kernel, by decide +kernel⟩
theorem scO : FnScope ["other"] ["other"] (defScope sNum) := ⟨rfl, rfl, rfl, by decide +kernel, rfl, by decide +kernel, by decide +kernel⟩
theorem scT : FnScope ["m", "value", "other", "further", "line"] ["m", "value", "other", "further"] (defScope sThr) := ⟨rfl, rfl, rfl, by decide +kernel, rfl, by decide +kernel, by decide +kernel⟩
theorem scW : FnScope ["m", "value", "other", "further", "slope", "rest", "at_zero", "number"] ["m", "value", "other", "further"] (defScope sBet) := ⟨rfl, rfl, rfl, by decide +kernel, rfl, by decide +kernel, by decide +kernel⟩
def CL (K : PySem.W.Frag) : Addr := He.ga K "Line"
def CB (K : PySem.W.Frag) : Addr := He.ga K "BadLine"
def CN (K : PySem.W.Frag) : Addr := He.ga K "BadNumber"
def fV (K : PySem.W.Frag) : Addr := He.ma K (He.ga K "RoomError") "__init__"
/-- an exception class of the program's own -/
structure XT (K : PySem.W.Frag) (mg : Str → Option Value) (nm : Str) (C : Addr) : Prop where
  g : mg nm = some (.ref C)
  x : XC K xV C
  nv : PySem.W.findIn K (.ref C) "value" = some none
  iC : PySem.W.findIn K (.ref C) "__init__" = some (some (.ref (fV K)))
  tI : PySem.W.typeIn K (.ref (fV K)) = some (.type "function")
  e : PySem.W.exmOne K (.ref C) (.ref C) = some true
structure Txt (K : PySem.W.Frag) (mg : Str → Option Value) : Prop where
  bl : XT K mg "BadLine" (CB K)
  bn : XT K mg "BadNumber" (CN K)
  gL : mg "Line" = some (.ref (CL K))
  cl : Cls K (CL K)
  nZ : NoAttr K (CL K) "at_zero"
  nS : NoAttr K (CL K) "slope"
  ic : C8.InsC K (CL K)
  kt : ∀ d : PyData, PySem.W.kitOne K (.type (tyN d)) (.ref (CL K)) = some false
  ki : PySem.W.kitOne K (.ref (CL K)) (.type "int") = some false
  kp : PySem.W.kitOne K (.ref (CL K)) (.type "tuple") = some false
  most : ∃ t, mg "MOST" = some (.int (10 ^ 400) t)
  far : ∃ t, mg "LARGEST_NUMBER" = some (.int (10 ^ 30) t)
  isn : mg "isinstance" = none
  len : mg "len" = none
  range : mg "range" = none
  max : mg "max" = none
  min : mg "min" = none
  int : mg "int" = none
  bool : mg "bool" = none
  tuple : mg "tuple" = none
  all : mg "all" = none
  abs : mg "abs" = none
  divmod : mg "divmod" = none
/-! ### a line -/
def flds (z e : Int) : List (Str × V) := putF "slope" (.int e) (putF "at_zero" (.int z) [])
theorem kzs : ¬ (("at_zero" : Str) = "slope") := by decide +kernel
theorem flds_z (z e : Int) : (flds z e).lookup ("at_zero" : Str) = some (.int z) := by
  unfold flds
  rw [lookup_putF, if_neg kzs, lookup_putF, if_pos rfl]
theorem flds_e (z e : Int) : (flds z e).lookup ("slope" : Str) = some (.int e) := by
  unfold flds
  rw [lookup_putF, if_pos rfl]
def LineAt (K : PySem.W.Frag) (H : Hp) (p : Addr) (z e : Int) : Prop := ∃ dx, H p = some (.ins (CL K) dx (flds z e))
theorem LineAt.same {K : PySem.W.Frag} {H H' : Hp} {p : Addr} {z e : Int} (h : LineAt K H p z e) (s : Same H H') : LineAt K H' p z e := let ⟨dx, h⟩ := h; ⟨dx, s _ _ h⟩
def Far (z : Int) : Prop := -(10 ^ 400) ≤ z ∧ z ≤ 10 ^ 400
instance (z : Int) : Decidable (Far z) := by unfold Far; infer_instance
def intD : PyData → Bool
  | .int _ => true
  | _ => false
def betw (lo hi : Int) : PyData → Bool
  | .int i => decide (lo ≤ i) && decide (i ≤ hi)
  | _ => false
def lineD (d : PyData) : Bool := betw (-(10 ^ 400)) (10 ^ 400) d
theorem betw_int {lo hi : Int} {d : PyData} (h : betw lo hi d = true) : ∃ i, d = .int i ∧ lo ≤ i ∧ i ≤ hi := by
  cases d with
  | int i =>
    obtain ⟨h1, h2⟩ := Bool.and_eq_true_iff.mp (show (decide (lo ≤ i) && decide (i ≤ hi)) = true from h)
    exact ⟨i, rfl, of_decide_eq_true h1, of_decide_eq_true h2⟩
  | _ => cases h
theorem lineD_far {i : Int} : lineD (.int i) = decide (Far i) := by
  show (decide (-(10 ^ 400) ≤ i) && decide (i ≤ 10 ^ 400)) = decide (Far i)
  by_cases h : Far i
  · rw [decide_eq_true h, decide_eq_true h.1, decide_eq_true h.2]
    rfl
  · rw [decide_eq_false h]
    by_cases h1 : -(10 ^ 400) ≤ i
    · rw [decide_eq_true h1, decide_eq_false fun h2 => h ⟨h1, h2⟩]
      rfl
    · rw [decide_eq_false h1]
      rfl
def spInt (K : PySem.W.Frag) : Sp := fun vs H Q _ => ∃ x d, vs = [x] ∧ Dp K H x d ∧ Q (.bl (intD d)) H
/-- is_integer, of data or a line -/
def spIntX (K : PySem.W.Frag) : Sp := fun vs H Q _ => ∃ x, vs = [x] ∧ ((∃ d, Dp K H x d ∧ Q (.bl (intD d)) H) ∨ ∃ a dx fs, x = .ref a ∧ H a = some (.ins (CL K) dx fs) ∧ Q (.bl false) H)
def spBtw (K : PySem.W.Frag) : Sp := fun vs H Q _ => ∃ x lo hi d, vs = [x, .int lo, .int hi] ∧ Dp K H x d ∧ Q (.bl (betw lo hi d)) H
/-- C(z) is raised -/
def Bad (C : Addr) (z : V) (H : Hp) (E : XK) : Prop := ∀ (d : Addr) (H' : Hp), Same H H' → H' d = some (.xd [("value", z)]) → E (.ref C) (some d) H'
theorem Bad.mono {C : Addr} {z : V} {H H1 : Hp} {E : XK} (s : Same H H1) (b : Bad C z H E) : Bad C z H1 E := fun d H' s' h => b d H' (s.trans s') h
def spIni (K : PySem.W.Frag) : Sp := fun vs H Q E => ∃ (p dx : Addr) (x y : V) (d e : PyData), vs = [.ref p, x, y] ∧ H p = some (.ins (CL K) dx []) ∧ Dp K H x d ∧ Dp K H y e ∧
  ((lineD d = false ∧ Bad (CB K) x H E) ∨ (lineD d = true ∧ lineD e = false ∧ Bad (CB K) y H E) ∨ ∃ z w, d = .int z ∧ e = .int w ∧ Far z ∧ Far w ∧ ∀ H', (∀ b o, H b = some o → b ≠ p → H' b = some o) → LineAt K H' p z w → Q .non H')
def spCal (K : PySem.W.Frag) : Sp := fun vs H Q E => ∃ (p : Addr) (z e : Int) (x : V) (d : PyData), vs = [.ref p, x] ∧ LineAt K H p z e ∧ Far e ∧ Dp K H x d ∧ ((betw 0 (10 ^ 30) d = false ∧ Bad (CN K) x H E) ∨ ∃ m, d = .int m ∧ 0 ≤ m ∧ m ≤ 10 ^ 30 ∧ Q (.int (z + e * m)) H)
/-- what comes of Line(a, b) -/
def Res (K : PySem.W.Frag) (H : Hp) (Q : VK) (E : XK) (a b : Int) : Prop := (¬ Far a ∧ Bad (CB K) (.int a) H E) ∨ (Far a ∧ ¬ Far b ∧ Bad (CB K) (.int b) H E) ∨ (Far a ∧ Far b ∧ ∀ r H', Same H H' → H r = none → LineAt K H' r a b → Q (.ref r) H')
theorem Res.mono {K : PySem.W.Frag} {H H1 : Hp} {Q : VK} {E : XK} {a b : Int} (s : Same H H1) (r : Res K H Q E a b) : Res K H1 Q E a b := by
  rcases r with ⟨h, q⟩ | ⟨h1, h2, q⟩ | ⟨h1, h2, q⟩
  · exact .inl ⟨h, q.mono s⟩
  · exact .inr (.inl ⟨h1, h2, q.mono s⟩)
  · refine .inr (.inr ⟨h1, h2, fun r H' s' n l => q r H' (s.trans s') ?_ l⟩)
    cases e : H r with
    | none => rfl
    | some o => rw [s _ _ e] at n; cases n
def spNum (K : PySem.W.Frag) : Sp := fun vs H Q E => ∃ x : V, vs = [x] ∧ ((∃ p z e, x = .ref p ∧ LineAt K H p z e ∧ ∀ t, H t = none → Q (.ref t) (upd H t (.tup [.int z, .int e]))) ∨
  (∃ d, Dp K H x d ∧ intD d = false ∧ Bad (CB K) x H E) ∨ ∃ i, x = .int i ∧ ∀ t, H t = none → Q (.ref t) (upd H t (.tup [.int i, .int 0])))
/-- of two lines, or a line and another thing -/
def Opd (K : PySem.W.Frag) (H : Hp) (x : V) (E : XK) (R : Int → Int → Prop) : Prop := (∃ q y d, x = .ref q ∧ LineAt K H q y d ∧ R y d) ∨ (∃ d, Dp K H x d ∧ intD d = false ∧ Bad (CB K) x H E) ∨ ∃ i, x = .int i ∧ R i 0
def spAdd (K : PySem.W.Frag) : Sp := fun vs H Q E => ∃ (p : Addr) (z e : Int) (x : V), vs = [.ref p, x] ∧ LineAt K H p z e ∧ Opd K H x E fun y d => Res K H Q E (z + y) (e + d)
def spSub (K : PySem.W.Frag) : Sp := fun vs H Q E => ∃ (p : Addr) (z e : Int) (x : V), vs = [.ref p, x] ∧ LineAt K H p z e ∧ Opd K H x E fun y d => Res K H Q E (z - y) (e - d)
def spMul (K : PySem.W.Frag) : Sp := fun vs H Q E => ∃ (p : Addr) (z e : Int) (x : V), vs = [.ref p, x] ∧ LineAt K H p z e ∧ Far z ∧ Far e ∧
  ((∃ q y d, x = .ref q ∧ LineAt K H q y d ∧ Bad (CB K) x H E) ∨ (∃ d, Dp K H x d ∧ intD d = false ∧ Bad (CB K) x H E) ∨ ∃ i, x = .int i ∧ i.natAbs < 2 ^ 1400 ∧ Res K H Q E (z * i) (e * i))
def spEq (K : PySem.W.Frag) : Sp := fun vs H Q _ => ∃ (p : Addr) (x : V) (z e : Int), vs = [.ref p, x] ∧ LineAt K H p z e ∧ ((∃ q y d, x = .ref q ∧ LineAt K H q y d ∧ Q (.bl (decide (z = y) && decide (e = d))) H) ∨ ∃ d, Dp K H x d ∧ Q (.bl false) H)
theorem far_nat {z : Int} (h : Far z) : z.natAbs < 2 ^ 1400 := by
  obtain ⟨h1, h2⟩ := h
  have e : (10 : Int) ^ 400 < 2 ^ 1400 := by decide +kernel
  omega
theorem dec_vi (a b : Int) : decide (V.int a = V.int b) = decide (a = b) := by
  by_cases h : a = b
  · rw [decide_eq_true h, h, decide_eq_true rfl]
  · rw [decide_eq_false h, decide_eq_false fun q => h (V.int.inj q)]
/-- a def as its callers need it -/
structure Def (P : Program) (w : World) (K : PySem.W.Frag) (mg : Str → Option Value) (base : Heap) (CX : CXT) (k : Nat) (x : Str) (f : Addr) (fd : FuncData) (ps : List Str) (sp : Sp) : Prop where
  ok : FnOk P w K mg base CX k f fd ps sp
  g : mg x = some (.ref f)
  k : PySem.W.keepIn K (.ref f) = true
  b : Binds K fd ps []
/-- RoomError's __init__ -/
structure Rm (P : Program) (w : World) (K : PySem.W.Frag) (mg : Str → Option Value) (base : Heap) (dV : FuncData) : Prop where
  ok : FnOk P w K mg base CX0 1 (fV K) dV ["self", "value"] (L2.Lr.spIni K)
  b : Binds K dV ["self", "value"] []
section
variable {P : Program} {w : World} {K : PySem.W.Frag} {mg : Str → Option Value} {base : Heap}
theorem bbI : bootBuiltins "int" = some (.type "int") := by decide +kernel
theorem bbB : bootBuiltins "bool" = some (.type "bool") := by decide +kernel
theorem bbT : bootBuiltins "tuple" = some (.type "tuple") := by decide +kernel
theorem pe_gI {X : Cx} {x : Str} {i : Int} {t : Tok} {p : Pos} (hm : X.mg x = some (.int i t)) (hg : Gl X x := by rfl) (hd : (x == ("__debug__" : Str)) = false := by decide) : PE X (.Name x p) (tC (.int i)) := pe_glob hg hm (show RelV (.int i) (.int i t) from ⟨t, rfl⟩) hd
theorem ok_room {f : Addr} {fd : FuncData} (F : FnM K "__init__" "RoomError.__init__" sRoom f fd) : FnOk P w K mg base CX0 1 f fd ["self", "value"] (L2.Lr.spIni K) := by
  refine F.ok scV (fun vs H Q E h => ?_) (fun cdv A outer s H vs Q E hr h => ?_)
  · obtain ⟨a, C, k, y, rfl, _⟩ := h
    rfl
  · obtain ⟨a, C, k, y, rfl, Sf, T, nv, ha, go⟩ := h
    refine ⟨_, pss_one (ps_stX (pv 0) (pv 1)), _, rfl, _, rfl, a, C, k, rfl, Sf, T, nv, .inl ⟨ha, fun dx hd ne => go _ dx hd ne (fun b o z nb => ?_) upd_same ((upd_ne ne).trans upd_same)⟩⟩
    exact (upd_ne nb).trans ((upd_ne (ne_of_none z hd)).trans z)
theorem ok_int {f : Addr} {fd : FuncData} (F : FnP K "is_integer" sInt f fd) (T : Txt K mg) : FnOk P w K mg base CX0 1 f fd ["thing"] (spIntX K) := by
  refine F.ok scN (fun vs H Q E h => ?_) (fun cdv A outer s H vs Q E hr h => ?_)
  · obtain ⟨x, rfl, _⟩ := h
    rfl
  · obtain ⟨x, rfl, h⟩ := h
    refine ⟨_, pss_one (ps_ret (pe_and (pe_callB (call_isDT T.ic T.ki) (by rfl) T.isn boot_isinstance (pa_cons (pv 0) (pa_cons (pe_bltn (v := .ty "int") (by rfl) T.int bbI (by rfl)) pa_nil))) (pe_one (pe_not (pe_isD T.isn (pv 0) (pe_bltn (by rfl) T.bool bbB (by rfl)) (by rfl)))))), ?_⟩
    have e0 : start ["thing"] [x] = [some x] := rfl
    rw [e0]
    refine ⟨_, rfl, x, rfl, ?_⟩
    rcases h with ⟨d, hd, q⟩ | ⟨a, dx, fs, rfl, ha, q⟩
    · cases d with
      | int i => exact .inl ⟨_, _, hd, (by decide +kernel : kitB "int" "int" = some true), _, rfl, iteT ⟨_, rfl, _, _, hd, (by decide +kernel : kitB "int" "bool" = some false), _, rfl, q⟩⟩
      | bool b => exact .inl ⟨_, _, hd, (by decide +kernel : kitB "bool" "int" = some true), _, rfl, iteT ⟨_, rfl, _, _, hd, (by decide +kernel : kitB "bool" "bool" = some true), _, rfl, q⟩⟩
      | none => exact .inl ⟨_, _, hd, (by decide +kernel : kitB "NoneType" "int" = some false), _, rfl, iteF q⟩
      | str x => exact .inl ⟨_, _, hd, (by decide +kernel : kitB "str" "int" = some false), _, rfl, iteF q⟩
      | list x => exact .inl ⟨_, _, hd, (by decide +kernel : kitB "list" "int" = some false), _, rfl, iteF q⟩
      | tuple x => exact .inl ⟨_, _, hd, (by decide +kernel : kitB "tuple" "int" = some false), _, rfl, iteF q⟩
      | dict x => cases hd
    · exact .inr ⟨a, dx, fs, rfl, ha, _, rfl, iteF q⟩
theorem ok_btw {f fN : Addr} {fd dN : FuncData} (F : FnP K "is_between" sBtw f fd) (N : Def P w K mg base CX0 1 "is_integer" fN dN ["thing"] (spInt K)) : FnOk P w K mg base CX0 2 f fd ["thing", "low", "high"] (spBtw K) := by
  refine F.ok scB (fun vs H Q E h => ?_) (fun cdv A outer s H vs Q E hr h => ?_)
  · obtain ⟨x, lo, hi, d, rfl, _⟩ := h
    rfl
  · obtain ⟨x, lo, hi, d, rfl, hd, q⟩ := h
    refine ⟨_, pss_one (ps_ret (pe_and (pe_call N.ok hr (by rfl) N.g N.k N.b .nil pass0 (pa_cons (pv 0) pa_nil)) (pe_one (pe_chain op_le op_le (pv 1) (pv 0) (pv 2))))), ?_⟩
    have e0 : start ["thing", "low", "high"] [x, .int lo, .int hi] = [some x, some (.int lo), some (.int hi)] := rfl
    rw [e0]
    refine ⟨_, rfl, x, d, rfl, hd, _, rfl, ?_⟩
    cases hd with
    | int i =>
      refine iteT ⟨_, rfl, _, rfl, _, _, rfl, rfl, _, rfl, ite_dec (fun h => ?_) fun h => ?_⟩
      · refine ⟨_, rfl, _, _, rfl, rfl, ?_⟩
        have e : betw lo hi (.int i) = decide (i ≤ hi) := by
          show (decide (lo ≤ i) && decide (i ≤ hi)) = _
          rw [decide_eq_true h, Bool.true_and]
        rw [e] at q
        exact q
      · have e : betw lo hi (.int i) = false := by
          show (decide (lo ≤ i) && decide (i ≤ hi)) = _
          rw [decide_eq_false h, Bool.false_and]
        rw [e] at q
        exact q
    | _ => exact iteF q
theorem ok_ini {f fN : Addr} {fd dN dV : FuncData} (F : FunD K "__init__" "Line.__init__" (defArgs sIni) (defBody sIni) (defScope sIni) [.int 0] [] f fd) (T : Txt K mg) (N : Def P w K mg base CX0 2 "is_between" fN dN ["thing", "low", "high"] (spBtw K)) (Z : Rm P w K mg base dV) : FnOk P w K mg base (L2.CX P w) 3 f fd ["self", "at_zero", "slope"] (spIni K) := by
  refine F.ok scI (fun vs H Q E h => ?_) (fun cdv A outer s H vs Q E hr h => ?_)
  · obtain ⟨p, dx, x, y, d, e, rfl, _⟩ := h
    rfl
  · obtain ⟨p, dx, x, y, d, e, rfl, hp, hd, he, h⟩ := h
    obtain ⟨tm, hm⟩ := T.most
    refine ⟨_, pss_cons (ps_for (passes_of rfl) rfl (pi_tup (pe_tup (pa_cons (pv 1) (pa_cons (pv 2) pa_nil)))) (pg_name (i := 3) scI.nd rfl (Or.inl rfl))
        (pss_one (ps_if (pt_not (pt_val (pe_call N.ok hr (by rfl) N.g N.k N.b .nil pass0 (pa_cons (pv 3) (pa_cons (pe_un un_neg (pe_gI hm (by rfl))) (pa_cons (pe_gI hm (by rfl)) pa_nil)))))) (pss_one (ps_raise rfl (takes_of rfl rfl rfl rfl) (pmk_new sV T.bl.x T.bl.nv T.bl.iC T.bl.tI Z.ok (hr.mono (by decide)) Z.b T.bl.g (pv 3) (by rfl)))) pss_nil)))
      (pss_cons (ps_fld (pv 0) (pv 1) rfl) (pss_one (ps_fld (pv 0) (pv 2) rfl))), ?_⟩
    have e0 : start ["self", "at_zero", "slope", "number"] [V.ref p, x, y] = [some (.ref p), some x, some y, none] := rfl
    rw [e0]
    refine go_seq ?_
    refine ⟨_, rfl, _, rfl, by show 2 ≤ sizeLine; decide, fun t ht => ⟨t, rfl, ⟨_, SqT.of upd_same⟩, for_tupD (K := K) (a := t) (xs := [x, y]) (fun i σ H' => H' = upd H t (.tup [x, y]) ∧ (∃ o, σ = [some (.ref p), some x, some y, o]) ∧ (1 ≤ i → lineD d = true) ∧ (2 ≤ i → lineD e = true))
      ⟨rfl, ⟨_, rfl⟩, fun z => absurd z (by decide), fun z => absurd z (by decide)⟩ (fun i σ H' _ q => by rw [q.1]; exact SqT.of upd_same) ?_ ?_⟩⟩
    · rintro D' i v σ H2 hrt hnx - - hi ⟨rfl, ⟨o, rfl⟩, p1, p2⟩
      have s0 := same_upd (o := .tup [x, y]) ht
      obtain ⟨dv, hdv, hraise, hgo⟩ : ∃ dv, Dp K (upd H t (.tup [x, y])) v dv ∧ (lineD dv = false → Bad (CB K) v H E) ∧ (lineD dv = true → (1 ≤ i + 1 → lineD d = true) ∧ (2 ≤ i + 1 → lineD e = true)) := by
        match i, hi with
        | 0, hi =>
          cases hi
          refine ⟨d, Dp.same s0 hd, fun z => ?_, fun z => ⟨fun _ => z, fun z2 => absurd z2 (by decide)⟩⟩
          rcases h with ⟨_, h⟩ | ⟨h, _⟩ | ⟨a, b, rfl, _, g1, _⟩
          · exact h
          · rw [z] at h; cases h
          · rw [lineD_far, decide_eq_true g1] at z; cases z
        | 1, hi =>
          cases hi
          have pd := p1 (Nat.le_refl _)
          refine ⟨e, Dp.same s0 he, fun z => ?_, fun z => ⟨fun _ => pd, fun _ => z⟩⟩
          rcases h with ⟨h, _⟩ | ⟨_, _, h⟩ | ⟨a, b, _, rfl, _, g1, _⟩
          · rw [pd] at h; cases h
          · exact h
          · rw [lineD_far, decide_eq_true g1] at z; cases z
      refine ⟨_, rfl, _, rfl, v, _, _, dv, rfl, hdv, _, rfl, ?_⟩
      cases hq : lineD dv with
      | true =>
        have hq' : betw (-(10 ^ 400)) (10 ^ 400) dv = true := hq
        rw [hq']
        exact hnx _ _ ⟨rfl, ⟨_, rfl⟩, (hgo hq).1, (hgo hq).2⟩
      | false =>
        have hq' : betw (-(10 ^ 400)) (10 ^ 400) dv = false := hq
        rw [hq']
        exact ⟨_, rfl, fun dd H' s' n hx => hraise hq dd H' (s0.trans s') hx⟩
    · rintro σ H2 ⟨rfl, ⟨o, rfl⟩, p1, p2⟩
      have pd := p1 (by show 1 ≤ 2; decide)
      have pe := p2 (by show 2 ≤ 2; decide)
      rcases h with ⟨h, _⟩ | ⟨_, h, _⟩ | ⟨z, e, rfl, rfl, g1, g2, q⟩
      · rw [pd] at h; cases h
      · rw [pe] at h; cases h
      cases hd
      cases he
      have npt : p ≠ t := ne_of_none hp ht
      refine go_seq ?_
      refine ⟨_, rfl, _, rfl, p, CL K, dx, [], rfl, (upd_ne npt).trans hp, T.cl, T.nZ, by show 0 < 1000; decide, ?_⟩
      refine ⟨_, rfl, _, rfl, p, CL K, dx, _, rfl, upd_same, T.cl, T.nS, by show 1 < 1000; decide, ?_⟩
      refine q _ (fun b o' e' nb => ?_) ⟨dx, upd_same⟩
      exact (upd_ne nb).trans ((upd_ne nb).trans ((upd_ne (ne_of_none e' ht)).trans e'))
end
end L2.L49

set_option maxHeartbeats 1000000
namespace L2.L49
open PySem PySem.Spec PyProof.Rows LR L2.Lr
local macro_rules | `(tactic| walk_at "nx") => `(tactic| dsimp only [gName, tNext, tSeq, tAsg, List.set_cons_zero, List.set_cons_succ])
/-- how a line is made -/
structure MkL (P : Program) (w : World) (K : PySem.W.Frag) (mg : Str → Option Value) (base : Heap) (fI : Addr) (dI : FuncData) : Prop where
  m : Mk K (CL K) fI
  ok : FnOk P w K mg base (L2.CX P w) 3 fI dI ["self", "at_zero", "slope"] (spIni K)
  b : Binds K dI ["self", "at_zero", "slope"] []
theorem make_same {H H' : Hp} {x dx : Addr} {u1 u2 : HO} (hx : H x = none) (hdx : H dx = none) (keep : ∀ b o, upd (upd H dx u1) x u2 b = some o → b ≠ x → H' b = some o) : Same H H' := fun b o hb =>
  have n1 : b ≠ x := ne_of_none hb hx
  have n2 : b ≠ dx := ne_of_none hb hdx
  keep b o ((upd_ne n1).trans ((upd_ne n2).trans hb)) n1
theorem laid_same {H : Hp} {x dx : Addr} {u1 u2 : HO} (hx : H x = none) (hdx : H dx = none) : Same H (upd (upd H dx u1) x u2) := fun b o hb => (upd_ne (ne_of_none hb hx)).trans ((upd_ne (ne_of_none hb hdx)).trans hb)
/-- the question of Line(a, b) of ints -/
theorem make_go {K : PySem.W.Frag} {H : Hp} {z e : Int} {Q : VK} {E : XK} (r : Res K H Q E z e) :
    ∀ x dx, H x = none → H dx = none → dx ≠ x → spIni K [.ref x, .int z, .int e] (upd (upd H dx (.own x)) x (.ins (CL K) dx [])) (fun v H2 => v = .non ∧ Q (.ref x) H2) E := by
  intro x dx hx hdx hne
  refine ⟨x, dx, .int z, .int e, .int z, .int e, rfl, upd_same, .int z, .int e, ?_⟩
  rcases r with ⟨h, b⟩ | ⟨h1, h2, b⟩ | ⟨h1, h2, q⟩
  · exact .inl ⟨by rw [lineD_far, decide_eq_false h], b.mono (laid_same hx hdx)⟩
  · exact .inr (.inl ⟨by rw [lineD_far, decide_eq_true h1], by rw [lineD_far, decide_eq_false h2], b.mono (laid_same hx hdx)⟩)
  · exact .inr (.inr ⟨z, e, rfl, rfl, h1, h2, fun H' keep hL => ⟨rfl, q x H' (make_same hx hdx keep) hx hL⟩⟩)
def thrI (m v o f : Int) : Option (Int × Int) := if 0 ≤ m ∧ m < o ∧ (f - v) % (o - m) = 0 ∧ Far ((f - v) / (o - m)) ∧ Far (v - (f - v) / (o - m) * m) then some (v - (f - v) / (o - m) * m, (f - v) / (o - m)) else none
def thrD : PyData → PyData → PyData → PyData → Option (Int × Int)
  | .int m, .int v, .int o, .int f => thrI m v o f
  | _, _, _, _ => none
/-- at and to are small where they are ints -/
def Small4 (da dc : PyData) : Prop := ∀ m o, da = .int m → dc = .int o → -1000 ≤ m ∧ m ≤ 1000 ∧ -1000 ≤ o ∧ o ≤ 1000
def spBet (K : PySem.W.Frag) : Sp := fun vs H Q _ => ∃ (a b c e : V) (da db dc de : PyData), vs = [a, b, c, e] ∧ Dp K H a da ∧ Dp K H b db ∧ Dp K H c dc ∧ Dp K H e de ∧ Small4 da dc ∧
  (thrD da db dc de = none → ∀ H', Same H H' → Q .non H') ∧ ∀ z w, thrD da db dc de = some (z, w) → ∀ r H', Same H H' → LineAt K H' r z w → Q (.ref r) H'
def spThr (K : PySem.W.Frag) : Sp := fun vs H Q E => ∃ (a b c e : V) (da db dc de : PyData), vs = [a, b, c, e] ∧ Dp K H a da ∧ Dp K H b db ∧ Dp K H c dc ∧ Dp K H e de ∧ Small4 da dc ∧
  (thrD da db dc de = none → ∀ d t H', Same H H' → H' t = some (.tup [a, b, c, e]) → H' d = some (.xd [("value", .ref t)]) → E (.ref (CB K)) (some d) H') ∧ ∀ z w, thrD da db dc de = some (z, w) → ∀ r H', Same H H' → LineAt K H' r z w → Q (.ref r) H'
theorem thr_none {da db dc de : PyData} (h : (intD da && (intD db && (intD dc && intD de))) = false) : thrD da db dc de = none := by
  cases da <;> cases db <;> cases dc <;> cases de <;> first | rfl | cases h
theorem ints_of {da db dc de : PyData} (h : (intD da && (intD db && (intD dc && intD de))) = true) : ∃ m v o f, da = .int m ∧ db = .int v ∧ dc = .int o ∧ de = .int f := by
  cases da <;> cases db <;> cases dc <;> cases de <;> first | exact ⟨_, _, _, _, rfl, rfl, rfl, rfl⟩ | cases h
section
variable {P : Program} {w : World} {K : PySem.W.Frag} {mg : Str → Option Value} {base : Heap}
theorem ok_cal {f fN : Addr} {fd dN dV : FuncData} (F : FnM K "__call__" "Line.__call__" sCal f fd) (T : Txt K mg) (N : Def P w K mg base CX0 2 "is_between" fN dN ["thing", "low", "high"] (spBtw K)) (Z : Rm P w K mg base dV) : FnOk P w K mg base (L2.CX P w) 3 f fd ["self", "m"] (spCal K) := by
  refine F.ok scC (fun vs H Q E h => ?_) (fun cdv A outer s H vs Q E hr h => ?_)
  · obtain ⟨p, z, e, x, d, rfl, _⟩ := h
    rfl
  · obtain ⟨p, z, e, x, d, rfl, ⟨dx, hp⟩, he, hd, h⟩ := h
    obtain ⟨tf, hfar⟩ := T.far
    refine ⟨_, pss_cons (ps_if (pt_not (pt_val (pe_call N.ok hr (by rfl) N.g N.k N.b .nil pass0 (pa_cons (pv 1) (pa_cons pe_int (pa_cons (pe_gI hfar (by rfl)) pa_nil)))))) (pss_one (ps_raise rfl (takes_of rfl rfl rfl rfl) (pmk_new sV T.bn.x T.bn.nv T.bn.iC T.bn.tI Z.ok (hr.mono (by decide)) Z.b T.bn.g (pv 1) (by rfl)))) pss_nil)
      (pss_one (ps_ret (pe_op op_add (pe_fld (pv 0) rfl) (pe_op op_mulW (pe_fld (pv 0) rfl) (pv 1))))), ?_⟩
    have e0 : start ["self", "m"] [V.ref p, x] = [some (.ref p), some x] := rfl
    rw [e0]
    refine go_seq ?_
    refine ⟨_, rfl, x, 0, _, d, rfl, hd, _, rfl, ?_⟩
    rcases h with ⟨h, b⟩ | ⟨m, rfl, h0, h1, q⟩
    · rw [h]
      exact iteT ⟨_, rfl, fun dd H' s' n hx => b dd H' s' hx⟩
    · have hb : betw 0 (10 ^ 30) (.int m) = true := by
        show (decide (0 ≤ m) && decide (m ≤ 10 ^ 30)) = true
        rw [decide_eq_true h0, decide_eq_true h1]
        rfl
      rw [hb]
      cases hd
      refine iteF (go_next ?_)
      refine ⟨_, rfl, p, CL K, dx, _, _, rfl, hp, T.cl, T.nZ, flds_z _ _, _, rfl, p, CL K, dx, _, _, rfl, hp, T.cl, T.nS, flds_e _ _, _, rfl, _, _, rfl, rfl, wide_mul (b := 200) (far_nat he) ?_ (by decide) (by decide) (by decide), _, _, rfl, rfl, q⟩
      have e2 : (10 : Int) ^ 30 < 2 ^ 200 := by decide +kernel
      omega
theorem ok_num {f fN : Addr} {fd dN dV : FuncData} (F : FnP K "_numbers_of" sNum f fd) (T : Txt K mg) (N : Def P w K mg base CX0 1 "is_integer" fN dN ["thing"] (spInt K)) (Z : Rm P w K mg base dV) : FnOk P w K mg base (L2.CX P w) 3 f fd ["other"] (spNum K) := by
  refine F.ok scO (fun vs H Q E h => ?_) (fun cdv A outer s H vs Q E hr h => ?_)
  · obtain ⟨x, rfl, _⟩ := h
    rfl
  · obtain ⟨x, rfl, h⟩ := h
    refine ⟨_, pss_cons (ps_if (pt_val (pe_callB (call_isCD T.ic) (by rfl) T.isn boot_isinstance (pa_cons (pv 0) (pa_cons (pe_glob (v := .ref (CL K)) (by rfl) T.gL rfl) pa_nil)))) (pss_one (ps_ret (pe_tup (pa_cons (pe_fld (pv 0) rfl) (pa_cons (pe_fld (pv 0) rfl) pa_nil))))) pss_nil)
      (pss_cons (ps_if (pt_not (pt_val (pe_call N.ok (hr.mono (by decide)) (by rfl) N.g N.k N.b .nil pass0 (pa_cons (pv 0) pa_nil)))) (pss_one (ps_raise rfl (takes_of rfl rfl rfl rfl) (pmk_new sV T.bl.x T.bl.nv T.bl.iC T.bl.tI Z.ok (hr.mono (by decide)) Z.b T.bl.g (pv 0) (by rfl)))) pss_nil)
      (pss_one (ps_ret (pe_tup (pa_cons (pv 0) (pa_cons pe_int pa_nil)))))), ?_⟩
    have e0 : start ["other"] [x] = [some x] := rfl
    rw [e0]
    refine go_seq ?_
    refine ⟨_, rfl, x, rfl, ?_⟩
    rcases h with ⟨p, z, e, rfl, ⟨dx, hp⟩, q⟩ | ⟨d, hd, hi, b⟩ | ⟨i, rfl, q⟩
    · refine .inr ⟨p, dx, _, rfl, hp, _, rfl, iteT ?_⟩
      exact ⟨_, rfl, p, CL K, dx, _, _, rfl, hp, T.cl, T.nZ, flds_z _ _, _, rfl, p, CL K, dx, _, _, rfl, hp, T.cl, T.nS, flds_e _ _, by show 2 ≤ sizeLine; decide, q⟩
    · refine .inl ⟨d, hd, T.kt d, _, rfl, iteF (go_next ?_)⟩
      refine ⟨_, rfl, x, d, rfl, hd, _, rfl, ?_⟩
      rw [hi]
      exact iteT ⟨_, rfl, fun dd H' s' n hx => b dd H' s' hx⟩
    · refine .inl ⟨.int i, .int i, T.kt _, _, rfl, iteF (go_next ?_)⟩
      refine ⟨_, rfl, _, .int i, rfl, .int i, _, rfl, ?_⟩
      refine iteF (go_next ?_)
      exact ⟨_, rfl, by show 2 ≤ sizeLine; decide, q⟩
theorem ok_add {f fN fI : Addr} {fd dN dI : FuncData} (F : FnM K "__add__" "Line.__add__" sAdd f fd) (T : Txt K mg) (N : Def P w K mg base (L2.CX P w) 3 "_numbers_of" fN dN ["other"] (spNum K)) (M : MkL P w K mg base fI dI) : FnOk P w K mg base (L2.CX P w) 5 f fd ["self", "other"] (spAdd K) := by
  refine F.ok scA (fun vs H Q E h => ?_) (fun cdv A outer s H vs Q E hr h => ?_)
  · obtain ⟨p, z, e, x, rfl, _⟩ := h
    rfl
  · obtain ⟨p, z, e, x, rfl, ⟨dx, hp⟩, h⟩ := h
    refine ⟨_, pss_cons (ps_asg (pe_call N.ok (hr.mono (by decide)) (by rfl) N.g N.k N.b .nil (passes_call (takes_of rfl rfl rfl rfl) fun _ _ _ _ h => h) (pa_cons (pv 1) pa_nil)) (pg_tup rfl (pgs_cons (pg_name (i := 2) scA.nd rfl (Or.inl rfl)) (pgs_cons (pg_name (i := 3) scA.nd rfl (Or.inl rfl)) pgs_nil))))
      (pss_one (ps_ret (pe_make M.m M.ok hr (by rfl) T.gL M.b .nil (passes_call (takes_of rfl rfl rfl rfl) fun _ _ _ _ h => h) (pa_cons (pe_op op_add (pe_fld (pv 0) rfl) (pv 2)) (pa_cons (pe_op op_add (pe_fld (pv 0) rfl) (pv 3)) pa_nil))))), ?_⟩
    have e0 : start ["self", "other", "at_zero", "slope"] [V.ref p, x] = [some (.ref p), some x, none, none] := rfl
    rw [e0]
    refine go_seq (go_asg ?_)
    refine ⟨_, rfl, x, rfl, ?_⟩
    have fin : ∀ (y d : Int), Res K H Q E (z + y) (e + d) → ∀ t, H t = none → gTup K 2 (gCons (gName 2) (gCons (gName 3) gNil)) (.ref t) [some (.ref p), some x, none, none] (upd H t (.tup [.int y, .int d])) (tRet (tMake (CL K) (spIni K) [] E (tCons (tOp (rI0 fun i j => .int (i + j)) (tFld K (tVar 0) "at_zero") (tVar 2)) (tCons (tOp (rI0 fun i j => .int (i + j)) (tFld K (tVar 0) "slope") (tVar 3)) tNil))) { nx := fun _ H' => Q .non H', rt := Q }) := by
      intro y d r t ht
      have hp' := (upd_ne (o := .tup [.int y, .int d]) (ne_of_none hp ht)).trans hp
      refine ⟨t, _, rfl, SqT.of upd_same, rfl, _, _, rfl, _, _, rfl, rfl, ?_⟩
      refine ⟨_, rfl, p, CL K, dx, _, _, rfl, hp', T.cl, T.nZ, flds_z _ _, _, rfl, _, _, rfl, rfl, _, rfl, p, CL K, dx, _, _, rfl, hp', T.cl, T.nS, flds_e _ _, _, rfl, _, _, rfl, rfl, ?_⟩
      exact make_go (r.mono (same_upd ht))
    rcases h with ⟨q2, y, d, rfl, hq, r⟩ | ⟨d, hd, hi, b⟩ | ⟨i, rfl, r⟩
    · exact .inl ⟨q2, y, d, rfl, hq, fin y d r⟩
    · exact .inr (.inl ⟨d, hd, hi, b⟩)
    · exact .inr (.inr ⟨i, rfl, fin i 0 r⟩)
theorem ok_sub {f fN fI : Addr} {fd dN dI : FuncData} (F : FnM K "__sub__" "Line.__sub__" sSub f fd) (T : Txt K mg) (N : Def P w K mg base (L2.CX P w) 3 "_numbers_of" fN dN ["other"] (spNum K)) (M : MkL P w K mg base fI dI) : FnOk P w K mg base (L2.CX P w) 5 f fd ["self", "other"] (spSub K) := by
  refine F.ok scS (fun vs H Q E h => ?_) (fun cdv A outer s H vs Q E hr h => ?_)
  · obtain ⟨p, z, e, x, rfl, _⟩ := h
    rfl
  · obtain ⟨p, z, e, x, rfl, ⟨dx, hp⟩, h⟩ := h
    refine ⟨_, pss_cons (ps_asg (pe_call N.ok (hr.mono (by decide)) (by rfl) N.g N.k N.b .nil (passes_call (takes_of rfl rfl rfl rfl) fun _ _ _ _ h => h) (pa_cons (pv 1) pa_nil)) (pg_tup rfl (pgs_cons (pg_name (i := 2) scS.nd rfl (Or.inl rfl)) (pgs_cons (pg_name (i := 3) scS.nd rfl (Or.inl rfl)) pgs_nil))))
      (pss_one (ps_ret (pe_make M.m M.ok hr (by rfl) T.gL M.b .nil (passes_call (takes_of rfl rfl rfl rfl) fun _ _ _ _ h => h) (pa_cons (pe_op op_sub (pe_fld (pv 0) rfl) (pv 2)) (pa_cons (pe_op op_sub (pe_fld (pv 0) rfl) (pv 3)) pa_nil))))), ?_⟩
    have e0 : start ["self", "other", "at_zero", "slope"] [V.ref p, x] = [some (.ref p), some x, none, none] := rfl
    rw [e0]
    refine go_seq (go_asg ?_)
    refine ⟨_, rfl, x, rfl, ?_⟩
    have fin : ∀ (y d : Int), Res K H Q E (z - y) (e - d) → ∀ t, H t = none → gTup K 2 (gCons (gName 2) (gCons (gName 3) gNil)) (.ref t) [some (.ref p), some x, none, none] (upd H t (.tup [.int y, .int d])) (tRet (tMake (CL K) (spIni K) [] E (tCons (tOp (rI0 fun i j => .int (i - j)) (tFld K (tVar 0) "at_zero") (tVar 2)) (tCons (tOp (rI0 fun i j => .int (i - j)) (tFld K (tVar 0) "slope") (tVar 3)) tNil))) { nx := fun _ H' => Q .non H', rt := Q }) := by
      intro y d r t ht
      have hp' := (upd_ne (o := .tup [.int y, .int d]) (ne_of_none hp ht)).trans hp
      refine ⟨t, _, rfl, SqT.of upd_same, rfl, _, _, rfl, _, _, rfl, rfl, ?_⟩
      refine ⟨_, rfl, p, CL K, dx, _, _, rfl, hp', T.cl, T.nZ, flds_z _ _, _, rfl, _, _, rfl, rfl, _, rfl, p, CL K, dx, _, _, rfl, hp', T.cl, T.nS, flds_e _ _, _, rfl, _, _, rfl, rfl, ?_⟩
      exact make_go (r.mono (same_upd ht))
    rcases h with ⟨q2, y, d, rfl, hq, r⟩ | ⟨d, hd, hi, b⟩ | ⟨i, rfl, r⟩
    · exact .inl ⟨q2, y, d, rfl, hq, fin y d r⟩
    · exact .inr (.inl ⟨d, hd, hi, b⟩)
    · exact .inr (.inr ⟨i, rfl, fin i 0 r⟩)
theorem ok_mul {f fN fI : Addr} {fd dN dI dV : FuncData} (F : FnM K "__mul__" "Line.__mul__" sMul f fd) (T : Txt K mg) (N : Def P w K mg base CX0 1 "is_integer" fN dN ["thing"] (spIntX K)) (M : MkL P w K mg base fI dI) (Z : Rm P w K mg base dV) : FnOk P w K mg base (L2.CX P w) 5 f fd ["self", "other"] (spMul K) := by
  refine F.ok scM (fun vs H Q E h => ?_) (fun cdv A outer s H vs Q E hr h => ?_)
  · obtain ⟨p, z, e, x, rfl, _⟩ := h
    rfl
  · obtain ⟨p, z, e, x, rfl, ⟨dx, hp⟩, fz, fe, h⟩ := h
    refine ⟨_, pss_cons (ps_if (pt_not (pt_val (pe_call N.ok (hr.mono (by decide)) (by rfl) N.g N.k N.b .nil pass0 (pa_cons (pv 1) pa_nil)))) (pss_one (ps_raise rfl (takes_of rfl rfl rfl rfl) (pmk_new sV T.bl.x T.bl.nv T.bl.iC T.bl.tI Z.ok (hr.mono (by decide)) Z.b T.bl.g (pv 1) (by rfl)))) pss_nil)
      (pss_one (ps_ret (pe_make M.m M.ok hr (by rfl) T.gL M.b .nil (passes_call (takes_of rfl rfl rfl rfl) fun _ _ _ _ h => h) (pa_cons (pe_op op_mulW (pe_fld (pv 0) rfl) (pv 1)) (pa_cons (pe_op op_mulW (pe_fld (pv 0) rfl) (pv 1)) pa_nil))))), ?_⟩
    have e0 : start ["self", "other"] [V.ref p, x] = [some (.ref p), some x] := rfl
    rw [e0]
    refine go_seq ?_
    refine ⟨_, rfl, x, rfl, ?_⟩
    rcases h with ⟨q2, y, d, rfl, ⟨dq, hq⟩, b⟩ | ⟨d, hd, hi, b⟩ | ⟨i, rfl, hw, r⟩
    · refine .inr ⟨q2, dq, _, rfl, hq, _, rfl, ?_⟩
      exact iteT ⟨_, rfl, fun dd H' s' n hx => b dd H' s' hx⟩
    · refine .inl ⟨d, hd, _, rfl, ?_⟩
      rw [hi]
      exact iteT ⟨_, rfl, fun dd H' s' n hx => b dd H' s' hx⟩
    · refine .inl ⟨.int i, .int i, _, rfl, ?_⟩
      refine iteF (go_next ?_)
      refine ⟨_, rfl, p, CL K, dx, _, _, rfl, hp, T.cl, T.nZ, flds_z _ _, _, rfl, _, _, rfl, rfl, wide_mul (far_nat fz) hw (by decide) (by decide) (by decide), _, rfl, p, CL K, dx, _, _, rfl, hp, T.cl, T.nS, flds_e _ _, _, rfl, _, _, rfl, rfl, wide_mul (far_nat fe) hw (by decide) (by decide) (by decide), ?_⟩
      exact make_go r
theorem ok_eq {f : Addr} {fd : FuncData} (F : FnM K "__eq__" "Line.__eq__" sEq f fd) (T : Txt K mg) : FnOk P w K mg base CX0 1 f fd ["self", "other"] (spEq K) := by
  refine F.ok scE (fun vs H Q E h => ?_) (fun cdv A outer s H vs Q E hr h => ?_)
  · obtain ⟨p, x, z, e, rfl, _⟩ := h
    rfl
  · obtain ⟨p, x, z, e, rfl, ⟨dx, hp⟩, h⟩ := h
    refine ⟨_, pss_one (ps_ret (pe_and (pe_callB (call_isCD T.ic) (by rfl) T.isn boot_isinstance (pa_cons (pv 1) (pa_cons (pe_glob (v := .ref (CL K)) (by rfl) T.gL rfl) pa_nil)))
      (pe_and (pe_cmpR op_eq (pe_fld (pv 0) rfl) (pe_fld (pv 1) rfl) (nomark _)) (pe_one (pe_cmpR op_eq (pe_fld (pv 0) rfl) (pe_fld (pv 1) rfl) (nomark _)))))), ?_⟩
    have e0 : start ["self", "other"] [V.ref p, x] = [some (.ref p), some x] := rfl
    rw [e0]
    refine ⟨_, rfl, x, rfl, ?_⟩
    rcases h with ⟨q, y, d, rfl, ⟨dy, hq⟩, go⟩ | ⟨d, hd, go⟩
    · refine .inr ⟨q, dy, _, rfl, hq, _, rfl, iteT ?_⟩
      refine ⟨_, rfl, p, CL K, dx, _, _, rfl, hp, T.cl, T.nZ, flds_z _ _, _, rfl, q, CL K, dy, _, _, rfl, hq, T.cl, T.nZ, flds_z _ _, rfl, _, rfl, ?_⟩
      show if decide (V.int z = V.int y) = true then _ else _
      rw [dec_vi]
      by_cases h1 : z = y
      · rw [decide_eq_true h1]
        refine iteT ⟨_, rfl, p, CL K, dx, _, _, rfl, hp, T.cl, T.nS, flds_e _ _, _, rfl, q, CL K, dy, _, _, rfl, hq, T.cl, T.nS, flds_e _ _, rfl, ?_⟩
        show Q (.bl (decide (V.int e = V.int d))) H
        rw [dec_vi]
        rw [decide_eq_true h1, Bool.true_and] at go
        exact go
      · rw [decide_eq_false h1]
        rw [decide_eq_false h1, Bool.false_and] at go
        exact iteF go
    · exact .inl ⟨d, hd, T.kt d, _, rfl, iteF go⟩
theorem ok_bet {f fN fB fI : Addr} {fd dN dB dI : FuncData} (F : FnP K "line_between" sBet f fd) (T : Txt K mg) (N : Def P w K mg base CX0 1 "is_integer" fN dN ["thing"] (spInt K)) (B : Def P w K mg base CX0 2 "is_between" fB dB ["thing", "low", "high"] (spBtw K)) (M : MkL P w K mg base fI dI) : FnOk P w K mg base (L2.CX P w) 5 f fd ["m", "value", "other", "further"] (spBet K) := by
  refine F.ok scW (fun vs H Q E h => ?_) (fun cdv A outer s H vs Q E hr h => ?_)
  · obtain ⟨a, b, c, e, da, db, dc, de, rfl, _⟩ := h
    rfl
  · obtain ⟨a, b, c, e, da, db, dc, de, rfl, ha, hb, hc, he, sm, qn, qs⟩ := h
    obtain ⟨tm, hm⟩ := T.most
    have hr1 : Room 1 _ := hr.mono (by decide)
    have hr2 : Room 2 _ := hr.mono (by decide)
    refine ⟨_, pss_cons (ps_if (PW.pt (pw_or (pt_not (pt_val (pe_callB (cr_all rfl) (by rfl) T.all boot_all (pa_cons (pe_lc (own := [("number", 7)]) (g := gName 7) (tt := tYes) rfl scW.nd (pi_tup (pe_tup (pa_cons (pv 0) (pa_cons (pv 1) (pa_cons (pv 2) (pa_cons (pv 3) pa_nil)))))) (blkOk_by (N := ["m", "value", "other", "further", "slope", "rest", "at_zero", "number"]) (sc := defScope sBet) (by decide +kernel)) (fun _ _ _ _ _ => pg_name (i := 7) scW.nd rfl (Or.inl rfl)) (fun _ _ _ _ _ => pts_nil) (fun _ _ _ _ _ => pe_call N.ok hr1 (by rfl) N.g N.k N.b .nil pass0 (pa_cons (pv 7) pa_nil))) pa_nil))))
          (pw_or1 (pt_not (pt_chain op_le op_lt pe_int (pv 0) (pv 2)))))) (pss_one (ps_ret pe_non)) pss_nil)
      (pss_cons (ps_asg (pe_callB call_divmod (by rfl) T.divmod boot_divmod (pa_cons (pe_op op_sub (pv 3) (pv 1)) (pa_cons (pe_op op_sub (pv 2) (pv 0)) pa_nil))) (pg_tup rfl (pgs_cons (pg_name (i := 4) scW.nd rfl (Or.inl rfl)) (pgs_cons (pg_name (i := 5) scW.nd rfl (Or.inl rfl)) pgs_nil))))
      (pss_cons (ps_set (i := 6) scW.nd rfl (Or.inl rfl) (pe_op op_sub (pv 1) (pe_op op_mul (pv 4) (pv 0))))
      (pss_cons (ps_if (PW.pt (pw_or (pt_cmpR op_ne (pv 5) pe_int (nomark _)) (pw_or (pt_not (pt_val (pe_call B.ok hr2 (by rfl) B.g B.k B.b .nil pass0 (pa_cons (pv 4) (pa_cons (pe_un un_neg (pe_gI hm (by rfl))) (pa_cons (pe_gI hm (by rfl)) pa_nil))))))
          (pw_or1 (pt_not (pt_val (pe_call B.ok hr2 (by rfl) B.g B.k B.b .nil pass0 (pa_cons (pv 6) (pa_cons (pe_un un_neg (pe_gI hm (by rfl))) (pa_cons (pe_gI hm (by rfl)) pa_nil)))))))))) (pss_one (ps_ret pe_non)) pss_nil)
      (pss_one (ps_ret (pe_make M.m M.ok hr (by rfl) T.gL M.b .nil (passes_call (takes_of rfl rfl rfl rfl) fun _ _ _ _ h => h) (pa_cons (pv 6) (pa_cons (pv 4) pa_nil)))))))), ?_⟩
    have e0 : start ["m", "value", "other", "further", "slope", "rest", "at_zero", "number"] [a, b, c, e] = [some a, some b, some c, some e, none, none, none, none] := rfl
    rw [e0]
    refine go_seq ?_
    refine ⟨_, rfl, _, rfl, _, rfl, _, rfl, by show 4 ≤ sizeLine; decide, fun t ht => ⟨t, rfl, ⟨_, SqT.of upd_same⟩, fun D hD => ?_⟩⟩
    have s0 := same_upd (o := .tup [a, b, c, e]) ht
    have htt : (upd H t (.tup [a, b, c, e])) t = some (.tup [a, b, c, e]) := upd_same
    generalize upd H t (.tup [a, b, c, e]) = G at s0 htt hD ⊢
    have hall : DpAll K G [a, b, c, e] [da, db, dc, de] := .cons (Dp.same s0 ha) (.cons (Dp.same s0 hb) (.cons (Dp.same s0 hc) (.cons (Dp.same s0 he) .nil)))
    refine lc_tup (K := K) (a := t) (xs := [a, b, c, e]) (fun i H' => Same G H' ∧ H' D = some (.lst ((([da, db, dc, de].take i).map intD).map V.bl))) ⟨same_upd hD, upd_same⟩ (fun i H' _ q => SqT.of (q.1 _ _ htt)) ?_ ?_
    · rintro i v H' hv ⟨s', hD'⟩
      obtain ⟨dv, hdv, hDv⟩ := DpAll.at hall hv
      refine ⟨rfl, _, rfl, v, dv, rfl, Dp.same s' hDv, ?_⟩
      refine ⟨_, hD', ?_, fun b' o e' => ?_, ?_⟩
      · rw [List.length_map, List.length_map, List.length_take, sizeLine_eq]
        show min i 4 < _
        omega
      · by_cases hb' : b' = D
        · rw [hb', hD] at e'
          cases e'
        · exact (upd_ne hb').trans (s' b' o e')
      · rw [upd_same, List.take_add_one, hdv, List.map_append, List.map_append]
        rfl
    · rintro H' ⟨s', hD'⟩
      refine ⟨D, [da, db, dc, de].map intD, rfl, SqL.of hD', ?_⟩
      have sH := s0.trans s'
      have eall : ([da, db, dc, de].map intD).all id = (intD da && (intD db && (intD dc && intD de))) := by simp
      refine ⟨_, rfl, ?_⟩
      rw [eall]
      cases hi : (intD da && (intD db && (intD dc && intD de))) with
      | false => exact iteT (iteT (qn (thr_none hi) H' sH))
      | true =>
        obtain ⟨m, v, o, fu, rfl, rfl, rfl, rfl⟩ := ints_of hi
        cases ha; cases hb; cases hc; cases he
        obtain ⟨sm1, sm2, sm3, sm4⟩ := sm m o rfl rfl
        have et : thrD (.int m) (.int v) (.int o) (.int fu) = thrI m v o fu := rfl
        rw [et] at qn qs
        unfold thrI at qn qs
        refine iteF ?_
        refine ⟨_, rfl, _, _, rfl, rfl, _, rfl, ?_⟩
        have none_of : ¬ (0 ≤ m ∧ m < o ∧ (fu - v) % (o - m) = 0 ∧ Far ((fu - v) / (o - m)) ∧ Far (v - (fu - v) / (o - m) * m)) → ∀ H', Same H H' → Q .non H' := fun n => qn (if_neg n)
        refine ite_dec (fun m0 => ?_) fun m0 => ⟨_, rfl, iteT (none_of (fun x => m0 x.1) H' sH)⟩
        refine ⟨_, rfl, _, _, rfl, rfl, _, rfl, ?_⟩
        by_cases m1 : m < o
        · rw [decide_eq_true m1]
          refine iteF (go_next ?_)
          dsimp only
          refine go_seq (go_asg ?_)
          refine ⟨_, rfl, _, rfl, _, _, rfl, rfl, _, rfl, _, rfl, _, _, rfl, rfl, _, _, rfl, ⟨by omega, by omega⟩, fun t2 ht2 => ?_⟩
          refine ⟨t2, _, rfl, SqT.of upd_same, rfl, _, _, rfl, _, _, rfl, rfl, ?_⟩
          have s2 := same_upd (o := .tup [.int ((fu - v) / (o - m)), .int ((fu - v) % (o - m))]) ht2
          have sH2 := sH.trans s2
          generalize upd H' t2 (.tup [.int ((fu - v) / (o - m)), .int ((fu - v) % (o - m))]) = G2 at s2 sH2 ⊢
          walk_at "nx"
          refine ⟨_, rfl, _, rfl, _, rfl, _, _, rfl, rfl, .inr ⟨by omega, by omega⟩, _, _, rfl, rfl, ?_⟩
          refine ⟨_, rfl, rfl, _, rfl, ?_⟩
          show if (!decide (V.int ((fu - v) % (o - m)) = V.int 0)) = true then _ else _
          rw [dec_vi]
          by_cases r0 : (fu - v) % (o - m) = 0
          · rw [decide_eq_true r0]
            refine iteF ?_
            refine ⟨_, rfl, _, rfl, .int ((fu - v) / (o - m)), _, _, .int ((fu - v) / (o - m)), rfl, .int _, _, rfl, ?_⟩
            have e1 : betw (-(10 ^ 400)) (10 ^ 400) (.int ((fu - v) / (o - m))) = decide (Far ((fu - v) / (o - m))) := lineD_far
            rw [e1]
            by_cases f1 : Far ((fu - v) / (o - m))
            · rw [decide_eq_true f1]
              refine iteF ?_
              refine ⟨_, rfl, _, rfl, .int (v - (fu - v) / (o - m) * m), _, _, .int (v - (fu - v) / (o - m) * m), rfl, .int _, _, rfl, ?_⟩
              have e2 : betw (-(10 ^ 400)) (10 ^ 400) (.int (v - (fu - v) / (o - m) * m)) = decide (Far (v - (fu - v) / (o - m) * m)) := lineD_far
              rw [e2]
              by_cases f2 : Far (v - (fu - v) / (o - m) * m)
              · rw [decide_eq_true f2]
                refine iteF (go_next ?_)
                refine ⟨_, rfl, _, rfl, ?_⟩
                refine make_go (.inr (.inr ⟨f2, f1, fun r H3 s3 _ hL => ?_⟩))
                exact qs _ _ (if_pos ⟨m0, m1, r0, f1, f2⟩) r H3 (sH2.trans s3) hL
              · rw [decide_eq_false f2]
                exact iteT (none_of (fun x => f2 x.2.2.2.2) _ sH2)
            · rw [decide_eq_false f1]
              exact iteT (iteT (none_of (fun x => f1 x.2.2.2.1) _ sH2))
          · rw [decide_eq_false r0]
            exact iteT (iteT (none_of (fun x => r0 x.2.2.1) _ sH2))
        · rw [decide_eq_false m1]
          exact iteT (none_of (fun x => m1 x.2.1) H' sH)
theorem ok_thr {f fB : Addr} {fd dB dV : FuncData} (F : FnM K "through" "Line.through" sThr f fd) (T : Txt K mg) (B : Def P w K mg base (L2.CX P w) 5 "line_between" fB dB ["m", "value", "other", "further"] (spBet K)) (Z : Rm P w K mg base dV) : FnOk P w K mg base (L2.CX P w) 6 f fd ["m", "value", "other", "further"] (spThr K) := by
  refine F.ok scT (fun vs H Q E h => ?_) (fun cdv A outer s H vs Q E hr h => ?_)
  · obtain ⟨a, b, c, e, da, db, dc, de, rfl, _⟩ := h
    rfl
  · obtain ⟨a, b, c, e, da, db, dc, de, rfl, ha, hb, hc, he, sm, qn, qs⟩ := h
    refine ⟨_, pss_cons (ps_set (i := 4) scT.nd rfl (Or.inl rfl) (pe_call B.ok hr (by rfl) B.g B.k B.b .nil (passes_call (takes_of rfl rfl rfl rfl) fun _ _ _ _ h => h) (pa_cons (pv 0) (pa_cons (pv 1) (pa_cons (pv 2) (pa_cons (pv 3) pa_nil))))))
      (pss_cons (ps_if (pt_cmpR op_isN (pv 4) pe_non (by rfl)) (pss_one (ps_raise rfl (takes_of rfl rfl rfl rfl) (pmk_new sV T.bl.x T.bl.nv T.bl.iC T.bl.tI Z.ok (hr.mono (by decide)) Z.b T.bl.g (pe_tup (pa_cons (pv 0) (pa_cons (pv 1) (pa_cons (pv 2) (pa_cons (pv 3) pa_nil))))) (by rfl)))) pss_nil)
      (pss_one (ps_ret (pv 4)))), ?_⟩
    have e0 : start ["m", "value", "other", "further", "line"] [a, b, c, e] = [some a, some b, some c, some e, none] := rfl
    rw [e0]
    refine go_seq (go_asg ?_)
    refine ⟨_, rfl, _, rfl, _, rfl, _, rfl, a, b, c, e, da, db, dc, de, rfl, ha, hb, hc, he, sm, fun hn H' s' => ?_, fun z w hz r H' s' hL => ?_⟩
    · refine ⟨_, rfl, rfl, _, rfl, ?_⟩
      refine iteT ?_
      refine ⟨_, rfl, _, rfl, _, rfl, _, rfl, by show 4 ≤ sizeLine; decide, fun t ht => ?_⟩
      intro dd H2 s2 n hx
      have st := same_upd (o := .tup [a, b, c, e]) ht
      exact qn hn dd t H2 (s'.trans (st.trans s2)) (s2 _ _ upd_same) hx
    · refine ⟨_, rfl, rfl, _, rfl, ?_⟩
      refine iteF (go_next ?_)
      exact ⟨_, rfl, qs z w hz r H' s' hL⟩
end
end L2.L49

set_option maxHeartbeats 1000000
namespace L2.L49
open PySem PySem.Spec PyProof.Rows LR L2.Lr
local macro_rules | `(tactic| walk_at "rd") => `(tactic| simp only [tSeq, tAsg, gName, tIfS, tTest, tOp, tIf, tInt, rI, rI0, tVar, tC, tCB, tCons, tNil, tNext, tRet, tLst, rIxL, CPow, CMul, gSub, rSetL, rIxT,
  List.getElem?_cons_zero, List.getElem?_cons_succ, List.set_cons_zero, List.set_cons_succ, Option.some.injEq, V.int.injEq, V.ref.injEq, V.bl.injEq, V.str.injEq, List.cons.injEq, and_true, true_and, exists_and_left, exists_eq_left', exists_eq_left, exists_eq, decide_eq_true_eq, or_true, true_or, List.length_cons, List.length_nil, Nat.zero_add, Nat.reduceAdd])
local macro_rules | `(tactic| walk_at "so") => `(tactic| repeat (first | refine And.intro (by omega) ?_ | refine And.intro (by decide) ?_))
local macro_rules | `(tactic| walk_at "nx") => `(tactic| dsimp only [gName, tNext, tSeq, tAsg, List.set_cons_zero, List.set_cons_succ])
abbrev sPool : Stmt := top 15
abbrev sTake : Stmt := top 16
abbrev sFar : Stmt := top 17
abbrev sNmb : Stmt := top 18
abbrev sMade : Stmt := top 19
abbrev sDue : Stmt := top 20
abbrev sSame : Stmt := top 21
abbrev sSum : Stmt := top 22
abbrev sSumD : Stmt := top 23
abbrev sVal : Stmt := top 24
abbrev sThrL : Stmt := top 25
abbrev sThrD : Stmt := top 26
abbrev sOdd : Stmt := top 27
abbrev sLaw : Stmt := top 28
theorem scP : FnScope ["_law_script", "_law_k", "_law_cell", "_law_seed"] ["_law_script", "_law_k"] (defScope sPool) := ⟨rfl, rfl, rfl, by decide +kernel, rfl, by decide +kernel, by decide +kernel⟩
theorem scK : FnScope ["_law_pool_here", "_law_many", "_law_found"] ["_law_pool_here", "_law_many"] (defScope sTake) := ⟨rfl, rfl, rfl, by decide +kernel, rfl, by decide +kernel, by decide +kernel⟩
theorem scFr : FnScope ["_law_many"] [] (defScope sFar) := ⟨rfl, rfl, rfl, by decide +kernel, rfl, by decide +kernel, by decide +kernel⟩
theorem scD : FnScope ["_law_pool_here", "_law_way", "_law_far_here", "_law_small", "_law_great"] ["_law_pool_here"] (defScope sNmb) := ⟨rfl, rfl, rfl, by decide +kernel, rfl, by decide +kernel, by decide +kernel⟩
theorem scMd : FnScope ["_law_pair", "_law_kept", "e"] ["_law_pair"] (defScope sMade) := ⟨rfl, rfl, rfl, by decide +kernel, rfl, by decide +kernel, by decide +kernel⟩
theorem scDu : FnScope ["_law_pair", "_law_number_here"] ["_law_pair"] (defScope sDue) := ⟨rfl, rfl, rfl, by decide +kernel, rfl, by decide +kernel, by decide +kernel⟩
theorem scSm : FnScope ["_law_found", "_law_due_here"] ["_law_found", "_law_due_here"] (defScope sSame) := ⟨rfl, rfl, rfl, by decide +kernel, rfl, by decide +kernel, by decide +kernel⟩
/-! ### what the law draws -/
def PoolAt (H : Hp) (p : Addr) : Prop := ∃ c s : Int, H p = some (.lst [.int c, .int s]) ∧ 0 ≤ c ∧ 0 ≤ s ∧ s < 2147483648
/-- all but p stays -/
def Adv (p : Addr) (H H' : Hp) : Prop := ∀ b o, H b = some o → b ≠ p → H' b = some o
theorem Adv.refl {p : Addr} {H : Hp} : Adv p H H := fun _ _ h _ => h
theorem Adv.trans {p : Addr} {H H1 H2 : Hp} (a : Adv p H H1) (b : Adv p H1 H2) : Adv p H H2 := fun c o h n => b c o (a c o h n) n
theorem Adv.same {p : Addr} {H H1 H2 : Hp} (a : Adv p H H1) (b : Same H1 H2) : Adv p H H2 := fun c o h n => b c o (a c o h n)
theorem Same.adv {p : Addr} {H H1 H2 : Hp} (a : Same H H1) (b : Adv p H1 H2) : Adv p H H2 := fun c o h n => b c o (a c o h) n
theorem Adv.new {p : Addr} {H H1 : Hp} (n : H p = none) (a : Adv p H H1) : Same H H1 := fun c o h => a c o h (ne_of_none h n)
theorem PoolAt.ne {H : Hp} {p t : Addr} {xs : List V} (h : PoolAt H p) (e : H t = some (.tup xs)) : t ≠ p := by
  obtain ⟨c, s, hp, _⟩ := h
  intro z
  rw [z, hp] at e
  cases e
theorem PoolAt.same {H H' : Hp} {p : Addr} (h : PoolAt H p) (s : Same H H') : PoolAt H' p := by
  obtain ⟨c, s', hp, q⟩ := h
  exact ⟨c, s', s _ _ hp, q⟩
theorem Adv.none {p t : Addr} {H H1 : Hp} (a : Adv p H H1) (hp : PoolAt H1 p) (n : H1 t = .none) : H t = .none := by
  cases e : H t with
  | none => rfl
  | some o =>
    obtain ⟨c, s, hq, _⟩ := hp
    by_cases h : t = p
    · rw [h, hq] at n
      cases n
    · rw [a t o e h] at n
      cases n
def spPool (K : PySem.W.Frag) : Sp := fun vs H Q _ => ∃ (a : Addr) (ns : List Int) (k : Int), vs = [.ref a, .int k] ∧ SqL K H a (ns.map V.int) ∧ ns.length ≤ 1000 ∧ 0 ≤ k ∧ k < 1000 ∧
  ∀ (p : Addr) (H' : Hp), H p = none → Same H H' → PoolAt H' p → Q (.ref p) H'
def spTake : Sp := fun vs H Q _ => ∃ (p : Addr) (m : Int), vs = [.ref p, .int m] ∧ PoolAt H p ∧ 0 < m ∧ m < 2 ^ 128 ∧
  ∀ (r : Int) (H' : Hp), 0 ≤ r → r < m → Adv p H H' → PoolAt H' p → Q (.int r) H'
def spFar : Sp := fun vs H Q _ => vs = [] ∧ Q (.int (10 ^ 400)) H
def spNmb : Sp := fun vs H Q _ => ∃ p : Addr, vs = [.ref p] ∧ PoolAt H p ∧ ∀ (r : Int) (H' : Hp), Far r → Adv p H H' → PoolAt H' p → Q (.int r) H'
/-! ### answers -/
def Pick (a b : Int) (bad : Int → Prop) (good : Prop) : Prop := (¬ Far a ∧ bad a) ∨ (Far a ∧ ¬ Far b ∧ bad b) ∨ (Far a ∧ Far b ∧ good)
theorem Pick.imp {a b : Int} {p p' : Int → Prop} {g g' : Prop} (h : Pick a b p g) (f : ∀ i, p i → p' i) (k : g → g') : Pick a b p' g' := by
  rcases h with ⟨h, q⟩ | ⟨h1, h2, q⟩ | ⟨h1, h2, q⟩
  · exact .inl ⟨h, f _ q⟩
  · exact .inr (.inl ⟨h1, h2, f _ q⟩)
  · exact .inr (.inr ⟨h1, h2, k q⟩)
theorem Pick.of {a b : Int} {p : Int → Prop} {g : Prop} (f : ∀ i, p i) (k : g) : Pick a b p g := by
  by_cases h1 : Far a
  · by_cases h2 : Far b
    · exact .inr (.inr ⟨h1, h2, k⟩)
    · exact .inr (.inl ⟨h1, h2, f _⟩)
  · exact .inl ⟨h1, f _⟩
theorem Pick.both {a b : Int} {p p' : Int → Prop} {g g' : Prop} {C : Prop} (h : Pick a b p g) (h' : Pick a b p' g') (f : ∀ i, p i → p' i → C) (k : g → g' → C) : C := by
  rcases h with ⟨h, q⟩ | ⟨h1, h2, q⟩ | ⟨h1, h2, q⟩
  · rcases h' with ⟨_, q'⟩ | ⟨z, _⟩ | ⟨z, _⟩
    · exact f _ q q'
    · exact absurd z h
    · exact absurd z h
  · rcases h' with ⟨z, _⟩ | ⟨_, _, q'⟩ | ⟨_, z, _⟩
    · exact absurd h1 z
    · exact f _ q q'
    · exact absurd z h2
  · rcases h' with ⟨z, _⟩ | ⟨_, z, _⟩ | ⟨_, _, q'⟩
    · exact absurd h1 z
    · exact absurd h2 z
    · exact k q q'
def BadAt (H : Hp) (v x : V) : Prop := ∃ l, v = .ref l ∧ H l = some (.lst [.str "bad", x])
def LnAt (K : PySem.W.Frag) (H : Hp) (v : V) (a b : Int) : Prop := ∃ r, v = .ref r ∧ LineAt K H r a b
def PrAt (H : Hp) (v : V) (a b : Int) : Prop := ∃ t, v = .ref t ∧ H t = some (.tup [.int a, .int b])
def IsMade (K : PySem.W.Frag) (H : Hp) (v : V) (a b : Int) : Prop := Pick a b (fun i => v = .int i) (LnAt K H v a b)
def IsDue (H : Hp) (v : V) (a b : Int) : Prop := Pick a b (fun i => v = .int i) (PrAt H v a b)
def IsOut (K : PySem.W.Frag) (H : Hp) (v : V) (a b : Int) : Prop := Pick a b (fun i => BadAt H v (.int i)) (LnAt K H v a b)
def IsDueS (H : Hp) (v : V) (a b : Int) : Prop := Pick a b (fun i => BadAt H v (.int i)) (PrAt H v a b)
theorem BadAt.same {H H' : Hp} {v x : V} (h : BadAt H v x) (s : Same H H') : BadAt H' v x := let ⟨l, e, h⟩ := h; ⟨l, e, s _ _ h⟩
theorem LnAt.same {K : PySem.W.Frag} {H H' : Hp} {v : V} {a b : Int} (h : LnAt K H v a b) (s : Same H H') : LnAt K H' v a b := let ⟨l, e, h⟩ := h; ⟨l, e, h.same s⟩
theorem PrAt.same {H H' : Hp} {v : V} {a b : Int} (h : PrAt H v a b) (s : Same H H') : PrAt H' v a b := let ⟨l, e, h⟩ := h; ⟨l, e, s _ _ h⟩
theorem IsMade.same {K : PySem.W.Frag} {H H' : Hp} {v : V} {a b : Int} (h : IsMade K H v a b) (s : Same H H') : IsMade K H' v a b := h.imp (fun _ q => q) fun q => q.same s
theorem IsOut.same {K : PySem.W.Frag} {H H' : Hp} {v : V} {a b : Int} (h : IsOut K H v a b) (s : Same H H') : IsOut K H' v a b := h.imp (fun _ q => q.same s) fun q => q.same s
/-- what _law_same is asked -/
def notTup : PyData → Bool
  | .tuple _ => false
  | _ => true
def Agree (K : PySem.W.Frag) (H : Hp) (x y : V) : Prop := (∃ d, Dp K H x d ∧ Dp K H y d ∧ SeqAt.shaped d = true ∧ notTup d = true) ∨ ∃ a b, LnAt K H x a b ∧ PrAt H y a b
def badD (d : PyData) : PyData := .list [.str "bad", d]
theorem bad_dp {K : PySem.W.Frag} {H : Hp} {v x : V} {d : PyData} (h : BadAt H v x) (hx : Dp K H x d) : Dp K H v (badD d) := by
  obtain ⟨l, rfl, h⟩ := h
  exact .lst (SqL.of h) (.cons (.str _) (.cons hx .nil))
theorem agree_bad {K : PySem.W.Frag} {H : Hp} {v u x y : V} {d : PyData} (h : BadAt H v x) (g : BadAt H u y) (hx : Dp K H x d) (hy : Dp K H y d) (sh : SeqAt.shaped (badD d) = true) : Agree K H v u :=
  .inl ⟨badD d, bad_dp h hx, bad_dp g hy, sh, rfl⟩
theorem shI (i : Int) : SeqAt.shaped (.int i) = true := rfl
theorem shBI (i : Int) : SeqAt.shaped (badD (.int i)) = true := by
  simp [badD, SeqAt.shaped, PyData.canLay0, PyData.canLayAll0, PyData.depth, PyData.depthAll]
  decide +kernel
theorem agree_made {K : PySem.W.Frag} {H : Hp} {v u : V} {a b : Int} (h : IsMade K H v a b) (g : IsDue H u a b) : Agree K H v u :=
  Pick.both h g (fun i e e' => .inl ⟨.int i, by rw [e]; exact .int i, by rw [e']; exact .int i, shI i, rfl⟩) fun x y => .inr ⟨a, b, x, y⟩
theorem agree_sum {K : PySem.W.Frag} {H : Hp} {v u : V} {a b : Int} (h : IsOut K H v a b) (g : IsDueS H u a b) : Agree K H v u :=
  Pick.both h g (fun i e e' => agree_bad e e' (.int i) (.int i) (shBI i)) fun x y => .inr ⟨a, b, x, y⟩
def spMade (K : PySem.W.Frag) : Sp := fun vs H Q _ => ∃ (t : Addr) (x y : V) (d e : PyData), vs = [.ref t] ∧ SqT K H t [x, y] ∧ Dp K H x d ∧ Dp K H y e ∧
  ((lineD d = false ∧ ∀ H', Same H H' → Q x H') ∨ (lineD d = true ∧ lineD e = false ∧ ∀ H', Same H H' → Q y H') ∨ ∃ z w, d = .int z ∧ e = .int w ∧ Far z ∧ Far w ∧ ∀ v H', Same H H' → LnAt K H' v z w → Q v H')
def spDue (K : PySem.W.Frag) : Sp := fun vs H Q _ => ∃ (t : Addr) (a b : Int), vs = [.ref t] ∧ H t = some (.tup [.int a, .int b]) ∧ ∀ v, IsDue H v a b → (v = .ref t ∨ ∃ i, v = .int i) → Q v H
def spSame (K : PySem.W.Frag) : Sp := fun vs H Q _ => ∃ x y, vs = [x, y] ∧ Agree K H x y ∧ Q (.bl true) H
theorem made_go {K : PySem.W.Frag} {H : Hp} {t : Addr} {a b : Int} {Q : VK} {E : XK} (h : H t = some (.tup [.int a, .int b])) (q : ∀ v H', Same H H' → IsMade K H' v a b → Q v H') : spMade K [.ref t] H Q E := by
  refine ⟨t, .int a, .int b, .int a, .int b, rfl, SqT.of h, .int a, .int b, ?_⟩
  by_cases h1 : Far a
  · by_cases h2 : Far b
    · exact .inr (.inr ⟨a, b, rfl, rfl, h1, h2, fun v H' s l => q v H' s (.inr (.inr ⟨h1, h2, l⟩))⟩)
    · exact .inr (.inl ⟨by rw [lineD_far, decide_eq_true h1], by rw [lineD_far, decide_eq_false h2], fun H' s => q _ H' s (.inr (.inl ⟨h1, h2, rfl⟩))⟩)
  · exact .inl ⟨by rw [lineD_far, decide_eq_false h1], fun H' s => q _ H' s (.inl ⟨h1, rfl⟩)⟩
section
variable {P : Program} {w : World} {K : PySem.W.Frag} {mg : Str → Option Value} {base : Heap}
theorem ok_pool {f : Addr} {fd : FuncData} (F : FnP K "_law_pool" sPool f fd) (T : Txt K mg) : FnOk P w K mg base CX0 1 f fd ["_law_script", "_law_k"] (spPool K) := by
  refine F.ok scP (fun vs H Q E h => ?_) (fun cdv A outer s H vs Q E hr h => ?_)
  · obtain ⟨a, ns, k, rfl, _⟩ := h
    rfl
  · obtain ⟨a, ns, k, rfl, hS, hl, h0, h1, q⟩ := h
    refine ⟨_, pss_cons (ps_set (i := 2) scP.nd rfl (Or.inl rfl) (pe_ifExp (pt_cmpR op_lt (pv 1) (pe_callB call_len (by rfl) T.len boot_len (pa_cons (pv 0) pa_nil)) (nomark _)) (pe_ix ix_list (pv 0) (pv 1) (fun _ _ => rfl)) pe_int))
      (pss_cons (ps_set (i := 3) scP.nd rfl (Or.inl rfl) (pe_op op_mul (pe_toI T.int (pe_op op_add (pe_op op_add (pe_op op_mod (pe_toI T.int (pv 2) (by rfl)) pe_int) (pe_op op_mul (pe_op op_mul pe_int (pv 1)) (pv 1))) pe_int) (by rfl)) pe_int))
      (pss_one (ps_ret (pe_lst (pa_cons (pe_ifExp (pt_cmpR op_ge (pv 2) (pe_op op_pow pe_int pe_int) (nomark _)) (pv 2) pe_int) (pa_cons (pe_op op_add (pe_op op_mod (pe_toI T.int (pv 3) (by rfl)) pe_int) pe_int) pa_nil)))))), ?_⟩
    have e0 : start ["_law_script", "_law_k", "_law_cell", "_law_seed"] [V.ref a, V.int k] = [some (.ref a), some (.int k), none, none] := rfl
    rw [e0]
    have fin : ∀ (c x : Int) (p : Addr), 0 ≤ c → H p = none → Q (.ref p) (upd H p (.lst [.int c, .int (x % 2147483647 + 1)])) := fun c x p hc hp => q p _ hp (same_upd hp) ⟨c, _, upd_same, hc, by omega, by omega⟩
    walk_at "rd"
    have e2 : (10 : Int) ^ (Int.toNat 18) = 1000000000000000000 := by decide
    rw [e2]
    refine ⟨(ns.map V.int).length, Or.inl ⟨_, hS, rfl⟩, ?_⟩
    rw [List.length_map]
    split
    · rename_i hk
      obtain ⟨z, ez⟩ : ∃ z, ns[k.toNat]? = some z := ⟨_, List.getElem?_eq_getElem (by omega)⟩
      refine ⟨_, hS, .int z, ?_, z, rfl, ?_⟩
      · have e1 : k = (k.toNat : Int) := by omega
        rw [e1]
        exact atI_nat (by rw [List.getElem?_map, ez]; rfl)
      · walk_at "so"
        refine ⟨z, rfl, ?_⟩
        split
        · rename_i hz
          refine ⟨by decide, by show 2 ≤ sizeLine; decide, fun p hp => fin z _ p (by omega) hp⟩
        · exact ⟨by decide, by show 2 ≤ sizeLine; decide, fun p hp => fin 0 _ p (Int.le_refl 0) hp⟩
    · walk_at "so"
      exact fun p hp => fin 0 _ p (Int.le_refl 0) hp
theorem ok_take {f : Addr} {fd : FuncData} (F : FnP K "_law_take" sTake f fd) (T : Txt K mg) : FnOk P w K mg base CX0 1 f fd ["_law_pool_here", "_law_many"] spTake := by
  refine F.ok scK (fun vs H Q E h => ?_) (fun cdv A outer s H vs Q E hr h => ?_)
  · obtain ⟨a, m, rfl, _⟩ := h
    rfl
  · obtain ⟨p, m, rfl, ⟨c, s, hp, hc, hs0, hs1⟩, hm0, hm1, q⟩ := h
    refine ⟨_, pss_cons (ps_if (pt_cmpR op_gt (pe_ix ix_list (pv 0) pe_int (fun _ _ => rfl)) pe_int (nomark _))
        (pss_cons (ps_set (i := 2) scK.nd rfl (Or.inl rfl) (pe_op op_mod (pe_toI T.int (pe_ix ix_list (pv 0) pe_int (fun _ _ => rfl)) (by rfl)) (pv 1)))
        (pss_cons (ps_asg (pe_op op_fdivW (pe_ix ix_list (pv 0) pe_int (fun _ _ => rfl)) (pv 1)) (pg_sub (pv 0) pe_int set_list))
        (pss_one (ps_ret (pv 2))))) pss_nil)
      (pss_cons (ps_asg (pe_op op_mod (pe_toI T.int (pe_op op_add (pe_op op_mul (pe_ix ix_list (pv 0) pe_int (fun _ _ => rfl)) pe_int) pe_int) (by rfl)) pe_int) (pg_sub (pv 0) pe_int set_list))
      (pss_one (ps_ret (pe_op op_mod (pe_op op_fdiv (pe_op op_mod (pe_toI T.int (pe_op op_mul (pe_ix ix_list (pv 0) pe_int (fun _ _ => rfl)) (pe_ix ix_list (pv 0) pe_int (fun _ _ => rfl))) (by rfl)) pe_int) pe_int) (pv 1))))), ?_⟩
    have e0 : start ["_law_pool_here", "_law_many", "_law_found"] [V.ref p, V.int m] = [some (.ref p), some (.int m), none] := rfl
    rw [e0]
    have fin : ∀ (r c' s' : Int), 0 ≤ r → r < m → 0 ≤ c' → 0 ≤ s' → s' < 2147483648 → Q (.int r) (upd H p (.lst [.int c', .int s'])) := fun r c' s' h0 h1 hc' hs0' hs1' =>
      q r _ h0 h1 (fun b o e n => (upd_ne n).trans e) ⟨c', s', upd_same, hc', hs0', hs1'⟩
    walk_at "rd"
    refine ⟨_, SqL.of hp, _, rfl, c, rfl, ?_⟩
    split
    · refine ⟨_, SqL.of hp, _, rfl, c, rfl, hm0, _, SqL.of hp, _, rfl, c, rfl, wide_div (b := 128) hm0 (by omega) (by decide) (by decide), _, hp, 0, rfl, ?_⟩
      exact fin _ _ s (Int.emod_nonneg _ (by omega)) (Int.emod_lt_of_pos _ hm0) (Int.ediv_nonneg hc (by omega)) hs0 hs1
    · refine ⟨_, SqL.of hp, .int s, rfl, s, rfl, by omega, by decide, _, hp, 1, rfl, _, SqL.of upd_same, _, rfl, _, SqL.of upd_same, _, rfl, _, rfl, _, rfl, .inl (by omega), by decide, ⟨by decide, by decide⟩, hm0, ?_⟩
      exact fin _ c _ (Int.emod_nonneg _ (by omega)) (Int.emod_lt_of_pos _ hm0) hc (by omega) (by omega)
theorem ok_far {f : Addr} {fd : FuncData} (F : FnP K "_law_far" sFar f fd) : FnOk P w K mg base CX0 1 f fd [] spFar := by
  refine F.ok scFr (fun vs H Q E h => ?_) (fun cdv A outer s H vs Q E hr h => ?_)
  · obtain ⟨rfl, _⟩ := h
    rfl
  · obtain ⟨rfl, q⟩ := h
    refine ⟨_, PSs.nox (pss_cons (ps_set (i := 0) scFr.nd rfl (Or.inl rfl) (pe_op op_pow pe_int pe_int))
      (pss_one (ps_ret (pe_op op_mulW (pe_op op_mulW (pe_op op_mulW (pe_op op_mulW (pe_op op_mulW (pe_op op_mulW (pe_op op_mulW (pv 0) (pv 0)) (pv 0)) (pv 0)) (pv 0)) (pv 0)) (pv 0)) (pv 0))))), ?_⟩
    have e0 : start ["_law_many"] [] = [none] := rfl
    rw [e0]
    refine go_seq (go_asg ?_)
    refine ⟨_, _, rfl, rfl, ⟨by decide, by decide, by decide⟩, ?_⟩
    refine ⟨_, rfl, _, rfl, _, _, rfl, rfl, by unfold CMulW; decide +kernel, ?_⟩
    refine ⟨_, rfl, _, _, rfl, rfl, by unfold CMulW; decide +kernel, ?_⟩
    refine ⟨_, rfl, _, _, rfl, rfl, by unfold CMulW; decide +kernel, ?_⟩
    refine ⟨_, rfl, _, _, rfl, rfl, by unfold CMulW; decide +kernel, ?_⟩
    refine ⟨_, rfl, _, _, rfl, rfl, by unfold CMulW; decide +kernel, ?_⟩
    refine ⟨_, rfl, _, _, rfl, rfl, by unfold CMulW; decide +kernel, ?_⟩
    refine ⟨_, rfl, _, _, rfl, rfl, by unfold CMulW; decide +kernel, ?_⟩
    have e2 : (10 : Int) ^ 400 = ((10 : Int) ^ (Int.toNat 50)) * ((10 : Int) ^ (Int.toNat 50)) * ((10 : Int) ^ (Int.toNat 50)) * ((10 : Int) ^ (Int.toNat 50)) * ((10 : Int) ^ (Int.toNat 50)) * ((10 : Int) ^ (Int.toNat 50)) * ((10 : Int) ^ (Int.toNat 50)) * ((10 : Int) ^ (Int.toNat 50)) := by decide +kernel
    rw [e2] at q
    exact q
theorem far_big {z : Int} (h : z.natAbs ≤ 10 ^ 20) : Far z := by
  have e : (10 : Int) ^ 400 ≥ 10 ^ 20 := by decide +kernel
  have e2 : (10 : Int) ^ 20 = ((10 ^ 20 : Nat) : Int) := by decide +kernel
  constructor <;> omega
theorem ok_nmb {f fT fF : Addr} {fd dT dF : FuncData} (F : FnP K "_law_number" sNmb f fd) (T : Txt K mg) (N : Def P w K mg base CX0 1 "_law_take" fT dT ["_law_pool_here", "_law_many"] spTake) (Fa : Def P w K mg base CX0 1 "_law_far" fF dF [] spFar) : FnOk P w K mg base CX0 2 f fd ["_law_pool_here"] spNmb := by
  refine F.ok scD (fun vs H Q E h => ?_) (fun cdv A outer s H vs Q E hr h => ?_)
  · obtain ⟨p, rfl, _⟩ := h
    rfl
  · obtain ⟨p, rfl, hp, q⟩ := h
    refine ⟨_, PSs.nox (C8.pss_cut (ps_par (i := 1) (j := 2) (by rfl) scD.nd rfl rfl (by decide) rfl rfl (pa_cons (pe_call N.ok hr (by rfl) N.g N.k N.b .nil pass0 (pa_cons (pv 0) (pa_cons pe_int pa_nil))) (pa_cons (pe_call0 Fa.ok hr (by rfl) Fa.g Fa.k Fa.b .nil pass0) pa_nil)) (by rfl))
      (C8.pss_cut (ps_par (i := 3) (j := 4) (by rfl) scD.nd rfl rfl (by decide) rfl rfl (pa_cons (pe_op op_sub (pe_call N.ok hr (by rfl) N.g N.k N.b .nil pass0 (pa_cons (pv 0) (pa_cons pe_int pa_nil))) pe_int) (pa_cons (pe_call N.ok hr (by rfl) N.g N.k N.b .nil pass0 (pa_cons (pv 0) (pa_cons (pe_op op_pow pe_int pe_int) pa_nil))) pa_nil)) (by rfl))
      (pss_one (ps_ret (pe_ix ix_list (pe_lst (pa_cons (pv 3) (pa_cons (pv 3) (pa_cons (pv 4) (pa_cons (pe_un un_neg (pv 4)) (pa_cons (pe_op op_sub (pv 2) (pe_callB call_abs (by rfl) T.abs boot_abs (pa_cons (pv 3) pa_nil))) (pa_cons (pe_op op_sub (pe_callB call_abs (by rfl) T.abs boot_abs (pa_cons (pv 3) pa_nil)) (pv 2)) pa_nil))))))) (pv 1) (fun _ _ => rfl)))))), ?_⟩
    have e0 : start ["_law_pool_here", "_law_way", "_law_far_here", "_law_small", "_law_great"] [V.ref p] = [some (.ref p), none, none, none, none] := rfl
    rw [e0]
    refine ⟨fun σ' H' => ∃ w : Int, σ' = [some (.ref p), some (.int w), some (.int (10 ^ 400)), none, none] ∧ 0 ≤ w ∧ w < 6 ∧ Adv p H H' ∧ PoolAt H' p, ?_, ?_⟩
    · refine ⟨_, rfl, p, 6, rfl, hp, by decide, by decide, fun way H1 w0 w1 a1 hp1 => ⟨rfl, ?_⟩⟩
      exact ⟨_, _, rfl, way, rfl, w0, w1, a1, hp1⟩
    rintro σ1 H1 ⟨way, rfl, w0, w1, a1, hp1⟩
    refine ⟨fun σ' H' => ∃ s g : Int, σ' = [some (.ref p), some (.int way), some (.int (10 ^ 400)), some (.int s), some (.int g)] ∧ -4 ≤ s ∧ s ≤ 4 ∧ 0 ≤ g ∧ g < 10 ^ 18 ∧ Adv p H H' ∧ PoolAt H' p, ?_, ?_⟩
    · refine ⟨_, rfl, p, 9, rfl, hp1, by decide, by decide, fun s H2 s0 s1 a2 hp2 => ⟨_, _, rfl, rfl, ?_⟩⟩
      have e : ((10 : Int) ^ (Int.toNat 18)) = 1000000000000000000 := by decide
      refine ⟨_, rfl, _, _, rfl, rfl, ⟨by decide, by decide, by decide⟩, p, _, rfl, hp2, by decide, by decide, fun g H3 g0 g1 a3 hp3 => ?_⟩
      rw [e] at g1
      exact ⟨_, _, rfl, s - 4, g, rfl, by omega, by omega, g0, by omega, (a1.trans a2).trans a3, hp3⟩
    rintro σ2 H2 ⟨s, g, rfl, s0, s1, g0, g1, a2, hp2⟩
    have fin : ∀ (r : Int) (l : Addr) (o : HO), Far r → H2 l = none → Q (.int r) (upd H2 l o) := fun r l o hr n => q r _ hr (a2.same (same_upd n)) (hp2.same (same_upd n))
    refine ⟨_, rfl, _, rfl, _, rfl, _, rfl, _, rfl, _, rfl, _, rfl, _, rfl, _, _, rfl, rfl, _, rfl, _, rfl, _, rfl, _, _, rfl, rfl, ?_⟩
    refine ⟨by show 6 ≤ sizeLine; decide, fun l nl => ⟨_, rfl, ?_⟩⟩
    generalize hx : (if s < 0 then -s else s) = x
    have x0 : 0 ≤ x ∧ x ≤ 4 := by
      rw [← hx]
      split <;> omega
    obtain ⟨r, h1, h2⟩ : ∃ r : Int, atI [V.int s, V.int s, V.int g, V.int (-g), V.int (10 ^ 400 - x), V.int (x - 10 ^ 400)] way = some (.int r) ∧ Far r := by
      have h6 : way = 0 ∨ way = 1 ∨ way = 2 ∨ way = 3 ∨ way = 4 ∨ way = 5 := by omega
      rcases h6 with rfl | rfl | rfl | rfl | rfl | rfl
      · exact ⟨_, rfl, far_big (by omega)⟩
      · exact ⟨_, rfl, far_big (by omega)⟩
      · exact ⟨_, rfl, far_big (by omega)⟩
      · exact ⟨_, rfl, far_big (by omega)⟩
      · refine ⟨_, rfl, ?_⟩
        have e : (10 : Int) ^ 400 ≥ 10 := by decide +kernel
        constructor <;> omega
      · refine ⟨_, rfl, ?_⟩
        have e : (10 : Int) ^ 400 ≥ 10 := by decide +kernel
        constructor <;> omega
    exact ⟨l, _, way, _, rfl, rfl, SqL.of upd_same, h1, fin r l _ h2 nl⟩
theorem ok_made {f fI : Addr} {fd dI : FuncData} (F : FnP K "_law_made" sMade f fd) (T : Txt K mg) (M : MkL P w K mg base fI dI) : FnOk P w K mg base CX0 5 f fd ["_law_pair"] (spMade K) := by
  refine F.ok scMd (fun vs H Q E h => ?_) (fun cdv A outer s H vs Q E hr h => ?_)
  · obtain ⟨t, x, y, d, e, rfl, _⟩ := h
    rfl
  · obtain ⟨t, x, y, d, e, rfl, ht, hd, he, h⟩ := h
    refine ⟨_, pss_cons (ps_set (i := 1) scMd.nd rfl (Or.inl rfl) pe_non)
      (pss_cons (ps_try_as (i := 2) rfl rfl scMd.nd rfl rfl ⟨rfl, by decide, .inl T.bl.g⟩ takes0 (fun W pn xe tk _ => pss_one (ps_set (i := 1) scMd.nd rfl (Or.inl rfl) (pe_makeS M.m M.ok hr (by rfl) T.gL M.b (fun σ => passAt tk σ) (pa_cons (pe_ix (show IxR _ (rIxT K) from ix_tup) (pv 0) pe_int (fun _ _ => rfl)) (pa_cons (pe_ix (show IxR _ (rIxT K) from ix_tup) (pv 0) pe_int (fun _ _ => rfl)) pa_nil)))))
        (fun a oe cls d pn hz hf => pss_one (ps_set (i := 1) scMd.nd rfl (Or.inl rfl) (pe_xv hz hf (pv 2)))))
      (pss_one (ps_ret (pv 1)))), ?_⟩
    have e0 : start ["_law_pair", "_law_kept", "e"] [V.ref t] = [some (.ref t), none, none] := rfl
    rw [e0]
    refine go_seq (go_asg ?_)
    refine go_next ?_
    refine ⟨_, rfl, t, _, 0, x, rfl, rfl, ht, rfl, _, rfl, t, _, 1, y, rfl, rfl, ht, rfl, fun p dx hp hdx hne => ?_⟩
    have sl : Same H (upd (upd H dx (.own p)) p (.ins (CL K) dx [])) := laid_same hp hdx
    refine ⟨p, dx, x, y, d, e, rfl, upd_same, Dp.same sl hd, Dp.same sl he, ?_⟩
    rcases h with ⟨h1, q⟩ | ⟨h1, h2, q⟩ | ⟨z, w', rfl, rfl, h1, h2, q⟩
    · refine .inl ⟨h1, fun dd H' s' hx => ⟨true, T.bl.e, fun _ a na => ?_, fun z => nomatch z⟩⟩
      refine ⟨_, rfl, rfl, CB K, dd, _, _, xV, rfl, rfl, T.bl.x, T.bl.nv, hx, rfl, ?_⟩
      exact ⟨_, rfl, q _ (sl.trans s')⟩
    · refine .inr (.inl ⟨h1, h2, fun dd H' s' hx => ⟨true, T.bl.e, fun _ a na => ?_, fun z => nomatch z⟩⟩)
      refine ⟨_, rfl, rfl, CB K, dd, _, _, xV, rfl, rfl, T.bl.x, T.bl.nv, hx, rfl, ?_⟩
      exact ⟨_, rfl, q _ (sl.trans s')⟩
    · refine .inr (.inr ⟨z, w', rfl, rfl, h1, h2, fun H' keep hL => ⟨rfl, ?_⟩⟩)
      exact ⟨_, rfl, q _ H' (make_same hp hdx keep) ⟨p, rfl, hL⟩⟩
theorem abs_far (i : Int) : decide ((if i < 0 then -i else i) > 10 ^ 400) = !decide (Far i) := by
  have e : (10 : Int) ^ 400 > 0 := by decide +kernel
  by_cases h : Far i
  · rw [decide_eq_true h]
    refine decide_eq_false ?_
    obtain ⟨h1, h2⟩ := h
    split <;> omega
  · rw [decide_eq_false h]
    refine decide_eq_true ?_
    unfold Far at h
    split <;> omega
theorem ok_due {f fF : Addr} {fd dF : FuncData} (F : FnP K "_law_due" sDue f fd) (T : Txt K mg) (Fa : Def P w K mg base CX0 1 "_law_far" fF dF [] spFar) : FnOk P w K mg base CX0 2 f fd ["_law_pair"] (spDue K) := by
  refine F.ok scDu (fun vs H Q E h => ?_) (fun cdv A outer s H vs Q E hr h => ?_)
  · obtain ⟨t, a, b, rfl, _⟩ := h
    rfl
  · obtain ⟨t, a, b, rfl, ht, q⟩ := h
    refine ⟨_, PSs.nox (pss_cons (ps_for PassesOwn.never rfl (pi_tup (pv 0)) (pg_name (i := 1) scDu.nd rfl (Or.inl rfl)) (pss_one (ps_if (pt_cmpR op_gt (pe_callB call_abs (by rfl) T.abs boot_abs (pa_cons (pv 1) pa_nil)) (pe_call0 Fa.ok hr (by rfl) Fa.g Fa.k Fa.b .nil pass0) (nomark _)) (pss_one (ps_ret (pv 1))) pss_nil)))
      (pss_one (ps_ret (pv 0)))), ?_⟩
    have e0 : start ["_law_pair", "_law_number_here"] [V.ref t] = [some (.ref t), none] := rfl
    rw [e0]
    refine go_seq ?_
    refine ⟨_, rfl, t, rfl, ⟨_, SqT.of ht⟩, for_tupD (K := K) (a := t) (xs := [.int a, .int b]) (fun i σ H' => H' = H ∧ (∃ o, σ = [some (.ref t), o]) ∧ (1 ≤ i → Far a) ∧ (2 ≤ i → Far b))
      ⟨rfl, ⟨_, rfl⟩, fun z => absurd z (by decide), fun z => absurd z (by decide)⟩ (fun i σ H' _ h => by rw [h.1]; exact SqT.of ht) ?_ ?_⟩
    · rintro D' i v σ H2 hrt hnx - - hi ⟨rfl, ⟨o, rfl⟩, p1, p2⟩
      obtain ⟨z, rfl, hbad, hgo⟩ : ∃ z, v = .int z ∧ (¬ Far z → IsDue H2 (.int z) a b) ∧ (Far z → (1 ≤ i + 1 → Far a) ∧ (2 ≤ i + 1 → Far b)) := by
        match i, hi with
        | 0, hi => cases hi; exact ⟨a, rfl, fun n => .inl ⟨n, rfl⟩, fun z => ⟨fun _ => z, fun z2 => absurd z2 (by decide)⟩⟩
        | 1, hi => cases hi; exact ⟨b, rfl, fun n => .inr (.inl ⟨p1 (Nat.le_refl _), n, rfl⟩), fun z => ⟨fun _ => p1 (Nat.le_refl _), fun _ => z⟩⟩
      refine ⟨_, rfl, _, rfl, rfl, _, _, rfl, rfl, _, rfl, ?_⟩
      rw [abs_far]
      by_cases hz : Far z
      · rw [decide_eq_true hz]
        exact iteF (hnx _ _ ⟨rfl, ⟨_, rfl⟩, hgo hz⟩)
      · rw [decide_eq_false hz]
        refine iteT ⟨_, rfl, ?_⟩
        rw [hrt]
        exact q _ (hbad hz) (.inr ⟨z, rfl⟩)
    · rintro σ H2 ⟨rfl, ⟨o, rfl⟩, p1, p2⟩
      exact ⟨_, rfl, q _ (.inr (.inr ⟨p1 (by show 1 ≤ 2; decide), p2 (by show 2 ≤ 2; decide), t, rfl, ht⟩)) (.inl rfl)⟩
theorem ok_same {f : Addr} {fd : FuncData} (F : FnP K "_law_same" sSame f fd) (T : Txt K mg) : FnOk P w K mg base CX0 1 f fd ["_law_found", "_law_due_here"] (spSame K) := by
  refine F.ok scSm (fun vs H Q E h => ?_) (fun cdv A outer s H vs Q E hr h => ?_)
  · obtain ⟨x, y, rfl, _⟩ := h
    rfl
  · obtain ⟨x, y, rfl, ha, q⟩ := h
    have hu := hr.units
    refine ⟨_, PSs.nox (pss_cons (ps_if (pt_not (pt_val (pe_isD T.isn (pv 1) (pe_bltn (v := .ty "tuple") (by rfl) T.tuple bbT (by rfl)) (by rfl)))) (pss_one (ps_ret (pe_cmpR (op_eqD hu) (pv 0) (pv 1) (nomark _)))) pss_nil)
      (pss_one (ps_ret (pe_and (pe_callB (call_isCD T.ic) (by rfl) T.isn boot_isinstance (pa_cons (pv 0) (pa_cons (pe_glob (v := .ref (CL K)) (by rfl) T.gL rfl) pa_nil)))
        (pe_and (pe_cmpR op_eq (pe_fld (pv 0) rfl) (pe_ix ix_tup (pv 1) pe_int (fun _ _ => rfl)) (nomark _)) (pe_one (pe_cmpR op_eq (pe_fld (pv 0) rfl) (pe_ix ix_tup (pv 1) pe_int (fun _ _ => rfl)) (nomark _)))))))), ?_⟩
    have e0 : start ["_law_found", "_law_due_here"] [x, y] = [some x, some y] := rfl
    rw [e0]
    refine go_seq ?_
    rcases ha with ⟨d, hx, hy, sh, nt⟩ | ⟨a, b, ⟨p, rfl, dx, hp⟩, ⟨t, rfl, ht⟩⟩
    · have fin : tRet (tOp (rEqD K) (tVar 0) (tVar 1)) { nx := fun _ _ => False, rt := Q } [some x, some y] H := by
        refine ⟨_, rfl, _, rfl, d, d, hx, hy, sh, sh, ?_⟩
        rw [SeqAt.eqv_refl _ (SeqAt.canLay_of_shaped sh)]
        exact q
      have kb : kitB (tyN d) "tuple" = some false := by
        cases d with
        | tuple _ => cases nt
        | dict _ => cases hx
        | none => exact (by decide +kernel : kitB "NoneType" "tuple" = some false)
        | bool _ => exact (by decide +kernel : kitB "bool" "tuple" = some false)
        | int _ => exact (by decide +kernel : kitB "int" "tuple" = some false)
        | str _ => exact (by decide +kernel : kitB "str" "tuple" = some false)
        | list _ => exact (by decide +kernel : kitB "list" "tuple" = some false)
      exact ⟨_, rfl, d, false, hy, kb, _, rfl, iteT fin⟩
    · refine ⟨_, rfl, .tuple [.int a, .int b], true, .tup (SqT.of ht) (.cons (.int a) (.cons (.int b) .nil)), (by decide +kernel : kitB "tuple" "tuple" = some true), _, rfl, iteF (go_next ?_)⟩
      refine ⟨_, rfl, _, rfl, .inr ⟨p, dx, _, rfl, hp, _, rfl, iteT ?_⟩⟩
      refine ⟨_, rfl, p, CL K, dx, _, _, rfl, hp, T.cl, T.nZ, flds_z _ _, _, rfl, t, _, 0, .int a, rfl, rfl, SqT.of ht, rfl, rfl, _, rfl, ?_⟩
      refine Eq.mpr (if_pos (decide_eq_true rfl)) ?_
      refine ⟨_, rfl, p, CL K, dx, _, _, rfl, hp, T.cl, T.nS, flds_e _ _, _, rfl, t, _, 1, .int b, rfl, rfl, SqT.of ht, rfl, rfl, ?_⟩
      show Q (.bl (decide (V.int b = V.int b))) H
      rw [decide_eq_true rfl]
      exact q
end
end L2.L49

set_option maxHeartbeats 1000000
namespace L2.L49
open PySem PySem.Spec PyProof.Rows LR L2.Lr
local macro_rules | `(tactic| walk_at "nx") => `(tactic| dsimp only [gName, tNext, tSeq, tAsg, List.set_cons_zero, List.set_cons_succ])
section
open StX
variable {X : Cx} {CX : CXT} {k : Nat} {f C : Addr} {fd : FuncData} {ps : List Str} {sp : Sp}
/-- o(..) in a try -/
def tCallI (C : Addr) (sp : Sp) (E : St → XK) (tf : TE) (t : TA) : TE := fun σ H Q => tf σ H fun y H1 => ∃ a, y = V.ref a ∧ t σ H1 fun vs H2 => (∃ dx fs, H2 a = some (.ins C dx fs)) ∧ sp (V.ref a :: vs) H2 Q (E σ)
theorem pe_callI {E : St → XK} {fe e : Expr} {es : List Expr} {tf : TE} {t : TA} {pos : Pos} (hf : PE X fe tf) (c : CallO X.K C f) (F : FnOk X.prog X.w X.K X.mg X.base CX k f fd ps sp) (hr : Room k X.A) (hb : Binds X.K fd ps []) (hx : ∀ σ, PassesAt CX X σ (E σ)) (ha : PA X (e :: es) t)
    (ht : eval (.Call fe (e :: es) [] pos) X.env = (do callWith pos (← eval fe X.env) [] (backTo pos (starEach (e :: es) X.env)) (backToKw pos (keywordEach [] X.env))) := by rfl)
    (he : starEach (e :: es) X.env = (false, eval e X.env) :: starEach es X.env := by rfl) (hpl : (backTo pos (starEach es X.env)).any (·.1) = false := by rfl) : PE X (.Call fe (e :: es) [] pos) (tCallI C sp E tf t) := by
  refine ⟨fun pins s σ H Q I h => Call_ (thn (hf.run pins s σ H _ I h) fun u s1 ⟨y, H1, I1, ry, a, ey, q⟩ => ?_) ht⟩
  subst ey
  cases ry
  refine callO_with (thn (ha.run pos pins s1 σ H1 _ I1 q) fun us s2 ⟨vs, H2, I2, r, hi, q2⟩ => ?_) he hpl
  obtain ⟨ox, od, J, hd⟩ := insC_at I2 (.inr hi)
  refine ⟨⟨_, _, _, J, hd⟩, ?_⟩
  have r2 : Vals (V.ref a :: vs) (Value.ref a :: us) := .cons rfl r
  have hl : (Value.ref a :: us).length = ps.length := r2.length.symm.trans (F.len _ _ _ _ q2)
  have bb : BindsTo s2 fd ⟨Value.ref a :: us, []⟩ (ps.zip (Value.ref a :: us)) := by simpa using hb s2 (Value.ref a :: us) I2.kIn (by simpa using hl)
  refine wpAny_call (PySem.W.kco_code I2.kIn J hd c.at_ c.fn c.fi (codeAny_mono (F.run X.A X.stack s2 H2 ⟨Value.ref a :: us, []⟩ _ _ Q (E σ) hr I2.env0 bb r2 q2) fun z s' hz => ?_))
  match z, hz with
  | .error e, hz => exact hx σ pins _ _ e s' I2 hz
  | .ok (.ret u), hz => exact I2.after hz
  | .ok .next, hz => exact hz.elim
  | .ok .brk, hz => exact hz.elim
  | .ok .cont, hz => exact hz.elim
end
section
open StX
variable {X : Cx} {CX : CXT} {k : Nat} {f C : Addr} {fd : FuncData} {ps : List Str} {sp : Sp}
def rOwnA (K : PySem.W.Frag) (C : Addr) (sp : Sp) (E : St → XK) (σ : St) : R2 := fun x y H Q => ∃ a dx fs, x = .ref a ∧ H a = some (.ins C dx fs) ∧ ((∃ t, KindV K H y t) ∨ ∃ b dy gs, y = .ref b ∧ H b = some (.ins C dy gs)) ∧ sp [.ref a, y] H Q (E σ)
theorem pe_ownA {E : St → XK} {op : Operator} {a b : Expr} {ta tb : TE} {pos : Pos} (K : PySem.W.Frag) (hK : X.K = K) (o : OwnOps K C f op) (F : FnOk X.prog X.w X.K X.mg X.base CX k f fd ps sp) (hr : Room k X.A) (hb : Binds X.K fd ps []) (hx : ∀ σ, PassesAt CX X σ (E σ)) (ha : PE X a ta) (hb' : PE X b tb) : PE X (.BinOp a op b pos) (tOpA (rOwnA K C sp E) ta tb) := by
  subst hK
  exact pe_opA (op_ownA o F hr hb hx) ha hb'
end
theorem scSu : FnScope ["_law_line", "_law_other", "_law_way", "_law_kept", "e"] ["_law_line", "_law_other", "_law_way"] (defScope sSum) := ⟨rfl, rfl, rfl, by decide +kernel, rfl, by decide +kernel, by decide +kernel⟩
theorem scSd : FnScope ["_law_one", "_law_other", "_law_way", "_law_pair", "_law_made_here", "_law_sign", "_law_due_here"] ["_law_one", "_law_other", "_law_way"] (defScope sSumD) := ⟨rfl, rfl, rfl, by decide +kernel, rfl, by decide +kernel, by decide +kernel⟩
theorem scVa : FnScope ["_law_line", "_law_m", "_law_kept", "e"] ["_law_line", "_law_m"] (defScope sVal) := ⟨rfl, rfl, rfl, by decide +kernel, rfl, by decide +kernel, by decide +kernel⟩
theorem scTl : FnScope ["_law_told", "_law_kept", "e"] ["_law_told"] (defScope sThrL) := ⟨rfl, rfl, rfl, by decide +kernel, rfl, by decide +kernel, by decide +kernel⟩
theorem scTd : FnScope ["_law_told", "_law_m", "_law_value_here", "_law_other", "_law_further", "_law_each", "_law_slope", "_law_pair"] ["_law_told"] (defScope sThrD) := ⟨rfl, rfl, rfl, by decide +kernel, rfl, by decide +kernel, by decide +kernel⟩
theorem if_eqv {a b : Int} {A B : Prop} (h : a = b) (p : A) : if decide (V.int a = V.int b) = true then A else B := by
  rw [dec_vi, decide_eq_true h]
  exact iteT p
theorem if_nev {a b : Int} {A B : Prop} (h : ¬ a = b) (p : B) : if decide (V.int a = V.int b) = true then A else B := by
  rw [dec_vi, decide_eq_false h]
  exact iteF p
theorem dp_kind {K : PySem.W.Frag} {H : Hp} {x : V} {d : PyData} (h : Dp K H x d) : ∃ t, KindV K H x t := by
  cases h with
  | non => exact ⟨_, .non⟩
  | bl b => exact ⟨_, .bl b⟩
  | int i => exact ⟨_, .int i⟩
  | str s => exact ⟨_, .str s⟩
  | lst h _ => exact ⟨_, .lst h⟩
  | tup h _ => exact ⟨_, .tup h⟩
/-- after a question with an answer: what stays and what it is -/
def Ans (H : Hp) (Q : VK) (p : V → Hp → Prop) : Prop := ∀ v H', Same H H' → p v H' → Q v H'
def wz (way z y : Int) : Int := if way = 2 then z * y else z + (1 - 2 * way) * y
def we (way e y d : Int) : Int := if way = 2 then e * y else e + (1 - 2 * way) * d
def spSum (K : PySem.W.Frag) : Sp := fun vs H Q _ => ∃ (p : Addr) (x : V) (way z e : Int), vs = [.ref p, x, .int way] ∧ LineAt K H p z e ∧ Far z ∧ Far e ∧ (way = 0 ∨ way = 1 ∨ way = 2) ∧
  ((∃ q y d, x = .ref q ∧ LineAt K H q y d ∧ way ≠ 2 ∧ Ans H Q fun v H' => IsOut K H' v (wz way z y) (we way e y d)) ∨ (∃ q y d, x = .ref q ∧ LineAt K H q y d ∧ way = 2 ∧ Ans H Q fun v H' => BadAt H' v x) ∨
    (∃ d, Dp K H x d ∧ intD d = false ∧ Ans H Q fun v H' => BadAt H' v x) ∨ ∃ i, x = .int i ∧ i.natAbs < 2 ^ 1400 ∧ Ans H Q fun v H' => IsOut K H' v (wz way z i) (we way e i 0))
def spSumD (K : PySem.W.Frag) : Sp := fun vs H Q _ => ∃ (t : Addr) (x : V) (way z e : Int), vs = [.ref t, x, .int way] ∧ H t = some (.tup [.int z, .int e]) ∧ Far z ∧ Far e ∧ (way = 0 ∨ way = 1 ∨ way = 2) ∧
  ((∃ u y d, x = .ref u ∧ H u = some (.tup [.int y, .int d]) ∧ way ≠ 2 ∧ Ans H Q fun v H' => IsDueS H' v (wz way z y) (we way e y d)) ∨ ∃ i, x = .int i ∧ i.natAbs < 2 ^ 1400 ∧ Ans H Q fun v H' => IsDueS H' v (wz way z i) (we way e i 0))
def spVal (K : PySem.W.Frag) : Sp := fun vs H Q _ => ∃ (p : Addr) (x : V) (z e : Int) (d : PyData), vs = [.ref p, x] ∧ LineAt K H p z e ∧ Far e ∧ Dp K H x d ∧
  ((betw 0 (10 ^ 30) d = false ∧ Ans H Q fun v H' => BadAt H' v x) ∨ ∃ m, d = .int m ∧ 0 ≤ m ∧ m ≤ 10 ^ 30 ∧ Ans H Q fun v _ => v = .int (z + e * m))
/-- ['bad', (..)] -/
def BadT (H : Hp) (v : V) (xs : List V) : Prop := ∃ t, BadAt H v (.ref t) ∧ H t = some (.tup xs)
def spThrL (K : PySem.W.Frag) : Sp := fun vs H Q _ => ∃ (t : Addr) (a b c e : V) (da db dc de : PyData), vs = [.ref t] ∧ H t = some (.tup [a, b, c, e]) ∧ Dp K H a da ∧ Dp K H b db ∧ Dp K H c dc ∧ Dp K H e de ∧ Small4 da dc ∧
  (thrD da db dc de = none → Ans H Q fun v H' => BadT H' v [a, b, c, e]) ∧ ∀ z w, thrD da db dc de = some (z, w) → Ans H Q fun v H' => LnAt K H' v z w
def IsThrD (H : Hp) (v : V) (t : Addr) : Option (Int × Int) → Prop
  | none => BadAt H v (.ref t)
  | some p => PrAt H v p.1 p.2
def spThrD (K : PySem.W.Frag) : Sp := fun vs H Q _ => ∃ (t : Addr) (m v o f : Int), vs = [.ref t] ∧ H t = some (.tup [.int m, .int v, .int o, .int f]) ∧ -1000 ≤ m ∧ m ≤ 1000 ∧ -1000 ≤ o ∧ o ≤ 1000 ∧ Ans H Q fun u H' => IsThrD H' u t (thrI m v o f)
/-- of an own operator's answer -/
theorem res_go {K : PySem.W.Frag} {H : Hp} {Q G : VK} {E : XK} {a b : Int} (hE : ∀ x, (Ans H G fun v H' => BadAt H' v x) → Bad (CB K) x H E) (hQ : ∀ v H', G v H' → Q v H') (g : Ans H G fun v H' => IsOut K H' v a b) : Res K H Q E a b := by
  by_cases h1 : Far a
  · by_cases h2 : Far b
    · exact .inr (.inr ⟨h1, h2, fun r H' s _ l => hQ _ _ (g _ _ s (.inr (.inr ⟨h1, h2, r, rfl, l⟩)))⟩)
    · exact .inr (.inl ⟨h1, h2, hE _ fun v H' s q => g v H' s (.inr (.inl ⟨h1, h2, q⟩))⟩)
  · exact .inl ⟨h1, hE _ fun v H' s q => g v H' s (.inl ⟨h1, q⟩)⟩
section
variable {P : Program} {w : World} {K : PySem.W.Frag} {mg : Str → Option Value} {base : Heap}
theorem ok_sum {f fA fU fM : Addr} {fd xA xU xM : FuncData} (F : FnP K "_law_sum" sSum f fd) (T : Txt K mg) (oA : OwnOps K (CL K) fA .Add) (FA : FnOk P w K mg base (L2.CX P w) 5 fA xA ["self", "other"] (spAdd K)) (bA : Binds K xA ["self", "other"] [])
    (oU : OwnOps K (CL K) fU .Sub) (FU : FnOk P w K mg base (L2.CX P w) 5 fU xU ["self", "other"] (spSub K)) (bU : Binds K xU ["self", "other"] []) (oM : OwnOps K (CL K) fM .Mult) (FM : FnOk P w K mg base (L2.CX P w) 5 fM xM ["self", "other"] (spMul K)) (bM : Binds K xM ["self", "other"] []) :
    FnOk P w K mg base CX0 6 f fd ["_law_line", "_law_other", "_law_way"] (spSum K) := by
  refine F.ok scSu (fun vs H Q E h => ?_) (fun cdv A outer s H vs Q E hr h => ?_)
  · obtain ⟨p, x, way, z, e, rfl, _⟩ := h
    rfl
  · obtain ⟨p, x, way, z, e, rfl, ⟨dx, hp⟩, fz, fe, hw, h⟩ := h
    refine ⟨_, pss_cons (ps_set (i := 3) scSu.nd rfl (Or.inl rfl) pe_non)
      (pss_cons (ps_try_as (i := 4) rfl rfl scSu.nd rfl rfl ⟨rfl, by decide, .inl T.bl.g⟩ takes0 (fun W pn xe tk _ => pss_one (ps_set (i := 3) scSu.nd rfl (Or.inl rfl)
          (pe_ifExp (pt_cmpR op_eq (pv 2) pe_int (nomark _)) (pe_ownA K rfl oA FA hr bA (fun σ => passAt tk σ) (pv 0) (pv 1)) (pe_ifExp (pt_cmpR op_eq (pv 2) pe_int (nomark _)) (pe_ownA K rfl oU FU hr bU (fun σ => passAt tk σ) (pv 0) (pv 1)) (pe_ownA K rfl oM FM hr bM (fun σ => passAt tk σ) (pv 0) (pv 1))))))
        (fun a oe cls d pn hz hf => pss_one (ps_set (i := 3) scSu.nd rfl (Or.inl rfl) (pe_lst (pa_cons pe_str (pa_cons (pe_xv hz hf (pv 4)) pa_nil))))))
      (pss_one (ps_ret (pv 3)))), ?_⟩
    have e0 : start ["_law_line", "_law_other", "_law_way", "_law_kept", "e"] [V.ref p, x, .int way] = [some (.ref p), some x, some (.int way), none, none] := rfl
    rw [e0]
    refine go_seq (go_asg ?_)
    refine go_next ?_
    have kd : ((∃ t, KindV K H x t) ∨ ∃ b dy gs, x = .ref b ∧ H b = some (.ins (CL K) dy gs)) := by
      rcases h with ⟨q, y, d, rfl, ⟨dy, hq⟩, _⟩ | ⟨q, y, d, rfl, ⟨dy, hq⟩, _⟩ | ⟨d, hd, _⟩ | ⟨i, rfl, _⟩
      · exact .inr ⟨q, dy, _, rfl, hq⟩
      · exact .inr ⟨q, dy, _, rfl, hq⟩
      · exact .inl (dp_kind hd)
      · exact .inl ⟨_, .int i⟩
    have addOf : ∀ (Q' : VK) (E' : XK), way = 0 → (∀ u, (Ans H Q fun v H' => BadAt H' v u) → Bad (CB K) u H E') → (∀ v H', Q v H' → Q' v H') → spAdd K [.ref p, x] H Q' E' := fun Q' E' w0 hE hQ => by
      subst w0
      refine ⟨p, z, e, x, rfl, ⟨dx, hp⟩, ?_⟩
      rcases h with ⟨q, y, d, rfl, hq, _, g⟩ | ⟨q, y, d, rfl, hq, w2, g⟩ | ⟨d, hd, hi, g⟩ | ⟨i, rfl, hi, g⟩
      · refine .inl ⟨q, y, d, rfl, hq, ?_⟩
        have e1 : wz 0 z y = z + y := by unfold wz; rw [if_neg (by decide)]; omega
        have e2 : we 0 e y d = e + d := by unfold we; rw [if_neg (by decide)]; omega
        rw [e1, e2] at g
        exact res_go hE hQ g
      · exact absurd w2 (by decide)
      · exact .inr (.inl ⟨d, hd, hi, hE _ g⟩)
      · refine .inr (.inr ⟨i, rfl, ?_⟩)
        have e1 : wz 0 z i = z + i := by unfold wz; rw [if_neg (by decide)]; omega
        have e2 : we 0 e i 0 = e + 0 := by unfold we; rw [if_neg (by decide)]; omega
        rw [e1, e2] at g
        exact res_go hE hQ g
    have subOf : ∀ (Q' : VK) (E' : XK), way = 1 → (∀ u, (Ans H Q fun v H' => BadAt H' v u) → Bad (CB K) u H E') → (∀ v H', Q v H' → Q' v H') → spSub K [.ref p, x] H Q' E' := fun Q' E' w0 hE hQ => by
      subst w0
      refine ⟨p, z, e, x, rfl, ⟨dx, hp⟩, ?_⟩
      rcases h with ⟨q, y, d, rfl, hq, _, g⟩ | ⟨q, y, d, rfl, hq, w2, g⟩ | ⟨d, hd, hi, g⟩ | ⟨i, rfl, hi, g⟩
      · refine .inl ⟨q, y, d, rfl, hq, ?_⟩
        have e1 : wz 1 z y = z - y := by unfold wz; rw [if_neg (by decide)]; omega
        have e2 : we 1 e y d = e - d := by unfold we; rw [if_neg (by decide)]; omega
        rw [e1, e2] at g
        exact res_go hE hQ g
      · exact absurd w2 (by decide)
      · exact .inr (.inl ⟨d, hd, hi, hE _ g⟩)
      · refine .inr (.inr ⟨i, rfl, ?_⟩)
        have e1 : wz 1 z i = z - i := by unfold wz; rw [if_neg (by decide)]; omega
        have e2 : we 1 e i 0 = e - 0 := by unfold we; rw [if_neg (by decide)]; omega
        rw [e1, e2] at g
        exact res_go hE hQ g
    have mulOf : ∀ (Q' : VK) (E' : XK), way = 2 → (∀ u, (Ans H Q fun v H' => BadAt H' v u) → Bad (CB K) u H E') → (∀ v H', Q v H' → Q' v H') → spMul K [.ref p, x] H Q' E' := fun Q' E' w0 hE hQ => by
      subst w0
      refine ⟨p, z, e, x, rfl, ⟨dx, hp⟩, fz, fe, ?_⟩
      rcases h with ⟨q, y, d, rfl, hq, w2, g⟩ | ⟨q, y, d, rfl, hq, _, g⟩ | ⟨d, hd, hi, g⟩ | ⟨i, rfl, hi, g⟩
      · exact absurd rfl w2
      · exact .inl ⟨q, y, d, rfl, hq, hE _ g⟩
      · exact .inr (.inl ⟨d, hd, hi, hE _ g⟩)
      · exact .inr (.inr ⟨i, rfl, hi, res_go hE hQ g⟩)
    refine ⟨_, rfl, rfl, _, rfl, ?_⟩
    rcases hw with w0 | w0 | w0
    · refine if_eqv w0 ?_
      refine ⟨_, rfl, _, rfl, p, dx, _, rfl, hp, kd, addOf _ _ w0 (fun u g dd H' s' hx => ⟨true, T.bl.e, fun _ a na => ?_, fun z => nomatch z⟩) fun v H' q => ⟨_, rfl, q⟩⟩
      refine ⟨_, rfl, rfl, CB K, dd, _, _, xV, rfl, rfl, T.bl.x, T.bl.nv, hx, rfl, by show 2 ≤ sizeLine; decide, fun l nl => ?_⟩
      exact ⟨_, rfl, g _ _ (s'.trans (same_upd nl)) ⟨l, rfl, upd_same⟩⟩
    · refine if_nev (by omega) ?_
      refine ⟨_, rfl, rfl, _, rfl, ?_⟩
      refine if_eqv w0 ?_
      refine ⟨_, rfl, _, rfl, p, dx, _, rfl, hp, kd, subOf _ _ w0 (fun u g dd H' s' hx => ⟨true, T.bl.e, fun _ a na => ?_, fun z => nomatch z⟩) fun v H' q => ⟨_, rfl, q⟩⟩
      refine ⟨_, rfl, rfl, CB K, dd, _, _, xV, rfl, rfl, T.bl.x, T.bl.nv, hx, rfl, by show 2 ≤ sizeLine; decide, fun l nl => ?_⟩
      exact ⟨_, rfl, g _ _ (s'.trans (same_upd nl)) ⟨l, rfl, upd_same⟩⟩
    · refine if_nev (by omega) ?_
      refine ⟨_, rfl, rfl, _, rfl, ?_⟩
      refine if_nev (by omega) ?_
      refine ⟨_, rfl, _, rfl, p, dx, _, rfl, hp, kd, mulOf _ _ w0 (fun u g dd H' s' hx => ⟨true, T.bl.e, fun _ a na => ?_, fun z => nomatch z⟩) fun v H' q => ⟨_, rfl, q⟩⟩
      refine ⟨_, rfl, rfl, CB K, dd, _, _, xV, rfl, rfl, T.bl.x, T.bl.nv, hx, rfl, by show 2 ≤ sizeLine; decide, fun l nl => ?_⟩
      exact ⟨_, rfl, g _ _ (s'.trans (same_upd nl)) ⟨l, rfl, upd_same⟩⟩
theorem ok_val {f fC : Addr} {fd xC : FuncData} (F : FnP K "_law_value" sVal f fd) (T : Txt K mg) (cD : StX.CallO K (CL K) fC) (FC : FnOk P w K mg base (L2.CX P w) 3 fC xC ["self", "m"] (spCal K)) (bC : Binds K xC ["self", "m"] []) : FnOk P w K mg base CX0 4 f fd ["_law_line", "_law_m"] (spVal K) := by
  refine F.ok scVa (fun vs H Q E h => ?_) (fun cdv A outer s H vs Q E hr h => ?_)
  · obtain ⟨p, x, z, e, d, rfl, _⟩ := h
    rfl
  · obtain ⟨p, x, z, e, d, rfl, lp, fe, hd, h⟩ := h
    obtain ⟨dx, hp⟩ := id lp
    refine ⟨_, pss_cons (ps_set (i := 2) scVa.nd rfl (Or.inl rfl) pe_non)
      (pss_cons (ps_try_as (i := 3) rfl rfl scVa.nd rfl rfl ⟨rfl, by decide, .inl T.bn.g⟩ takes0 (fun W pn xe tk _ => pss_one (ps_set (i := 2) scVa.nd rfl (Or.inl rfl) (pe_callI (pv 0) cD FC hr bC (fun σ => passAt tk σ) (pa_cons (pv 1) pa_nil))))
        (fun a oe cls d pn hz hf => pss_one (ps_set (i := 2) scVa.nd rfl (Or.inl rfl) (pe_lst (pa_cons pe_str (pa_cons (pe_xv hz hf (pv 3)) pa_nil))))))
      (pss_one (ps_ret (pv 2)))), ?_⟩
    have e0 : start ["_law_line", "_law_m", "_law_kept", "e"] [V.ref p, x] = [some (.ref p), some x, none, none] := rfl
    rw [e0]
    refine go_seq (go_asg ?_)
    refine go_next ?_
    refine ⟨_, rfl, p, rfl, _, rfl, ⟨dx, _, hp⟩, p, z, e, x, d, rfl, lp, fe, hd, ?_⟩
    rcases h with ⟨h, g⟩ | ⟨m, rfl, h0, h1, g⟩
    · refine .inl ⟨h, fun dd H' s' hx => ⟨true, T.bn.e, fun _ a na => ?_, fun z => nomatch z⟩⟩
      refine ⟨_, rfl, rfl, CN K, dd, _, _, xV, rfl, rfl, T.bn.x, T.bn.nv, hx, rfl, by show 2 ≤ sizeLine; decide, fun l nl => ?_⟩
      exact ⟨_, rfl, g _ _ (s'.trans (same_upd nl)) ⟨l, rfl, upd_same⟩⟩
    · exact .inr ⟨m, rfl, h0, h1, _, rfl, g _ _ (Same.refl H) rfl⟩
theorem ok_thrL {f fT pr : Addr} {fd xT : FuncData} (F : FnP K "_law_through" sThrL f fd) (T : Txt K mg) (sD : Stat K (CL K) pr fT "through") (FT : FnOk P w K mg base (L2.CX P w) 6 fT xT ["m", "value", "other", "further"] (spThr K)) (bT : Binds K xT ["m", "value", "other", "further"] []) : FnOk P w K mg base CX0 7 f fd ["_law_told"] (spThrL K) := by
  refine F.ok scTl (fun vs H Q E h => ?_) (fun cdv A outer s H vs Q E hr h => ?_)
  · obtain ⟨t, a, b, c, e, da, db, dc, de, rfl, _⟩ := h
    rfl
  · obtain ⟨t, a, b, c, e, da, db, dc, de, rfl, ht, ha, hb, hc, he, sm, gn, gs⟩ := h
    refine ⟨_, pss_cons (ps_set (i := 1) scTl.nd rfl (Or.inl rfl) pe_non)
      (pss_cons (ps_try_as (i := 2) rfl rfl scTl.nd rfl rfl ⟨rfl, by decide, .inl T.bl.g⟩ takes0 (fun W pn xe tk _ => pss_one (ps_set (i := 1) scTl.nd rfl (Or.inl rfl) (pe_statS sD FT hr (by rfl) T.gL bT (fun σ => passAt tk σ)
            (pa_cons (pe_ix (show IxR _ (rIxT K) from ix_tup) (pv 0) pe_int (fun _ _ => rfl)) (pa_cons (pe_ix (show IxR _ (rIxT K) from ix_tup) (pv 0) pe_int (fun _ _ => rfl)) (pa_cons (pe_ix (show IxR _ (rIxT K) from ix_tup) (pv 0) pe_int (fun _ _ => rfl)) (pa_cons (pe_ix (show IxR _ (rIxT K) from ix_tup) (pv 0) pe_int (fun _ _ => rfl)) pa_nil)))))))
        (fun a oe cls d pn hz hf => pss_one (ps_set (i := 1) scTl.nd rfl (Or.inl rfl) (pe_lst (pa_cons pe_str (pa_cons (pe_xv hz hf (pv 2)) pa_nil))))))
      (pss_one (ps_ret (pv 1)))), ?_⟩
    have e0 : start ["_law_told", "_law_kept", "e"] [V.ref t] = [some (.ref t), none, none] := rfl
    rw [e0]
    refine go_seq (go_asg ?_)
    refine go_next ?_
    refine ⟨_, rfl, t, _, 0, a, rfl, rfl, SqT.of ht, rfl, _, rfl, t, _, 1, b, rfl, rfl, SqT.of ht, rfl, _, rfl, t, _, 2, c, rfl, rfl, SqT.of ht, rfl, _, rfl, t, _, 3, e, rfl, rfl, SqT.of ht, rfl, ?_⟩
    refine ⟨a, b, c, e, da, db, dc, de, rfl, ha, hb, hc, he, sm, fun hn dd t2 H' s' h2 hx => ⟨true, T.bl.e, fun _ a na => ?_, fun z => nomatch z⟩, fun z w' hz r H' s' hL => ⟨_, rfl, gs z w' hz _ _ s' ⟨r, rfl, hL⟩⟩⟩
    refine ⟨_, rfl, rfl, CB K, dd, _, _, xV, rfl, rfl, T.bl.x, T.bl.nv, hx, rfl, by show 2 ≤ sizeLine; decide, fun l nl => ?_⟩
    exact ⟨_, rfl, gn hn _ _ (s'.trans (same_upd nl)) ⟨t2, ⟨l, rfl, upd_same⟩, same_upd nl _ _ h2⟩⟩
end
end L2.L49

set_option maxHeartbeats 1000000
namespace L2.L49
open PySem PySem.Spec PyProof.Rows LR L2.Lr
local macro_rules | `(tactic| walk_at "nx") => `(tactic| dsimp only [gName, tNext, tSeq, tAsg, List.set_cons_zero, List.set_cons_succ])
theorem prDp {K : PySem.W.Frag} {H : Hp} {t : Addr} {a b : Int} (h : H t = some (.tup [.int a, .int b])) : Dp K H (.ref t) (.tuple [.int a, .int b]) := .tup (SqT.of h) (.cons (.int a) (.cons (.int b) .nil))
theorem kTT (ds : List PyData) : kitB (tyN (.tuple ds)) "tuple" = some true := (by decide +kernel : kitB "tuple" "tuple" = some true)
theorem kIT (i : Int) : kitB (tyN (.int i)) "tuple" = some false := (by decide +kernel : kitB "int" "tuple" = some false)
section
variable {P : Program} {w : World} {K : PySem.W.Frag} {mg : Str → Option Value} {base : Heap}
theorem ok_sumD {f fD : Addr} {fd dD : FuncData} (F : FnP K "_law_sum_due" sSumD f fd) (T : Txt K mg) (D : Def P w K mg base CX0 2 "_law_due" fD dD ["_law_pair"] (spDue K)) : FnOk P w K mg base CX0 3 f fd ["_law_one", "_law_other", "_law_way"] (spSumD K) := by
  refine F.ok scSd (fun vs H Q E h => ?_) (fun cdv A outer s H vs Q E hr h => ?_)
  · obtain ⟨p, x, way, z, e, rfl, _⟩ := h
    rfl
  · obtain ⟨t, x, way, z, e, rfl, ht, fz, fe, hw, h⟩ := h
    refine ⟨_, PSs.nox (C8.pss_cut (ps_set (i := 3) scSd.nd rfl (Or.inl rfl) (pe_ifExp (pt_val (pe_isD T.isn (pv 1) (pe_bltn (v := .ty "tuple") (by rfl) T.tuple bbT (by rfl)) (by rfl))) (pv 1) (pe_tup (pa_cons (pv 1) (pa_cons pe_int pa_nil)))))
      (C8.pss_cut (ps_if (pt_cmpR op_eq (pv 2) pe_int (nomark _)) (pss_one (ps_set (i := 4) scSd.nd rfl (Or.inl rfl) (pe_tup (pa_cons (pe_op op_mulW (pe_ix ix_tup (pv 0) pe_int (fun _ _ => rfl)) (pv 1)) (pa_cons (pe_op op_mulW (pe_ix ix_tup (pv 0) pe_int (fun _ _ => rfl)) (pv 1)) pa_nil)))))
          (pss_cons (ps_set (i := 5) scSd.nd rfl (Or.inl rfl) (pe_op op_sub pe_int (pe_op op_mul pe_int (pv 2))))
          (pss_one (ps_set (i := 4) scSd.nd rfl (Or.inl rfl) (pe_tup (pa_cons (pe_op op_add (pe_ix ix_tup (pv 0) pe_int (fun _ _ => rfl)) (pe_op op_mul (pv 5) (pe_ix ix_tup (pv 3) pe_int (fun _ _ => rfl)))) (pa_cons (pe_op op_add (pe_ix ix_tup (pv 0) pe_int (fun _ _ => rfl)) (pe_op op_mul (pv 5) (pe_ix ix_tup (pv 3) pe_int (fun _ _ => rfl)))) pa_nil)))))))
      (pss_cons (ps_set (i := 6) scSd.nd rfl (Or.inl rfl) (pe_call D.ok hr (by rfl) D.g D.k D.b .nil pass0 (pa_cons (pv 4) pa_nil)))
      (pss_one (ps_ret (pe_ifExp (pt_val (pe_isD T.isn (pv 6) (pe_bltn (v := .ty "tuple") (by rfl) T.tuple bbT (by rfl)) (by rfl))) (pv 6) (pe_lst (pa_cons pe_str (pa_cons (pv 6) pa_nil))))))))), ?_⟩
    have e0 : start ["_law_one", "_law_other", "_law_way", "_law_pair", "_law_made_here", "_law_sign", "_law_due_here"] [V.ref t, x, .int way] = [some (.ref t), some x, some (.int way), none, none, none, none] := rfl
    rw [e0]
    -- the pair
    refine ⟨fun σ' H' => ∃ u y d, σ' = [some (.ref t), some x, some (.int way), some (.ref u), none, none, none] ∧ Same H H' ∧ H' u = some (.tup [.int y, .int d]) ∧ ((way ≠ 2 ∧ Ans H Q fun v H' => IsDueS H' v (wz way z y) (we way e y d)) ∨ (way = 2 ∧ x = .int y ∧ y.natAbs < 2 ^ 1400 ∧ Ans H Q fun v H' => IsDueS H' v (z * y) (e * y))), ?_, ?_⟩
    · rcases h with ⟨u, y, d, rfl, hu, h2, g⟩ | ⟨i, rfl, hi, g⟩
      · exact ⟨_, rfl, _, true, prDp hu, kTT _, _, rfl, iteT ⟨_, rfl, u, y, d, rfl, Same.refl H, hu, .inl ⟨h2, g⟩⟩⟩
      · refine ⟨_, rfl, .int i, false, .int i, kIT i, _, rfl, iteF ?_⟩
        refine ⟨_, rfl, by show 2 ≤ sizeLine; decide, fun u nu => ⟨u, i, 0, rfl, same_upd nu, upd_same, ?_⟩⟩
        by_cases h2 : way = 2
        · refine .inr ⟨h2, rfl, hi, ?_⟩
          have e1 : wz way z i = z * i := if_pos h2
          have e2 : we way e i 0 = e * i := if_pos h2
          rw [e1, e2] at g
          exact g
        · exact .inl ⟨h2, g⟩
    clear h
    rintro σ1 H1 ⟨u, y, d, rfl, s1, hu, h⟩
    refine ⟨fun σ' H' => ∃ t2 a b o5, σ' = [some (.ref t), some x, some (.int way), some (.ref u), some (.ref t2), o5, none] ∧ Same H H' ∧ H' t2 = some (.tup [.int a, .int b]) ∧ Ans H Q fun v H' => IsDueS H' v a b, ?_, ?_⟩
    · refine ⟨_, rfl, rfl, _, rfl, ?_⟩
      rcases h with ⟨w2, g⟩ | ⟨w2, ex, hy, g⟩
      · refine if_nev w2 ?_
        walk_at "nx"
        refine ⟨_, rfl, _, _, rfl, rfl, .inl ⟨by decide, by decide⟩, _, _, rfl, rfl, ?_⟩
        have e1 : wz way z y = z + (1 - 2 * way) * y := if_neg w2
        have e2 : we way e y d = e + (1 - 2 * way) * d := if_neg w2
        rw [e1, e2] at g
        have sm : -(2 ^ 64) < 1 - 2 * way ∧ 1 - 2 * way < 2 ^ 64 := by omega
        refine ⟨_, rfl, t, _, 0, .int z, rfl, rfl, SqT.of (s1 _ _ ht), rfl, _, rfl, _, rfl, u, _, 0, .int y, rfl, rfl, SqT.of hu, rfl, _, _, rfl, rfl, .inl sm, _, _, rfl, rfl, ?_⟩
        refine ⟨_, rfl, t, _, 1, .int e, rfl, rfl, SqT.of (s1 _ _ ht), rfl, _, rfl, _, rfl, u, _, 1, .int d, rfl, rfl, SqT.of hu, rfl, _, _, rfl, rfl, .inl sm, _, _, rfl, rfl, ?_⟩
        exact ⟨by show 2 ≤ sizeLine; decide, fun t2 n2 => ⟨t2, _, _, _, rfl, s1.trans (same_upd n2), upd_same, g⟩⟩
      · refine if_eqv w2 ?_
        subst ex
        refine ⟨_, rfl, t, _, 0, .int z, rfl, rfl, SqT.of (s1 _ _ ht), rfl, _, rfl, _, _, rfl, rfl, wide_mul (far_nat fz) hy (by decide) (by decide) (by decide), ?_⟩
        refine ⟨_, rfl, t, _, 1, .int e, rfl, rfl, SqT.of (s1 _ _ ht), rfl, _, rfl, _, _, rfl, rfl, wide_mul (far_nat fe) hy (by decide) (by decide) (by decide), ?_⟩
        exact ⟨by show 2 ≤ sizeLine; decide, fun t2 n2 => ⟨t2, _, _, _, rfl, s1.trans (same_upd n2), upd_same, g⟩⟩
    clear h
    rintro σ2 H2 ⟨t2, a, b, o5, rfl, s2, h2, g⟩
    walk_at "nx"
    refine ⟨_, rfl, t2, a, b, rfl, h2, fun v hd hv => ?_⟩
    walk_at "nx"
    have fin : IsDue H2 v a b → (∃ i, v = .int i) → ∀ l, H2 l = none → Q (.ref l) (upd H2 l (.lst [.str "bad", v])) := fun hd hv l nl => by
      obtain ⟨i, rfl⟩ := hv
      refine g _ _ (s2.trans (same_upd nl)) ?_
      refine Pick.imp (p := fun j => V.int i = .int j) (g := False) ?_ (fun j e => ⟨l, rfl, by rw [← e]; exact upd_same⟩) (fun z => z.elim)
      refine Pick.imp hd (fun j e => e) fun z => ?_
      obtain ⟨_, z, _⟩ := z
      cases z
    rcases hv with rfl | ⟨i, rfl⟩
    · refine ⟨_, rfl, _, true, prDp h2, kTT _, _, rfl, iteT ⟨_, rfl, g _ _ s2 ?_⟩⟩
      refine Pick.imp (p := fun _ => False) ?_ (fun _ z => z.elim) (fun z => z)
      exact Pick.imp hd (fun j e => by cases e) fun z => z
    · refine ⟨_, rfl, .int i, false, .int i, kIT i, _, rfl, iteF ?_⟩
      exact ⟨_, rfl, by show 2 ≤ sizeLine; decide, fun l nl => fin hd ⟨i, rfl⟩ l nl⟩
theorem abs_le (i : Int) : (if i < 0 then -i else i) ≤ 10 ^ 400 ↔ Far i := by
  have e : (10 : Int) ^ 400 > 0 := by decide +kernel
  unfold Far
  split <;> omega
theorem max_far (i j : Int) : decide ((if (if j < 0 then -j else j) > (if i < 0 then -i else i) then (if j < 0 then -j else j) else (if i < 0 then -i else i)) ≤ 10 ^ 400) = decide (Far i ∧ Far j) := by
  have h1 := abs_le i
  have h2 := abs_le j
  generalize (if i < 0 then -i else i) = x at h1 ⊢
  generalize (if j < 0 then -j else j) = y at h2 ⊢
  by_cases h : Far i ∧ Far j
  · rw [decide_eq_true h]
    have := h1.mpr h.1
    have := h2.mpr h.2
    exact decide_eq_true (by split <;> omega)
  · rw [decide_eq_false h]
    refine decide_eq_false fun z => h ⟨h1.mp ?_, h2.mp ?_⟩
    · revert z
      split <;> omega
    · revert z
      split <;> omega
theorem ok_thrD {f fF : Addr} {fd dF : FuncData} (F : FnP K "_law_through_due" sThrD f fd) (T : Txt K mg) (Fa : Def P w K mg base CX0 1 "_law_far" fF dF [] spFar) : FnOk P w K mg base CX0 2 f fd ["_law_told"] (spThrD K) := by
  refine F.ok scTd (fun vs H Q E h => ?_) (fun cdv A outer s H vs Q E hr h => ?_)
  · obtain ⟨t, m, v, o, fu, rfl, _⟩ := h
    rfl
  · obtain ⟨t, m, v, o, fu, rfl, ht, m0, m1, o0, o1, g⟩ := h
    refine ⟨_, PSs.nox (pss_cons (ps_asg (pv 0) (pg_tup rfl (pgs_cons (pg_name (i := 1) scTd.nd rfl (Or.inl rfl)) (pgs_cons (pg_name (i := 2) scTd.nd rfl (Or.inl rfl)) (pgs_cons (pg_name (i := 3) scTd.nd rfl (Or.inl rfl)) (pgs_cons (pg_name (i := 4) scTd.nd rfl (Or.inl rfl)) pgs_nil))))))
      (pss_cons (ps_if (PW.pt (pw_or (pt_cmpR op_lt (pv 1) pe_int (nomark _)) (pw_or1 (pt_cmpR op_ge (pv 1) (pv 3) (nomark _))))) (pss_one (ps_ret (pe_lst (pa_cons pe_str (pa_cons (pv 0) pa_nil))))) pss_nil)
      (pss_cons (ps_set (i := 5) scTd.nd rfl (Or.inl rfl) (pe_op op_fdiv (pe_op op_sub (pv 4) (pv 2)) (pe_op op_sub (pv 3) (pv 1))))
      (pss_cons (ps_if (pt_cmpR op_ne (pe_op op_mul (pv 5) (pe_op op_sub (pv 3) (pv 1))) (pe_op op_sub (pv 4) (pv 2)) (nomark _)) (pss_one (ps_ret (pe_lst (pa_cons pe_str (pa_cons (pv 0) pa_nil))))) pss_nil)
      (pss_cons (ps_set (i := 6) scTd.nd rfl (Or.inl rfl) (pe_op op_fdiv (pe_op op_sub (pv 4) (pv 2)) (pe_op op_sub (pv 3) (pv 1))))
      (pss_cons (ps_set (i := 7) scTd.nd rfl (Or.inl rfl) (pe_tup (pa_cons (pe_op op_sub (pv 2) (pe_op op_mul (pv 6) (pv 1))) (pa_cons (pv 6) pa_nil))))
      (pss_one (ps_ret (pe_ifExp (pt_cmpR op_le (pe_callB (call_max2 rfl) (by rfl) T.max boot_max (pa_cons (pe_callB call_abs (by rfl) T.abs boot_abs (pa_cons (pe_ix ix_tup (pv 7) pe_int (fun _ _ => rfl)) pa_nil)) (pa_cons (pe_callB call_abs (by rfl) T.abs boot_abs (pa_cons (pe_ix ix_tup (pv 7) pe_int (fun _ _ => rfl)) pa_nil)) pa_nil))) (pe_call0 Fa.ok hr (by rfl) Fa.g Fa.k Fa.b .nil pass0) (nomark _)) (pv 7) (pe_lst (pa_cons pe_str (pa_cons (pv 0) pa_nil)))))))))))), ?_⟩
    have e0 : start ["_law_told", "_law_m", "_law_value_here", "_law_other", "_law_further", "_law_each", "_law_slope", "_law_pair"] [V.ref t] = [some (.ref t), none, none, none, none, none, none, none] := rfl
    rw [e0]
    have bad : ¬ (0 ≤ m ∧ m < o ∧ (fu - v) % (o - m) = 0 ∧ Far ((fu - v) / (o - m)) ∧ Far (v - (fu - v) / (o - m) * m)) → ∀ H2 l, Same H H2 → H2 l = none → Q (.ref l) (upd H2 l (.lst [.str "bad", .ref t])) := fun n H2 l s2 nl => by
      refine g _ _ (s2.trans (same_upd nl)) ?_
      have e : thrI m v o fu = none := if_neg n
      rw [e]
      exact ⟨l, rfl, upd_same⟩
    refine go_seq (go_asg ?_)
    refine ⟨_, rfl, t, _, rfl, SqT.of ht, rfl, _, _, rfl, _, _, rfl, _, _, rfl, _, _, rfl, rfl, ?_⟩
    walk_at "nx"
    refine ⟨_, rfl, _, _, rfl, rfl, _, rfl, ?_⟩
    refine ite_dec (fun h => ?_) fun h => ?_
    · refine iteT ⟨_, rfl, by show 2 ≤ sizeLine; decide, fun l nl => bad (fun z => by omega) H l (Same.refl H) nl⟩
    refine ⟨_, rfl, _, rfl, _, _, rfl, rfl, _, rfl, ?_⟩
    refine ite_dec (fun h' => ?_) fun h' => ?_
    · exact ⟨_, rfl, by show 2 ≤ sizeLine; decide, fun l nl => bad (fun z => by omega) H l (Same.refl H) nl⟩
    walk_at "nx"
    refine ⟨_, rfl, _, rfl, _, _, rfl, rfl, _, rfl, _, rfl, _, _, rfl, rfl, _, _, rfl, rfl, ⟨by omega, by omega⟩, ?_⟩
    walk_at "nx"
    refine ⟨_, rfl, _, rfl, _, rfl, _, _, rfl, rfl, _, _, rfl, rfl, .inr ⟨by omega, by omega⟩, _, rfl, _, rfl, _, _, rfl, rfl, rfl, _, rfl, ?_⟩
    have md : (fu - v) / (o - m) * (o - m) = fu - v ↔ (fu - v) % (o - m) = 0 := by
      have := Int.mul_ediv_add_emod (fu - v) (o - m)
      rw [Int.mul_comm] at this
      omega
    show if (!decide (V.int ((fu - v) / (o - m) * (o - m)) = V.int (fu - v))) = true then _ else _
    rw [dec_vi]
    by_cases h1 : (fu - v) / (o - m) * (o - m) = fu - v
    · rw [decide_eq_true h1]
      refine iteF ?_
      walk_at "nx"
      refine ⟨_, rfl, _, rfl, _, _, rfl, rfl, _, rfl, _, rfl, _, _, rfl, rfl, _, _, rfl, rfl, ⟨by omega, by omega⟩, ?_⟩
      walk_at "nx"
      refine ⟨_, rfl, _, rfl, _, rfl, _, _, rfl, rfl, .inr ⟨by omega, by omega⟩, _, _, rfl, rfl, _, rfl, by show 2 ≤ sizeLine; decide, fun t2 n2 => ?_⟩
      walk_at "nx"
      have st := same_upd (o := .tup [.int (v - (fu - v) / (o - m) * m), .int ((fu - v) / (o - m))]) n2
      have h2 : (upd H t2 (.tup [.int (v - (fu - v) / (o - m) * m), .int ((fu - v) / (o - m))])) t2 = some (.tup [.int (v - (fu - v) / (o - m) * m), .int ((fu - v) / (o - m))]) := upd_same
      generalize upd H t2 (.tup [.int (v - (fu - v) / (o - m) * m), .int ((fu - v) / (o - m))]) = G at st h2 ⊢
      refine ⟨_, rfl, t2, _, 0, _, rfl, rfl, SqT.of h2, rfl, _, rfl, _, rfl, t2, _, 1, _, rfl, rfl, SqT.of h2, rfl, _, rfl, _, _, rfl, rfl, _, _, rfl, rfl, ?_⟩
      refine ⟨_, rfl, ?_⟩
      rw [max_far]
      refine ite_dec (fun hf => ?_) fun hf => ?_
      · refine ⟨_, rfl, g _ _ st ?_⟩
        have e : thrI m v o fu = some (v - (fu - v) / (o - m) * m, (fu - v) / (o - m)) := if_pos ⟨by omega, by omega, md.mp h1, hf.2, hf.1⟩
        rw [e]
        exact ⟨t2, rfl, h2⟩
      · exact ⟨_, rfl, by show 2 ≤ sizeLine; decide, fun l nl => bad (fun z => hf ⟨z.2.2.2.2, z.2.2.2.1⟩) G l st nl⟩
    · rw [decide_eq_false h1]
      refine iteT ⟨_, rfl, by show 2 ≤ sizeLine; decide, fun l nl => bad (fun z => h1 (md.mpr z.2.2.1)) H l (Same.refl H) nl⟩
end
end L2.L49

set_option maxHeartbeats 1000000
namespace L2.L49
open PySem PySem.Spec PyProof.Rows LR L2.Lr
local macro_rules | `(tactic| walk_at "nx") => `(tactic| dsimp only [gName, tNext, tSeq, tAsg, List.set_cons_zero, List.set_cons_succ])
abbrev NO : List Str := ["_law_line", "_law_m", "_law_odd", "_law_told", "_law_far_here", "_law_way"]
theorem scO2 : FnScope NO ["_law_line", "_law_m"] (defScope sOdd) := ⟨rfl, rfl, rfl, by decide +kernel, rfl, by decide +kernel, by decide +kernel⟩
def oddD : List PyData := [.none, .bool true, .str "m", .str "1", .tuple [.int 1], .list [.int 1]]
def toldD (d : PyData) : List PyData := [.tuple [d, .int 1, .int 2, .int 3], .tuple [.int 0, d, .int 2, .int 3], .tuple [.int 0, .int 1, d, .int 3], .tuple [.int 0, .int 1, .int 2, d]]
theorem odd_all : (oddD.all fun d => !intD d && (SeqAt.shaped d && (SeqAt.shaped (badD d) && (SeqAt.shaped (.list [badD d, badD d, badD d]) && (toldD d).all fun t => SeqAt.shaped (badD t))))) = true := by decide +kernel
theorem odd_of {i : Nat} {d : PyData} (h : oddD[i]? = some d) : intD d = false ∧ SeqAt.shaped d = true ∧ SeqAt.shaped (badD d) = true ∧ SeqAt.shaped (.list [badD d, badD d, badD d]) = true ∧ ∀ t ∈ toldD d, SeqAt.shaped (badD t) = true := by
  have z := List.all_eq_true.mp odd_all d (List.mem_of_getElem? h)
  obtain ⟨z1, z⟩ := Bool.and_eq_true_iff.mp z
  obtain ⟨z2, z⟩ := Bool.and_eq_true_iff.mp z
  obtain ⟨z3, z⟩ := Bool.and_eq_true_iff.mp z
  obtain ⟨z4, z5⟩ := Bool.and_eq_true_iff.mp z
  exact ⟨by simpa using z1, z2, z3, z4, fun t ht => List.all_eq_true.mp z5 t ht⟩
theorem odd_line {d : PyData} (h : intD d = false) (lo hi : Int) : betw lo hi d = false := by
  cases d <;> first | rfl | cases h
/-- what is told -/
structure Told (K : PySem.W.Frag) (H : Hp) (t : Addr) (da db dc de : PyData) : Prop where
  there : ∃ a b c e, H t = some (.tup [a, b, c, e]) ∧ Dp K H a da ∧ Dp K H b db ∧ Dp K H c dc ∧ Dp K H e de
  none : thrD da db dc de = none
  small : Small4 da dc
  sh : SeqAt.shaped (badD (.tuple [da, db, dc, de])) = true
theorem Told.same {K : PySem.W.Frag} {H H' : Hp} {t : Addr} {da db dc de : PyData} (h : Told K H t da db dc de) (s : Same H H') : Told K H' t da db dc de := by
  obtain ⟨⟨a, b, c, e, ht, ha, hb, hc, he⟩, n, sm, sh⟩ := h
  exact ⟨⟨a, b, c, e, s _ _ ht, Dp.same s ha, Dp.same s hb, Dp.same s hc, Dp.same s he⟩, n, sm, sh⟩
theorem thr_no {da db dc de : PyData} (h : intD da = false ∨ intD db = false ∨ intD dc = false ∨ intD de = false) : thrD da db dc de = none := by
  refine thr_none ?_
  rcases h with h | h | h | h <;> rw [h] <;> simp
theorem small_a {da dc : PyData} (h : intD da = false) : Small4 da dc := fun m o e => by rw [e] at h; cases h
theorem small_c {da dc : PyData} (h : intD dc = false) : Small4 da dc := fun m o _ e => by rw [e] at h; cases h
theorem small_k {i j : Int} (h1 : -1000 ≤ i) (h2 : i ≤ 1000) (h3 : -1000 ≤ j) (h4 : j ≤ 1000) : Small4 (.int i) (.int j) := fun m o e e' => by
  cases e
  cases e'
  exact ⟨h1, h2, h3, h4⟩
def spOdd (K : PySem.W.Frag) : Sp := fun vs H Q _ => ∃ (p : Addr) (m z e : Int), vs = [.ref p, .int m] ∧ LineAt K H p z e ∧ Far z ∧ Far e ∧ 0 ≤ m ∧ m ≤ 10 ^ 30 ∧ ∀ H', Same H H' → Q (.bl true) H'
/-- the answers so far -/
def AllBad (H : Hp) (D : Addr) (x : V) (n : Nat) : Prop := ∃ vs, H D = some (.lst vs) ∧ vs.length = n ∧ ∀ v ∈ vs, BadAt H v x
theorem AllBad.more {H H1 : Hp} {D : Addr} {x y : V} {n : Nat} (h : AllBad H D x n) (s : Same H H1) (b : BadAt H1 y x) : ∃ acc, H1 D = some (.lst acc) ∧ acc.length = n ∧ AllBad (upd H1 D (.lst (acc ++ [y]))) D x (n + 1) := by
  obtain ⟨vs, hD, hl, hb⟩ := h
  have hD1 := s _ _ hD
  have hb1 : ∀ v ∈ vs ++ [y], BadAt H1 v x := fun v hv => by
    rcases List.mem_append.mp hv with h | h
    · exact (hb v h).same s
    · rw [List.mem_singleton.mp h]; exact b
  refine ⟨vs, hD1, hl, vs ++ [y], upd_same, by rw [List.length_append, hl]; rfl, fun v hv => ?_⟩
  obtain ⟨l, rfl, hL⟩ := hb1 v hv
  refine ⟨l, rfl, (upd_ne ?_).trans hL⟩
  rintro rfl
  rw [hD1] at hL
  injection hL with hL
  injection hL with hL
  subst hL
  obtain ⟨l2, e2, _⟩ := hb _ List.mem_cons_self
  cases e2
section
variable {P : Program} {w : World} {K : PySem.W.Frag} {mg : Str → Option Value} {base : Heap}
theorem ok_odd {f fV fM fS fT : Addr} {fd dV dM dS dT : FuncData} (F : FnP K "_law_odd_right" sOdd f fd) (T : Txt K mg) (Vl : Def P w K mg base CX0 4 "_law_value" fV dV ["_law_line", "_law_m"] (spVal K)) (Md : Def P w K mg base CX0 5 "_law_made" fM dM ["_law_pair"] (spMade K))
    (Sm : Def P w K mg base CX0 6 "_law_sum" fS dS ["_law_line", "_law_other", "_law_way"] (spSum K)) (Th : Def P w K mg base CX0 7 "_law_through" fT dT ["_law_told"] (spThrL K)) : FnOk P w K mg base CX0 8 f fd ["_law_line", "_law_m"] (spOdd K) := by
  refine F.ok scO2 (fun vs H Q E h => ?_) (fun cdv A outer s H vs Q E hr h => ?_)
  · obtain ⟨p, m, z, e, rfl, _⟩ := h
    rfl
  · obtain ⟨p, m, z, e, rfl, lp, fz, fe, m0, m1, q⟩ := h
    have hr4 : Room 4 _ := hr.mono (by decide)
    have hr5 : Room 5 _ := hr.mono (by decide)
    have hr6 : Room 6 _ := hr.mono (by decide)
    have hu := hr.units
    refine ⟨_, PSs.nox (pss_cons (ps_for PassesOwn.never rfl (pi_list (pd_lstL (pd_cons pd_non (pd_cons pd_bl (pd_cons pd_str (pd_cons pd_str (pd_cons (pd_tup (pd_cons pd_int pd_nil)) (pd_cons (pd_lst (pd_cons pd_int pd_nil)) pd_nil)))))))) (pg_name (i := 2) scO2.nd rfl (Or.inr rfl))
        (C8.pss_cut (ps_if (PW.pt (pw_or (pt_cmpR (op_neD hu) (pe_call Vl.ok hr4 (by rfl) Vl.g Vl.k Vl.b .nil pass0 (pa_cons (pv 0) (pa_cons (pv 2) pa_nil))) (pe_lst (pa_cons pe_str (pa_cons (pv 2) pa_nil))) (nomark _))
            (pw_or (pt_cmpR (op_neD hu) (pe_call Md.ok hr5 (by rfl) Md.g Md.k Md.b .nil pass0 (pa_cons (pe_tup (pa_cons (pv 2) (pa_cons pe_int pa_nil))) pa_nil)) (pv 2) (nomark _)) (pw_or1 (pt_cmpR (op_neD hu) (pe_call Md.ok hr5 (by rfl) Md.g Md.k Md.b .nil pass0 (pa_cons (pe_tup (pa_cons pe_int (pa_cons (pv 2) pa_nil))) pa_nil)) (pv 2) (nomark _)))))) (pss_one (ps_ret pe_bl)) pss_nil)
        (C8.pss_cut (ps_if (pt_cmpR (op_neD hu) (pe_lc (own := [("_law_way", 5)]) (g := gName 5) (tt := tYes) rfl scO2.nd (pi_range1 (by rfl) T.range (pa_cons pe_int pa_nil)) (blkOk_by (N := NO) (sc := defScope sOdd) (by decide +kernel)) (fun _ _ _ _ _ => pg_name (i := 5) scO2.nd rfl (Or.inl rfl)) (fun _ _ _ _ _ => pts_nil) (fun _ _ _ _ _ => pe_call Sm.ok hr6 (by rfl) Sm.g Sm.k Sm.b .nil pass0 (pa_cons (pv 0) (pa_cons (pv 2) (pa_cons (pv 5) pa_nil)))))
            (pe_op op_rep (pe_lst (pa_cons (pe_lst (pa_cons pe_str (pa_cons (pv 2) pa_nil))) pa_nil)) pe_int) (nomark _)) (pss_one (ps_ret pe_bl)) pss_nil)
        (pss_one (ps_for PassesOwn.never rfl (pi_list (pe_lst (pa_cons (pe_tup (pa_cons (pv 2) (pa_cons pe_int (pa_cons pe_int (pa_cons pe_int pa_nil))))) (pa_cons (pe_tup (pa_cons pe_int (pa_cons (pv 2) (pa_cons pe_int (pa_cons pe_int pa_nil))))) (pa_cons (pe_tup (pa_cons pe_int (pa_cons pe_int (pa_cons (pv 2) (pa_cons pe_int pa_nil))))) (pa_cons (pe_tup (pa_cons pe_int (pa_cons pe_int (pa_cons pe_int (pa_cons (pv 2) pa_nil))))) pa_nil)))))) (pg_name (i := 3) scO2.nd rfl (Or.inl rfl))
            (pss_one (ps_if (pt_cmpR (op_neD hu) (pe_call Th.ok hr (by rfl) Th.g Th.k Th.b .nil pass0 (pa_cons (pv 3) pa_nil)) (pe_lst (pa_cons pe_str (pa_cons (pv 3) pa_nil))) (nomark _)) (pss_one (ps_ret pe_bl)) pss_nil)))))))
      (pss_cons (ps_set (i := 4) scO2.nd rfl (Or.inl rfl) (pe_op op_add (pe_op op_add (pe_op op_pow pe_int pe_int) pe_int) (pv 1)))
      (pss_one (ps_ret (pe_and (pe_cmpR (op_eqD hu) (pe_call Vl.ok hr4 (by rfl) Vl.g Vl.k Vl.b .nil pass0 (pa_cons (pv 0) (pa_cons (pe_op op_sub (pe_un un_neg pe_int) (pv 1)) pa_nil))) (pe_lst (pa_cons pe_str (pa_cons (pe_op op_sub (pe_un un_neg pe_int) (pv 1)) pa_nil))) (nomark _))
          (pe_one (pe_cmpR (op_eqD hu) (pe_call Vl.ok hr4 (by rfl) Vl.g Vl.k Vl.b .nil pass0 (pa_cons (pv 0) (pa_cons (pv 4) pa_nil))) (pe_lst (pa_cons pe_str (pa_cons (pv 4) pa_nil))) (nomark _)))))))), ?_⟩
    have e0 : start NO [V.ref p, .int m] = [some (.ref p), some (.int m), none, none, none, none] := rfl
    rw [e0]
    refine go_seq ?_
    intro pl vs H1 s1 hl dl
    refine ⟨pl, rfl, ⟨_, SqL.of hl⟩, for_listD (K := K) (a := pl) (xs := vs) (fun i σ H' => Same H1 H' ∧ ∃ o2 o3 o4 o5, σ = [some (.ref p), some (.int m), o2, o3, o4, o5]) ⟨Same.refl H1, _, _, _, _, rfl⟩ (fun i σ H' _ h => SqL.of (h.1 _ _ hl)) ?_ ?_⟩
    · rintro D1 i x σ H2 hrt hD1 - - hi ⟨s2, o2, o3, o4, o5, rfl⟩
      obtain ⟨d, hd, hx⟩ := DpAll.at dl hi
      obtain ⟨nd, sh, shb, sh3, sht⟩ := odd_of hd
      have hx2 : Dp K H2 x d := Dp.same s2 hx
      have lp2 : LineAt K H2 p z e := lp.same (s1.trans s2)

      clear s1 hx hl dl
      walk_at "nx"
      refine ⟨fun σ' H' => σ' = [some (.ref p), some (.int m), some x, o3, o4, o5] ∧ Same H2 H', ?_, ?_⟩
      · refine ⟨_, rfl, _, rfl, p, x, z, e, d, rfl, lp2, fe, hx2, .inl ⟨odd_line nd _ _, fun v H3 s3 hv => ?_⟩⟩
        refine ⟨_, rfl, by show 2 ≤ sizeLine; decide, fun l nl => ?_⟩
        have sl := same_upd (o := .lst [.str "bad", x]) nl
        refine ⟨badD d, badD d, bad_dp (hv.same sl) (Dp.same (s3.trans sl) hx2), bad_dp ⟨l, rfl, upd_same⟩ (Dp.same (s3.trans sl) hx2), shb, shb, _, rfl, ?_⟩
        rw [SeqAt.eqv_refl _ (SeqAt.canLay_of_shaped shb)]
        refine iteF ?_
        have s4 := s3.trans sl
        generalize upd H3 l (.lst [.str "bad", x]) = H4 at s4 ⊢
        clear hv sl nl s3
        refine ⟨_, rfl, by show 2 ≤ sizeLine; decide, fun t nt => ⟨t, x, .int 1, d, .int 1, rfl, SqT.of upd_same, Dp.same (s4.trans (same_upd nt)) hx2, .int 1, .inl ⟨odd_line nd _ _, fun H5 s5 => ?_⟩⟩⟩
        have s6 := s4.trans ((same_upd nt).trans s5)
        refine ⟨_, rfl, d, d, Dp.same s6 hx2, Dp.same s6 hx2, sh, sh, _, rfl, ?_⟩
        rw [SeqAt.eqv_refl _ (SeqAt.canLay_of_shaped sh)]
        refine iteF ?_
        refine ⟨_, rfl, by show 2 ≤ sizeLine; decide, fun t nt => ⟨t, .int 1, x, .int 1, d, rfl, SqT.of upd_same, .int 1, Dp.same (s6.trans (same_upd nt)) hx2, .inr (.inl ⟨by decide +kernel, odd_line nd _ _, fun H7 s7 => ?_⟩)⟩⟩
        have s8 := s6.trans ((same_upd nt).trans s7)
        refine ⟨_, rfl, d, d, Dp.same s8 hx2, Dp.same s8 hx2, sh, sh, _, rfl, ?_⟩
        rw [SeqAt.eqv_refl _ (SeqAt.canLay_of_shaped sh)]
        exact iteF ⟨rfl, s8⟩
      rintro σ3 H3 ⟨rfl, s3⟩
      refine ⟨fun σ' H' => σ' = [some (.ref p), some (.int m), some x, o3, o4, o5] ∧ Same H2 H', ?_, ?_⟩
      · refine ⟨3, rfl, by decide, by decide, fun D hD => ?_⟩
        have hx3 := Dp.same s3 hx2
        have lp3 := lp2.same s3
        refine lc_range (n := 3) (lo := 0) (fun i H' => Same H3 H' ∧ AllBad H' D x i) ⟨same_upd hD, [], upd_same, rfl, fun v h => nomatch h⟩ ?_ ?_
        · rintro i H4 hi3 ⟨s4, ab⟩
          refine ⟨rfl, _, rfl, _, rfl, _, rfl, p, x, 0 + (i : Int), z, e, rfl, lp3.same s4, fz, fe, by omega, .inr (.inr (.inl ⟨d, Dp.same s4 hx3, nd, fun v H5 s5 hv => ?_⟩))⟩
          obtain ⟨acc, a1, a2, a3⟩ := ab.more s5 hv
          refine ⟨acc, a1, by rw [a2, sizeLine_eq]; omega, fun b' o e' => ?_, a3⟩
          by_cases hb' : b' = D
          · rw [hb', hD] at e'
            cases e'
          · exact (upd_ne hb').trans (s5 _ _ (s4 _ _ e'))
        · rintro H4 ⟨s4, vs4, a1, a2, a3⟩
          refine ⟨_, rfl, by show 2 ≤ sizeLine; decide, fun l nl => ⟨by show 1 ≤ sizeLine; decide, fun l2 nl2 => ?_⟩⟩
          have g1 := same_upd (o := .lst [.str "bad", x]) nl
          have g2 := same_upd (o := .lst [.ref l]) nl2
          refine ⟨l2, 3, _, rfl, rfl, upd_same, by decide, by decide, by show 3 ≤ sizeLine; decide, fun l3 nl3 => ?_⟩
          have g3 := same_upd (o := .lst (List.replicate (Int.toNat 3) [V.ref l]).flatten) nl3
          have hl3 : (upd (upd (upd H4 l (.lst [.str "bad", x])) l2 (.lst [.ref l])) l3 (.lst (List.replicate (Int.toNat 3) [V.ref l]).flatten)) l3 = some (.lst [.ref l, .ref l, .ref l]) := upd_same
          have hl0 : BadAt (upd (upd (upd H4 l (.lst [.str "bad", x])) l2 (.lst [.ref l])) l3 (.lst (List.replicate (Int.toNat 3) [V.ref l]).flatten)) (.ref l) x := ⟨l, rfl, g3 _ _ (g2 _ _ upd_same)⟩
          have g := g1.trans (g2.trans g3)
          generalize upd (upd (upd H4 l (.lst [.str "bad", x])) l2 (.lst [.ref l])) l3 (.lst (List.replicate (Int.toNat 3) [V.ref l]).flatten) = G at g hl3 hl0 ⊢
          have hxG := Dp.same (s4.trans g) hx3
          have b0 := bad_dp hl0 hxG
          match vs4, a2, a1, a3 with
          | [u1, u2, u3], _, a1, a3 =>
            have b1 := bad_dp ((a3 u1 (by simp)).same g) hxG
            have b2 := bad_dp ((a3 u2 (by simp)).same g) hxG
            have b3 := bad_dp ((a3 u3 (by simp)).same g) hxG
            refine ⟨.list [badD d, badD d, badD d], .list [badD d, badD d, badD d], .lst (SqL.of (g _ _ a1)) (.cons b1 (.cons b2 (.cons b3 .nil))), .lst (SqL.of hl3) (.cons b0 (.cons b0 (.cons b0 .nil))), sh3, sh3, _, rfl, ?_⟩
            rw [SeqAt.eqv_refl _ (SeqAt.canLay_of_shaped sh3)]
            exact iteF ⟨rfl, s3.trans (s4.trans g)⟩
      clear s3
      rintro σ3 H3 ⟨rfl, s3⟩
      have hx3 := Dp.same s3 hx2
      have lp3 := lp2.same s3
      have s13 := s2.trans s3
      clear s3 s2 hx2 lp2
      refine ⟨_, rfl, by show 4 ≤ sizeLine; decide, fun t1 n1 => ?_⟩
      refine ⟨_, rfl, by show 4 ≤ sizeLine; decide, fun t2 n2 => ?_⟩
      refine ⟨_, rfl, by show 4 ≤ sizeLine; decide, fun t3 n3 => ?_⟩
      refine ⟨_, rfl, by show 4 ≤ sizeLine; decide, fun t4 n4 => ⟨by show 4 ≤ sizeLine; decide, fun L nL => ⟨L, rfl, ⟨_, SqL.of upd_same⟩, ?_⟩⟩⟩
      have g1 := same_upd (o := .tup [x, .int 1, .int 2, .int 3]) n1
      have g2 := same_upd (o := .tup [.int 0, x, .int 2, .int 3]) n2
      have g3 := same_upd (o := .tup [.int 0, .int 1, x, .int 3]) n3
      have g4 := same_upd (o := .tup [.int 0, .int 1, .int 2, x]) n4
      have g5 := same_upd (o := .lst [.ref t1, .ref t2, .ref t3, .ref t4]) nL
      have T1 : Told K _ t1 d (.int 1) (.int 2) (.int 3) := ⟨⟨_, _, _, _, upd_same, Dp.same g1 hx3, .int 1, .int 2, .int 3⟩, thr_no (.inl nd), small_a nd, sht _ (by simp [toldD])⟩
      have T2 : Told K _ t2 (.int 0) d (.int 2) (.int 3) := ⟨⟨_, _, _, _, upd_same, .int 0, Dp.same (g1.trans g2) hx3, .int 2, .int 3⟩, thr_no (.inr (.inl nd)), small_k (by decide) (by decide) (by decide) (by decide), sht _ (by simp [toldD])⟩
      have T3 : Told K _ t3 (.int 0) (.int 1) d (.int 3) := ⟨⟨_, _, _, _, upd_same, .int 0, .int 1, Dp.same (g1.trans (g2.trans g3)) hx3, .int 3⟩, thr_no (.inr (.inr (.inl nd))), small_c nd, sht _ (by simp [toldD])⟩
      have T4 : Told K _ t4 (.int 0) (.int 1) (.int 2) d := ⟨⟨_, _, _, _, upd_same, .int 0, .int 1, .int 2, Dp.same (g1.trans (g2.trans (g3.trans g4))) hx3⟩, thr_no (.inr (.inr (.inr nd))), small_k (by decide) (by decide) (by decide) (by decide), sht _ (by simp [toldD])⟩
      have U1 := T1.same (g2.trans (g3.trans (g4.trans g5)))
      have U2 := T2.same (g3.trans (g4.trans g5))
      have U3 := T3.same (g4.trans g5)
      have U4 := T4.same g5
      have hL := upd_same (H := upd (upd (upd (upd H3 t1 (.tup [x, .int 1, .int 2, .int 3])) t2 (.tup [.int 0, x, .int 2, .int 3])) t3 (.tup [.int 0, .int 1, x, .int 3])) t4 (.tup [.int 0, .int 1, .int 2, x])) (a := L) (o := .lst [.ref t1, .ref t2, .ref t3, .ref t4])
      have g := g1.trans (g2.trans (g3.trans (g4.trans g5)))
      clear T1 T2 T3 T4
      generalize upd (upd (upd (upd (upd H3 t1 (.tup [x, .int 1, .int 2, .int 3])) t2 (.tup [.int 0, x, .int 2, .int 3])) t3 (.tup [.int 0, .int 1, x, .int 3])) t4 (.tup [.int 0, .int 1, .int 2, x])) L (.lst [.ref t1, .ref t2, .ref t3, .ref t4]) = G at hL U1 U2 U3 U4 g ⊢
      clear g1 g2 g3 g4 g5 n1 n2 n3 n4 nL
      have item : ∀ (i : Nat) v, [V.ref t1, .ref t2, .ref t3, .ref t4][i]? = some v → ∃ u da db dc de, v = .ref u ∧ Told K G u da db dc de := by
        intro i v hv
        match i, hv with
        | 0, hv => cases hv; exact ⟨t1, _, _, _, _, rfl, U1⟩
        | 1, hv => cases hv; exact ⟨t2, _, _, _, _, rfl, U2⟩
        | 2, hv => cases hv; exact ⟨t3, _, _, _, _, rfl, U3⟩
        | 3, hv => cases hv; exact ⟨t4, _, _, _, _, rfl, U4⟩
      refine for_listD (K := K) (a := L) (xs := [.ref t1, .ref t2, .ref t3, .ref t4]) (fun i σ H' => Same G H' ∧ ∃ o2 o3 o4 o5, σ = [some (.ref p), some (.int m), o2, o3, o4, o5]) ⟨Same.refl G, _, _, _, _, rfl⟩ (fun i σ H' _ h => SqL.of (h.1 _ _ hL)) ?_ ?_
      · rintro D2 j v σ H4 hrt2 hD2 - - hj ⟨s4, o2, o3, o4, o5, rfl⟩
        obtain ⟨u, da, db, dc, de, rfl, tu⟩ := item j v hj
        obtain ⟨⟨a, b, c, e', hu4, ha, hb, hc, he⟩, tn, sm, sh⟩ := tu.same s4
        walk_at "nx"
        refine ⟨_, rfl, u, a, b, c, e', da, db, dc, de, rfl, hu4, ha, hb, hc, he, sm, fun _ v H5 s5 ⟨t5, hv, h5⟩ => ?_, fun z w' hz => by rw [tn] at hz; cases hz⟩
        refine ⟨_, rfl, by show 2 ≤ sizeLine; decide, fun l nl => ?_⟩
        have sl := same_upd (o := .lst [.str "bad", .ref u]) nl
        have s6 := s5.trans sl
        have two : ∀ {y : Addr}, (upd H5 l (.lst [.str "bad", .ref u])) y = some (.tup [a, b, c, e']) → Dp K (upd H5 l (.lst [.str "bad", .ref u])) (.ref y) (.tuple [da, db, dc, de]) := fun hy =>
          .tup (SqT.of hy) (.cons (Dp.same s6 ha) (.cons (Dp.same s6 hb) (.cons (Dp.same s6 hc) (.cons (Dp.same s6 he) .nil))))
        refine ⟨badD (.tuple [da, db, dc, de]), badD (.tuple [da, db, dc, de]), bad_dp (hv.same sl) (two (sl _ _ h5)), bad_dp ⟨l, rfl, upd_same⟩ (two (s6 _ _ hu4)), sh, sh, _, rfl, ?_⟩
        rw [SeqAt.eqv_refl _ (SeqAt.canLay_of_shaped sh)]
        exact iteF (hD2 _ _ ⟨s4.trans s6, _, _, _, _, rfl⟩)
      · rintro σ H4 ⟨s4, o2, o3, o4, o5, rfl⟩
        refine hD1 _ _ ⟨?_, _, _, _, _, rfl⟩
        exact s13.trans (g.trans s4)
    · rintro σ H2 ⟨s2, o2, o3, o4, o5, rfl⟩
      have lp2 := lp.same (s1.trans s2)
      walk_at "nx"
      refine ⟨_, _, rfl, rfl, ⟨by decide, by decide, by decide⟩, _, _, rfl, rfl, _, rfl, _, _, rfl, rfl, ?_⟩
      walk_at "nx"
      have b1 : betw 0 (10 ^ 30) (.int (-1 - m)) = false := by
        show (decide (0 ≤ -1 - m) && decide (-1 - m ≤ 10 ^ 30)) = false
        rw [decide_eq_false (by omega)]
        rfl
      have b2 : betw 0 (10 ^ 30) (.int (10 ^ (Int.toNat 30) + 1 + m)) = false := by
        show (decide (0 ≤ 10 ^ (Int.toNat 30) + 1 + m) && decide (10 ^ (Int.toNat 30) + 1 + m ≤ 10 ^ 30)) = false
        have e : (10 : Int) ^ (Int.toNat 30) = 10 ^ 30 := by decide
        rw [e, Bool.and_comm, decide_eq_false (by omega)]
        rfl
      refine ⟨_, rfl, _, rfl, _, rfl, _, _, rfl, rfl, p, .int (-1 - m), z, e, .int (-1 - m), rfl, lp2, fe, .int _, .inl ⟨b1, fun v H3 s3 hv => ?_⟩⟩
      refine ⟨_, rfl, _, rfl, _, _, rfl, rfl, by show 2 ≤ sizeLine; decide, fun l nl => ?_⟩
      have sl := same_upd (o := .lst [.str "bad", .int (-1 - m)]) nl
      refine ⟨badD (.int (-1 - m)), badD (.int (-1 - m)), bad_dp (hv.same sl) (.int _), bad_dp ⟨l, rfl, upd_same⟩ (.int _), shBI _, shBI _, _, rfl, ?_⟩
      rw [SeqAt.eqv_refl _ (SeqAt.canLay_of_shaped (shBI _))]
      refine iteT ?_
      have s4 := s3.trans sl
      refine ⟨_, rfl, _, rfl, p, .int (10 ^ (Int.toNat 30) + 1 + m), z, e, .int (10 ^ (Int.toNat 30) + 1 + m), rfl, lp2.same s4, fe, .int _, .inl ⟨b2, fun v H5 s5 hv => ?_⟩⟩
      refine ⟨_, rfl, by show 2 ≤ sizeLine; decide, fun l nl => ?_⟩
      have sl := same_upd (o := .lst [.str "bad", .int (10 ^ (Int.toNat 30) + 1 + m)]) nl
      refine ⟨badD (.int (10 ^ (Int.toNat 30) + 1 + m)), badD (.int (10 ^ (Int.toNat 30) + 1 + m)), bad_dp (hv.same sl) (.int _), bad_dp ⟨l, rfl, upd_same⟩ (.int _), shBI _, shBI _, ?_⟩
      rw [SeqAt.eqv_refl _ (SeqAt.canLay_of_shaped (shBI _))]
      exact q _ (s1.trans (s2.trans (s4.trans (s5.trans sl))))
end
end L2.L49

set_option maxHeartbeats 2000000
namespace L2.L49
open PySem PySem.Spec PyProof.Rows LR L2.Lr
local macro_rules | `(tactic| walk_at "nx") => `(tactic| dsimp only [gName, tNext, tSeq, tAsg, List.set_cons_zero, List.set_cons_succ])
abbrev NL : List Str := ["_law_script", "_law_k", "_law_pool_here", "_law_one", "_law_two", "_law_number_here", "_law_line", "_law_other", "_law_way", "_law_m", "_law_at", "_law_to", "_law_told", "_law_pair"]
theorem scL : FnScope NL ["_law_script"] (defScope sLaw) := ⟨rfl, rfl, rfl, by decide +kernel, rfl, by decide +kernel, by decide +kernel⟩
/-- what the law calls -/
structure Defs (P : Program) (w : World) (K : PySem.W.Frag) (mg : Str → Option Value) (base : Heap) (fP fT fN fM fD fS fU fV fG fH fL fO fQ fI fE : Addr) (xP xT xN xM xD xS xU xV xG xH xL xO xQ xI xE : FuncData) : Prop where
  dP : Def P w K mg base CX0 1 "_law_pool" fP xP ["_law_script", "_law_k"] (spPool K)
  dT : Def P w K mg base CX0 1 "_law_take" fT xT ["_law_pool_here", "_law_many"] spTake
  dN : Def P w K mg base CX0 2 "_law_number" fN xN ["_law_pool_here"] spNmb
  dM : Def P w K mg base CX0 5 "_law_made" fM xM ["_law_pair"] (spMade K)
  dD : Def P w K mg base CX0 2 "_law_due" fD xD ["_law_pair"] (spDue K)
  dS : Def P w K mg base CX0 1 "_law_same" fS xS ["_law_found", "_law_due_here"] (spSame K)
  dU : Def P w K mg base CX0 6 "_law_sum" fU xU ["_law_line", "_law_other", "_law_way"] (spSum K)
  dV : Def P w K mg base CX0 3 "_law_sum_due" fV xV ["_law_one", "_law_other", "_law_way"] (spSumD K)
  dG : Def P w K mg base CX0 4 "_law_value" fG xG ["_law_line", "_law_m"] (spVal K)
  dH : Def P w K mg base CX0 7 "_law_through" fH xH ["_law_told"] (spThrL K)
  dL : Def P w K mg base CX0 2 "_law_through_due" fL xL ["_law_told"] (spThrD K)
  dO : Def P w K mg base CX0 8 "_law_odd_right" fO xO ["_law_line", "_law_m"] (spOdd K)
  m : MkL P w K mg base fI xI
  b1 : ∃ ds, Vals [.int 0] ds ∧ Binds K xI ["self", "at_zero", "slope"] ds
  eD : Dun K (CL K) fE "__eq__"
  eF : FnOk P w K mg base CX0 1 fE xE ["self", "other"] (spEq K)
  eB : Binds K xE ["self", "other"] []
  nE : PySem.W.findIn K (.ref (CL K)) "__ne__" = some (some (.builtin "object.__ne__"))
  mr : PySem.W.mroIn K (CL K) (.type "object") = some true
  tS : PySem.W.subIn K (.type "tuple") (.ref (CL K)) = some false
def spLaw (K : PySem.W.Frag) : Sp := fun vs H Q _ => ∃ (a : Addr) (ns : List Int), vs = [.ref a] ∧ SqL K H a (ns.map V.int) ∧ ns.length ≤ 63 ∧ ∀ H', Q (.bl true) H'
/-- what stands behind the drawing -/
structure Mde (K : PySem.W.Frag) (H : Hp) (pp t1 t2 p q : Addr) (z e y d n : Int) : Prop where
  po : PoolAt H pp
  one : H t1 = some (.tup [.int z, .int e])
  two : H t2 = some (.tup [.int y, .int d])
  lp : LineAt K H p z e
  lq : LineAt K H q y d
  fz : Far z
  fe : Far e
  fy : Far y
  fd : Far d
  fn : Far n
theorem Mde.same {K : PySem.W.Frag} {H H' : Hp} {pp t1 t2 p q : Addr} {z e y d n : Int} (m : Mde K H pp t1 t2 p q z e y d n) (s : Same H H') : Mde K H' pp t1 t2 p q z e y d n :=
  ⟨m.po.same s, s _ _ m.one, s _ _ m.two, m.lp.same s, m.lq.same s, m.fz, m.fe, m.fy, m.fd, m.fn⟩
theorem ins_ne {H : Hp} {p t C dx : Addr} {fs : List (Str × V)} (h : PoolAt H p) (e : H t = some (.ins C dx fs)) : t ≠ p := by
  obtain ⟨c, s, hp, _⟩ := h
  intro z
  rw [z, hp] at e
  cases e
theorem Mde.adv {K : PySem.W.Frag} {H H' : Hp} {pp t1 t2 p q : Addr} {z e y d n : Int} (m : Mde K H pp t1 t2 p q z e y d n) (a : Adv pp H H') (h : PoolAt H' pp) : Mde K H' pp t1 t2 p q z e y d n := by
  obtain ⟨dx, hp⟩ := m.lp
  obtain ⟨dy, hq⟩ := m.lq
  exact ⟨h, a _ _ m.one (m.po.ne m.one), a _ _ m.two (m.po.ne m.two), ⟨dx, a _ _ hp (ins_ne m.po hp)⟩, ⟨dy, a _ _ hq (ins_ne m.po hq)⟩, m.fz, m.fe, m.fy, m.fd, m.fn⟩
def StL (K : PySem.W.Frag) (H1 : Hp) (a pp : Addr) (σ : St) (H : Hp) : Prop := ∃ (t1 t2 p q : Addr) (z e y d n : Int) (o1 o8 o9 o10 o11 o12 o13 : Option V),
  σ = [some (.ref a), o1, some (.ref pp), some (.ref t1), some (.ref t2), some (.int n), some (.ref p), some (.ref q), o8, o9, o10, o11, o12, o13] ∧ Mde K H pp t1 t2 p q z e y d n ∧ Adv pp H1 H
theorem heqv (z e y d : Int) : PyData.eqv (.tuple [.int z, .int e]) (.tuple [.int y, .int d]) = (decide (z = y) && decide (e = d)) := by
  simp only [PyData.eqv, PyData.eqvAll, Bool.and_true]
  rfl
theorem far_w {z : Int} (h : Far z) : z.natAbs < 2 ^ 1400 := far_nat h
theorem agree_thr {K : PySem.W.Frag} {H : Hp} {v u : V} {t : Addr} {m x o f : Int} (ht : H t = some (.tup [.int m, .int x, .int o, .int f])) (hn : thrI m x o f = none → BadT H v [.int m, .int x, .int o, .int f]) (hs : ∀ z w, thrI m x o f = some (z, w) → LnAt K H v z w)
    (g : IsThrD H u t (thrI m x o f)) : Agree K H v u := by
  have dp : ∀ {y : Addr}, H y = some (.tup [.int m, .int x, .int o, .int f]) → Dp K H (.ref y) (.tuple [.int m, .int x, .int o, .int f]) := fun hy => .tup (SqT.of hy) (.cons (.int m) (.cons (.int x) (.cons (.int o) (.cons (.int f) .nil))))
  cases h : thrI m x o f with
  | none =>
    rw [h] at g
    obtain ⟨t2, hb, h2⟩ := hn h
    refine agree_bad hb g (dp h2) (dp ht) ?_
    simp [badD, SeqAt.shaped, PyData.canLay0, PyData.canLayAll0, PyData.depth, PyData.depthAll]
    decide +kernel
  | some p =>
    rw [h] at g
    exact .inr ⟨p.1, p.2, hs p.1 p.2 h, g⟩
section
variable {P : Program} {w : World} {K : PySem.W.Frag} {mg : Str → Option Value} {base : Heap}
theorem ok_law {f : Addr} {fd : FuncData} {fP fT fN fM fD fS fU fV fG fH fL fO fQ fI fE : Addr} {xP xT xN xM xD xS xU xV xG xH xL xO xQ xI xE : FuncData} (F : FnP K "law" sLaw f fd) (T : Txt K mg)
    (D : Defs P w K mg base fP fT fN fM fD fS fU fV fG fH fL fO fQ fI fE xP xT xN xM xD xS xU xV xG xH xL xO xQ xI xE) : FnOk P w K mg base CX0 9 f fd ["_law_script"] (spLaw K) := by
  refine F.ok scL (fun vs H Q E h => ?_) (fun cdv A outer s H vs Q E hr h => ?_)
  · obtain ⟨a, ns, rfl, _⟩ := h
    rfl
  · obtain ⟨a, ns, rfl, hS, hlen, q⟩ := h
    have hr1 : Room 1 _ := hr.mono (by decide)
    have hr2 : Room 2 _ := hr.mono (by decide)
    have hr3 : Room 3 _ := hr.mono (by decide)
    have hr4 : Room 4 _ := hr.mono (by decide)
    have hr5 : Room 5 _ := hr.mono (by decide)
    have hr6 : Room 6 _ := hr.mono (by decide)
    have hr7 : Room 7 _ := hr.mono (by decide)
    have hu := hr.units
    obtain ⟨ds, vds, b1⟩ := D.b1
    refine ⟨_, PSs.nox (pss_cons (ps_for PassesOwn.never rfl (pi_range1 (by rfl) T.range (pa_cons (pe_callB (call_max2 rfl) (by rfl) T.max boot_max (pa_cons pe_int (pa_cons (pe_callB (call_min2 rfl) (by rfl) T.min boot_min (pa_cons (pe_callB call_len (by rfl) T.len boot_len (pa_cons (pv 0) pa_nil)) (pa_cons pe_int pa_nil))) pa_nil))) pa_nil)) (pg_name (i := 1) scL.nd rfl (Or.inl rfl))
      (pss_cons (ps_set (i := 2) scL.nd rfl (Or.inl rfl) (pe_call D.dP.ok hr1 (by rfl) D.dP.g D.dP.k D.dP.b .nil pass0 (pa_cons (pv 0) (pa_cons (pv 1) pa_nil))))
      (C8.pss_cut (ps_set (i := 3) scL.nd rfl (Or.inl rfl) (pe_tup (pa_cons (pe_call D.dN.ok hr2 (by rfl) D.dN.g D.dN.k D.dN.b .nil pass0 (pa_cons (pv 2) pa_nil)) (pa_cons (pe_call D.dN.ok hr2 (by rfl) D.dN.g D.dN.k D.dN.b .nil pass0 (pa_cons (pv 2) pa_nil)) pa_nil))))
      (C8.pss_cut (ps_par (i := 4) (j := 5) (by rfl) scL.nd rfl rfl (by decide) rfl rfl (pa_cons (pe_tup (pa_cons (pe_call D.dN.ok hr2 (by rfl) D.dN.g D.dN.k D.dN.b .nil pass0 (pa_cons (pv 2) pa_nil)) (pa_cons (pe_call D.dN.ok hr2 (by rfl) D.dN.g D.dN.k D.dN.b .nil pass0 (pa_cons (pv 2) pa_nil)) pa_nil)))
          (pa_cons (pe_call D.dN.ok hr2 (by rfl) D.dN.g D.dN.k D.dN.b .nil pass0 (pa_cons (pv 2) pa_nil)) pa_nil)) (by rfl))
      (C8.pss_cut (ps_par (i := 6) (j := 7) (by rfl) scL.nd rfl rfl (by decide) rfl rfl (pa_cons (pe_make D.m.m D.m.ok hr4 (by rfl) T.gL D.m.b .nil passL (pa_cons (pe_ix ix_tup (pv 3) pe_int (fun _ _ => rfl)) (pa_cons (pe_ix ix_tup (pv 3) pe_int (fun _ _ => rfl)) pa_nil)))
          (pa_cons (pe_make D.m.m D.m.ok hr4 (by rfl) T.gL D.m.b .nil passL (pa_cons (pe_ix ix_tup (pv 4) pe_int (fun _ _ => rfl)) (pa_cons (pe_ix ix_tup (pv 4) pe_int (fun _ _ => rfl)) pa_nil))) pa_nil)) (by rfl))
      (C8.pss_cut (ps_for PassesOwn.never rfl (pi_list (pe_lst (pa_cons pe_int (pa_cons pe_int pa_nil)))) (pg_name (i := 8) scL.nd rfl (Or.inl rfl)) (pss_one (ps_if (pt_not (pt_val (pe_call D.dS.ok hr1 (by rfl) D.dS.g D.dS.k D.dS.b .nil pass0 (pa_cons (pe_call D.dU.ok hr6 (by rfl) D.dU.g D.dU.k D.dU.b .nil pass0 (pa_cons (pv 6) (pa_cons (pv 7) (pa_cons (pv 8) pa_nil)))) (pa_cons (pe_call D.dV.ok hr3 (by rfl) D.dV.g D.dV.k D.dV.b .nil pass0 (pa_cons (pv 3) (pa_cons (pv 4) (pa_cons (pv 8) pa_nil)))) pa_nil))))) (pss_one (ps_ret pe_bl)) pss_nil)))
      (C8.pss_cut (ps_for PassesOwn.never rfl (pi_range1 (by rfl) T.range (pa_cons pe_int pa_nil)) (pg_name (i := 8) scL.nd rfl (Or.inl rfl)) (pss_one (ps_if (pt_not (pt_val (pe_call D.dS.ok hr1 (by rfl) D.dS.g D.dS.k D.dS.b .nil pass0 (pa_cons (pe_call D.dU.ok hr6 (by rfl) D.dU.g D.dU.k D.dU.b .nil pass0 (pa_cons (pv 6) (pa_cons (pv 5) (pa_cons (pv 8) pa_nil)))) (pa_cons (pe_call D.dV.ok hr3 (by rfl) D.dV.g D.dV.k D.dV.b .nil pass0 (pa_cons (pv 3) (pa_cons (pv 5) (pa_cons (pv 8) pa_nil)))) pa_nil))))) (pss_one (ps_ret pe_bl)) pss_nil)))
      (C8.pss_cut (ps_if (PW.pt (pw_or (pt_cmpR (op_neS hu) (pe_call D.dU.ok hr6 (by rfl) D.dU.g D.dU.k D.dU.b .nil pass0 (pa_cons (pv 6) (pa_cons (pv 7) (pa_cons pe_int pa_nil)))) (pe_lst (pa_cons pe_str (pa_cons (pv 7) pa_nil))) (nomark _)) (pw_or1 (pt_cmpR (op_neO D.eD D.nE D.mr D.eF hr2 D.eB pass0) (pe_make D.m.m D.m.ok hr4 (by rfl) T.gL b1 vds passL (pa_cons (pe_ix ix_tup (pv 3) pe_int (fun _ _ => rfl)) pa_nil)) (pe_make D.m.m D.m.ok hr4 (by rfl) T.gL D.m.b .nil passL (pa_cons (pe_ix ix_tup (pv 3) pe_int (fun _ _ => rfl)) (pa_cons pe_int pa_nil))) (nomark _))))) (pss_one (ps_ret pe_bl)) pss_nil)
      (C8.pss_cut (ps_if (PW.pt (pw_or (pt_cmpR op_ne (pe_cmpR (op_eqO D.eD D.eF hr1 D.eB pass0) (pv 6) (pv 7) (nomark _)) (pe_cmpR (op_eqD hu) (pv 3) (pv 4) (nomark _)) (nomark _)) (pw_or (pt_cmpR (op_eqK D.eD D.eF hr1 D.eB pass0) (pv 6) (pv 3) (nomark _)) (pw_or1 (pt_cmpR (op_neO D.eD D.nE D.mr D.eF hr2 D.eB pass0) (pv 6) (pe_make D.m.m D.m.ok hr4 (by rfl) T.gL D.m.b .nil passL (pa_cons (pe_ix ix_tup (pv 3) pe_int (fun _ _ => rfl)) (pa_cons (pe_ix ix_tup (pv 3) pe_int (fun _ _ => rfl)) pa_nil))) (nomark _)))))) (pss_one (ps_ret pe_bl)) pss_nil)
      (pss_cons (ps_set (i := 9) scL.nd rfl (Or.inl rfl) (pe_ix ix_list (pe_lst (pa_cons pe_int (pa_cons (pe_op op_pow pe_int pe_int) (pa_cons (pe_call D.dT.ok hr1 (by rfl) D.dT.g D.dT.k D.dT.b .nil pass0 (pa_cons (pv 2) (pa_cons (pe_op op_add (pe_op op_pow pe_int pe_int) pe_int) pa_nil))) pa_nil)))) (pe_call D.dT.ok hr1 (by rfl) D.dT.g D.dT.k D.dT.b .nil pass0 (pa_cons (pv 2) (pa_cons pe_int pa_nil))) (fun _ _ => rfl)))
      (C8.pss_cut (ps_if (PW.pt (pw_or (pt_cmpR op_ne (pe_call D.dG.ok hr4 (by rfl) D.dG.g D.dG.k D.dG.b .nil pass0 (pa_cons (pv 6) (pa_cons (pv 9) pa_nil))) (pe_op op_add (pe_ix ix_tup (pv 3) pe_int (fun _ _ => rfl)) (pe_op op_mulW (pe_ix ix_tup (pv 3) pe_int (fun _ _ => rfl)) (pv 9))) (nomark _)) (pw_or1 (pt_not (pt_val (pe_call D.dO.ok hr (by rfl) D.dO.g D.dO.k D.dO.b .nil pass0 (pa_cons (pv 6) (pa_cons (pv 9) pa_nil)))))))) (pss_one (ps_ret pe_bl)) pss_nil)
      (pss_cons (ps_set (i := 10) scL.nd rfl (Or.inl rfl) (pe_op op_sub (pe_call D.dT.ok hr1 (by rfl) D.dT.g D.dT.k D.dT.b .nil pass0 (pa_cons (pv 2) (pa_cons pe_int pa_nil))) pe_int))
      (pss_cons (ps_set (i := 11) scL.nd rfl (Or.inl rfl) (pe_op op_add (pv 10) (pe_call D.dT.ok hr1 (by rfl) D.dT.g D.dT.k D.dT.b .nil pass0 (pa_cons (pv 2) (pa_cons pe_int pa_nil)))))
      (C8.pss_cut (ps_for PassesOwn.never rfl (pi_list (pe_lst (pa_cons (pe_tup (pa_cons (pv 10) (pa_cons (pe_op op_add (pe_ix ix_tup (pv 3) pe_int (fun _ _ => rfl)) (pe_op op_mul (pe_ix ix_tup (pv 3) pe_int (fun _ _ => rfl)) (pv 10))) (pa_cons (pv 11) (pa_cons (pe_op op_add (pe_ix ix_tup (pv 3) pe_int (fun _ _ => rfl)) (pe_op op_mul (pe_ix ix_tup (pv 3) pe_int (fun _ _ => rfl)) (pv 11))) pa_nil)))))
            (pa_cons (pe_tup (pa_cons (pv 10) (pa_cons (pv 5) (pa_cons (pv 11) (pa_cons (pe_ix ix_tup (pv 4) pe_int (fun _ _ => rfl)) pa_nil))))) (pa_cons (pe_tup (pa_cons (pv 10) (pa_cons pe_int (pa_cons (pv 11) (pa_cons pe_int pa_nil))))) pa_nil))))) (pg_name (i := 12) scL.nd rfl (Or.inl rfl))
          (pss_one (ps_if (pt_not (pt_val (pe_call D.dS.ok hr1 (by rfl) D.dS.g D.dS.k D.dS.b .nil pass0 (pa_cons (pe_call D.dH.ok hr7 (by rfl) D.dH.g D.dH.k D.dH.b .nil pass0 (pa_cons (pv 12) pa_nil)) (pa_cons (pe_call D.dL.ok hr2 (by rfl) D.dL.g D.dL.k D.dL.b .nil pass0 (pa_cons (pv 12) pa_nil)) pa_nil))))) (pss_one (ps_ret pe_bl)) pss_nil)))
      (C8.pss_cut (ps_for PassesOwn.never rfl (pi_list (pe_lst (pa_cons (pe_tup (pa_cons (pe_op op_mul (pe_ix ix_tup (pv 3) pe_int (fun _ _ => rfl)) pe_int) (pa_cons (pe_ix ix_tup (pv 4) pe_int (fun _ _ => rfl)) pa_nil))) (pa_cons (pe_tup (pa_cons (pe_ix ix_tup (pv 3) pe_int (fun _ _ => rfl)) (pa_cons (pe_op op_mul (pe_ix ix_tup (pv 4) pe_int (fun _ _ => rfl)) pe_int) pa_nil))) pa_nil)))) (pg_name (i := 13) scL.nd rfl (Or.inl rfl))
          (pss_one (ps_if (pt_not (pt_val (pe_call D.dS.ok hr1 (by rfl) D.dS.g D.dS.k D.dS.b .nil pass0 (pa_cons (pe_call D.dM.ok hr5 (by rfl) D.dM.g D.dM.k D.dM.b .nil pass0 (pa_cons (pv 13) pa_nil)) (pa_cons (pe_call D.dD.ok hr2 (by rfl) D.dD.g D.dD.k D.dD.b .nil pass0 (pa_cons (pv 13) pa_nil)) pa_nil))))) (pss_one (ps_ret pe_bl)) pss_nil)))
      (pss_one (ps_if (PW.pt (pw_or (pt_cmpR (op_neD hu) (pe_tup (pa_cons (pe_fld (pv 6) rfl) (pa_cons (pe_fld (pv 6) rfl) pa_nil))) (pv 3) (nomark _)) (pw_or1 (pt_cmpR (op_neD hu) (pe_tup (pa_cons (pe_fld (pv 7) rfl) (pa_cons (pe_fld (pv 7) rfl) pa_nil))) (pv 4) (nomark _))))) (pss_one (ps_ret pe_bl)) pss_nil)))))))))))))))))
      (pss_one (ps_ret pe_bl))), ?_⟩
    have hrd : ∀ H', Same H H' → SqL K H' a (ns.map V.int) := fun H' s => s.seq hS
    refine ⟨_, rfl, _, (ns.map V.int).length, rfl, Or.inl ⟨_, hS, rfl⟩, _, _, rfl, _, _, rfl, _, rfl, ?_, ?_, ?_⟩
    · split <;> split <;> omega
    · split <;> split <;> omega
    refine for_rangeD (lo := 0) (fun i σ H' => Same H H' ∧ ∃ o1 o2 o3 o4 o5 o6 o7 o8 o9 o10 o11 o12 o13, σ = [some (.ref a), o1, o2, o3, o4, o5, o6, o7, o8, o9, o10, o11, o12, o13]) ⟨Same.refl H, none, none, none, none, none, none, none, none, none, none, none, none, none, rfl⟩ ?_ (fun σ H' _ => q H')
    rintro D1 k σ H1 - hD1 - - hk ⟨s1, o1, o2, o3, o4, o5, o6, o7, o8, o9, o10, o11, o12, o13, rfl⟩
    have hk6 : k < 4 := by
      revert hk
      split <;> split <;> omega
    -- the pool
    refine ⟨_, rfl, _, rfl, a, ns, 0 + (k : Int), rfl, hrd H1 s1, by omega, by omega, by omega, fun pp H2 np s2 hp2 => ?_⟩
    walk_at "nx"
    -- the first pair
    refine ⟨fun σ' H' => ∃ t1 z e, σ' = [some (.ref a), some (.int (0 + (k : Int))), some (.ref pp), some (.ref t1), o4, o5, o6, o7, o8, o9, o10, o11, o12, o13] ∧ PoolAt H' pp ∧ Adv pp H2 H' ∧ H' t1 = some (.tup [.int z, .int e]) ∧ Far z ∧ Far e, ?_, ?_⟩
    · refine ⟨_, rfl, pp, rfl, hp2, fun z H3 fz a3 hp3 => ?_⟩
      refine ⟨_, rfl, pp, rfl, hp3, fun e H4 fe a4 hp4 => ⟨by show 2 ≤ sizeLine; decide, fun t1 n1 => ?_⟩⟩
      have s5 := same_upd (o := .tup [.int z, .int e]) n1
      exact ⟨t1, z, e, rfl, hp4.same s5, (a3.trans a4).same s5, upd_same, fz, fe⟩
    rintro σ2 H3 ⟨t1, z, e, rfl, hp3, a3, h1, fz, fe⟩
    refine ⟨fun σ' H' => ∃ t2 y d n, σ' = [some (.ref a), some (.int (0 + (k : Int))), some (.ref pp), some (.ref t1), some (.ref t2), some (.int n), o6, o7, o8, o9, o10, o11, o12, o13] ∧ PoolAt H' pp ∧ Adv pp H2 H' ∧ H' t1 = some (.tup [.int z, .int e]) ∧ H' t2 = some (.tup [.int y, .int d]) ∧ Far y ∧ Far d ∧ Far n, ?_, ?_⟩
    · refine ⟨_, rfl, pp, rfl, hp3, fun y H4 fy a4 hp4 => ?_⟩
      refine ⟨_, rfl, pp, rfl, hp4, fun d H5 fd a5 hp5 => ⟨by show 2 ≤ sizeLine; decide, fun t2 n2 => ?_⟩⟩
      have s6 := same_upd (o := .tup [.int y, .int d]) n2
      have h2 : (upd H5 t2 (.tup [.int y, .int d])) t2 = some (.tup [.int y, .int d]) := upd_same
      refine ⟨_, rfl, pp, rfl, hp5.same s6, fun n H7 fn a7 hp7 => ⟨_, _, rfl, ?_⟩⟩
      have e1 := hp3.ne h1
      have h4 := a4 _ _ h1 e1
      have h5 := a5 _ _ h4 e1
      have h6 := s6 _ _ h5
      exact ⟨t2, y, d, n, rfl, hp7, a3.trans (((a4.trans a5).same s6).trans a7), a7 _ _ h6 e1, a7 _ _ h2 ((hp5.same s6).ne h2), fy, fd, fn⟩
    clear hp3 a3 h1
    rintro σ3 H3 ⟨t2, y, d, n, rfl, hp3, a3, h1, h2, fy, fd, fn⟩
    -- the lines
    refine ⟨StL K H2 a pp, ?_, ?_⟩
    · refine ⟨_, rfl, t1, _, 0, .int z, rfl, rfl, SqT.of h1, rfl, _, rfl, t1, _, 1, .int e, rfl, rfl, SqT.of h1, rfl, ?_⟩
      intro p dx_ hx_ hdx_ hne_
      refine ⟨p, dx_, .int z, .int e, .int z, .int e, rfl, upd_same, .int _, .int _, .inr (.inr ⟨z, e, rfl, rfl, fz, fe, fun H4 keep_ lp => ⟨rfl, ?_⟩⟩)⟩
      have s4 := make_same hx_ hdx_ keep_
      clear hx_ hdx_ hne_ keep_
      refine ⟨_, rfl, t2, _, 0, .int y, rfl, rfl, SqT.of (s4 _ _ h2), rfl, _, rfl, t2, _, 1, .int d, rfl, rfl, SqT.of (s4 _ _ h2), rfl, ?_⟩
      intro q2 dx_ hx_ hdx_ hne_
      refine ⟨q2, dx_, .int y, .int d, .int y, .int d, rfl, upd_same, .int _, .int _, .inr (.inr ⟨y, d, rfl, rfl, fy, fd, fun H5 keep_ lq => ⟨rfl, ?_⟩⟩)⟩
      have s5 := make_same hx_ hdx_ keep_
      clear hx_ hdx_ hne_ keep_
      have s6 := s4.trans s5
      exact ⟨_, _, rfl, t1, t2, p, q2, z, e, y, d, n, _, _, _, _, _, _, _, rfl, ⟨hp3.same s6, s6 _ _ h1, s6 _ _ h2, lp.same s5, lq, fz, fe, fy, fd, fn⟩, a3.same s6⟩
    clear fz fe fy fd fn h1 h2 hp3 a3
    rintro σ4 H4 S4
    have hend : ∀ σ H', StL K H2 a pp σ H' → D1.nx σ H' := fun σ H' ⟨t1, t2, p, q, z, e, y, d, n, _, _, _, _, _, _, _, e1, _, ad⟩ => hD1 _ _ ⟨s1.trans (Adv.new np (Same.adv s2 ad)), _, _, _, _, _, _, _, _, _, _, _, _, _, e1⟩
    clear hD1 hp2 hrd s1 hS
    -- sums of lines
    refine ⟨StL K H2 a pp, ?_, ?_⟩
    · obtain ⟨t1, t2, p, q2, z, e, y, d, n, o1, o8, o9, o10, o11, o12, o13, rfl, M, ad⟩ := S4
      refine ⟨by show 2 ≤ sizeLine; decide, fun L nL => ⟨L, rfl, ⟨_, SqL.of upd_same⟩, ?_⟩⟩
      have sL := same_upd (o := .lst [.int 0, .int 1]) nL
      have hL : (upd H4 L (.lst [.int 0, .int 1])) L = some (.lst [.int 0, .int 1]) := upd_same
      have M2 := M.same sL
      have ad2 := ad.same sL
      generalize upd H4 L (.lst [.int 0, .int 1]) = G at hL M2 ad2 ⊢
      clear sL nL M ad
      refine for_listD (K := K) (a := L) (xs := [.int 0, .int 1]) (fun i σ H' => Same G H' ∧ ∃ o8, σ = [some (.ref a), o1, some (.ref pp), some (.ref t1), some (.ref t2), some (.int n), some (.ref p), some (.ref q2), o8, o9, o10, o11, o12, o13]) ⟨Same.refl G, _, rfl⟩ (fun i σ H' _ h => SqL.of (h.1 _ _ hL)) ?_ ?_
      · rintro D2 j v σ H5 hrt hD2 - - hj ⟨s5, o8, rfl⟩
        obtain ⟨way, rfl, hw, hw2⟩ : ∃ way : Int, v = .int way ∧ (way = 0 ∨ way = 1 ∨ way = 2) ∧ way ≠ 2 := by
          match j, hj with
          | 0, hj => cases hj; exact ⟨0, rfl, .inl rfl, by decide⟩
          | 1, hj => cases hj; exact ⟨1, rfl, .inr (.inl rfl), by decide⟩
        have M5 := M2.same s5
        walk_at "nx"
        refine ⟨_, rfl, _, rfl, _, rfl, p, .ref q2, way, z, e, rfl, M5.lp, M5.fz, M5.fe, hw, .inl ⟨q2, y, d, rfl, M5.lq, hw2, fun v H6 s6 hv => ?_⟩⟩
        refine ⟨_, rfl, _, rfl, _, rfl, t1, .ref t2, way, z, e, rfl, s6 _ _ M5.one, M5.fz, M5.fe, hw, .inl ⟨t2, y, d, rfl, s6 _ _ M5.two, hw2, fun u H7 s7 hu => ?_⟩⟩
        refine ⟨v, u, rfl, agree_sum (hv.same s7) hu, _, rfl, ?_⟩
        exact iteF (hD2 _ _ ⟨s5.trans (s6.trans s7), _, rfl⟩)
      · rintro σ H5 ⟨s5, o8, rfl⟩
        exact ⟨t1, t2, p, q2, z, e, y, d, n, _, _, _, _, _, _, _, rfl, M2.same s5, ad2.same s5⟩
    clear S4
    rintro σ4 H4 S4
    -- sums of a line and a number
    refine ⟨StL K H2 a pp, ?_, ?_⟩
    · obtain ⟨t1, t2, p, q2, z, e, y, d, n, o1, o8, o9, o10, o11, o12, o13, rfl, M, ad⟩ := S4
      refine ⟨3, rfl, by decide, by decide, for_rangeD (n := 3) (lo := 0) (fun i σ H' => Same H4 H' ∧ ∃ o8, σ = [some (.ref a), o1, some (.ref pp), some (.ref t1), some (.ref t2), some (.int n), some (.ref p), some (.ref q2), o8, o9, o10, o11, o12, o13]) ⟨Same.refl H4, _, rfl⟩ ?_ ?_⟩
      · rintro D2 j σ H5 hrt hD2 - - hj ⟨s5, o8, rfl⟩
        have hw : (0 + (j : Int) = 0 ∨ 0 + (j : Int) = 1 ∨ 0 + (j : Int) = 2) := by omega
        have M5 := M.same s5
        walk_at "nx"
        refine ⟨_, rfl, _, rfl, _, rfl, p, .int n, 0 + (j : Int), z, e, rfl, M5.lp, M5.fz, M5.fe, hw, .inr (.inr (.inr ⟨n, rfl, far_w M5.fn, fun v H6 s6 hv => ?_⟩))⟩
        refine ⟨_, rfl, _, rfl, _, rfl, t1, .int n, 0 + (j : Int), z, e, rfl, s6 _ _ M5.one, M5.fz, M5.fe, hw, .inr ⟨n, rfl, far_w M5.fn, fun u H7 s7 hu => ?_⟩⟩
        refine ⟨v, u, rfl, agree_sum (hv.same s7) hu, _, rfl, ?_⟩
        exact iteF (hD2 _ _ ⟨s5.trans (s6.trans s7), _, rfl⟩)
      · rintro σ H5 ⟨s5, o8, rfl⟩
        exact ⟨t1, t2, p, q2, z, e, y, d, n, _, _, _, _, _, _, _, rfl, M.same s5, ad.same s5⟩
    clear S4
    rintro σ4 H4 S4
    -- line times line, the default
    refine ⟨StL K H2 a pp, ?_, ?_⟩
    · obtain ⟨t1, t2, p, q2, z, e, y, d, n, o1, o8, o9, o10, o11, o12, o13, rfl, M, ad⟩ := S4
      refine ⟨_, rfl, _, rfl, p, .ref q2, 2, z, e, rfl, M.lp, M.fz, M.fe, .inr (.inr rfl), .inr (.inl ⟨q2, y, d, rfl, M.lq, rfl, fun v H5 s5 hv => ?_⟩)⟩
      obtain ⟨l1, rfl, hl1⟩ := hv
      refine ⟨_, rfl, by show 2 ≤ sizeLine; decide, fun l2 n2 => ?_⟩
      have s6 := same_upd (o := .lst [.str "bad", .ref q2]) n2
      refine ⟨l1, l2, _, rfl, rfl, SqL.of (s6 _ _ hl1), SqL.of upd_same, fun v hv => ?_, _, rfl, iteF ?_⟩
      · rcases List.mem_cons.mp hv with rfl | hv
        · exact .inl rfl
        · exact .inr ⟨q2, List.mem_singleton.mp hv⟩
      have s7 := s5.trans s6
      generalize upd H5 l2 (.lst [.str "bad", .ref q2]) = H6 at s7 ⊢
      clear s5 s6 hl1 n2
      have f0 : Far 0 := far_big (by decide)
      refine ⟨_, rfl, t1, _, 0, .int z, rfl, rfl, SqT.of (s7 _ _ M.one), rfl, ?_⟩
      intro r dx_ hx_ hdx_ hne_
      refine ⟨r, dx_, .int z, .int 0, .int z, .int 0, rfl, upd_same, .int _, .int _, .inr (.inr ⟨z, 0, rfl, rfl, M.fz, f0, fun H7 keep_ lr => ⟨rfl, ?_⟩⟩)⟩
      have s8 := make_same hx_ hdx_ keep_
      clear hx_ hdx_ hne_ keep_
      refine ⟨_, rfl, t1, _, 0, .int z, rfl, rfl, SqT.of (s8 _ _ (s7 _ _ M.one)), rfl, ?_⟩
      intro r2 dx_ hx_ hdx_ hne_
      refine ⟨r2, dx_, .int z, .int 0, .int z, .int 0, rfl, upd_same, .int _, .int _, .inr (.inr ⟨z, 0, rfl, rfl, M.fz, f0, fun H8 keep_ lr2 => ⟨rfl, ?_⟩⟩)⟩
      have s9 := make_same hx_ hdx_ keep_
      clear hx_ hdx_ hne_ keep_
      obtain ⟨dr, hdr⟩ := lr.same s9
      obtain ⟨dr2, hdr2⟩ := id lr2
      refine ⟨r, dr, _, r2, dr2, _, rfl, hdr, rfl, hdr2, r, .ref r2, z, 0, rfl, ⟨dr, hdr⟩, .inl ⟨r2, z, 0, rfl, lr2, _, rfl, _, rfl, ?_⟩⟩
      rw [decide_eq_true rfl, decide_eq_true rfl]
      have s10 := s7.trans (s8.trans s9)
      exact iteF ⟨t1, t2, p, q2, z, e, y, d, n, _, _, _, _, _, _, _, rfl, M.same s10, ad.same s10⟩
    clear S4
    rintro σ4 H4 S4
    -- equal lines
    refine ⟨StL K H2 a pp, ?_, ?_⟩
    · obtain ⟨t1, t2, p, q2, z, e, y, d, n, o1, o8, o9, o10, o11, o12, o13, rfl, M, ad⟩ := S4
      obtain ⟨dp, hdp⟩ := id M.lp
      obtain ⟨dq, hdq⟩ := id M.lq
      refine ⟨_, rfl, _, rfl, p, dp, _, q2, dq, _, rfl, hdp, rfl, hdq, p, .ref q2, z, e, rfl, M.lp, .inl ⟨q2, y, d, rfl, M.lq, ?_⟩⟩
      refine ⟨_, rfl, _, rfl, _, _, prDp M.one, prDp M.two, rfl, rfl, rfl, _, rfl, ?_⟩
      refine iteNS (congrArg V.bl (heqv z e y d).symm) ?_
      refine ⟨_, rfl, _, rfl, p, dp, _, _, rfl, hdp, .tup (SqT.of M.one), D.tS, p, .ref t1, z, e, rfl, M.lp, .inr ⟨_, prDp M.one, _, rfl, iteF ?_⟩⟩
      refine ⟨_, rfl, _, rfl, t1, _, 0, .int z, rfl, rfl, SqT.of M.one, rfl, _, rfl, t1, _, 1, .int e, rfl, rfl, SqT.of M.one, rfl, ?_⟩
      intro r dx_ hx_ hdx_ hne_
      refine ⟨r, dx_, .int z, .int e, .int z, .int e, rfl, upd_same, .int _, .int _, .inr (.inr ⟨z, e, rfl, rfl, M.fz, M.fe, fun H5 keep_ lr => ⟨rfl, ?_⟩⟩)⟩
      have s5 := make_same hx_ hdx_ keep_
      clear hx_ hdx_ hne_ keep_
      obtain ⟨dr, hdr⟩ := id lr
      refine ⟨p, dp, _, r, dr, _, rfl, s5 _ _ hdp, rfl, hdr, p, .ref r, z, e, rfl, M.lp.same s5, .inl ⟨r, z, e, rfl, lr, _, rfl, _, rfl, ?_⟩⟩
      rw [decide_eq_true rfl, decide_eq_true rfl]
      exact iteF ⟨t1, t2, p, q2, z, e, y, d, n, _, _, _, _, _, _, _, rfl, M.same s5, ad.same s5⟩
    clear S4
    rintro σ4 H4 ⟨t1, t2, p, q2, z, e, y, d, n, o1, o8, o9, o10, o11, o12, o13, rfl, M, ad⟩
    -- m
    refine ⟨_, _, rfl, rfl, ⟨by decide, by decide, by decide⟩, ?_⟩
    have e30 : (10 : Int) ^ (Int.toNat 30) = 10 ^ 30 := by decide
    refine ⟨_, rfl, _, _, rfl, rfl, ⟨by decide, by decide, by decide⟩, _, _, rfl, rfl, pp, _, rfl, M.po, by decide, by decide, fun m1 H5 m10 m11 a5 hp5 => ⟨by show 3 ≤ sizeLine; decide, fun l nl => ?_⟩⟩
    have M5 := (M.adv a5 hp5).same (same_upd (o := .lst [.int 0, .int (10 ^ (Int.toNat 30)), .int m1]) nl)
    have ad5 := (ad.trans a5).same (same_upd (o := .lst [.int 0, .int (10 ^ (Int.toNat 30)), .int m1]) nl)
    have hl : (upd H5 l (.lst [.int 0, .int (10 ^ (Int.toNat 30)), .int m1])) l = some (.lst [.int 0, .int (10 ^ (Int.toNat 30)), .int m1]) := upd_same
    generalize upd H5 l (.lst [.int 0, .int (10 ^ (Int.toNat 30)), .int m1]) = H6 at M5 ad5 hl ⊢
    have lne : l ≠ pp := fun x => by
      obtain ⟨c, s', e', _⟩ := hp5
      rw [x, e'] at nl; cases nl
    refine ⟨_, rfl, pp, 3, rfl, M5.po, by decide, by decide, fun wy H7 w0 w1 a7 hp7 => ?_⟩
    have M7 := M5.adv a7 hp7
    have ad7 := ad5.trans a7
    obtain ⟨m, hm, m0, m2⟩ : ∃ m : Int, atI [V.int 0, .int (10 ^ (Int.toNat 30)), .int m1] wy = some (.int m) ∧ 0 ≤ m ∧ m ≤ 10 ^ 30 := by
      have h3 : wy = 0 ∨ wy = 1 ∨ wy = 2 := by omega
      rw [e30] at m11
      rcases h3 with rfl | rfl | rfl
      · exact ⟨_, rfl, by decide, by decide⟩
      · exact ⟨_, rfl, by decide, by rw [e30]; exact Int.le_refl _⟩
      · exact ⟨_, rfl, m10, by omega⟩
    refine ⟨l, _, wy, .int m, rfl, rfl, SqL.of (a7 _ _ hl lne), hm, ?_⟩
    clear M M5 ad ad5 hl nl hp5 a5 a7 hp7
    walk_at "nx"
    refine ⟨StL K H2 a pp, ?_, ?_⟩
    · refine ⟨_, rfl, _, rfl, p, .int m, z, e, .int m, rfl, M7.lp, M7.fe, .int m, .inr ⟨m, rfl, m0, m2, fun v H8 s8 ev => ?_⟩⟩
      subst ev
      have M8 := M7.same s8
      have mw : m.natAbs < 2 ^ 200 := by
        have e2 : (10 : Int) ^ 30 < 2 ^ 200 := by decide +kernel
        omega
      refine ⟨_, rfl, t1, _, 0, .int z, rfl, rfl, SqT.of M8.one, rfl, _, rfl, t1, _, 1, .int e, rfl, rfl, SqT.of M8.one, rfl, _, rfl, _, _, rfl, rfl, wide_mul (b := 200) (far_nat M8.fe) mw (by decide) (by decide) (by decide), _, _, rfl, rfl, rfl, _, rfl, ?_⟩
      refine iteNS rfl ?_
      refine ⟨_, rfl, _, rfl, p, m, z, e, rfl, M8.lp, M8.fz, M8.fe, m0, m2, fun H9 s9 => ⟨_, rfl, ?_⟩⟩
      exact iteF ⟨t1, t2, p, q2, z, e, y, d, n, _, _, _, _, _, _, _, rfl, M8.same s9, (ad7.same s8).same s9⟩
    clear M7 ad7
    rintro σ5 H8 ⟨t1, t2, p, q2, z, e, y, d, n, o1, o8, o9, o10, o11, o12, o13, rfl, M, ad⟩
    -- at, to
    refine ⟨_, rfl, pp, 9, rfl, M.po, by decide, by decide, fun x H9 x0 x1 a9 hp9 => ⟨_, _, rfl, rfl, ?_⟩⟩
    walk_at "nx"
    refine ⟨_, rfl, _, rfl, pp, 6, rfl, hp9, by decide, by decide, fun x' H10 y0 y1 a10 hp10 => ⟨_, _, rfl, rfl, ?_⟩⟩
    walk_at "nx"
    have M10 := (M.adv a9 hp9).adv a10 hp10
    have ad10 := (ad.trans a9).trans a10
    clear M ad a9 hp9 a10 hp10
    generalize hat : x - 1 = at_
    have at0 : -1000 ≤ at_ ∧ at_ ≤ 500 := by omega
    generalize hto : at_ + x' = to_
    have to0 : -1000 ≤ to_ ∧ to_ ≤ 1000 := by omega
    refine ⟨StL K H2 a pp, ?_, ?_⟩
    · refine ⟨_, rfl, _, rfl, t1, _, 0, .int z, rfl, rfl, SqT.of M10.one, rfl, _, rfl, t1, _, 1, .int e, rfl, rfl, SqT.of M10.one, rfl, _, rfl, _, _, rfl, rfl, .inr ⟨by omega, by omega⟩, _, _, rfl, rfl, ?_⟩
      refine ⟨_, rfl, _, rfl, t1, _, 0, .int z, rfl, rfl, SqT.of M10.one, rfl, _, rfl, t1, _, 1, .int e, rfl, rfl, SqT.of M10.one, rfl, _, rfl, _, _, rfl, rfl, .inr ⟨by omega, by omega⟩, _, _, rfl, rfl, by show 4 ≤ sizeLine; decide, fun u1 n1 => ?_⟩
      have g1 := same_upd (o := .tup [.int at_, .int (z + e * at_), .int to_, .int (z + e * to_)]) n1
      refine ⟨_, rfl, _, rfl, _, rfl, _, rfl, t2, _, 0, .int y, rfl, rfl, SqT.of (g1 _ _ M10.two), rfl, by show 4 ≤ sizeLine; decide, fun u2 n2 => ?_⟩
      have g2 := same_upd (o := .tup [.int at_, .int n, .int to_, .int y]) n2
      refine ⟨_, rfl, _, rfl, by show 4 ≤ sizeLine; decide, fun u3 n3 => ⟨by show 3 ≤ sizeLine; decide, fun L nL => ⟨L, rfl, ⟨_, SqL.of upd_same⟩, ?_⟩⟩⟩
      have g3 := same_upd (o := .tup [.int at_, .int 1, .int to_, .int 7]) n3
      have g4 := same_upd (o := .lst [.ref u1, .ref u2, .ref u3]) nL
      have h1 := g4 _ _ (g3 _ _ (g2 _ _ (upd_same (H := H10) (a := u1) (o := .tup [.int at_, .int (z + e * at_), .int to_, .int (z + e * to_)]))))
      have h2 := g4 _ _ (g3 _ _ (upd_same (H := upd H10 u1 (.tup [.int at_, .int (z + e * at_), .int to_, .int (z + e * to_)])) (a := u2) (o := .tup [.int at_, .int n, .int to_, .int y])))
      have h3 := g4 _ _ (upd_same (H := upd (upd H10 u1 (.tup [.int at_, .int (z + e * at_), .int to_, .int (z + e * to_)])) u2 (.tup [.int at_, .int n, .int to_, .int y])) (a := u3) (o := .tup [.int at_, .int 1, .int to_, .int 7]))
      have hL := upd_same (H := upd (upd (upd H10 u1 (.tup [.int at_, .int (z + e * at_), .int to_, .int (z + e * to_)])) u2 (.tup [.int at_, .int n, .int to_, .int y])) u3 (.tup [.int at_, .int 1, .int to_, .int 7])) (a := L) (o := .lst [.ref u1, .ref u2, .ref u3])
      have g := g1.trans (g2.trans (g3.trans g4))
      have MG := M10.same g
      have adG := ad10.same g
      generalize upd (upd (upd (upd H10 u1 (.tup [.int at_, .int (z + e * at_), .int to_, .int (z + e * to_)])) u2 (.tup [.int at_, .int n, .int to_, .int y])) u3 (.tup [.int at_, .int 1, .int to_, .int 7])) L (.lst [.ref u1, .ref u2, .ref u3]) = G at h1 h2 h3 hL MG adG ⊢
      clear g g1 g2 g3 g4 n1 n2 n3 nL M10 ad10
      have item : ∀ (i : Nat) v, [V.ref u1, .ref u2, .ref u3][i]? = some v → ∃ u b c, v = .ref u ∧ G u = some (.tup [.int at_, .int b, .int to_, .int c]) := by
        intro i v hv
        match i, hv with
        | 0, hv => cases hv; exact ⟨u1, _, _, rfl, h1⟩
        | 1, hv => cases hv; exact ⟨u2, _, _, rfl, h2⟩
        | 2, hv => cases hv; exact ⟨u3, _, _, rfl, h3⟩
      refine for_listD (K := K) (a := L) (xs := [.ref u1, .ref u2, .ref u3]) (fun i σ H' => Same G H' ∧ ∃ o12, σ = [some (.ref a), o1, some (.ref pp), some (.ref t1), some (.ref t2), some (.int n), some (.ref p), some (.ref q2), o8, o9, some (.int at_), some (.int to_), o12, o13]) ⟨Same.refl G, _, rfl⟩ (fun i σ H' _ h => SqL.of (h.1 _ _ hL)) ?_ ?_
      · rintro D2 j v σ H5 hrt hD2 - - hj ⟨s5, o12, rfl⟩
        obtain ⟨u, b, c, rfl, hu⟩ := item j v hj
        have hu5 := s5 _ _ hu
        walk_at "nx"
        refine ⟨_, rfl, u, .int at_, .int b, .int to_, .int c, .int at_, .int b, .int to_, .int c, rfl, hu5, .int _, .int _, .int _, .int _, small_k (by omega) (by omega) (by omega) (by omega), fun hn v H6 s6 hv => ?_, fun z' w' hz v H6 s6 hv => ?_⟩
        · refine ⟨_, rfl, u, at_, b, to_, c, rfl, s6 _ _ hu5, by omega, by omega, by omega, by omega, fun x H7 s7 hx => ?_⟩
          obtain ⟨t, hb, ht⟩ := hv
          refine ⟨v, x, rfl, agree_thr (s7 _ _ (s6 _ _ hu5)) (fun _ => ⟨t, hb.same s7, s7 _ _ ht⟩) (fun z w e => absurd (hn.symm.trans e) (by simp)) hx, _, rfl, ?_⟩
          exact iteF (hD2 _ _ ⟨s5.trans (s6.trans s7), _, rfl⟩)
        · refine ⟨_, rfl, u, at_, b, to_, c, rfl, s6 _ _ hu5, by omega, by omega, by omega, by omega, fun x H7 s7 hx => ?_⟩
          refine ⟨v, x, rfl, agree_thr (s7 _ _ (s6 _ _ hu5)) (fun e => absurd (hz.symm.trans e) (by simp)) (fun z w e => ?_) hx, _, rfl, ?_⟩
          · cases Option.some.inj (hz.symm.trans e)
            exact hv.same s7
          · exact iteF (hD2 _ _ ⟨s5.trans (s6.trans s7), _, rfl⟩)
      · rintro σ H5 ⟨s5, o12, rfl⟩
        exact ⟨t1, t2, p, q2, z, e, y, d, n, _, _, _, _, _, _, _, rfl, MG.same s5, adG.same s5⟩
    clear M10 ad10 hat hto at0 to0 x0 x1 y0 y1
    rintro σ6 H4 S4
    -- doubled
    refine ⟨StL K H2 a pp, ?_, ?_⟩
    · obtain ⟨t1, t2, p, q2, z, e, y, d, n, o1, o8, o9, o10, o11, o12, o13, rfl, M, ad⟩ := S4
      refine ⟨_, rfl, t1, _, 0, .int z, rfl, rfl, SqT.of M.one, rfl, _, _, rfl, rfl, .inr ⟨by decide, by decide⟩, _, rfl, t2, _, 1, .int d, rfl, rfl, SqT.of M.two, rfl, by show 2 ≤ sizeLine; decide, fun u1 n1 => ?_⟩
      have g1 := same_upd (o := .tup [.int (z * 2), .int d]) n1
      refine ⟨_, rfl, t1, _, 0, .int z, rfl, rfl, SqT.of (g1 _ _ M.one), rfl, _, rfl, t2, _, 0, .int y, rfl, rfl, SqT.of (g1 _ _ M.two), rfl, _, _, rfl, rfl, .inr ⟨by decide, by decide⟩, by show 2 ≤ sizeLine; decide, fun u2 n2 => ⟨by show 2 ≤ sizeLine; decide, fun L nL => ⟨L, rfl, ⟨_, SqL.of upd_same⟩, ?_⟩⟩⟩
      have g2 := same_upd (o := .tup [.int z, .int (y * 2)]) n2
      have g3 := same_upd (o := .lst [.ref u1, .ref u2]) nL
      have h1 := g3 _ _ (g2 _ _ (upd_same (H := H4) (a := u1) (o := .tup [.int (z * 2), .int d])))
      have h2 := g3 _ _ (upd_same (H := upd H4 u1 (.tup [.int (z * 2), .int d])) (a := u2) (o := .tup [.int z, .int (y * 2)]))
      have hL := upd_same (H := upd (upd H4 u1 (.tup [.int (z * 2), .int d])) u2 (.tup [.int z, .int (y * 2)])) (a := L) (o := .lst [.ref u1, .ref u2])
      have g := g1.trans (g2.trans g3)
      have MG := M.same g
      have adG := ad.same g
      generalize upd (upd (upd H4 u1 (.tup [.int (z * 2), .int d])) u2 (.tup [.int z, .int (y * 2)])) L (.lst [.ref u1, .ref u2]) = G at h1 h2 hL MG adG ⊢
      clear g g1 g2 g3 n1 n2 nL M ad
      have item : ∀ (i : Nat) v, [V.ref u1, .ref u2][i]? = some v → ∃ u b c, v = .ref u ∧ G u = some (.tup [.int b, .int c]) := by
        intro i v hv
        match i, hv with
        | 0, hv => cases hv; exact ⟨u1, _, _, rfl, h1⟩
        | 1, hv => cases hv; exact ⟨u2, _, _, rfl, h2⟩
      refine for_listD (K := K) (a := L) (xs := [.ref u1, .ref u2]) (fun i σ H' => Same G H' ∧ ∃ o13, σ = [some (.ref a), o1, some (.ref pp), some (.ref t1), some (.ref t2), some (.int n), some (.ref p), some (.ref q2), o8, o9, o10, o11, o12, o13]) ⟨Same.refl G, _, rfl⟩ (fun i σ H' _ h => SqL.of (h.1 _ _ hL)) ?_ ?_
      · rintro D2 j v σ H5 hrt hD2 - - hj ⟨s5, o13, rfl⟩
        obtain ⟨u, b, c, rfl, hu⟩ := item j v hj
        have hu5 := s5 _ _ hu
        walk_at "nx"
        refine ⟨_, rfl, made_go (E := E0) hu5 fun v H6 s6 hv => ?_⟩
        refine ⟨_, rfl, u, b, c, rfl, s6 _ _ hu5, fun x hx _ => ?_⟩
        refine ⟨v, x, rfl, agree_made hv hx, _, rfl, ?_⟩
        exact iteF (hD2 _ _ ⟨s5.trans s6, _, rfl⟩)
      · rintro σ H5 ⟨s5, o13, rfl⟩
        exact ⟨t1, t2, p, q2, z, e, y, d, n, _, _, _, _, _, _, _, rfl, MG.same s5, adG.same s5⟩
    clear S4
    rintro σ7 H4 ⟨t1, t2, p, q2, z, e, y, d, n, o1, o8, o9, o10, o11, o12, o13, rfl, M, ad⟩
    -- nothing has changed
    obtain ⟨dp, hdp⟩ := id M.lp
    refine ⟨_, rfl, p, CL K, dp, _, _, rfl, hdp, T.cl, T.nZ, flds_z _ _, _, rfl, p, CL K, dp, _, _, rfl, hdp, T.cl, T.nS, flds_e _ _, by show 2 ≤ sizeLine; decide, fun u1 n1 => ?_⟩
    have g1 := same_upd (o := .tup [.int z, .int e]) n1
    have sh : ∀ z e : Int, SeqAt.shaped (.tuple [.int z, .int e]) = true := fun z e => rfl
    refine ⟨_, rfl, _, _, prDp upd_same, prDp (g1 _ _ M.one), sh z e, sh z e, _, rfl, ?_⟩
    rw [SeqAt.eqv_refl _ (SeqAt.canLay_of_shaped (sh z e))]
    refine iteF ?_
    obtain ⟨dq, hdq⟩ := M.lq.same g1
    refine ⟨_, rfl, q2, CL K, dq, _, _, rfl, hdq, T.cl, T.nZ, flds_z _ _, _, rfl, q2, CL K, dq, _, _, rfl, hdq, T.cl, T.nS, flds_e _ _, by show 2 ≤ sizeLine; decide, fun u2 n2 => ?_⟩
    have g2 := same_upd (o := .tup [.int y, .int d]) n2
    refine ⟨_, rfl, _, _, prDp upd_same, prDp (g2 _ _ (g1 _ _ M.two)), sh y d, sh y d, _, rfl, ?_⟩
    rw [SeqAt.eqv_refl _ (SeqAt.canLay_of_shaped (sh y d))]
    exact iteF (hend _ _ ⟨t1, t2, p, q2, z, e, y, d, n, _, _, _, _, _, _, _, rfl, M.same (g1.trans g2), ad.same (g1.trans g2)⟩)
end
end L2.L49

set_option maxHeartbeats 0
namespace L2.L49
open PySem PySem.Spec PyProof.Rows LR L2.Lr
/-! ### a hook that knows one def at an address of its own besides -/
def fnAt (K : PySem.W.Frag) (a : Addr) : He.FnW := match K.lookup a with
  | some ⟨_, _, .func fd, _⟩ => some (fd.name, fd.qualname, fd.params, fd.body, fd.scope, fd.globals, fd.closure, fd.builtins)
  | _ => none
def okAt (K : PySem.W.Frag) (a : Addr) (d : He.DefD) : Bool := PySem.W.keepIn K (.ref a) && (match K.lookup a with
  | some ⟨_, _, .func fd, _⟩ => PySem.W.codeIn K fd.code d.qual && (He.dflB K fd.defaults (d.dvs K) && He.kwdB K fd.kwdefaults (d.kws K))
  | _ => false)
theorem funAt {K : PySem.W.Frag} {a : Addr} {d : He.DefD} (e : fnAt K a = d.val) (c : okAt K a d = true) : ∃ fd, FunD K d.name d.qual d.params d.body d.scope (d.dvs K) (d.kws K) a fd := by
  obtain ⟨kp, c2⟩ := He.ba c
  unfold fnAt at e
  cases q : K.lookup a with
  | none =>
    rw [q] at c2
    cases c2
  | some o =>
    obtain ⟨oc, od, dt, osl⟩ := o
    rw [q] at c2 e
    cases dt with
    | func fd =>
      obtain ⟨n1, n2, n3, n4, n5, n6, n7, n8, n9, n10, n11, n12, n13, n14, n15⟩ := fd
      have e2 : (some (n1, n2, n3, n4, n5, n6, n7, n15) : He.FnW) = some (d.name, d.qual, d.params, .stmts d.body, d.scope, mainGlobals, [], builtinsNs) := e
      simp only [Option.some.injEq, Prod.mk.injEq] at e2
      obtain ⟨h1, h2, h3, h4, h5, h6, h7, h8⟩ := e2
      subst h1 h2 h3 h4 h5 h6 h7 h8
      have c3 : (PySem.W.codeIn K n13 d.qual && (He.dflB K n8 (d.dvs K) && He.kwdB K n9 (d.kws K))) = true := c2
      obtain ⟨k1, k2⟩ := He.ba c3
      obtain ⟨k3, k4⟩ := He.ba k2
      exact ⟨_, ⟨oc, od, n8, n9, n10, n11, n12, n13, n14, osl, rfl, q, k1, He.dflB_ok k3, He.kwdB_ok k4⟩, kp⟩
    | _ => cases c2
def obsSG (n : Nat) (chk : PySem.W.Frag → Bool) (fa : List He.Fa) (fn : List He.DefD) (ad : PySem.W.Frag → Addr) (g : Addr → Option Obj) : Bool × He.AlD × He.FnW := (fun K => (chk K, He.obsD fa fn K, fnAt K (ad K))) (He.frG g (cStatics :: He.asD g n))
def hookS (n : Nat) (chk : PySem.W.Frag → Bool) (fa : List He.Fa) (fn : List He.DefD) (ad : PySem.W.Frag → Addr) (d : He.DefD) : PySem.W.Hook where
  α := Bool × He.AlD × He.FnW
  obs := fun s => obsSG n chk fa fn ad s.heap.get?
  val := fun _ => (true, He.valD fn, d.val)
  says := fun _ h => ∃ K : PySem.W.Frag, K.In h ∧ chk K = true ∧ He.SaysD fa fn K ∧ fnAt K (ad K) = d.val
  of := fun _ _ e => ⟨_, He.frG_in, congrArg (fun z : Bool × He.AlD × He.FnW => z.1) e, congrArg (fun z : Bool × He.AlD × He.FnW => z.2.1) e, congrArg (fun z : Bool × He.AlD × He.FnW => z.2.2) e⟩
  keeps := fun _ _ _ ⟨K, hK, c⟩ k => ⟨K, PySem.W.Frag.In.keeps hK k, c⟩
theorem obsSG_eq {n : Nat} {chk : PySem.W.Frag → Bool} {fa : List He.Fa} {fn : List He.DefD} {ad : PySem.W.Frag → Addr} {d : He.DefD} {g : Addr → Option Obj} {s : Shared} (h : ∀ a, g a = s.heap.get? a) : obsSG n chk fa fn ad g = (hookS n chk fa fn ad d).obs s := by
  have e : g = s.heap.get? := funext h
  rw [e]
  rfl
/-! ### what is checked -/
def me (K : PySem.W.Frag) (m : Str) : Addr := He.ma K (CL K) m
def pS (K : PySem.W.Frag) : Addr := me K "through"
def gS (K : PySem.W.Frag) : Addr := match PySem.W.recIn K (pS K) "staticmethod" with
  | some (.ref g :: _) => g
  | _ => 0
def insB (K : PySem.W.Frag) : Bool := He.eqO (PySem.W.findIn K (.ref (CL K)) "__class__") (some (some (.builtin "object.__class__"))) && (He.eqO (PySem.W.specialIn K (.builtin "object.__class__") "__get__") (some (some (.builtin "getset_descriptor.__get__"))) &&
  (decide (PySem.W.takesIn K (.builtin "object.__class__") = some true) && (decide (PySem.W.mroIn K (CL K) (.type "object") = some true) && decide (PySem.W.kitOne K (.ref (CL K)) (.ref (CL K)) = some true))))
def xtB (K : PySem.W.Frag) (nm : Str) (C : Addr) : Bool := He.eqO (PySem.W.nsIn K mainGlobals nm) (some (some (.ref C))) && (xcB K xV C && (He.eqO (PySem.W.findIn K (.ref C) "value") (some none) && (He.eqO (PySem.W.findIn K (.ref C) "__init__") (some (some (.ref (fV K)))) &&
  (decide (PySem.W.typeIn K (.ref (fV K)) = some (.type "function")) && decide (PySem.W.exmOne K (.ref C) (.ref C) = some true)))))
def allKinds : List String := ["NoneType", "bool", "int", "str", "list", "tuple", "dict"]
def kitsB (K : PySem.W.Frag) : Bool := allKinds.all (fun t => decide (PySem.W.kitOne K (.type t) (.ref (CL K)) = some false)) && (decide (PySem.W.kitOne K (.ref (CL K)) (.type "int") = some false) && decide (PySem.W.kitOne K (.ref (CL K)) (.type "tuple") = some false))
def neB (K : PySem.W.Frag) : Bool := He.eqO (PySem.W.findIn K (.ref (CL K)) "__ne__") (some (some (.builtin "object.__ne__"))) && decide (PySem.W.subIn K (.type "tuple") (.ref (CL K)) = some false)
def CFeq (x : Option PySem.W.CFound) (p C : Addr) : Bool := match x with
  | some (.get (.builtin i) (.ref a) .none (.ref c)) => decide (i = "staticmethod.__get__") && (decide (a = p) && decide (c = C))
  | _ => false
def statB (K : PySem.W.Frag) : Bool := PySem.W.readsIn K (CL K) (.type "type") && (He.eqO (PySem.W.specialIn K (.ref (CL K)) "__getattribute__") (some (some (.builtin "type.__getattribute__"))) && (CFeq (PySem.W.findCls K (.ref (CL K)) (.type "type") "through") (pS K) (CL K) &&
  (match PySem.W.recIn K (pS K) "staticmethod" with
  | some (.ref _ :: _) => true
  | _ => false)))
def dF (x : Str) (st : Stmt) : He.DefD := ⟨(x, none), x, x, defArgs st, defBody st, defScope st, [], []⟩
def dM (x q : Str) (st : Stmt) : He.DefD := ⟨("Line", some x), x, q, defArgs st, defBody st, defScope st, [], []⟩
def dThr : He.DefD := dM "through" "Line.through" sThr
def chk (K : PySem.W.Frag) : Bool := insB K && (dunB K (CL K) (me K "__eq__") "__eq__" && (ownsB K (CL K) (me K "__add__") .Add && (ownsB K (CL K) (me K "__sub__") .Sub && (ownsB K (CL K) (me K "__mul__") .Mult &&
  (dunB K (CL K) (me K "__call__") "__call__" && (PySem.W.fnIn K (me K "__call__") && (xtB K "BadLine" (CB K) && (xtB K "BadNumber" (CN K) && (kitsB K && (neB K && (statB K && okAt K (gS K) dThr)))))))))))
def fn : List He.DefD := [⟨("RoomError", some "__init__"), "__init__", "RoomError.__init__", defArgs sRoom, defBody sRoom, defScope sRoom, [], []⟩, dF "is_integer" sInt, dF "is_between" sBtw, ⟨("Line", some "__init__"), "__init__", "Line.__init__", defArgs sIni, defBody sIni, defScope sIni, [.int 0], []⟩,
  dM "__call__" "Line.__call__" sCal, dM "__add__" "Line.__add__" sAdd, dM "__sub__" "Line.__sub__" sSub, dM "__mul__" "Line.__mul__" sMul, dM "__eq__" "Line.__eq__" sEq, dF "line_between" sBet, dF "_numbers_of" sNum, dF "_law_pool" sPool, dF "_law_take" sTake, dF "_law_far" sFar, dF "_law_number" sNmb,
  dF "_law_made" sMade, dF "_law_due" sDue, dF "_law_same" sSame, dF "_law_sum" sSum, dF "_law_sum_due" sSumD, dF "_law_value" sVal, dF "_law_through" sThrL, dF "_law_through_due" sThrD, dF "_law_odd_right" sOdd, dF "law" sLaw]
def fa : List He.Fa := [.glo "is_integer", .glo "is_between", .glo "line_between", .glo "_numbers_of", .glo "_law_pool", .glo "_law_take", .glo "_law_far", .glo "_law_number", .glo "_law_made", .glo "_law_due", .glo "_law_same", .glo "_law_sum", .glo "_law_sum_due", .glo "_law_value", .glo "_law_through", .glo "_law_through_due", .glo "_law_odd_right", .glo "law", .glo "Line",
  .cls "Line", .noat "Line" "at_zero", .noat "Line" "slope", .mkr "Line", .int "MOST" (10 ^ 400), .int "LARGEST_NUMBER" (10 ^ 30), .free "isinstance", .free "len", .free "range", .free "max", .free "min", .free "int", .free "bool", .free "tuple", .free "all", .free "abs", .free "divmod"]
abbrev R : PySem.W.OpenRow := PySem.W.OpenLaw.row PySem.Challenge.rw_leastrooms_k49_lines_reckoned
abbrev hk : PySem.W.Hook := hookS 6 chk fa fn gS dThr
def ob (s : PySem.W.SharedT) : Bool × He.AlD × He.FnW := obsSG 6 chk fa fn gS (HandSHeadRun.getT s)
theorem ob_eq (s : PySem.W.SharedT) : ob s = hk.obs s.abs := obsSG_eq (d := dThr) (HandSHeadRun.getT_eq s)
def looseS : List String := ["RoomError", "BadNumber", "BadLine", "Line", "LARGEST_NUMBER", "MOST", "is_integer", "is_between", "line_between", "_numbers_of", "_head_of", "_law_pool", "_law_take", "_law_far", "_law_number", "_law_made", "_law_due", "_law_same", "_law_sum", "_law_sum_due", "_law_value", "_law_through", "_law_through_due", "_law_odd_right"]
def loose : List Str := looseS.map Str.ofString
theorem run (w : World) : HandSHeadRun.RunEq R (PySem.W.view R.prog [28]) hk ob 12000 loose w := by
  intro os
  kernel_rfl
end L2.L49

set_option maxHeartbeats 0
namespace L2.L49
open PySem PySem.Spec PyProof.Rows LR L2.Lr
theorem ini_binds {K : PySem.W.Frag} {f : Addr} {fd : FuncData} (F : FunD K "__init__" "Line.__init__" (defArgs sIni) (defBody sIni) (defScope sIni) [.int 0] [] f fd) : Binds K fd ["self", "at_zero", "slope"] [] ∧ (∃ ds, Vals [.int 0] ds ∧ Binds K fd ["self", "at_zero", "slope"] ds) := by
  refine ⟨?_, ?_⟩
  · obtain ⟨ds, v, b⟩ := F.binds1 (ps := ["self", "at_zero", "slope"]) 3 1 (by simp) rfl fun T kV doc pm an cdv ct us its h1 h2 => match us, its, h1, h2 with
      | [a, b, c], [d], _, _ => ⟨_, rfl, rfl⟩
    cases v
    exact b
  · obtain ⟨ds, v, b⟩ := F.binds1 (ps := ["self", "at_zero", "slope"]) 2 0 (by simp) rfl fun T kV doc pm an cdv ct us its h1 h2 => match us, its, h1, h2 with
      | [a, b], [d], _, _ => ⟨_, rfl, rfl⟩
    exact ⟨ds, v, b⟩
theorem xt_ok {K : PySem.W.Frag} {h : Heap} {mg : Str → Option Value} {nm : Str} {C : Addr} (X : K.In h) (G : h.Ns mainGlobals mg) (c : xtB K nm C = true) : XT K mg nm C := by
  obtain ⟨c1, c⟩ := He.ba c
  obtain ⟨c2, c⟩ := He.ba c
  obtain ⟨c3, c⟩ := He.ba c
  obtain ⟨c4, c⟩ := He.ba c
  obtain ⟨c5, c6⟩ := He.ba c
  exact ⟨PySem.W.mg_of X G (He.eqO_ok c1), xcB_ok c2, He.eqO_ok c3, He.eqO_ok c4, of_decide_eq_true c5, of_decide_eq_true c6⟩
theorem stat_ok {K : PySem.W.Frag} (c : statB K = true) (kp : PySem.W.keepIn K (.ref (gS K)) = true) : Stat K (CL K) (pS K) (gS K) "through" := by
  obtain ⟨c1, c⟩ := He.ba c
  obtain ⟨c2, c⟩ := He.ba c
  obtain ⟨c3, c4⟩ := He.ba c
  refine ⟨c1, He.eqO_ok c2, ?_, ?_, kp⟩
  · unfold CFeq at c3
    split at c3
    · rename_i i a b e
      obtain ⟨e1, e2⟩ := He.ba c3
      obtain ⟨e2, e3⟩ := He.ba e2
      rw [e, of_decide_eq_true e1, of_decide_eq_true e2, of_decide_eq_true e3]
    · cases c3
  · unfold gS
    split at c4
    · rename_i g rest e
      rw [e]
      exact ⟨rest, rfl⟩
    · cases c4
theorem facts {P : Program} {w : World} {K : PySem.W.Frag} {h : Heap} {mg : Str → Option Value} {f : Addr} (X : K.In h) (G : h.Ns mainGlobals mg) (hfa : mg ("law" : Str) = some (.ref f)) (c : chk K = true) (s : He.SaysD fa fn K) (sT : fnAt K (gS K) = dThr.val) :
    ∃ fd : FuncData, (∀ (s : Shared) (v : Value), BindsTo s fd ⟨[v], []⟩ [("_law_script", v)]) ∧ ∀ base : Heap, K.In base → base.Ns mainGlobals mg → FnOk P w K mg base CX0 9 f fd ["_law_script"] (spLaw K) := by
  obtain ⟨c1, c⟩ := He.ba c
  obtain ⟨c2, c⟩ := He.ba c
  obtain ⟨c3, c⟩ := He.ba c
  obtain ⟨c4, c⟩ := He.ba c
  obtain ⟨c5, c⟩ := He.ba c
  obtain ⟨c6, c⟩ := He.ba c
  obtain ⟨c7, c⟩ := He.ba c
  obtain ⟨c8, c⟩ := He.ba c
  obtain ⟨c9, c⟩ := He.ba c
  obtain ⟨c10, c⟩ := He.ba c
  obtain ⟨c11, c⟩ := He.ba c
  obtain ⟨c12, c13⟩ := He.ba c
  obtain ⟨i1, i⟩ := He.ba c1
  obtain ⟨i2, i⟩ := He.ba i
  obtain ⟨i3, i⟩ := He.ba i
  obtain ⟨i4, i5⟩ := He.ba i
  obtain ⟨k1, k⟩ := He.ba c10
  obtain ⟨k2, k3⟩ := He.ba k
  obtain ⟨n1, n2⟩ := He.ba c11
  have g : ∀ (i : Nat) (x : Str), fa[i]? = some (.glo x) → mg x = some (.ref (He.ga K x)) := fun i x e => He.glo_ok X G (s.fact i (f := .glo x) e)
  have cl : Cls K (CL K) := He.cls_ok (s.fact 19 (f := .cls "Line") rfl)
  have kt : ∀ t ∈ allKinds, PySem.W.kitOne K (.type t) (.ref (CL K)) = some false := fun t ht => of_decide_eq_true (List.all_eq_true.mp k1 t ht)
  have T : Txt K mg := {
    bl := xt_ok X G c8
    bn := xt_ok X G c9
    gL := g 18 "Line" rfl
    cl := cl
    nZ := He.noat_ok (s.fact 20 (f := .noat "Line" "at_zero") rfl)
    nS := He.noat_ok (s.fact 21 (f := .noat "Line" "slope") rfl)
    ic := ⟨cl, He.eqO_ok i1, He.eqO_ok i2, of_decide_eq_true i3, of_decide_eq_true i4, of_decide_eq_true i5⟩
    kt := fun d => kt _ (by cases d <;> simp [tyN, allKinds])
    ki := of_decide_eq_true k2
    kp := of_decide_eq_true k3
    most := He.int_ok X G (s.fact 23)
    far := He.int_ok X G (s.fact 24)
    isn := He.free_ok X G (s.fact 25)
    len := He.free_ok X G (s.fact 26)
    range := He.free_ok X G (s.fact 27)
    max := He.free_ok X G (s.fact 28)
    min := He.free_ok X G (s.fact 29)
    int := He.free_ok X G (s.fact 30)
    bool := He.free_ok X G (s.fact 31)
    tuple := He.free_ok X G (s.fact 32)
    all := He.free_ok X G (s.fact 33)
    abs := He.free_ok X G (s.fact 34)
    divmod := He.free_ok X G (s.fact 35) }
  have Mm : Mk K (CL K) (me K "__init__") := He.mkr_ok (s.fact 22 (f := .mkr "Line") rfl)
  obtain ⟨dV, FV⟩ := s.def_ 0
  obtain ⟨dN, FN⟩ := s.def_ 1
  obtain ⟨dB, FB⟩ := s.def_ 2
  obtain ⟨dI, FI⟩ := s.def_ 3
  obtain ⟨dC, FC⟩ := s.def_ 4
  obtain ⟨dA, FA⟩ := s.def_ 5
  obtain ⟨dU, FU⟩ := s.def_ 6
  obtain ⟨dM, FM⟩ := s.def_ 7
  obtain ⟨dE, FE⟩ := s.def_ 8
  obtain ⟨dW, FW⟩ := s.def_ 9
  obtain ⟨dO, FO⟩ := s.def_ 10
  obtain ⟨dP, FP⟩ := s.def_ 11
  obtain ⟨dT, FT⟩ := s.def_ 12
  obtain ⟨dFr, FFr⟩ := s.def_ 13
  obtain ⟨dNb, FNb⟩ := s.def_ 14
  obtain ⟨dMd, FMd⟩ := s.def_ 15
  obtain ⟨dDu, FDu⟩ := s.def_ 16
  obtain ⟨dSm, FSm⟩ := s.def_ 17
  obtain ⟨dSu, FSu⟩ := s.def_ 18
  obtain ⟨dSd, FSd⟩ := s.def_ 19
  obtain ⟨dVa, FVa⟩ := s.def_ 20
  obtain ⟨dTl, FTl⟩ := s.def_ 21
  obtain ⟨dTd, FTd⟩ := s.def_ 22
  obtain ⟨dOd, FOd⟩ := s.def_ 23
  obtain ⟨fd, FL⟩ := s.def_ 24
  obtain ⟨dG, FG⟩ := funAt sT c13
  cases hfa.symm.trans (g 17 "law" rfl)
  have b := FunD.bindsA (ps := ["_law_script"]) FL fun _ _ _ _ _ _ us hl => match us, hl with | [_], _ => rfl
  refine ⟨fd, fun s v => b s [v] rfl, fun base _ _ => ?_⟩
  obtain ⟨bI, bI1⟩ := ini_binds FI
  have bC : Binds K dC ["self", "m"] [] := FC.bindsN fun _ _ _ _ _ _ us hl => match us, hl with | [_, _], _ => rfl
  have bA : Binds K dA ["self", "other"] [] := FA.bindsN fun _ _ _ _ _ _ us hl => match us, hl with | [_, _], _ => rfl
  have bU : Binds K dU ["self", "other"] [] := FU.bindsN fun _ _ _ _ _ _ us hl => match us, hl with | [_, _], _ => rfl
  have bM : Binds K dM ["self", "other"] [] := FM.bindsN fun _ _ _ _ _ _ us hl => match us, hl with | [_, _], _ => rfl
  have bE : Binds K dE ["self", "other"] [] := FE.bindsN fun _ _ _ _ _ _ us hl => match us, hl with | [_, _], _ => rfl
  have bG : Binds K dG ["m", "value", "other", "further"] [] := FG.bindsN fun _ _ _ _ _ _ us hl => match us, hl with | [_, _, _, _], _ => rfl
  have Z : Rm P w K mg base dV := ⟨ok_room FV, FV.bindsN fun _ _ _ _ _ _ us hl => match us, hl with | [_, _], _ => rfl⟩
  have bN : Binds K dN ["thing"] [] := FN.bindsN fun _ _ _ _ _ _ us hl => match us, hl with | [_], _ => rfl
  have NX : Def P w K mg base CX0 1 "is_integer" _ dN ["thing"] (spIntX K) := ⟨ok_int FN T, g 0 _ rfl, FN.kp, bN⟩
  have N : Def P w K mg base CX0 1 "is_integer" _ dN ["thing"] (spInt K) := ⟨(ok_int FN T).imp fun vs H Q E ⟨x, d, e, hd, q⟩ => ⟨x, e, .inl ⟨d, hd, q⟩⟩, g 0 _ rfl, FN.kp, bN⟩
  have B : Def P w K mg base CX0 2 "is_between" _ dB ["thing", "low", "high"] (spBtw K) := ⟨ok_btw FB N, g 1 _ rfl, FB.kp, FB.bindsN fun _ _ _ _ _ _ us hl => match us, hl with | [_, _, _], _ => rfl⟩
  have ML : MkL P w K mg base (me K "__init__") dI := ⟨Mm, ok_ini FI T B Z, bI⟩
  have W : Def P w K mg base (L2.CX P w) 5 "line_between" _ dW ["m", "value", "other", "further"] (spBet K) := ⟨ok_bet FW T N B ML, g 2 _ rfl, FW.kp, FW.bindsN fun _ _ _ _ _ _ us hl => match us, hl with | [_, _, _, _], _ => rfl⟩
  have O : Def P w K mg base (L2.CX P w) 3 "_numbers_of" _ dO ["other"] (spNum K) := ⟨ok_num FO T N Z, g 3 _ rfl, FO.kp, FO.bindsN fun _ _ _ _ _ _ us hl => match us, hl with | [_], _ => rfl⟩
  have Pl : Def P w K mg base CX0 1 "_law_pool" _ dP ["_law_script", "_law_k"] (spPool K) := ⟨ok_pool FP T, g 4 _ rfl, FP.kp, FP.bindsN fun _ _ _ _ _ _ us hl => match us, hl with | [_, _], _ => rfl⟩
  have Tk : Def P w K mg base CX0 1 "_law_take" _ dT ["_law_pool_here", "_law_many"] spTake := ⟨ok_take FT T, g 5 _ rfl, FT.kp, FT.bindsN fun _ _ _ _ _ _ us hl => match us, hl with | [_, _], _ => rfl⟩
  have Fr : Def P w K mg base CX0 1 "_law_far" _ dFr [] spFar := ⟨ok_far FFr, g 6 _ rfl, FFr.kp, FFr.bindsN fun _ _ _ _ _ _ us hl => match us, hl with | [], _ => rfl⟩
  have Nb : Def P w K mg base CX0 2 "_law_number" _ dNb ["_law_pool_here"] spNmb := ⟨ok_nmb FNb T Tk Fr, g 7 _ rfl, FNb.kp, FNb.bindsN fun _ _ _ _ _ _ us hl => match us, hl with | [_], _ => rfl⟩
  have Md : Def P w K mg base CX0 5 "_law_made" _ dMd ["_law_pair"] (spMade K) := ⟨ok_made FMd T ML, g 8 _ rfl, FMd.kp, FMd.bindsN fun _ _ _ _ _ _ us hl => match us, hl with | [_], _ => rfl⟩
  have Du : Def P w K mg base CX0 2 "_law_due" _ dDu ["_law_pair"] (spDue K) := ⟨ok_due FDu T Fr, g 9 _ rfl, FDu.kp, FDu.bindsN fun _ _ _ _ _ _ us hl => match us, hl with | [_], _ => rfl⟩
  have Sm : Def P w K mg base CX0 1 "_law_same" _ dSm ["_law_found", "_law_due_here"] (spSame K) := ⟨ok_same FSm T, g 10 _ rfl, FSm.kp, FSm.bindsN fun _ _ _ _ _ _ us hl => match us, hl with | [_, _], _ => rfl⟩
  have Su : Def P w K mg base CX0 6 "_law_sum" _ dSu ["_law_line", "_law_other", "_law_way"] (spSum K) := ⟨ok_sum FSu T (ownsB_ok c3) (ok_add FA T O ML) bA (ownsB_ok c4) (ok_sub FU T O ML) bU (ownsB_ok c5) (ok_mul FM T NX ML Z) bM, g 11 _ rfl, FSu.kp, FSu.bindsN fun _ _ _ _ _ _ us hl => match us, hl with | [_, _, _], _ => rfl⟩
  have Sd : Def P w K mg base CX0 3 "_law_sum_due" _ dSd ["_law_one", "_law_other", "_law_way"] (spSumD K) := ⟨ok_sumD FSd T Du, g 12 _ rfl, FSd.kp, FSd.bindsN fun _ _ _ _ _ _ us hl => match us, hl with | [_, _, _], _ => rfl⟩
  have dc := dunB_ok c6
  have Va : Def P w K mg base CX0 4 "_law_value" _ dVa ["_law_line", "_law_m"] (spVal K) := ⟨ok_val FVa T ⟨dc.at_, dc.fn, c7⟩ (ok_cal FC T B Z) bC, g 13 _ rfl, FVa.kp, FVa.bindsN fun _ _ _ _ _ _ us hl => match us, hl with | [_, _], _ => rfl⟩
  have Tl : Def P w K mg base CX0 7 "_law_through" _ dTl ["_law_told"] (spThrL K) := ⟨ok_thrL FTl T (stat_ok c12 FG.kp) (ok_thr FG T W Z) bG, g 14 _ rfl, FTl.kp, FTl.bindsN fun _ _ _ _ _ _ us hl => match us, hl with | [_], _ => rfl⟩
  have Td : Def P w K mg base CX0 2 "_law_through_due" _ dTd ["_law_told"] (spThrD K) := ⟨ok_thrD FTd T Fr, g 15 _ rfl, FTd.kp, FTd.bindsN fun _ _ _ _ _ _ us hl => match us, hl with | [_], _ => rfl⟩
  have Od : Def P w K mg base CX0 8 "_law_odd_right" _ dOd ["_law_line", "_law_m"] (spOdd K) := ⟨ok_odd FOd T Va Md Su Tl, g 16 _ rfl, FOd.kp, FOd.bindsN fun _ _ _ _ _ _ us hl => match us, hl with | [_, _], _ => rfl⟩
  exact ok_law (fQ := 0) (xQ := dV) FL T ⟨Pl, Tk, Nb, Md, Du, Sm, Su, Sd, Va, Tl, Td, Od, ML, bI1, dunB_ok c2, ok_eq FE T, bE, He.eqO_ok n1, of_decide_eq_true i4, of_decide_eq_true n2⟩
end L2.L49
open PySem PySem.W PySem.Calls PyProof.Rows
theorem PySem.Challenge.cw_leastrooms_k49_lines_reckoned_holds : PySem.Challenge.rw_leastrooms_k49_lines_reckoned.Holds := by
  w_on; o_law
  refine HandSHeadRun.head_any (r := OpenLaw.row PySem.Challenge.rw_leastrooms_k49_lines_reckoned) (q := view (OpenLaw.row PySem.Challenge.rw_leastrooms_k49_lines_reckoned).prog [28]) (H := L2.L49.hk) (ob := L2.L49.ob) (M := 12000) (loose := L2.L49.loose) (d := HandSHeadRun.topDef (OpenLaw.row PySem.Challenge.rw_leastrooms_k49_lines_reckoned).prog 28) (kwd := []) L2.L49.ob_eq
    (by kernel_rfl) (fun s => by kernel_rfl) L2.L49.run (by kernel_rfl) (by kernel_rfl) (by kernel_rfl) (by rfl) (by first | assumption | decide +kernel) (by decide +kernel) ⟨rfl, rfl, rfl, rfl, rfl, by decide +kernel⟩ ?hw ?hc
  case hw => w_witness2
  case hc =>
    refine L2.walk_ofE (l := PySem.Challenge.rw_leastrooms_k49_lines_reckoned) (n := 63) (k := 9) (x := "_law_script") (CX := L2.CX0) rfl (by decide) (by kernel_rfl) ⟨rfl, by decide, by decide⟩ ?F (fun _ _ _ _ z => z)
    intro w mg fa h Y G hmg0
    obtain ⟨K, KX, c1, c2, c3⟩ := Y
    have hmg : mg ("law" : PySem.Str) = some (.ref fa) := by
      have e : (HandSHeadRun.topDef (OpenLaw.row PySem.Challenge.rw_leastrooms_k49_lines_reckoned).prog 28).name = ("law" : PySem.Str) := by kernel_rfl
      rw [← e]
      exact hmg0
    obtain ⟨fd, hb, hF⟩ := L2.L49.facts (P := (PySem.Challenge.rw_leastrooms_k49_lines_reckoned).prog) (w := w) KX G hmg c1 c2 c3
    exact ⟨K, fd, L2.L49.spLaw K, KX, hb, fun H a ns hl _ hS => ⟨a, ns, rfl, hS, hl, fun _ => rfl⟩, hF⟩
