import PyProof.Rows.All
import Wide.All
import OpenK.AllK
import Wide.FinOn
import KE.KExcInit
import KE.KExcIs
import KE.KIsAll
import HandS.ForMost
import HandS.ForSpec
import HandS.ExcInit
import HandS.ExcValue
import HandS.ExcIs
import HandS.Wide
import HandS.Defaults
import HandS.HeadHook2
import HandS.ExcOwn
import HandS.Words
import HandS.IsInst
import HandS.WordsExc
import HandS.Text
import HandS.Head0
import HandS.Head1
import HandS.Head2
import HandS.HeadEnd
import HandS.HeadHook1
import KE.KStateDown
import HandS.TryMany
import HandS.Ends
import PyProof.ReprRoads
import PyProof.ReprLen
import PyProof.Rows.StrIntSpec
import HandS.Star
import HandS.OwnEq
import HandS.FStr
import HandS.MakeKw
import HandS.Codes
import KE.KOpsOwn
import KE.KCallOwn
import PyProof.FString3
import HandS.ClsMeth
import HandS.DeepEq
import KE.KFmtOwn
import PyProof.FactsAll.object_2
import HandS.StrMore
import HandS.TupAny
import HandS.TupMul
import PySem.Challenge.RW_leastrooms_k02_rows_judged
set_option Elab.async false
set_option linter.all false
set_option maxRecDepth 100000
set_option maxHeartbeats 4000000
/-! own exceptions under ValueError, KeyError, RuntimeError, as values -/
namespace LR
open PySem PySem.W PySem.Calls PyProof.Rows Builtin Builtin.ObjectAttr
/-- a family of own exceptions: the built-in class that makes them, and the end of their mro -/
structure Kd where
  B : String
  nid : String
  iid : String
  bmB : List Value
  tl : List Value
  F : ExcBaseFacts B nid iid bmB
  hB : tl.contains (.type B) = true
  hA : tl.contains (.type "AttributeError") = false
  hN : tl.contains (.type "NameError") = false
  hO : tl.contains (.type "object") = true
  hE : tl.contains (.type "BaseException") = true
  pass : ∀ self, refuseLoop self "__setattr__" tl = pure ()
def tlV : List Value := [.type "ValueError", .type "Exception", .type "BaseException", .type "object"]
def tlK : List Value := [.type "KeyError", .type "LookupError", .type "Exception", .type "BaseException", .type "object"]
def tlR : List Value := [.type "RuntimeError", .type "Exception", .type "BaseException", .type "object"]
def xV : Kd := ⟨_, _, _, _, tlV, F.excBase_ValueError, by decide +kernel, by decide +kernel, by decide +kernel, by decide +kernel, by decide +kernel, fun self => F.store_ValueError.passes self⟩
def xK : Kd := ⟨_, _, _, _, tlK, F.excBase_LookupError, by decide +kernel, by decide +kernel, by decide +kernel, by decide +kernel, by decide +kernel, fun self => by kernel_rfl⟩
def xR : Kd := ⟨_, _, _, _, tlR, F.excBase_RuntimeError, by decide +kernel, by decide +kernel, by decide +kernel, by decide +kernel, by decide +kernel, fun self => F.store_RuntimeError.passes self⟩

section
variable {M : Model} {A : Around} {E : Value → Shared → Prop} {h : Heap} {g : Array GenState} {d : Drawn} {t : Nat} {os : OsState}
variable {nm q : Str} {C N : Addr} {bs bm : List Value} {hdct : Bool} {sn : List Str} {sub : List Value} {ab : Bool} {col : Option Bool} {dd : Option Addr} {k0 k1 k2 k3 k5 : Option Value}
theorem Kd.has (k : Kd) (ht : excTail k.tl bm = true) (X : String) {b : Bool} (e : k.tl.contains (.type X) = b) : (Value.ref C :: bm).contains (.type X) = b := by
  rw [List.contains_cons, excTail_contains X bm ht, e]
  cases b <;> rfl
theorem chk_new (k : Kd) (ht : excTail k.tl bm = true) {rest : List Value} {Q : Unit → Shared → Prop}
    (hC : h.get? C = some (excClassObj nm q C N bs bm hdct sn sub ab col dd k0 k1 k2 k3 k5 k.nid)) (hq : Q () ⟨h, g, d, t, os⟩) :
    wpAny M A (checkBuiltinCall k.nid ⟨.ref C :: rest, []⟩) Q E ⟨h, g, d, t, os⟩ := by
  have c1 : (Value.ref C :: bm).contains (.type k.B) = true := k.has ht _ k.hB
  have nst := k.F.noStar
  simp only [checkBuiltinCall, k.F.newKind, k.F.newSplit, k.F.newRow]
  repeat (first
    | refine wpAny_loadPart_at hC ?_
    | (refine wpAny_isSubtype_exc hC ?_; rw [c1])
    | refine wpAny_staticBase_exc hC ?_
    | refine wpAny_madeBy_exc hC ?_
    | simp only [bne_self_eq_false, Bool.false_eq_true, if_false]
    | wp_step)
  exact hq
end
section
variable {prog : Program} {w : World} {A : Around} {E : Value → Shared → Prop} {R : Result → Shared → Prop} {h : Heap} {g : Array GenState} {d : Drawn} {t : Nat} {os : OsState}
variable {nm q : Str} {C N : Addr} {bs bm : List Value} {hdct : Bool} {sn : List Str} {sub : List Value} {ab : Bool} {col : Option Bool} {dd : Option Addr} {k0 k1 k2 k3 k5 : Option Value}
theorem run_new (k : Kd) (ht : excTail k.tl bm = true) {rest : List Value}
    (hC : h.get? C = some (excClassObj nm q C N bs bm hdct sn sub ab col dd k0 k1 k2 k3 k5 k.nid))
    (hq : R (.ok (.ret (.ref (h.objs.size + 1)))) ⟨(h.push (kdv_tup rest)).push (HandSPX.excO C h.objs.size), g, d, t, os⟩) (hr : rest.length ≤ sizeLine) :
    codeAny (model prog w) A (.builtin k.nid ⟨.ref C :: rest, []⟩) R ⟨h, g, d, t, os⟩ := by
  have en := k.F.ends
  have c1 : (Value.ref C :: bm).contains (.type k.B) = true := k.has ht _ k.hB
  have c2 : (Value.ref C :: bm).contains (.type "AttributeError") = false := k.has ht _ k.hA
  have c3 : (Value.ref C :: bm).contains (.type "NameError") = false := k.has ht _ k.hN
  refine codeAny_builtinAt k.F.entry ?_
  unfold Builtin.«BaseException.__new__»
  refine PySem.wpAt_bind ?_
  show PySem.wpAt _ _ _ (stack >>= _) _ _ _
  refine PySem.wpAt_bind (PySem.wpAt_stack fun p below => PySem.wpAt_of_wpAny ?_)
  wp_walk
  refine PySem.wpAt_of_wpAny ?_
  rw [k.F.owner]
  repeat (first
    | with_reducible refine wpAny_madeHere_exc k.F.canon hC ?_
    | with_reducible refine wpAny_loadPart_at hC ?_
    | (with_reducible refine wpAny_isSubtype_exc hC ?_; first | rw [c1] | rw [c2] | rw [c3])
    | wp_step)
  show R _ _
  rw [Heap.size_push]
  exact hq
theorem run_type (k : Kd) (ht : excTail k.tl bm = true) {rest : List Value} {fI : Addr} {Q : Fin → Shared → Prop}
    (hC : h.get? C = some (excClassObj nm q C N bs bm hdct sn sub ab col dd k0 k1 k2 k3 k5 k.nid))
    (hi : Looks (model prog w) h (typeLookup (.ref C) "__init__") (some (.ref fI))) (hb : ∀ self, Looks (model prog w) h (bindSpecial (.ref fI) self) (.ref fI, [self])) (hr : rest.length ≤ sizeLine)
    (hq : codeAny (model prog w) A (.call (.ref fI) ⟨.ref (h.objs.size + 1) :: rest, []⟩)
      (fun r s' => match r with | .ok (.ret v) => v = .none ∧ Q (.done (.ret (.ref (h.objs.size + 1)))) s' | .ok _ => False | .error e => E e s')
      ⟨(h.push (kdv_tup rest)).push (HandSPX.excO C h.objs.size), g, d, t, os⟩) :
    wpAny (model prog w) A (Builtin.«type.__call__» ⟨.ref C :: rest, []⟩) Q E ⟨h, g, d, t, os⟩ := by
  repeat (first
    | with_reducible refine wpAny_loadPart_at hC ?_
    | with_reducible refine wpAny_madeBy_exc hC ?_
    | wp_step)
  refine codeAny_call_builtin_code (Code.quiet_builtin _ k.F.quiet) (chk_new k ht hC (run_new k ht hC ?_ hr))
  show wpAny _ _ _ _ _ _
  have kp : ∀ b o, h.get? b = some o → ((h.push (kdv_tup rest)).push (HandSPX.excO C h.objs.size)).get? b = some o := fun b o e =>
    Heap.get?_push_of_some _ (Heap.get?_push_of_some _ e)
  have hC1 := kp _ _ hC
  have hnew : ((h.push (kdv_tup rest)).push (HandSPX.excO C h.objs.size)).get? (h.objs.size + 1) = some (HandSPX.excO C h.objs.size) := by heap_get
  have self1 : (Value.ref C :: bm).contains (.ref C) = true := by simp
  have i1 := hi.keeps kp
  have b1 := (hb (.ref (h.objs.size + 1))).keeps kp
  unfold isInstance
  repeat (first
    | with_reducible refine wpAny_loadPart_at hnew ?_
    | (with_reducible refine wpAny_isSubtype_exc hC1 ?_; rw [self1])
    | wp_step)
  show wpAny _ _ (typeLookup (.ref C) _) _ _ _
  refine i1.at (wpAny_holding (wpAny_bind (b1.at ?_)))
  refine wpAny_bind (wpAny_call (codeAny_mono hq fun r s' z => ?_))
  rcases r with e | (v | _ | _ | _) <;> first | exact z | exact z.elim | skip
  obtain ⟨rfl, z⟩ := z
  first
    | exact wpAny_pure (wpAny_pure z)
    | (wp_walk; exact z)
/-- C(rest), C with an own __init__ at fI -/
theorem run_class (k : Kd) (ht : excTail k.tl bm = true) {rest : List Value} {fI : Addr}
    (hC : h.get? C = some (excClassObj nm q C N bs bm hdct sn sub ab col dd k0 k1 k2 k3 k5 k.nid))
    (hi : Looks (model prog w) h (typeLookup (.ref C) "__init__") (some (.ref fI))) (hb : ∀ self, Looks (model prog w) h (bindSpecial (.ref fI) self) (.ref fI, [self])) (hr : rest.length ≤ sizeLine)
    (hq : codeAny (model prog w) (A.under (.builtin "type.__call__" ⟨.ref C :: rest, []⟩)) (.call (.ref fI) ⟨.ref (h.objs.size + 1) :: rest, []⟩) (InitBack (h.objs.size + 1) R)
      ⟨(h.push (kdv_tup rest)).push (HandSPX.excO C h.objs.size), g, d, t, os⟩) :
    codeAny (model prog w) A (.call (.ref C) ⟨rest, []⟩) R ⟨h, g, d, t, os⟩ := by
  have f1 := tc_lookup
  have f2 := tc_bind (.ref C)
  have hTy : (⟨h, g, d, t, os⟩ : Shared).TypeIs (.ref C) "type" := ⟨_, hC, rfl⟩
  refine codeAny_of_tree ?_
  show wpAny _ _ (callAny (.ref C) _) _ _ _
  repeat (any_goals (first
    | assumption
    | with_reducible refine wpAny_loadPart_at hC ?_
    | wp_step))
  refine ⟨rfl, codeAny_call_builtin_at (Code.quiet_builtin _ (by decide +kernel)) entry_typeCall (wpAny_check_type_call_sub hC (run_type k ht hC hi hb hr ?_))⟩
  refine codeAny_mono hq fun r s' z => ?_
  rcases r with e | (v | _ | _ | _) <;> exact z
end
end LR

set_option maxHeartbeats 4000000
namespace LR
open PySem PySem.W PySem.Calls PyProof.Rows Builtin Builtin.ObjectAttr
theorem sfK : StoreFacts "KeyError" tlK "object.__setattr__" "object" :=
  { F.store_object with
    mro := by kernel_rfl
    hasOwner := by decide +kernel
    passes := fun self => xK.pass self
    slot := .of (owner := "object") (n := "__setattr__")
      (by rw [typeLookup_type, builtinLookup_eq_fast]; kernel_rfl)
      (by decide +kernel) (by decide +kernel) (by decide +kernel)
      (by first
          | exact .inl (by decide +kernel)
          | exact .inr (by decide +kernel))
      (by rw [isSubtype_type]; kernel_rfl) }
/-- a store by the object's own rule is known for the family -/
def Kd.SF (k : Kd) : Prop := ∃ B, StoreFacts B k.tl "object.__setattr__" "object"
theorem sV : xV.SF := ⟨_, F.store_ValueError⟩
theorem sK : xK.SF := ⟨_, sfK⟩
theorem sR : xR.SF := ⟨_, F.store_RuntimeError⟩
/-- what the written part says of an exception class at C -/
structure XC (K : Frag) (k : Kd) (C : Addr) : Prop where
  cls : ∃ nm q N bs bm sn sub ab col dd k0 k1 k2 k3 k5, K.lookup C = some (excClassObj nm q C N bs bm true sn sub ab col dd k0 k1 k2 k3 k5 k.nid) ∧ excTail k.tl bm = true
  sa : findIn K (.ref C) "__setattr__" = some (some (.builtin "object.__setattr__"))
  ga : findIn K (.ref C) "__getattribute__" = some (some (.builtin "BaseException.__getattribute__"))
  gg : findIn K (.ref C) "__getattr__" = some none
  cl : findIn K (.ref C) "__class__" = some (some (.builtin "object.__class__"))
  kC : keepIn K (.ref C) = true
section
variable {K : Frag} {k : Kd} {C : Addr}
theorem XC.cd (T : XC K k C) : ∃ cd bm, clsIn K C = some cd ∧ cd.mro = .ref C :: bm ∧ excTail k.tl bm = true ∧ cd.hasDict = true := by
  obtain ⟨nm, q, N, bs, bm, sn, sub, ab, col, dd, k0, k1, k2, k3, k5, hC, hb⟩ := T.cls
  exact ⟨_, bm, by unfold clsIn; rw [hC], rfl, hb, rfl⟩
theorem XC.isC (T : XC K k C) : (clsIn K C).isSome = true := by
  obtain ⟨cd, bm, h, _⟩ := T.cd
  rw [h]; rfl
theorem XC.hd (T : XC K k C) : hasDictIn K C = true := by
  obtain ⟨cd, bm, h, _, _, hd⟩ := T.cd
  unfold hasDictIn; rw [h]; exact hd
theorem XC.over (T : XC K k C) : excOver K C k.tl = true := by
  obtain ⟨cd, bm, h, hm, hb, _⟩ := T.cd
  unfold excOver; rw [h]
  simp [hm, hb]
theorem XC.sub (T : XC K k C) (X : String) (e : k.tl.contains (.type X) = true) : mroIn K C (.type X) = some true := by
  obtain ⟨cd, bm, h, hm, hb, _⟩ := T.cd
  unfold mroIn
  rw [h, Option.bind_some, hm]
  show some ((Value.ref C :: bm).contains (.type X)) = some true
  rw [k.has hb X e]
theorem XC.tyC (T : XC K k C) : typeIn K (.ref C) = some (.type "type") := by
  obtain ⟨nm, q, N, bs, bm, sn, sub, ab, col, dd, k0, k1, k2, k3, k5, hC, hb⟩ := T.cls
  show Option.map (fun x => x.cls) (List.lookup C K) = _
  rw [hC]; rfl
end
theorem noTake {K : Frag} {C : Addr} {f : Str} (h : findIn K (.ref C) f = some none) : takerIn K C f = some none := by
  unfold takerIn; rw [h]; rfl
section
variable {prog : Program} {w : World} {A : Around} {E : Value → Shared → Prop} {R : Result → Shared → Prop} {hp : Heap} {g : Array GenState} {d : Drawn} {t : Nat} {os : OsState}
variable {K : Frag} {k : Kd} {C x : Addr} {name : Str} {tk : Tok} {v : Value} {fv : Array Value}
theorem osa_first (S : k.SF) (T : XC K k C) (X : K.In hp) (hx : hp.get? x = some { cls := .ref C, data := .fields fv }) (hno : findIn K (.ref C) name = some none)
    (hq : ∀ h' tk' dx, (∀ b o, b ≠ x → hp.get? b = some o → h'.get? b = some o) → hp.objs.size ≤ dx → dx ≠ x → h'.get? x = some { cls := .ref C, dict := some dx, data := .fields fv } →
      h'.Ns1 dx (fun y => if y = name then some v else none) → R (.ok (.ret .none)) ⟨h', g, d, tk', os⟩) :
    codeAny (model prog w) A (.call (.builtin "object.__setattr__") ⟨[.ref x, .str name tk, v], []⟩) R ⟨hp, g, d, t, os⟩ := by
  obtain ⟨B, SF⟩ := S
  obtain ⟨cd, bm, hcd, hm, hb, hh⟩ := T.cd
  have I : InstAt hp x { cls := .ref C, data := .fields fv } C none := ⟨hx, rfl, rfl, trivial⟩
  have nx : x ≠ hp.objs.size := Nat.ne_of_lt (Heap.lt_size hx)
  have hcls : Looks (model prog w) hp (classData C) cd := looks_clsIn X hcd
  refine osa_openX (s := ⟨hp, g, d, t, os⟩) (r := none) SF X I T.over (noTake hno) fun b => ?_
  obtain ⟨nm, bs, mro, ns, qn, hd, sn, sb, ab, col, del⟩ := cd
  dsimp only at hh
  subst hh
  dsimp only
  unfold storeInOwnDict ownDictForStores
  repeat (first
    | with_reducible refine HandSPX.store_in_new ?_ ?_
    | with_reducible refine wpAny_loadPart_at hx ?_
    | with_reducible refine hcls.at ?_
    | wp_step)
  · exact ⟨_, #[], _, (Heap.get?_update_ne _ _ _ _ nx.symm).trans (Heap.get?_push_at rfl rfl), rfl, fun e he => absurd he (by simp), fun _ => rfl⟩
  · intro h' tk' hn' hs
    have hx1 : (hp.push { cls := .type "dict", data := .dict #[] }).get? x = some { cls := .ref C, data := .fields fv } := Heap.get?_push_of_some _ hx
    refine hq h' tk' hp.objs.size (fun b o ne ho => ?_) (Nat.le_refl _) nx.symm ?_ hn'
    · have z1 := Heap.get?_push_of_some { cls := .type "dict", data := .dict #[] } ho
      have z2 := hs.2 b (Nat.ne_of_lt (Heap.lt_size ho))
      exact z2.trans ((Heap.get?_update_ne _ _ _ _ ne).trans z1)
    · exact (hs.2 x nx).trans (Heap.get?_update_self _ hx1 rfl)
theorem osa_later {dx : Addr} {m0 : Str → Option Value} {nl : List Str} (S : k.SF) (T : XC K k C) (X : K.In hp) (hx : hp.get? x = some { cls := .ref C, dict := some dx, data := .fields fv })
    (hns : hp.Ns1 dx m0) (hw : Within m0 nl) (hz : nl.length ≤ 1000) (hno : findIn K (.ref C) name = some none)
    (hq : ∀ h' tk', (∀ b o, b ≠ dx → hp.get? b = some o → h'.get? b = some o) → h'.Ns1 dx (fun y => if y = name then some v else m0 y) → R (.ok (.ret .none)) ⟨h', g, d, tk', os⟩) :
    codeAny (model prog w) A (.call (.builtin "object.__setattr__") ⟨[.ref x, .str name tk, v], []⟩) R ⟨hp, g, d, t, os⟩ := by
  obtain ⟨B, SF⟩ := S
  obtain ⟨cd, bm, hcd, hm, hb, hh⟩ := T.cd
  obtain ⟨oD, _, _, hoD, _, _⟩ := hns.count hw
  have I : InstAt hp x { cls := .ref C, dict := some dx, data := .fields fv } C (some oD) := ⟨hx, rfl, rfl, hoD⟩
  have hcls : Looks (model prog w) hp (classData C) cd := looks_clsIn X hcd
  refine osa_openX (s := ⟨hp, g, d, t, os⟩) (r := none) SF X I T.over (noTake hno) fun b => ?_
  obtain ⟨nm, bs, mro, ns, qn, hd, sn, sb, ab, col, del⟩ := cd
  dsimp only at hh
  subst hh
  dsimp only
  unfold storeInOwnDict ownDictForStores
  repeat (first
    | with_reducible refine OEX.store_in_old hns hw hz ?_
    | with_reducible refine wpAny_loadPart_at hx ?_
    | with_reducible refine hcls.at ?_
    | wp_step)
  intro h' tk' hn' hs
  exact hq h' tk' (fun b o ne ho => (hs.2 b ne).trans ho) hn'
end
end LR

set_option maxHeartbeats 4000000
namespace L2.Lr
open PySem PySem.Spec PyProof.Rows LR
/-- at a: an exception of the class at C, its dict (none as yet | at d) -/
abbrev xo (a C : Addr) (d : Option Addr) : HO := exo a C d
theorem xo_at {P : Program} {w : World} {H : Hp} {h : Heap} {a C : Addr} {d : Option Addr} (hok : HOk P w H h) (e : H a = some (xo a C d)) : ∃ t1 : Addr, h.get? a = some ({ cls := .ref C, dict := d, data := .fields #[.ref t1, .none, .none, .none, .bool false, .none] } : Obj) := exo_at hok e
theorem xo_ok {P : Program} {w : World} {H : Hp} {h : Heap} {a C t1 : Addr} {d : Option Addr} (e : h.get? a = some ({ cls := .ref C, dict := d, data := .fields #[.ref t1, .none, .none, .none, .bool false, .none] } : Obj)) : ObjOk P w H h a (xo a C d) := exo_ok e
theorem xo_ne {a C : Addr} {d : Option Addr} {o : HO} (n : ∀ φ, HO.ext φ ≠ o) : xo a C d ≠ o := n _
section
variable {X : Cx} {pins : List (Addr × Obj)} {σ : St} {H : Hp} {s : Shared} {a C dx : Addr} {f : Str} {y : V} {u : Value} {fs : List (Str × V)} {Q : Unit → Shared → Prop} {E : Value → Shared → Prop} {A : Around} {k : Kd}
/-- self.f = y, the first field -/
theorem st_first (S : k.SF) (T : XC X.K k C) (I : Inv X pins σ H s) (e : H a = some (xo a C none)) (hno : PySem.W.findIn X.K (.ref C) f = some none) (ry : RelV y u)
    (go : ∀ dx s', H dx = none → dx ≠ a → Inv X pins σ (upd (upd H dx (exd dx [(f, y)])) a (xo a C (some dx))) s' → Q () s') : wpAny (model X.prog X.w) A (setAttr (.ref a) f u) Q E s := by
  obtain ⟨fv, ho⟩ := xo_at I.hok e
  obtain ⟨hp, g, d, t, os⟩ := s
  refine PySem.W.set_plain I.kIn (ox := { cls := .ref C, dict := none, data := .fields #[.ref fv, .none, .none, .none, .bool false, .none] }) (od := none) ⟨ho, rfl, rfl, trivial⟩ T.sa (osa_first S T I.kIn ho hno fun h' tk' dx kk dn dne hx hn => ?_)
  have fresh : H dx = none := I.hok.fresh dn
  have old : ∀ {b : Addr} {o : Obj}, hp.get? b = some o → b ≠ dx := fun {b o} q => Nat.ne_of_lt (Nat.lt_of_lt_of_le (Heap.lt_size q) dn)
  have off : ∀ {b : Addr}, H b = none → b ≠ a := fun {b} n z => by
    rw [z, e] at n
    cases n
  have own : ∀ {b c : Addr}, H b = some (.own c) → b ≠ a := fun {b c} q => at_ne e q (xo_ne fun _ z => by cases z)
  have tup : ∀ {b : Addr} {xs : List V}, H b = some (.tup xs) → b ≠ a := fun {b xs} q => at_ne e q (xo_ne fun _ z => by cases z)
  have frz : ∀ {b : Addr} {o : Obj} {v : HO}, H b = some (.frz o v) → b ≠ a := fun {b o v} q => at_ne e q (xo_ne fun _ z => by cases z)
  have tbl : ∀ {b : Addr} {ps : Array Value}, H b = some (.tbl ps) → b ≠ a := fun {b ps} q => at_ne e q (xo_ne fun _ z => by cases z)
  have U : Un X.fs [] H (upd (upd H dx (exd dx [(f, y)])) a (xo a C (some dx))) hp h' :=
    ⟨fun b o q n _ _ => kk b o (off n) q, fun b o q n _ _ => ⟨o.slots, kk b o (off n) q⟩,
     fun b o q n _ => (upd_ne (off n)).trans ((upd_ne (old q)).trans n),
     fun b o q _ => (Classical.em (b = a)).elim (fun hb => hb.symm ▸ (⟨_, hx⟩ : ∃ o', h'.get? a = some o')) fun hb => ⟨o, kk b o hb q⟩,
     fun b xs q => (upd_ne (tup q)).trans ((upd_ne (ne_of_none q fresh)).trans q),
     fun b o v q => (upd_ne (frz q)).trans ((upd_ne (ne_of_none q fresh)).trans q),
     fun b ps q => ⟨#[], by rw [upd_ne (tbl q), upd_ne (ne_of_none q fresh), q]; simp⟩⟩
  refine go dx _ fresh dne (I.un (t' := tk') U fun b o q => ?_)
  by_cases hb : b = a
  · subst hb
    cases upd_same.symm.trans q
    exact xo_ok hx
  · rw [upd_ne hb] at q
    by_cases hd : b = dx
    · subst hd
      cases upd_same.symm.trans q
      exact exd_ok hn (relO_put (fs := []) ry fun g => True.intro)
    · rw [upd_ne hd] at q
      refine (I.hok b o q).stay (fun c v hc z => kk c v ?_ z) (fun c hc => (upd_ne (own hc)).trans ((upd_ne (ne_of_none hc fresh)).trans hc)) fun c xs hc => (upd_ne (tup hc)).trans ((upd_ne (ne_of_none hc fresh)).trans hc)
      rcases hc with hc | hc
      · rw [hc]; exact hb
      · exact own hc
/-- self.f = y, a later field -/
theorem st_later (S : k.SF) (T : XC X.K k C) (I : Inv X pins σ H s) (e : H a = some (xo a C (some dx))) (ed : H dx = some (exd dx fs)) (hl : fs.length ≤ 900) (hno : PySem.W.findIn X.K (.ref C) f = some none) (ry : RelV y u)
    (go : ∀ s', Inv X pins σ (upd H dx (exd dx ((f, y) :: fs))) s' → Q () s') : wpAny (model X.prog X.w) A (setAttr (.ref a) f u) Q E s := by
  obtain ⟨fv, ho⟩ := xo_at I.hok e
  obtain ⟨mA, hns, rel⟩ := exd_at I.hok ed
  have hw := within_of rel
  obtain ⟨hp, g, d, t, os⟩ := s
  obtain ⟨oD, _, _, hoD, _, _⟩ := hns.count hw
  refine PySem.W.set_plain I.kIn (ox := { cls := .ref C, dict := some dx, data := .fields #[.ref fv, .none, .none, .none, .bool false, .none] }) (od := some oD) ⟨ho, rfl, rfl, hoD⟩ T.sa (osa_later S T I.kIn ho hns hw (by rw [List.length_map]; omega) hno fun h' tk' kk hn => ?_)
  have there : ∃ o, h'.get? dx = some o := by
    obtain ⟨o, _, _, e', _⟩ := hn
    exact ⟨o, e'⟩
  exact go _ (I.write (t' := tk') (x := dx) (e := dx) (o := exd dx ((f, y) :: fs)) (by rw [ed]; exact True.intro) (.inl rfl) kk there (exd_ok hn (relO_put ry rel)))
end
/-! ### readings -/
/-- self.f = e -/
def tStX (K : PySem.W.Frag) (f : Str) (to te : TE) : TS := fun D σ H => te σ H fun y H1 => to σ H1 fun x H2 => ∃ (a C : Addr) (k : Kd), x = .ref a ∧ k.SF ∧ XC K k C ∧ PySem.W.findIn K (.ref C) f = some none ∧
  ((H2 a = some (xo a C none) ∧ ∀ dx, H2 dx = none → dx ≠ a → D.nx σ (upd (upd H2 dx (exd dx [(f, y)])) a (xo a C (some dx)))) ∨
    ∃ (dx : Addr) (fs : List (Str × V)), H2 a = some (xo a C (some dx)) ∧ H2 dx = some (exd dx fs) ∧ fs.length ≤ 900 ∧ D.nx σ (upd H2 dx (exd dx ((f, y) :: fs))))
/-- C(e, ..), C's __init__ keeping sp: the new exception as a value -/
def tMkX (C : Addr) (sp : Sp) (dvs : List V) (ta : TA) : TE := fun σ H Q => ta σ H fun vs H1 => vs.length ≤ 1000 ∧ ∀ a, H1 a = none → sp (.ref a :: (vs ++ dvs)) (upd H1 a (xo a C none)) (fun v H2 => v = .non ∧ Q (.ref a) H2) (fun _ _ _ => False)
/-- e.n of such an exception -/
def tAtX (K : PySem.W.Frag) (n : Str) (te : TE) : TE := fun σ H Q => te σ H fun x H1 => ∃ (a C dx : Addr) (fs : List (Str × V)) (v : V) (k : Kd), x = .ref a ∧ H1 a = some (xo a C (some dx)) ∧ H1 dx = some (exd dx fs) ∧ XC K k C ∧
  PySem.W.findIn K (.ref C) n = some none ∧ fs.lookup n = some v ∧ Q v H1
/-- isinstance(e, c) -/
def rIsX (K : PySem.W.Frag) : List V → Hp → VK → Prop := fun xs H Q => ∃ (a C : Addr) (d : Option Addr) (k : Kd) (c : V) (cv : Value) (b : Bool), xs = [.ref a, c] ∧ (∀ u, RelV c u → u = cv) ∧ H a = some (xo a C d) ∧
  (∀ dx, d = some dx → ∃ o, H dx = some o) ∧ XC K k C ∧ PySem.W.kitOne K (.ref C) cv = some b ∧ Q (.bl b) H
theorem oc_get {K : PySem.W.Frag} : PySem.W.specialIn K (.builtin "object.__class__") "__get__" = some (some (.builtin "getset_descriptor.__get__")) := by kernel_rfl
theorem oc_take {K : PySem.W.Frag} : PySem.W.takesIn K (.builtin "object.__class__") = some true := by kernel_rfl
section
variable {X : Cx} {o e : Expr} {es : List Expr} {to te : TE} {ta : TA} {f : Str} {p p' p1 p2 pos : Pos}
theorem inst_of {pins : List (Addr × Obj)} {σ : St} {H : Hp} {s : Shared} {a C : Addr} {d : Option Addr} (I : Inv X pins σ H s) (e : H a = some (xo a C d)) (hd : ∀ dx, d = some dx → ∃ o, H dx = some o) :
    ∃ (ox : Obj) (od : Option Obj), PySem.W.InstAt s.heap a ox C od ∧ ∀ dx, d = some dx → ∃ q, od = some q ∧ s.heap.get? dx = some q := by
  obtain ⟨fv, ho⟩ := xo_at I.hok e
  cases d with
  | none => exact ⟨_, none, ⟨ho, rfl, rfl, trivial⟩, fun dx z => by cases z⟩
  | some dx =>
    obtain ⟨q, hq⟩ := hd dx rfl
    obtain ⟨ob, hb⟩ : ∃ ob, s.heap.get? dx = some ob := by
      have z := (I.hok dx q hq).lt
      cases r : s.heap.get? dx with
      | some ob => exact ⟨ob, rfl⟩
      | none => exact absurd r (by
          have zz := I.hok dx q hq
          cases q with
          | lst xs => obtain ⟨_, _, _, _, e1⟩ := zz; rw [e1]; simp
          | tup xs => obtain ⟨_, _, _, o1, e1, _⟩ := zz; rw [e1]; simp
          | dK kvs => obtain ⟨_, _, _, _, o1, _, _, e1, _⟩ := zz; rw [e1]; simp
          | dT kvs => obtain ⟨_, _, _, _, o1, _, _, e1, _⟩ := zz; rw [e1]; simp
          | set S n => obtain ⟨o1, _, _, _, e1, _⟩ := zz; rw [e1]; simp
          | ins C1 d1 f1 => obtain ⟨_, _, _, e1, _⟩ := zz; rw [e1]; simp
          | own y => obtain ⟨_, e1⟩ := zz; rw [e1]; simp
          | xd fs => obtain ⟨_, ⟨_, _, _, e1, _⟩, _⟩ := zz; rw [e1]; simp
          | rng lo hi => obtain ⟨_, _, _, e1⟩ := zz; rw [e1]; simp
          | frz ob u => obtain ⟨e1, _⟩ := zz; rw [e1]; simp
          | tbl ps => have e1 : s.heap.get? dx = some _ := zz; rw [e1]; simp
          | met f1 y => have e1 : s.heap.get? dx = some _ := zz; rw [e1]; simp
          | ext φ => obtain ⟨_, ⟨_, e1⟩, _⟩ := zz; rw [e1]; simp)
    exact ⟨_, some ob, ⟨ho, rfl, rfl, hb⟩, fun dy z => by cases z; exact ⟨ob, rfl, hb⟩⟩
theorem ps_stX (ho : PE X o to) (he : PE X e te) (hs : swapsWith e (some (.Attribute o f p')) pos.line X.env = pure false := by rfl) : PS X (.Assign [.Attribute o f p'] e pos) (tStX X.K f to te) := by
  refine ⟨fun pins s σ H D I hh => plainObj_wpAny_Assign_Attribute (thn (he.run pins s σ H _ I hh) fun v s1 ⟨y, H1, I1, r1, q1⟩ => thn (ho.run pins s1 σ H1 _ I1 q1) fun u s2 ⟨x, H2, I2, r2, q⟩ => ?_) hs⟩
  obtain ⟨a, C, k, rfl, S, T, hno, q⟩ := q
  cases (show u = Value.ref a from r2)
  rcases q with ⟨ea, q⟩ | ⟨dx, fs, ea, ed, hl, q⟩
  · exact st_first S T I2 ea hno r1 fun dx s' n ne J => ⟨σ, _, J, q dx n ne⟩
  · exact st_later S T I2 ea ed hl hno r1 fun s' J => ⟨σ, _, J, q⟩
theorem pe_mkX {CX : CXT} {x : Str} {C fI : Addr} {j : Nat} {fd : FuncData} {ps : List Str} {sp : Sp} {ds : List Value} {dvs : List V} {k : Kd} (T : XC X.K k C) (iC : PySem.W.findIn X.K (.ref C) "__init__" = some (some (.ref fI))) (tI : PySem.W.typeIn X.K (.ref fI) = some (.type "function"))
    (F1 : FnOk X.prog X.w X.K X.mg X.base CX j fI fd ps sp) (hr : Room (j + 1) X.A) (hb : Binds X.K fd ps ds) (hd : Vals dvs ds) (hx : Passes CX X (fun _ _ _ => False)) (hg : Gl X x) (hm : X.mg x = some (.ref C)) (ha : PA X (e :: es) ta)
    (hdb : (x == ("__debug__" : Str)) = false := by decide) (he : starEach (e :: es) X.env = (false, eval e X.env) :: starEach es X.env := by rfl) (hpl : (backTo pos (starEach es X.env)).any (·.1) = false := by rfl) :
    PE X (.Call (.Name x p) (e :: es) [] pos) (tMkX C sp dvs ta) := by
  refine ⟨fun pins s σ H Q I hh => ?_⟩
  obtain ⟨nm, q, N, bs, bm, sn, sub, ab, col, dd, k0, k1, k2, k3, k5, hC, hbm⟩ := T.cls
  refine wpAny_Call_Name_kw (ld_glob I hg hm ?_ hdb)
  refine PySem.W.callWith_K (h₀ := X.base) I.ok.mod.kin T.kC (thn (ha.run pos pins s σ H _ I hh) fun us s1 ⟨vs, H1, I1, r1, hz, q1⟩ => ⟨I1.kIn, ?_⟩) he hpl
  show wpAny _ _ (call (.ref C) us) _ _ _
  obtain ⟨hp, g, dr, tk, os⟩ := s1
  obtain ⟨na, ena⟩ : ∃ na, na = hp.objs.size + 1 := ⟨_, rfl⟩
  have hsz : hp.objs.size ≤ na := by omega
  have hn : H1 na = none := I1.hok.fresh hsz
  have hq := q1 na hn
  obtain ⟨G, eG⟩ : ∃ G, G = (hp.push (PySem.W.kdv_tup us)).push (PySem.HandSPX.excO C hp.objs.size) := ⟨_, rfl⟩
  have kk : ∀ b o, hp.get? b = some o → G.get? b = some o := fun b o e1 => by rw [eG]; exact Heap.get?_push_of_some _ (Heap.get?_push_of_some _ e1)
  have there : G.get? na = some (PySem.HandSPX.excO C hp.objs.size) := by rw [eG, ena]; heap_get
  have I2 : Inv X pins σ (upd H1 na (xo na C none)) ⟨G, g, dr, tk, os⟩ := I1.laid (t' := tk) (a := na) (o := xo na C none) (h' := G) kk hsz (xo_ok there)
  have r2 : Vals (V.ref na :: (vs ++ dvs)) (Value.ref na :: (us ++ ds)) := .cons rfl (r1.append hd)
  have hl : (Value.ref na :: us ++ ds).length = ps.length := by
    have e1 := r2.length
    rw [F1.len _ _ _ _ hq] at e1
    exact e1.symm
  have hus : us.length ≤ sizeLine := by
    rw [← Paired.length r1, sizeLine_eq]
    omega
  refine wpAny_call (run_class k hbm (I1.kIn _ _ hC) (PySem.W.looks_findIn I1.kIn iC) (fun self => PySem.W.bind_fn I1.kIn self tI) hus ?_)
  rw [← eG, ← ena]
  refine codeAny_mono (F1.run _ X.stack _ _ ⟨Value.ref na :: us, []⟩ (Value.ref na :: (us ++ ds)) _ _ (fun _ _ _ => False) (hr.make C us []) (I2.env0.make C us []) (hb _ (Value.ref na :: us) I2.kIn hl) r2 hq) fun r s' hq' => ?_
  cases r with
  | error er => exact hx pins σ _ _ er s' I2 hq'
  | ok fl =>
    cases fl with
    | ret u =>
      obtain ⟨v, H2, os2, bare2, un2, hok2, rv, ev, q2⟩ := hq'
      subst ev
      exact ⟨rv, .ref na, H2, I2.call' (ch := []) os2 un2 hok2 bare2 fun b z => absurd z (by simp), rfl, q2⟩
    | next => exact False.elim hq'
    | brk => exact False.elim hq'
    | cont => exact False.elim hq'
theorem pe_atX {n : Str} (he : PE X e te) (hb : attributeBase e n X.env (eval e X.env) = eval e X.env := by rfl) : PE X (.Attribute e n pos) (tAtX X.K n te) := by
  refine ⟨fun pins s σ H Q I hh => attr_of hb (thn (he.run pins s σ H _ I hh) fun u s1 ⟨x, H1, I1, rx, q⟩ => ?_)⟩
  obtain ⟨a, C, dx, fs, v, k, rfl, ea, ed, T, hno, l, q⟩ := q
  cases (show u = Value.ref a from rx)
  obtain ⟨ox, od, J, hd⟩ := inst_of I1 ea fun d z => by cases z; exact ⟨_, ed⟩
  obtain ⟨ob, eo, ho⟩ := hd dx rfl
  obtain ⟨mA, hns, hr⟩ := exd_at I1.hok ed
  obtain ⟨o2, ho2, hl⟩ := lookIn_ns hns
  cases ho.symm.trans ho2
  subst eo
  obtain ⟨z, hz, rz⟩ := RelO.some_of (v := v) (o := mA n) (by rw [← l]; exact hr n)
  exact HandSPX.exc_get I1.kIn J T.ga T.gg (T.sub "BaseException" k.hE) (PySem.W.findObj_own T.hd hno rfl (by rw [hl, hz])) (handed_of rz) ⟨v, H1, I1.tok _, rz, q⟩
theorem call_isX : CallR X (.builtin "isinstance") (rIsX X.K) := by
  intro pins s σ H xs us Q I r q
  obtain ⟨a, C, d, k, c, cv, b, rfl, hcv, ea, hd, T, e, q⟩ := q
  cases r with
  | cons rx rr =>
    cases rr with
    | cons rt rr =>
      cases rr
      cases rx
      cases hcv _ rt
      obtain ⟨ox, od, J, _⟩ := inst_of I ea hd
      exact PySem.W.kia_one (PySem.W.kitx_exc T.isC T.ga T.gg (T.sub "BaseException" k.hE) T.cl oc_get oc_take (T.sub "object" k.hO)) I.kIn J e (fun z => nomatch z) fun tk => ⟨.bl b, H, I.kept (t' := tk) fun _ _ z => z, rfl, q⟩
end
end L2.Lr

set_option maxHeartbeats 4000000
namespace L2.Lr
open PySem PySem.Spec PyProof.Rows LR
/-! ### facts of a class, reckoned -/
def clB (K : PySem.W.Frag) (k : Kd) (C : Addr) : Bool := match K.lookup C with
  | some ⟨.type "type", _, .cls cd, sl⟩ => (match cd.mro, sl.toList with
    | .ref C' :: bm, [_, _, _, _, some (.builtin n), _] => C' == C && n == k.nid && !cd.hasDel && cd.hasDict && PySem.W.excTail k.tl bm
    | _, _ => false)
  | _ => false
theorem clB_ok {K : PySem.W.Frag} {k : Kd} {C : Addr} (q : clB K k C = true) : ∃ nm qn N bs bm sn sub ab col dd k0 k1 k2 k3 k5, K.lookup C = some (excClassObj nm qn C N bs bm true sn sub ab col dd k0 k1 k2 k3 k5 k.nid) ∧ PySem.W.excTail k.tl bm = true := by
  unfold clB at q
  split at q
  · rename_i dd cd sl ho
    split at q
    · rename_i C' bm k0 k1 k2 k3 n k5 hm hs
      simp only [Bool.and_eq_true, beq_iff_eq, Bool.not_eq_true'] at q
      obtain ⟨⟨⟨⟨rfl, rfl⟩, hdel⟩, hdict⟩, ht⟩ := q
      obtain ⟨nm, bs, mro, ns, qn, hd, sn, sub, ab, col, del⟩ := cd
      dsimp only at hm hdel hdict
      subst hm hdel hdict
      have es : sl = #[k0, k1, k2, k3, some (.builtin k.nid), k5] := by
        rw [← hs]
      subst es
      exact ⟨nm, qn, ns, bs, bm, sn, sub, ab, col, dd, k0, k1, k2, k3, k5, ho, ht⟩
    · cases q
  · cases q
def xcB (K : PySem.W.Frag) (k : Kd) (C : Addr) : Bool := clB K k C && (He.eqO (PySem.W.findIn K (.ref C) "__setattr__") (some (some (.builtin "object.__setattr__"))) && (He.eqO (PySem.W.findIn K (.ref C) "__getattribute__") (some (some (.builtin "BaseException.__getattribute__"))) &&
  (He.eqO (PySem.W.findIn K (.ref C) "__getattr__") (some none) && (He.eqO (PySem.W.findIn K (.ref C) "__class__") (some (some (.builtin "object.__class__"))) && PySem.W.keepIn K (.ref C)))))
theorem xcB_ok {K : PySem.W.Frag} {k : Kd} {C : Addr} (q : xcB K k C = true) : XC K k C := by
  obtain ⟨q1, q⟩ := He.ba q
  obtain ⟨q2, q⟩ := He.ba q
  obtain ⟨q3, q⟩ := He.ba q
  obtain ⟨q4, q⟩ := He.ba q
  obtain ⟨q5, q6⟩ := He.ba q
  exact ⟨clB_ok q1, He.eqO_ok q2, He.eqO_ok q3, He.eqO_ok q4, He.eqO_ok q5, q6⟩
/-! ### exceptions as the heap holds them -/
/-- at a: an exception of the class at C with these fields (none: no dict) -/
def ExF (H : Hp) (a C : Addr) : Option (List (Str × V)) → Prop
  | some fs => ∃ d, H a = some (xo a C (some d)) ∧ H d = some (exd d fs)
  | none => H a = some (xo a C none)
theorem ExF.same {H H' : Hp} {a C : Addr} {o : Option (List (Str × V))} (e : ExF H a C o) (s : Same H H') : ExF H' a C o := by
  cases o with
  | none => exact s _ _ e
  | some fs =>
    obtain ⟨d, e1, e2⟩ := e
    exact ⟨d, s _ _ e1, s _ _ e2⟩
theorem ExF.obj {H : Hp} {a C : Addr} {o : Option (List (Str × V))} (e : ExF H a C o) : ∃ d, H a = some (xo a C d) ∧ ∀ dx, d = some dx → ∃ u, H dx = some u := by
  cases o with
  | none => exact ⟨none, e, fun dx z => by cases z⟩
  | some fs =>
    obtain ⟨d, e1, e2⟩ := e
    exact ⟨some d, e1, fun dx z => by cases z; exact ⟨_, e2⟩⟩
theorem same_upd {H : Hp} {p : Addr} {o : HO} (n : H p = none) : Same H (upd H p o) := fun b u e => (upd_ne (ne_of_none e n)).trans e
theorem pe_weak {X : Cx} {e : Expr} {t t' : TE} (h : PE X e t) (i : ∀ σ H Q, t' σ H Q → t σ H Q) : PE X e t' := ⟨fun pins s σ H Q I q => h.run pins s σ H Q I (i σ H Q q)⟩
theorem pt_weak {X : Cx} {e : Expr} {t t' : TT} (h : PT X e t) (i : ∀ σ H Q, t' σ H Q → t σ H Q) : PT X e t' := ⟨fun pins s σ H Q I q => h.run pins s σ H Q I (i σ H Q q)⟩
theorem pa_weak {X : Cx} {es : List Expr} {t t' : TA} (h : PA X es t) (i : ∀ σ H Q, t' σ H Q → t σ H Q) : PA X es t' := ⟨fun p pins s σ H Q I q => h.run p pins s σ H Q I (i σ H Q q)⟩
/-- C(y): the new exception keeps y -/
def tNew (C : Addr) (te : TE) : TE := fun σ H Q => te σ H fun y H1 => ∀ a H', Same H1 H' → H1 a = none → ExF H' a C (some [("value", y)]) → Q (.ref a) H'
/-- C(z, y): .. keeps both -/
def tNew2 (C : Addr) (tz ty : TE) : TE := fun σ H Q => tz σ H fun z H1 => ty σ H1 fun y H2 => ∀ a H', Same H2 H' → H2 a = none → ExF H' a C (some [("value", y), ("word", z)]) → Q (.ref a) H'
/-- C() -/
def tNew0 (C : Addr) : TE := fun σ H Q => ∀ a, H a = none → Q (.ref a) (upd H a (xo a C none))
/-- isinstance(e, c): b -/
def tIsX (K : PySem.W.Frag) (te : TE) (cv : Value) : TE := fun σ H Q => te σ H fun x H1 => ∃ (a C : Addr) (o : Option (List (Str × V))) (k : Kd) (b : Bool), x = .ref a ∧ ExF H1 a C o ∧ XC K k C ∧ PySem.W.kitOne K (.ref C) cv = some b ∧ Q (.bl b) H1
/-- e.n -/
def tGetX (K : PySem.W.Frag) (n : Str) (te : TE) : TE := fun σ H Q => te σ H fun x H1 => ∃ (a C : Addr) (fs : List (Str × V)) (v : V) (k : Kd), x = .ref a ∧ ExF H1 a C (some fs) ∧ XC K k C ∧ PySem.W.findIn K (.ref C) n = some none ∧ fs.lookup n = some v ∧ Q v H1
/-! ### the promises of the __init__s -/
def spIni (K : PySem.W.Frag) : Sp := fun vs H Q _ => ∃ (a C : Addr) (k : Kd) (y : V), vs = [.ref a, y] ∧ k.SF ∧ XC K k C ∧ PySem.W.findIn K (.ref C) "value" = some none ∧ H a = some (xo a C none) ∧
  ∀ H' d, H d = none → d ≠ a → (∀ b o, H b = some o → b ≠ a → H' b = some o) → H' a = some (xo a C (some d)) → H' d = some (exd d [("value", y)]) → Q .non H'
def spIni2 (K : PySem.W.Frag) : Sp := fun vs H Q _ => ∃ (a C : Addr) (k : Kd) (z y : V), vs = [.ref a, z, y] ∧ k.SF ∧ XC K k C ∧ PySem.W.findIn K (.ref C) "value" = some none ∧ PySem.W.findIn K (.ref C) "word" = some none ∧ H a = some (xo a C none) ∧
  ∀ H' d, H d = none → d ≠ a → (∀ b o, H b = some o → b ≠ a → H' b = some o) → H' a = some (xo a C (some d)) → H' d = some (exd d [("value", y), ("word", z)]) → Q .non H'
/-- a reading with a wish that may be stronger -/
def tUp (te : TE) : TE := fun σ H Q => ∃ Q' : VK, te σ H Q' ∧ ∀ v H', Q' v H' → Q v H'
theorem pe_up {X : Cx} {e : Expr} {te : TE} (h : PE X e te) : PE X e (tUp te) := ⟨fun pins s σ H Q I ⟨Q', q, i⟩ => thn (h.run pins s σ H Q' I q) fun u s1 ⟨v, H1, I1, r, q1⟩ => ⟨v, H1, I1, r, i v H1 q1⟩⟩
section
variable {X : Cx} {e e2 : Expr} {es : List Expr} {te t2 : TE} {ta : TA} {p p' p1 p2 pos : Pos}
theorem pe_new {x : Str} {C fI : Addr} {j : Nat} {fd : FuncData} {k : Kd} (S : k.SF) (T : XC X.K k C) (nv : PySem.W.findIn X.K (.ref C) "value" = some none) (iC : PySem.W.findIn X.K (.ref C) "__init__" = some (some (.ref fI))) (tI : PySem.W.typeIn X.K (.ref fI) = some (.type "function"))
    (F1 : FnOk X.prog X.w X.K X.mg X.base CX0 j fI fd ["self", "value"] (spIni X.K)) (hr : Room (j + 1) X.A) (hb : Binds X.K fd ["self", "value"] []) (hm : X.mg x = some (.ref C)) (ha : PE X e te) (hg : Gl X x := by rfl)
    (hdb : (x == ("__debug__" : Str)) = false := by decide) (he : starEach (e :: []) X.env = (false, eval e X.env) :: starEach [] X.env := by rfl) (hpl : (backTo pos (starEach [] X.env)).any (·.1) = false := by rfl) :
    PE X (.Call (.Name x p) [e] [] pos) (tNew C te) := by
  refine pe_weak (pe_mkX (e := e) (es := []) (dvs := []) T iC tI F1 hr hb .nil pass0 hg hm (pa_cons (pe_up ha) pa_nil he) hdb he hpl) fun σ H Q q => ?_
  refine ⟨_, q, fun y H1 q1 => ⟨by show 1 ≤ 1000; decide, fun a hn => ⟨a, C, k, y, rfl, S, T, nv, upd_same, fun H2 d hd ne keep e1 e2 => ⟨rfl, q1 a H2 (fun b o z => ?_) hn ⟨d, e1, e2⟩⟩⟩⟩⟩
  have ne : b ≠ a := ne_of_none z hn
  exact keep b o ((upd_ne ne).trans z) ne
theorem pe_new2 {x : Str} {C fI : Addr} {j : Nat} {fd : FuncData} {k : Kd} (S : k.SF) (T : XC X.K k C) (nv : PySem.W.findIn X.K (.ref C) "value" = some none) (nw : PySem.W.findIn X.K (.ref C) "word" = some none) (iC : PySem.W.findIn X.K (.ref C) "__init__" = some (some (.ref fI))) (tI : PySem.W.typeIn X.K (.ref fI) = some (.type "function"))
    (F1 : FnOk X.prog X.w X.K X.mg X.base CX0 j fI fd ["self", "word", "value"] (spIni2 X.K)) (hr : Room (j + 1) X.A) (hb : Binds X.K fd ["self", "word", "value"] []) (hm : X.mg x = some (.ref C)) (ha : PE X e te) (ha2 : PE X e2 t2) (hg : Gl X x := by rfl)
    (hdb : (x == ("__debug__" : Str)) = false := by decide) (he : starEach (e :: [e2]) X.env = (false, eval e X.env) :: starEach [e2] X.env := by rfl) (he2 : starEach (e2 :: []) X.env = (false, eval e2 X.env) :: starEach [] X.env := by rfl) (hpl : (backTo pos (starEach [e2] X.env)).any (·.1) = false := by rfl) :
    PE X (.Call (.Name x p) [e, e2] [] pos) (tNew2 C te t2) := by
  refine pe_weak (pe_mkX (e := e) (es := [e2]) (dvs := []) T iC tI F1 hr hb .nil pass0 hg hm (pa_cons (pe_up ha) (pa_cons (pe_up ha2) pa_nil he2) he) hdb he hpl) fun σ H Q q => ?_
  refine ⟨_, q, fun z H1 q1 => ⟨_, q1, fun y H2 q2 => ⟨by show 2 ≤ 1000; decide, fun a hn => ⟨a, C, k, z, y, rfl, S, T, nv, nw, upd_same, fun H3 d hd ne keep e1 e2 => ⟨rfl, q2 a H3 (fun b o zz => ?_) hn ⟨d, e1, e2⟩⟩⟩⟩⟩⟩
  have ne : b ≠ a := ne_of_none zz hn
  exact keep b o ((upd_ne ne).trans zz) ne
theorem pe_new0 {x : Str} {C : Addr} {bmB : List Value} {B newId initId : String} (F : ExcBaseFacts B newId initId bmB) (q : PySem.W.excIn X.K C bmB newId = true) (kC : PySem.W.keepIn X.K (.ref C) = true) (hm : X.mg x = some (.ref C)) (hg : Gl X x := by rfl) (hdb : (x == ("__debug__" : Str)) = false := by decide) :
    PE X (.Call (.Name x p) [] [] pos) (tNew0 C) := by
  refine ⟨fun pins s σ H Q I h => ?_⟩
  refine wpAny_Call_Name_kw (ld_glob I hg hm (PySem.W.callWith_K0 I.kIn kC ?_) hdb)
  obtain ⟨bm, N, nm, qn, bs, hdct, sn, sub, ab, col, dd, k0, k1, k2, k3, k5, mN, hC, hN, hni, T⟩ := exc_obj I.kIn q
  refine wpAny_call_exc_subT F T hC hN hni (fun h' a hm' => ?_) (Nat.zero_le _)
  have hn : H a = none := I.hok.gone hm'.new
  obtain ⟨t, ht, _, _⟩ := hm'.there
  exact ⟨.ref a, _, I.laidN hm'.keeps hm'.new hn (xo_ok ht), rfl, h a hn⟩
theorem pe_isX {c : V} {cv : Value} (pe2 : PE X e2 (tC c)) (hv : ∀ u, RelV c u → u = cv) (hm : X.mg "isinstance" = none) (ha : PE X e te) (hg : Gl X "isinstance" := by rfl)
    (he : starEach (e :: [e2]) X.env = (false, eval e X.env) :: starEach [e2] X.env := by rfl) (he2 : starEach (e2 :: []) X.env = (false, eval e2 X.env) :: starEach [] X.env := by rfl) (hpl : (backTo pos (starEach [e2] X.env)).any (·.1) = false := by rfl) :
    PE X (.Call (.Name "isinstance" p) [e, e2] [] pos) (tIsX X.K te cv) := by
  refine pe_weak (pe_callB (e := e) (es := [e2]) call_isX hg hm boot_isinstance (pa_cons (pe_up ha) (pa_cons pe2 pa_nil he2) he) (by decide) (by decide) he hpl) fun σ H Q q => ?_
  refine ⟨_, q, fun x H1 q1 => ?_⟩
  obtain ⟨a, C, o, k, b, rfl, ex, T, e, q⟩ := q1
  obtain ⟨d, e1, e2⟩ := ex.obj
  exact ⟨a, C, d, k, c, cv, b, rfl, hv, e1, e2, T, e, q⟩
theorem pe_getX {n : Str} (he : PE X e te) (hb : attributeBase e n X.env (eval e X.env) = eval e X.env := by rfl) : PE X (.Attribute e n pos) (tGetX X.K n te) := by
  refine pe_weak (pe_atX (pe_up he) hb) fun σ H Q q => ⟨_, q, fun x H1 q1 => ?_⟩
  obtain ⟨a, C, fs, v, k, rfl, ⟨d, e1, e2⟩, T, hno, l, q⟩ := q1
  exact ⟨a, C, d, fs, v, k, rfl, e1, e2, T, hno, l, q⟩
end
end L2.Lr

set_option maxHeartbeats 4000000
namespace L2.Lr
open PySem PySem.Spec PyProof.Rows LR
/-! own exceptions raised and caught -/
theorem pmk_weak {X : Cx} {e : Expr} {t t' : St → Hp → XK → Prop} (h : PMk X e t) (i : ∀ σ H Q, t' σ H Q → t σ H Q) : PMk X e t' := fun pins s σ H Q I q => h pins s σ H Q I (i σ H Q q)
/-- raise C(y): d holds the fields -/
def tNewR (C : Addr) (te : TE) : St → Hp → XK → Prop := fun σ H Q => te σ H fun y H1 => ∀ d H', Same H1 H' → H1 d = none → H' d = some (.xd [("value", y)]) → Q (.ref C) (some d) H'
def tNewR2 (C : Addr) (tz ty : TE) : St → Hp → XK → Prop := fun σ H Q => tz σ H fun z H1 => ty σ H1 fun y H2 => ∀ d H', Same H2 H' → H2 d = none → H' d = some (.xd [("value", y), ("word", z)]) → Q (.ref C) (some d) H'
def tNewR0 (C : Addr) : St → Hp → XK → Prop := fun _ H Q => Q (.ref C) none H
section
variable {X : Cx} {e e2 : Expr} {es : List Expr} {te t2 : TE} {ta : TA} {p p' p1 p2 pos : Pos}
theorem xc_raises {k : Kd} {C : Addr} (T : XC X.K k C) : Raises X (.ref C) := raises_own (T.sub "BaseException" k.hE) T.tyC
theorem pmk_x {CX : CXT} {x : Str} {C fI : Addr} {j : Nat} {fd : FuncData} {ps : List Str} {sp : Sp} {ds : List Value} {dvs : List V} {k : Kd} (T : XC X.K k C) (iC : PySem.W.findIn X.K (.ref C) "__init__" = some (some (.ref fI))) (tI : PySem.W.typeIn X.K (.ref fI) = some (.type "function"))
    (F1 : FnOk X.prog X.w X.K X.mg X.base CX j fI fd ps sp) (hr : Room (j + 1) X.A) (hb : Binds X.K fd ps ds) (hd : Vals dvs ds) (hx : Passes CX X (fun _ _ _ => False)) (hg : Gl X x) (hm : X.mg x = some (.ref C)) (ha : PA X (e :: es) ta)
    (hdb : (x == ("__debug__" : Str)) = false := by decide) (he : starEach (e :: es) X.env = (false, eval e X.env) :: starEach es X.env := by rfl) (hpl : (backTo pos (starEach es X.env)).any (·.1) = false := by rfl) :
    PMk X (.Call (.Name x p) (e :: es) [] pos) (tMkO C sp dvs ta) := by
  intro pins s σ H Q I hh
  obtain ⟨nm, q, N, bs, bm, sn, sub, ab, col, dd, k0, k1, k2, k3, k5, hC, hbm⟩ := T.cls
  refine wpAny_Call_Name_kw (ld_glob I hg hm ?_ hdb)
  refine PySem.W.callWith_K (h₀ := X.base) I.ok.mod.kin T.kC (thn (ha.run pos pins s σ H _ I hh) fun us s1 ⟨vs, H1, I1, r1, hz, q1⟩ => ⟨I1.kIn, ?_⟩) he hpl
  show wpAny _ _ (call (.ref C) us) _ _ _
  obtain ⟨hp, g, dr, tk, os⟩ := s1
  obtain ⟨na, ena⟩ : ∃ na, na = hp.objs.size + 1 := ⟨_, rfl⟩
  have hsz : hp.objs.size ≤ na := by omega
  have hn : H1 na = none := I1.hok.fresh hsz
  have hq := q1 na hn
  obtain ⟨G, eG⟩ : ∃ G, G = (hp.push (PySem.W.kdv_tup us)).push (PySem.HandSPX.excO C hp.objs.size) := ⟨_, rfl⟩
  have kk : ∀ b o, hp.get? b = some o → G.get? b = some o := fun b o e1 => by rw [eG]; exact Heap.get?_push_of_some _ (Heap.get?_push_of_some _ e1)
  have there : G.get? na = some (PySem.HandSPX.excO C hp.objs.size) := by rw [eG, ena]; heap_get
  have I2 : Inv X pins σ (upd H1 na (xo na C none)) ⟨G, g, dr, tk, os⟩ := I1.laid (t' := tk) (a := na) (o := xo na C none) (h' := G) kk hsz (xo_ok there)
  have r2 : Vals (V.ref na :: (vs ++ dvs)) (Value.ref na :: (us ++ ds)) := .cons rfl (r1.append hd)
  have hl : (Value.ref na :: us ++ ds).length = ps.length := by
    have e1 := r2.length
    rw [F1.len _ _ _ _ hq] at e1
    exact e1.symm
  have hus : us.length ≤ sizeLine := by
    rw [← Paired.length r1, sizeLine_eq]
    omega
  refine wpAny_call (run_class k hbm (I1.kIn _ _ hC) (PySem.W.looks_findIn I1.kIn iC) (fun self => PySem.W.bind_fn I1.kIn self tI) hus ?_)
  rw [← eG, ← ena]
  refine codeAny_mono (F1.run _ X.stack _ _ ⟨Value.ref na :: us, []⟩ (Value.ref na :: (us ++ ds)) _ _ (fun _ _ _ => False) (hr.make C us []) (I2.env0.make C us []) (hb _ (Value.ref na :: us) I2.kIn hl) r2 hq) fun r s' hq' => ?_
  cases r with
  | error er => exact hx pins σ _ _ er s' I2 hq'
  | ok fl =>
    cases fl with
    | ret u =>
      obtain ⟨v, H2, os2, bare2, un2, hok2, rv, ev, d, fs, ea, ed, hd1, q2⟩ := hq'
      subst ev
      obtain ⟨h2, g2, d2, t2, os'⟩ := s'
      exact ⟨rv, mk_end (xc_raises T) I1 hsz kk un2 hok2 os2 bare2 ea ed hd1 q2⟩
    | next => exact False.elim hq'
    | brk => exact False.elim hq'
    | cont => exact False.elim hq'
theorem pmk_new {x : Str} {C fI : Addr} {j : Nat} {fd : FuncData} {k : Kd} (S : k.SF) (T : XC X.K k C) (nv : PySem.W.findIn X.K (.ref C) "value" = some none) (iC : PySem.W.findIn X.K (.ref C) "__init__" = some (some (.ref fI))) (tI : PySem.W.typeIn X.K (.ref fI) = some (.type "function"))
    (F1 : FnOk X.prog X.w X.K X.mg X.base CX0 j fI fd ["self", "value"] (spIni X.K)) (hr : Room (j + 1) X.A) (hb : Binds X.K fd ["self", "value"] []) (hm : X.mg x = some (.ref C)) (ha : PE X e te) (hg : Gl X x := by rfl)
    (hdb : (x == ("__debug__" : Str)) = false := by decide) (he : starEach (e :: []) X.env = (false, eval e X.env) :: starEach [] X.env := by rfl) (hpl : (backTo pos (starEach [] X.env)).any (·.1) = false := by rfl) :
    PMk X (.Call (.Name x p) [e] [] pos) (tNewR C te) := by
  refine pmk_weak (pmk_x (e := e) (es := []) (dvs := []) T iC tI F1 hr hb .nil pass0 hg hm (pa_cons (pe_up ha) pa_nil he) hdb he hpl) fun σ H Q q => ?_
  refine ⟨_, q, fun y H1 q1 => ⟨by show 1 ≤ 1000; decide, fun a hn => ⟨a, C, k, y, rfl, S, T, nv, upd_same, fun H2 d hd ne keep e1 e2 => ⟨rfl, d, _, e1, e2, ?_, ?_⟩⟩⟩⟩
  · exact (upd_ne ne).symm.trans hd
  · refine q1 d _ (fun b o z => ?_) ((upd_ne ne).symm.trans hd) upd_same
    have nb : b ≠ a := ne_of_none z hn
    have nd : b ≠ d := ne_of_none z ((upd_ne ne).symm.trans hd)
    exact (upd_ne nd).trans ((del_ne nb).trans (keep b o ((upd_ne nb).trans z) nb))
theorem pmk_new2 {x : Str} {C fI : Addr} {j : Nat} {fd : FuncData} {k : Kd} (S : k.SF) (T : XC X.K k C) (nv : PySem.W.findIn X.K (.ref C) "value" = some none) (nw : PySem.W.findIn X.K (.ref C) "word" = some none) (iC : PySem.W.findIn X.K (.ref C) "__init__" = some (some (.ref fI))) (tI : PySem.W.typeIn X.K (.ref fI) = some (.type "function"))
    (F1 : FnOk X.prog X.w X.K X.mg X.base CX0 j fI fd ["self", "word", "value"] (spIni2 X.K)) (hr : Room (j + 1) X.A) (hb : Binds X.K fd ["self", "word", "value"] []) (hm : X.mg x = some (.ref C)) (ha : PE X e te) (ha2 : PE X e2 t2) (hg : Gl X x := by rfl)
    (hdb : (x == ("__debug__" : Str)) = false := by decide) (he : starEach (e :: [e2]) X.env = (false, eval e X.env) :: starEach [e2] X.env := by rfl) (he2 : starEach (e2 :: []) X.env = (false, eval e2 X.env) :: starEach [] X.env := by rfl) (hpl : (backTo pos (starEach [e2] X.env)).any (·.1) = false := by rfl) :
    PMk X (.Call (.Name x p) [e, e2] [] pos) (tNewR2 C te t2) := by
  refine pmk_weak (pmk_x (e := e) (es := [e2]) (dvs := []) T iC tI F1 hr hb .nil pass0 hg hm (pa_cons (pe_up ha) (pa_cons (pe_up ha2) pa_nil he2) he) hdb he hpl) fun σ H Q q => ?_
  refine ⟨_, q, fun z H1 q1 => ⟨_, q1, fun y H2 q2 => ⟨by show 2 ≤ 1000; decide, fun a hn => ⟨a, C, k, z, y, rfl, S, T, nv, nw, upd_same, fun H3 d hd ne keep e1 e2 => ⟨rfl, d, _, e1, e2, ?_, ?_⟩⟩⟩⟩⟩
  · exact (upd_ne ne).symm.trans hd
  · refine q2 d _ (fun b o z => ?_) ((upd_ne ne).symm.trans hd) upd_same
    have nb : b ≠ a := ne_of_none z hn
    have nd : b ≠ d := ne_of_none z ((upd_ne ne).symm.trans hd)
    exact (upd_ne nd).trans ((del_ne nb).trans (keep b o ((upd_ne nb).trans z) nb))
theorem pmk_new0 {x : Str} {C : Addr} {bmB : List Value} {B newId initId : String} {k : Kd} (T : XC X.K k C) (F : ExcBaseFacts B newId initId bmB) (q : PySem.W.excIn X.K C bmB newId = true) (kC : PySem.W.keepIn X.K (.ref C) = true) (hm : X.mg x = some (.ref C)) (hg : Gl X x := by rfl) (hdb : (x == ("__debug__" : Str)) = false := by decide) :
    PMk X (.Call (.Name x p) [] [] pos) (tNewR0 C) := by
  intro pins s σ H Q I h
  refine wpAny_Call_Name_kw (ld_glob I hg hm (PySem.W.callWith_K0 I.kIn kC ?_) hdb)
  obtain ⟨bm, N, nm, qn, bs, hdct, sn, sub, ab, col, dd, k0, k1, k2, k3, k5, mN, hC, hN, hni, T'⟩ := exc_obj I.kIn q
  refine wpAny_call_exc_subT F T' hC hN hni (fun h' a hm' => ?_) (Nat.zero_le _)
  exact mk_of I hm' (xc_raises T) h (I.hok.gone hm'.new)
end
/-! ### in an except suite -/
theorem obj_of {P : Program} {w : World} {H : Hp} {h : Heap} {dx : Addr} {q : HO} (hok : HOk P w H h) (e : H dx = some q) : ∃ ob, h.get? dx = some ob := by
  have z := hok dx q e
  cases q with
  | lst xs => obtain ⟨_, _, _, _, e1⟩ := z; exact ⟨_, e1⟩
  | tup xs => obtain ⟨_, _, _, o1, e1, _⟩ := z; exact ⟨_, e1⟩
  | dK kvs => obtain ⟨_, _, _, _, o1, _, _, e1, _⟩ := z; exact ⟨_, e1⟩
  | dT kvs => obtain ⟨_, _, _, _, o1, _, _, e1, _⟩ := z; exact ⟨_, e1⟩
  | set S n => obtain ⟨o1, _, _, _, e1, _⟩ := z; exact ⟨_, e1⟩
  | ins C1 d1 f1 => obtain ⟨_, _, _, e1, _⟩ := z; exact ⟨_, e1⟩
  | own y => obtain ⟨_, e1⟩ := z; exact ⟨_, e1⟩
  | xd fs => obtain ⟨_, ⟨_, _, _, e1, _⟩, _⟩ := z; exact ⟨_, e1⟩
  | rng lo hi => obtain ⟨_, _, _, e1⟩ := z; exact ⟨_, e1⟩
  | frz ob u => obtain ⟨e1, _⟩ := z; exact ⟨_, e1⟩
  | tbl ps => have e1 : h.get? dx = some _ := z; exact ⟨_, e1⟩
  | met f1 y => have e1 : h.get? dx = some _ := z; exact ⟨_, e1⟩
  | ext φ => obtain ⟨_, ⟨_, e1⟩, _⟩ := z; exact ⟨_, e1⟩
/-- e.n, e the caught exception at a -/
def tXv (K : PySem.W.Frag) (a : Addr) (cls : Value) (d : Option Addr) (n : Str) (te : TE) : TE := fun σ H Q => te σ H fun x H1 => x = .ref a ∧ ∃ (C dx : Addr) (fs : List (Str × V)) (v : V) (k : Kd), cls = .ref C ∧ d = some dx ∧ XC K k C ∧
  PySem.W.findIn K (.ref C) n = some none ∧ H1 dx = some (.xd fs) ∧ fs.lookup n = some v ∧ Q v H1
/-- isinstance(e, c) -/
def rIsS (K : PySem.W.Frag) (a : Addr) (cls : Value) (d : Option Addr) : List V → Hp → VK → Prop := fun xs H Q => ∃ (C : Addr) (k : Kd) (c : V) (cv : Value) (b : Bool), xs = [.ref a, c] ∧ cls = .ref C ∧ (∀ u, RelV c u → u = cv) ∧
  (∀ dx, d = some dx → ∃ o, H dx = some o) ∧ XC K k C ∧ PySem.W.kitOne K (.ref C) cv = some b ∧ Q (.bl b) H
def tIsS (K : PySem.W.Frag) (a : Addr) (cls : Value) (d : Option Addr) (te : TE) (cv : Value) : TE := fun σ H Q => te σ H fun x H1 => x = .ref a ∧ ∃ (C : Addr) (k : Kd) (b : Bool), cls = .ref C ∧ (∀ dx, d = some dx → ∃ o, H1 dx = some o) ∧ XC K k C ∧ PySem.W.kitOne K (.ref C) cv = some b ∧ Q (.bl b) H1
section
variable {X : Cx} {a : Addr} {oe : Obj} {cls : Value} {d : Option Addr} {pn : List (Addr × Obj)} {e e2 : Expr} {te : TE} {p pos : Pos}
theorem inst_at {C : Addr} {pins : List (Addr × Obj)} {σ : St} {H : Hp} {s : Shared} (I : Inv (X.suite a ((a, oe) :: pn)) pins σ H s) (hz : Zc cls d oe) (hf : ∃ vs, oe.data = .fields vs) (ec : cls = .ref C) (hd : ∀ dx, d = some dx → ∃ o, H dx = some o) :
    ∃ od : Option Obj, PySem.W.InstAt s.heap a oe C od ∧ ∀ dx, d = some dx → ∃ q, od = some q ∧ s.heap.get? dx = some q := by
  obtain ⟨ha, _⟩ := I.pin (a, oe) (List.mem_append_left _ List.mem_cons_self)
  obtain ⟨vs, hv⟩ := hf
  obtain ⟨z1, z2⟩ := hz
  have nc : PySem.W.notCls oe := by unfold PySem.W.notCls; rw [hv] <;> rfl
  cases d with
  | none => exact ⟨none, ⟨ha, z1.trans ec, nc, by rw [z2]; trivial⟩, fun dx z => by cases z⟩
  | some dx =>
    obtain ⟨q, hq⟩ := hd dx rfl
    obtain ⟨ob, hb⟩ := obj_of I.hok hq
    exact ⟨some ob, ⟨ha, z1.trans ec, nc, by rw [z2]; exact hb⟩, fun dy z => by cases z; exact ⟨ob, rfl, hb⟩⟩
theorem pe_xv {n : Str} (hz : Zc cls d oe) (hf : ∃ vs, oe.data = .fields vs) (he : PE (X.suite a ((a, oe) :: pn)) e te) (hb : attributeBase e n X.env (eval e X.env) = eval e X.env := by rfl) :
    PE (X.suite a ((a, oe) :: pn)) (.Attribute e n pos) (tXv X.K a cls d n te) := by
  refine ⟨fun pins s σ H Q I hh => attr_of hb (thn (he.run pins s σ H _ I hh) fun u s1 ⟨x, H1, I1, rx, q⟩ => ?_)⟩
  obtain ⟨rfl, C, dx, fs, v, k, ec, ed, T, hno, hx, l, q⟩ := q
  cases (show u = Value.ref a from rx)
  obtain ⟨od, J, hd⟩ := inst_at I1 hz hf ec fun dy z => by rw [ed] at z; cases z; exact ⟨_, hx⟩
  obtain ⟨ob, eo, ho⟩ := hd dx ed
  have hx2 : ObjOk X.prog X.w H1 s1.heap dx (.xd fs) := I1.hok dx _ hx
  obtain ⟨mA, hns, hr⟩ := hx2
  obtain ⟨o2, ho2, hl⟩ := lookIn_ns hns
  cases ho.symm.trans ho2
  subst eo
  obtain ⟨z, hz', rz⟩ := RelO.some_of (v := v) (o := mA n) (by rw [← l]; exact hr n)
  exact HandSPX.exc_get I1.kIn J T.ga T.gg (T.sub "BaseException" k.hE) (PySem.W.findObj_own T.hd hno rfl (by rw [hl, hz'])) (handed_of rz) ⟨v, H1, I1.tok _, rz, q⟩
theorem call_isS (hz : Zc cls d oe) (hf : ∃ vs, oe.data = .fields vs) : CallR (X.suite a ((a, oe) :: pn)) (.builtin "isinstance") (rIsS X.K a cls d) := by
  intro pins s σ H xs us Q I r q
  obtain ⟨C, k, c, cv, b, rfl, ec, hcv, hd, T, e, q⟩ := q
  cases r with
  | cons rx rr =>
    cases rr with
    | cons rt rr =>
      cases rr
      cases rx
      cases hcv _ rt
      obtain ⟨od, J, _⟩ := inst_at I hz hf ec hd
      exact PySem.W.kia_one (PySem.W.kitx_exc T.isC T.ga T.gg (T.sub "BaseException" k.hE) T.cl oc_get oc_take (T.sub "object" k.hO)) I.kIn J e (fun z => nomatch z) fun tk => ⟨.bl b, H, I.kept (t' := tk) fun _ _ z => z, rfl, q⟩
theorem pe_isS {c : V} {cv : Value} (hz : Zc cls d oe) (hf : ∃ vs, oe.data = .fields vs) (pe2 : PE (X.suite a ((a, oe) :: pn)) e2 (tC c)) (hv : ∀ u, RelV c u → u = cv) (hm : X.mg "isinstance" = none) (ha : PE (X.suite a ((a, oe) :: pn)) e te) (hg : Gl X "isinstance" := by rfl)
    (he : starEach (e :: [e2]) X.env = (false, eval e X.env) :: starEach [e2] X.env := by rfl) (he2 : starEach (e2 :: []) X.env = (false, eval e2 X.env) :: starEach [] X.env := by rfl) (hpl : (backTo pos (starEach [e2] X.env)).any (·.1) = false := by rfl) :
    PE (X.suite a ((a, oe) :: pn)) (.Call (.Name "isinstance" p) [e, e2] [] pos) (tIsS X.K a cls d te cv) := by
  refine pe_weak (pe_callB (e := e) (es := [e2]) (call_isS hz hf) hg hm boot_isinstance (pa_cons (pe_up ha) (pa_cons pe2 pa_nil he2) he) (by decide) (by decide) he hpl) fun σ H Q q => ?_
  refine ⟨_, q, fun x H1 q1 => ?_⟩
  obtain ⟨rfl, C, k, b, ec, hd, T, e, q⟩ := q1
  exact ⟨C, k, c, cv, b, rfl, ec, hv, hd, T, e, q⟩
end
end L2.Lr

set_option maxHeartbeats 4000000
namespace L2.Lr
open PySem PySem.Spec PyProof.Rows LR
/-! words for any law -/
/-- a loop whose body's ends are a letter -/
theorem for_rangeD {lo : Int} {n : Nat} {g : TG} {tb : TS} {D : Ends} {σ : St} {H : Hp} (Pv : Nat → St → Hp → Prop) (h0 : Pv 0 σ H)
    (hs : ∀ (D' : Ends) (i : Nat) (σ : St) (H : Hp), D'.rt = D.rt → (∀ σ H, Pv (i + 1) σ H → D'.nx σ H) → (∀ σ H, Pv (i + 1) σ H → D'.ct σ H) → (∀ σ H, D.nx σ H → D'.bk σ H) → i < n → Pv i σ H → g (.int (lo + i)) σ H fun σ2 H2 => tb D' σ2 H2) (hd : ∀ σ H, Pv n σ H → D.nx σ H) :
    ∃ W : Nat → Nat → St → Hp → Prop, (∃ m, W 0 m σ H) ∧ ∀ i m σ H, W i m σ H →
      ((Itr lo n).stop i H ∧ D.nx σ H) ∨ ((Itr lo n).go i H ∧ ∃ N : St → Hp → Prop, (∀ σ' H', N σ' H' → ∃ m', m' < m ∧ W (i + 1) m' σ' H') ∧ ∀ x H', (Itr lo n).yld i H x H' → g x σ H' fun σ2 H2 => tb { D with nx := N, ct := N, bk := D.nx } σ2 H2) :=
  for_range Pv h0 (fun i σ H hi hp => hs { D with nx := Pv (i + 1), ct := Pv (i + 1), bk := D.nx } i σ H rfl (fun _ _ h => h) (fun _ _ h => h) (fun _ _ h => h) hi hp) hd
theorem for_listD {K : PySem.W.Frag} {a : Addr} {xs : List V} {g : TG} {tb : TS} {D : Ends} {σ : St} {H : Hp} (Pv : Nat → St → Hp → Prop) (h0 : Pv 0 σ H) (hl : ∀ i σ H, i ≤ xs.length → Pv i σ H → SqL K H a xs)
    (hs : ∀ (D' : Ends) (i : Nat) (x : V) (σ : St) (H : Hp), D'.rt = D.rt → (∀ σ H, Pv (i + 1) σ H → D'.nx σ H) → (∀ σ H, Pv (i + 1) σ H → D'.ct σ H) → (∀ σ H, D.nx σ H → D'.bk σ H) → xs[i]? = some x → Pv i σ H → g x σ H fun σ2 H2 => tb D' σ2 H2) (hd : ∀ σ H, Pv xs.length σ H → D.nx σ H) :
    ∃ W : Nat → Nat → St → Hp → Prop, (∃ m, W 0 m σ H) ∧ ∀ i m σ H, W i m σ H →
      ((Itl K a).stop i H ∧ D.nx σ H) ∨ ((Itl K a).go i H ∧ ∃ N : St → Hp → Prop, (∀ σ' H', N σ' H' → ∃ m', m' < m ∧ W (i + 1) m' σ' H') ∧ ∀ x H', (Itl K a).yld i H x H' → g x σ H' fun σ2 H2 => tb { D with nx := N, ct := N, bk := D.nx } σ2 H2) :=
  for_list Pv h0 hl (fun i x σ H hi hp => hs { D with nx := Pv (i + 1), ct := Pv (i + 1), bk := D.nx } i x σ H rfl (fun _ _ h => h) (fun _ _ h => h) (fun _ _ h => h) hi hp) hd
theorem for_tupD {K : PySem.W.Frag} {a : Addr} {xs : List V} {g : TG} {tb : TS} {D : Ends} {σ : St} {H : Hp} (Pv : Nat → St → Hp → Prop) (h0 : Pv 0 σ H) (hl : ∀ i σ H, i ≤ xs.length → Pv i σ H → SqT K H a xs)
    (hs : ∀ (D' : Ends) (i : Nat) (x : V) (σ : St) (H : Hp), D'.rt = D.rt → (∀ σ H, Pv (i + 1) σ H → D'.nx σ H) → (∀ σ H, Pv (i + 1) σ H → D'.ct σ H) → (∀ σ H, D.nx σ H → D'.bk σ H) → xs[i]? = some x → Pv i σ H → g x σ H fun σ2 H2 => tb D' σ2 H2) (hd : ∀ σ H, Pv xs.length σ H → D.nx σ H) :
    ∃ W : Nat → Nat → St → Hp → Prop, (∃ m, W 0 m σ H) ∧ ∀ i m σ H, W i m σ H →
      ((Itt K a).stop i H ∧ D.nx σ H) ∨ ((Itt K a).go i H ∧ ∃ N : St → Hp → Prop, (∀ σ' H', N σ' H' → ∃ m', m' < m ∧ W (i + 1) m' σ' H') ∧ ∀ x H', (Itt K a).yld i H x H' → g x σ H' fun σ2 H2 => tb { D with nx := N, ct := N, bk := D.nx } σ2 H2) :=
  for_tup Pv h0 hl (fun i x σ H hi hp => hs { D with nx := Pv (i + 1), ct := Pv (i + 1), bk := D.nx } i x σ H rfl (fun _ _ h => h) (fun _ _ h => h) (fun _ _ h => h) hi hp) hd
theorem ite_dec {p : Prop} [Decidable p] {A B : Prop} (h1 : p → A) (h2 : ¬ p → B) : if decide p = true then A else B := by
  by_cases h : p
  · rw [if_pos (decide_eq_true h)]
    exact h1 h
  · rw [if_neg (by rw [decide_eq_false h]; exact Bool.false_ne_true)]
    exact h2 h
theorem go_next {D : Ends} {σ : St} {H : Hp} (h : D.nx σ H) : tNext D σ H := h
theorem go_seq {t u : TS} {D : Ends} {σ : St} {H : Hp} (h : t { D with nx := u D } σ H) : tSeq t u D σ H := h
theorem go_asg {te : TE} {g : TG} {D : Ends} {σ : St} {H : Hp} (h : te σ H fun x H1 => g x σ H1 D.nx) : tAsg te g D σ H := h
theorem eqv_ne {d e : PyData} {A B : Prop} (h : PyData.eqv d e = true) (b : B) : if (!PyData.eqv d e) = true then A else B := by
  rw [h]
  exact iteF b
theorem all_range {n : Nat} {p : Nat → Bool} (h : (List.range n).all p = true) (i : Nat) (hi : i < n) : p i = true := List.all_eq_true.mp h i (List.mem_range.mpr hi)
/-! ### a Hook with a check of one's own -/
def obsEG (n : Nat) (chk : PySem.W.Frag → Bool) (fa : List He.Fa) (fn : List He.DefD) (g : Addr → Option Obj) : Bool × He.AlD := (fun K => (chk K, He.obsD fa fn K)) (He.frG g (He.asD g n))
def hookE (n : Nat) (chk : PySem.W.Frag → Bool) (fa : List He.Fa) (fn : List He.DefD) : PySem.W.Hook where
  α := Bool × He.AlD
  obs := fun s => obsEG n chk fa fn s.heap.get?
  val := fun _ => (true, He.valD fn)
  says := fun _ h => ∃ K : PySem.W.Frag, K.In h ∧ chk K = true ∧ He.SaysD fa fn K
  of := fun _ _ e => ⟨_, He.frG_in, congrArg (fun z : Bool × He.AlD => z.1) e, congrArg (fun z : Bool × He.AlD => z.2) e⟩
  keeps := fun _ _ _ ⟨K, hK, c⟩ k => ⟨K, PySem.W.Frag.In.keeps hK k, c⟩
theorem obsEG_eq {n : Nat} {chk : PySem.W.Frag → Bool} {fa : List He.Fa} {fn : List He.DefD} {g : Addr → Option Obj} {s : Shared} (h : ∀ a, g a = s.heap.get? a) : obsEG n chk fa fn g = (hookE n chk fa fn).obs s := by
  have e : g = s.heap.get? := funext h
  rw [e]
  rfl
/-! ### int(x) -/
def tInt (te : TE) : TE := fun σ H Q => te σ H fun x H1 => ∃ i, x = .int i ∧ Q (.int i) H1
def tIntB (te : TE) : TE := fun σ H Q => te σ H fun x H1 => ∃ k, x = .bl k ∧ Q (.int (if k then 1 else 0)) H1
section
variable {X : Cx} {e : Expr} {te : TE} {p pos : Pos}
theorem pe_toI (hm : X.mg "int" = none) (ha : PE X e te) (hg : Gl X "int" := by rfl) (he : starEach (e :: []) X.env = (false, eval e X.env) :: starEach [] X.env := by rfl) (hpl : (backTo pos (starEach [] X.env)).any (·.1) = false := by rfl) : PE X (.Call (.Name "int" p) [e] [] pos) (tInt te) :=
  pe_weak (pe_callTy (e := e) (es := []) call_int1 hg hm (by decide +kernel) (pa_cons (pe_up ha) pa_nil he) (by decide) (by decide) he hpl) fun σ H Q q => ⟨_, q, fun x H1 ⟨i, ex, q1⟩ => .inl ⟨i, by rw [ex], q1⟩⟩
theorem pe_toIB (hm : X.mg "int" = none) (ha : PE X e te) (hg : Gl X "int" := by rfl) (he : starEach (e :: []) X.env = (false, eval e X.env) :: starEach [] X.env := by rfl) (hpl : (backTo pos (starEach [] X.env)).any (·.1) = false := by rfl) : PE X (.Call (.Name "int" p) [e] [] pos) (tIntB te) :=
  pe_weak (pe_callTy (e := e) (es := []) call_int1 hg hm (by decide +kernel) (pa_cons (pe_up ha) pa_nil he) (by decide) (by decide) he hpl) fun σ H Q q => ⟨_, q, fun x H1 ⟨i, ex, q1⟩ => .inr ⟨i, by rw [ex], q1⟩⟩
end
/-! ### data -/
def tyN : PyData → String
  | .none => "NoneType"
  | .bool _ => "bool"
  | .int _ => "int"
  | .str _ => "str"
  | .list _ => "list"
  | .tuple _ => "tuple"
  | .dict _ => "dict"
theorem tyD {K : PySem.W.Frag} {H : Hp} {x : V} {d : PyData} (h : Dp K H x d) : TyX K H x (.type (tyN d)) := by
  cases h with
  | non => exact .base .non
  | bl b => exact .base (.bl b)
  | int i => exact .base (.int i)
  | str s => exact .base (.str s)
  | lst h _ =>
    rcases h with (h | ⟨o, h⟩) | ⟨o, its, n, h, c, _⟩
    · exact .base (.lst h)
    · exact .base (.frz h)
    · exact .kList h c
  | tup h _ =>
    rcases h with (h | ⟨o, h⟩) | ⟨o, its, n, h, c, _⟩
    · exact .base (.tup h)
    · exact .fTuple h
    · exact .kTuple h c
theorem seqT {K : PySem.W.Frag} {H H' : Hp} {a : Addr} {xs : List V} (s : Same H H') (h : SqT K H a xs) : SqT K H' a xs := by
  rcases h with (h | ⟨o, h⟩) | h
  · exact .inl (.inl (s _ _ h))
  · exact .inl (.inr ⟨o, s _ _ h⟩)
  · exact .inr h
mutual
theorem Dp.same {K : PySem.W.Frag} {H H' : Hp} (s : Same H H') : ∀ {v : V} {d : PyData}, Dp K H v d → Dp K H' v d
  | _, _, .non => .non
  | _, _, .bl b => .bl b
  | _, _, .int i => .int i
  | _, _, .str x => .str x
  | _, _, .lst h a => .lst (s.seq h) (DpAll.same s a)
  | _, _, .tup h a => .tup (seqT s h) (DpAll.same s a)
theorem DpAll.same {K : PySem.W.Frag} {H H' : Hp} (s : Same H H') : ∀ {vs : List V} {ds : List PyData}, DpAll K H vs ds → DpAll K H' vs ds
  | _, _, .nil => .nil
  | _, _, .cons h a => .cons (Dp.same s h) (DpAll.same s a)
end
/-- isinstance(x, t) of data -/
def tIsD (K : PySem.W.Frag) (t : String) (te : TE) : TE := fun σ H Q => te σ H fun x H1 => ∃ d b, Dp K H1 x d ∧ kitB (tyN d) t = some b ∧ Q (.bl b) H1
theorem pe_isD {X : Cx} {e e2 : Expr} {te : TE} {p pos : Pos} {t : String} (hm : X.mg "isinstance" = none) (ha : PE X e te) (pe2 : PE X e2 (tC (.ty t))) (hg : Gl X "isinstance" := by rfl)
    (he : starEach (e :: [e2]) X.env = (false, eval e X.env) :: starEach [e2] X.env := by rfl) (he2 : starEach (e2 :: []) X.env = (false, eval e2 X.env) :: starEach [] X.env := by rfl) (hpl : (backTo pos (starEach [e2] X.env)).any (·.1) = false := by rfl) :
    PE X (.Call (.Name "isinstance" p) [e, e2] [] pos) (tIsD X.K t te) :=
  pe_weak (pe_callB (e := e) (es := [e2]) call_isi hg hm boot_isinstance (pa_cons (pe_up ha) (pa_cons pe2 pa_nil he2) he) (by decide) (by decide) he hpl) fun σ H Q q => ⟨_, q, fun x H1 ⟨d, b, hd, hk, q1⟩ => ⟨x, .ty t, .type (tyN d), .type t, b, rfl, .ty t, tyD hd, kit_ty hk, q1⟩⟩
/-! ### displays of constants -/
/-- the value is this data -/
def tDat (K : PySem.W.Frag) (d : PyData) : TE := fun _ H Q => ∀ v H', Same H H' → Dp K H' v d → Q v H'
def tDats (K : PySem.W.Frag) (ds : List PyData) : TA := fun _ H Q => ∀ vs H', Same H H' → DpAll K H' vs ds → Q vs H'
/-- a new list of this data -/
def tDatL (K : PySem.W.Frag) (ds : List PyData) : TE := fun _ H Q => ∀ p vs H', Same H H' → H' p = some (.lst vs) → DpAll K H' vs ds → Q (.ref p) H'
theorem DpAll.length {K : PySem.W.Frag} {H : Hp} : ∀ {vs : List V} {ds : List PyData}, DpAll K H vs ds → vs.length = ds.length
  | _, _, .nil => rfl
  | _, _, .cons _ a => by simp [DpAll.length a]
theorem DpAll.append {K : PySem.W.Frag} {H : Hp} : ∀ {vs us : List V} {ds es : List PyData}, DpAll K H vs ds → DpAll K H us es → DpAll K H (vs ++ us) (ds ++ es)
  | _, _, _, _, .nil, b => b
  | _, _, _, _, .cons h a, b => .cons h (DpAll.append a b)
theorem DpAll.at {K : PySem.W.Frag} {H : Hp} : ∀ {vs : List V} {ds : List PyData} {i : Nat} {v : V}, DpAll K H vs ds → vs[i]? = some v → ∃ d, ds[i]? = some d ∧ Dp K H v d
  | _, _, _, _, .nil, e => by simp at e
  | _, _, 0, _, .cons h a, e => by simp at e; subst e; exact ⟨_, rfl, h⟩
  | _ :: vs, _ :: ds, i + 1, v, .cons h a, e => DpAll.at (vs := vs) (ds := ds) (i := i) a (by simpa using e)
section
variable {X : Cx} {e : Expr} {es : List Expr} {d : PyData} {ds : List PyData} {p pos : Pos}
theorem pd_int {i : Int} {k} : PE X (.Constant (.int i) k p) (tDat X.K (.int i)) := pe_weak pe_int fun σ H Q q => q _ _ (Same.refl H) (.int i)
theorem pd_str {x : Str} {k} : PE X (.Constant (.str x) k p) (tDat X.K (.str x)) := pe_weak pe_str fun σ H Q q => q _ _ (Same.refl H) (.str x)
theorem pd_bl {b : Bool} {k} : PE X (.Constant (.bool b) k p) (tDat X.K (.bool b)) := pe_weak pe_bl fun σ H Q q => q _ _ (Same.refl H) (.bl b)
theorem pd_non {k} : PE X (.Constant .none k p) (tDat X.K .none) := pe_weak pe_non fun σ H Q q => q _ _ (Same.refl H) .non
theorem pd_neg {i : Int} {k} : PE X (.UnaryOp .USub (.Constant (.int i) k p) pos) (tDat X.K (.int (-i))) := pe_weak (pe_un un_neg pe_int) fun σ H Q q => ⟨i, rfl, q _ _ (Same.refl H) (.int (-i))⟩
theorem pd_nil : PA X [] (tDats X.K []) := pa_weak pa_nil fun σ H Q q => q [] H (Same.refl H) .nil
theorem pd_cons (h1 : PE X e (tDat X.K d)) (h2 : PA X es (tDats X.K ds)) (hs : starEach (e :: es) X.env = (false, eval e X.env) :: starEach es X.env := by rfl) : PA X (e :: es) (tDats X.K (d :: ds)) :=
  pa_weak (pa_cons h1 h2 hs) fun σ H Q q v H1 s1 h1 vs H2 s2 h2 => q (v :: vs) H2 (s1.trans s2) (.cons (Dp.same s2 h1) h2)
theorem pd_tup {x1} (h : PA X es (tDats X.K ds)) (hz : ds.length ≤ sizeLine := by show _ ≤ _; decide) : PE X (.Tuple es x1 pos) (tDat X.K (.tuple ds)) :=
  pe_weak (pe_tup h) fun σ H Q q vs H1 s1 h1 => ⟨by rw [DpAll.length h1]; exact hz, fun p np => q _ _ (s1.trans (same_upd np)) (.tup (SqT.of upd_same) (DpAll.same (same_upd np) h1))⟩
theorem pd_lst {x1} (h : PA X es (tDats X.K ds)) (hz : ds.length ≤ sizeLine := by show _ ≤ _; decide) : PE X (.List es x1) (tDat X.K (.list ds)) :=
  pe_weak (pe_lst h) fun σ H Q q vs H1 s1 h1 => ⟨by rw [DpAll.length h1]; exact hz, fun p np => q _ _ (s1.trans (same_upd np)) (.lst (SqL.of upd_same) (DpAll.same (same_upd np) h1))⟩
theorem pd_lstL {x1} (h : PA X es (tDats X.K ds)) (hz : ds.length ≤ sizeLine := by show _ ≤ _; decide) : PE X (.List es x1) (tDatL X.K ds) :=
  pe_weak (pe_lst h) fun σ H Q q vs H1 s1 h1 => ⟨by rw [DpAll.length h1]; exact hz, fun p np => q p vs _ (s1.trans (same_upd np)) upd_same (DpAll.same (same_upd np) h1)⟩
end
/-! ### displays of pairs of names -/
/-- tuples of the values of two slots each -/
def tPairs (l : List (Nat × Nat)) : TA := fun σ H Q => ∃ f : Nat → V, (∀ q, q ∈ l → σ[q.1]? = some (some (f q.1)) ∧ σ[q.2]? = some (some (f q.2))) ∧
  ∀ (as : List Addr) (H' : Hp), Same H H' → as.length = l.length → (∀ (n : Nat) (a : Addr) (q : Nat × Nat), as[n]? = some a → l[n]? = some q → H' a = some (.tup [f q.1, f q.2])) → Q (as.map V.ref) H'
section
variable {X : Cx} {e1 e2 : Expr} {es : List Expr} {i j : Nat} {l : List (Nat × Nat)} {p pos : Pos}
theorem pa_pair0 : PA X [] (tPairs []) := pa_weak pa_nil fun σ H Q ⟨f, _, q⟩ => q [] H (Same.refl H) rfl fun n a r e => by simp at e
theorem pa_pair {x1} (h1 : PE X e1 (tVar i)) (h2 : PE X e2 (tVar j)) (h : PA X es (tPairs l)) (he : starEach (e1 :: [e2]) X.env = (false, eval e1 X.env) :: starEach [e2] X.env := by rfl) (he2 : starEach (e2 :: []) X.env = (false, eval e2 X.env) :: starEach [] X.env := by rfl)
    (hs : starEach (.Tuple [e1, e2] x1 pos :: es) X.env = (false, eval (.Tuple [e1, e2] x1 pos) X.env) :: starEach es X.env := by rfl) : PA X (.Tuple [e1, e2] x1 pos :: es) (tPairs ((i, j) :: l)) :=
  pa_weak (pa_cons (pe_tup (pa_cons h1 (pa_cons h2 pa_nil he2) he)) h hs) fun σ H Q ⟨f, hf, q⟩ => by
    obtain ⟨f1, f2⟩ := hf (i, j) (List.mem_cons_self ..)
    refine ⟨_, f1, _, f2, by show 2 ≤ sizeLine; decide, fun a na => ⟨f, fun q m => hf q (List.mem_cons_of_mem _ m), fun as H2 s2 hl ha => q (a :: as) H2 ((same_upd na).trans s2) (by simp [hl]) fun n b r e1 e2 => ?_⟩⟩
    cases n with
    | zero =>
      simp at e1 e2
      subst e1 e2
      exact s2 _ _ upd_same
    | succ n => exact ha n b r (by simpa using e1) (by simpa using e2)
end
end L2.Lr

set_option maxHeartbeats 4000000
namespace L2.Lr
open PySem PySem.Spec PyProof.Rows LR
/-! several except clauses, each with a name or none -/
/-- a caught exception: I is the state around it -/
structure Got (X : Cx) (pins : List (Addr × Obj)) (σ : St) (H : Hp) (B : Heap) (sI : Shared) (a : Addr) (cls : Value) (d : Option Addr) (s : Shared) : Prop where
  I : Inv X pins σ H sI
  nb : ∀ b o, sI.heap.get? b = some o → b ∉ frs X.stack → B.get? b = some o
  up : sI.heap.UpToSlots s.heap
  fl : HandSPX.FlyingZ B (X.env :: X.outer) a (Zc cls d) s.heap
  os : s.os = sI.os
  ag : AllBare s.gens
  na : H a = none
section
variable {X : Cx} {pins : List (Addr × Obj)} {σ : St} {H : Hp} {B : Heap} {sI s : Shared} {a : Addr} {cls : Value} {d : Option Addr}
theorem Got.at_ (G : Got X pins σ H B sI a cls d s) {h' : Heap} (fl : HandSPX.FlyingZ B (X.env :: X.outer) a (Zc cls d) h') (up : s.heap.UpToSlots h') : Got X pins σ H B sI a cls d { s with heap := h' } :=
  ⟨G.I, G.nb, G.up.trans up, fl, G.os, G.ag, G.na⟩
/-- the state within a suite -/
theorem Got.suite (G : Got X pins σ H B sI a cls d s) (hf : X.env.frame = some X.env.locals) : ∃ oe vs, s.heap.get? a = some oe ∧ Zc cls d oe ∧ oe.data = .fields vs ∧ Inv (X.suite a ((a, oe) :: (X.pn ++ pins))) [] σ H s := by
  obtain ⟨oe, vs, e1, e2, e3⟩ := G.fl.there
  have off : a ∉ frs (X.env :: X.outer) := fun m => by
    obtain ⟨_, o', e', n⟩ := G.fl.2.2.1.mem m
    cases e1.symm.trans e'
    exact n _ e3
  have J : Inv X pins σ H s := G.I.landed G.nb G.fl.1 G.up G.os G.ag
  refine ⟨oe, vs, e1, e2, e3, J.suite e1 e3 G.na (fun z => off ?_) fun m => off ?_⟩
  · exact List.mem_filterMap.mpr ⟨X.env, List.mem_cons_self, by rw [hf, z]⟩
  · obtain ⟨e, he, q⟩ := List.mem_filterMap.mp m
    exact List.mem_filterMap.mpr ⟨e, List.mem_cons_of_mem _ he, q⟩
end
/-- the ends of a suite whose name, at slot i, goes behind it -/
def offD (i : Nat) (D : Ends) : Ends := { nx := fun σ H => D.nx (σ.set i none) H, rt := D.rt, bk := fun σ H => D.bk (σ.set i none) H, ct := fun σ H => D.ct (σ.set i none) H }
abbrev Cl : Type := Value × Option Nat × (Addr → Value → Option Addr → TS)
/-- what the clauses wish of an exception of the body -/
def wCl (K : PySem.W.Frag) (Wout : WX) (D : Ends) : List Cl → WX
  | [] => Wout
  | (c, none, ts) :: r => fun cls d σ H => ∃ b, PySem.W.exmOne K cls c = some b ∧ (b = true → ∀ a, H a = none → ts a cls d D σ H) ∧ (b = false → wCl K Wout D r cls d σ H)
  | (c, some i, ts) :: r => fun cls d σ H => ∃ b, PySem.W.exmOne K cls c = some b ∧ (b = true → ∀ a, H a = none → ts a cls d (offD i D) (σ.set i (some (.ref a))) H) ∧ (b = false → wCl K Wout D r cls d σ H)
inductive ClOk (X : Cx) : List ExceptHandler → List Cl → Prop
  | nil : ClOk X [] []
  | plain {x : Str} {c : Value} {ts : Addr → Value → Option Addr → TS} {b₀ : Stmt} {su : List Stmt} {np pos' : Pos} {hds : List ExceptHandler} {l : List Cl} (hc : Names X x c)
      (hsu : ∀ (a : Addr) (oe : Obj) (cls : Value) (d : Option Addr) (pn : List (Addr × Obj)), Zc cls d oe → (∃ vs, oe.data = .fields vs) → PSs (X.suite a ((a, oe) :: pn)) (b₀ :: su) (ts a cls d)) (r : ClOk X hds l) :
      ClOk X (.ExceptHandler (some (.Name x np)) none (b₀ :: su) pos' :: hds) ((c, none, ts) :: l)
  | named {x n : Str} {i : Nat} {c : Value} {ts : Addr → Value → Option Addr → TS} {b₀ : Stmt} {su : List Stmt} {np pos' : Pos} {hds : List ExceptHandler} {l : List Cl} (hi : X.N[i]? = some n) (hl : X.env.kindOf n = some .local) (hc : Names X x c)
      (hsu : ∀ (a : Addr) (oe : Obj) (cls : Value) (d : Option Addr) (pn : List (Addr × Obj)), Zc cls d oe → (∃ vs, oe.data = .fields vs) → PSs (X.suite a ((a, oe) :: pn)) (b₀ :: su) (ts a cls d)) (r : ClOk X hds l) :
      ClOk X (.ExceptHandler (some (.Name x np)) (some n) (b₀ :: su) pos' :: hds) ((c, some i, ts) :: l)
section
variable {X : Cx} {pins : List (Addr × Obj)} {σ : St} {H : Hp} {B : Heap} {sI s : Shared} {a : Addr} {cls : Value} {d : Option Addr} {D : Ends} {Wout : WX}
theorem Got.out (G : Got X pins σ H B sI a cls d s) (hs : X.stack = X.env :: X.outer) (hf : X.env.frame = some X.env.locals) (tk : Takes X Wout) (w : Wout cls d σ H) :
    wpAny (model X.prog X.w) X.A (handleBy (.ref a) X.env []) (SP X pins D) X.xe s := by
  refine wpAny_handleBy_nil ?_
  obtain ⟨_, _, _, oe, vs, T, oT, ts', e1, _, e2, e3, _⟩ := id G.fl
  unfold PySem.passOn
  refine wpAny_bind (wpAny_field e1 e2 e3 ?_)
  rw [if_neg (show ¬ ((Value.ref T == Value.none) = true) by simp)]
  have last : wpAny (model X.prog X.w) X.A (setFlight (.ref a) X.env.frame) (fun _ s4 => wpAny (model X.prog X.w) X.A (throw (.ref a) : Sem Flow) (SP X pins D) X.xe s4) X.xe s := by
    rw [hf]
    refine HandSPX.setFlight_upZ G.fl fun h4 held up4 => wpAny_throw (tk _ _ ⟨a, B, sI, pins, σ, H, cls, d, rfl, G.I, G.nb, G.up.trans up4, .inr (.inr ?_), G.na, G.os, G.ag, w⟩)
    rw [hs]
    exact held
  first
    | exact wpAny_bind (wpAny_pure (wpAny_bind last))
    | exact wpAny_bind last
/-- the clauses, at a caught exception -/
theorem clauses (hs : X.stack = X.env :: X.outer) (hf : X.env.frame = some X.env.locals) (hN : X.N.Nodup) (tk : Takes X Wout) (ok : X.Ok) {hds : List ExceptHandler} {l : List Cl} (hk : ClOk X hds l) :
    ∀ {s : Shared}, Got X pins σ H B sI a cls d s → wCl X.K Wout D l cls d σ H → wpAny (model X.prog X.w) X.A (handleBy (.ref a) X.env hds) (SP X pins D) X.xe s := by
  -- the test of one clause
  have test : ∀ {x : Str} {c : Value} {np : Pos} {b : Bool} {s : Shared} {Q : Bool → Shared → Prop} {E1 E2 : Value → Shared → Prop}, Names X x c → PySem.W.exmOne X.K cls c = some b → Got X pins σ H B sI a cls d s → Q b s →
      wpAny (model X.prog X.w) (X.A.mark (some (.ref a))) (eval (.Name x np) X.env) (fun c s1 => wpAny (model X.prog X.w) (X.A.mark (some (.ref a))) (excMatches (.ref a) c) Q E1 s1) E2 s := by
    intro x c np b s Q E1 E2 hc hb G q
    obtain ⟨oe, vs, e1, e2, e3, S⟩ := G.suite hf
    have LT : PySem.W.Looks (model X.prog X.w) s.heap (typeOf (.ref a)) cls := fun A Q E s1 k q => wpAny_typeOf_ref (k _ _ e1) (by rw [e2.1]; exact q)
    have LM := PySem.W.exm_one (M := model X.prog X.w) S.kIn LT hb
    obtain ⟨hg, hdb, hm | ⟨hm, hv, hn⟩⟩ := hc
    · exact ld_glob (X := X.suite a ((a, oe) :: (X.pn ++ pins))) S hg hm (LM.here q) hdb
    · exact ld_blt (X := X.suite a ((a, oe) :: (X.pn ++ pins))) S hg hm hv (LM.here q) hn hdb
  induction hk with
  | nil => exact fun G w => G.out hs hf tk w
  | @plain x c ts b₀ su np pos' hds2 l2 hc hsu r ih =>
    intro s G w
    obtain ⟨b, hb, yes, no⟩ := w
    refine wpAny_handleBy_cons (codeAny_handlers_test (test hc hb G ?_)) (by intro q; cases q)
    cases b with
    | false => exact ih G (no rfl)
    | true =>
      refine codeAny_handlers_suite (HandSPX.lands_againZ G.fl fun h4 fl4 up4 => ?_)
      obtain ⟨oe, vs, e1, e2, e3, S⟩ := (G.at_ fl4 up4).suite hf
      refine wpAny_mono ((hsu a oe cls d (X.pn ++ pins) e2 ⟨_, e3⟩).run [] _ σ H _ S (yes rfl a G.na)) (fun f s6 q => ?_) (fun _ _ z => False.elim z)
      match f, q with
      | .next, ⟨σ6, H6, S6, q6⟩ => exact ⟨_, _, S6.unsuite ok, q6⟩
      | .brk, ⟨σ6, H6, S6, q6⟩ => exact ⟨_, _, S6.unsuite ok, q6⟩
      | .cont, ⟨σ6, H6, S6, q6⟩ => exact ⟨_, _, S6.unsuite ok, q6⟩
      | .ret u, ⟨v6, σ6, H6, S6, r6, q6⟩ => exact ⟨_, _, _, S6.unsuite ok, r6, q6⟩
  | @named x n i c ts b₀ su np pos' hds2 l2 hi hl hc hsu r ih =>
    intro s G w
    obtain ⟨b, hb, yes, no⟩ := w
    refine wpAny_handleBy_cons (codeAny_handlers_test (test hc hb G ?_)) (by intro q; cases q)
    cases b with
    | false => exact ih G (no rfl)
    | true =>
      refine codeAny_handlers_suite_as (HandSPX.lands_againZ G.fl fun h4 fl4 up4 => ?_)
      obtain ⟨oe, vs, e1, e2, e3, S⟩ := (G.at_ fl4 up4).suite hf
      refine store_ok (X := X.suite a ((a, oe) :: (X.pn ++ pins))) (v := .ref a) S hN hi (.inl hl) rfl (fun s5 S5 => ?_) (.inr hl)
      refine wpAny_mono ((hsu a oe cls d (X.pn ++ pins) e2 ⟨_, e3⟩).run [] s5 _ H _ S5 (yes rfl a G.na)) (fun f s6 q => ?_) (fun _ _ z => False.elim z)
      match f, q with
      | .next, ⟨σ6, H6, S6, q6⟩ => exact gone_ok (S6.unsuite ok) hN hi hl fun s7 J7 => ⟨_, _, J7, q6⟩
      | .brk, ⟨σ6, H6, S6, q6⟩ => exact gone_ok (S6.unsuite ok) hN hi hl fun s7 J7 => ⟨_, _, J7, q6⟩
      | .cont, ⟨σ6, H6, S6, q6⟩ => exact gone_ok (S6.unsuite ok) hN hi hl fun s7 J7 => ⟨_, _, J7, q6⟩
      | .ret u, ⟨v6, σ6, H6, S6, r6, q6⟩ => exact gone_ok (S6.unsuite ok) hN hi hl fun s7 J7 => ⟨_, _, _, J7, r6, q6⟩
/-- try: body / except x as n: .. / except y as m: .. -/
theorem ps_try_cl {body : List Stmt} {h₀ : ExceptHandler} {hds : List ExceptHandler} {l : List Cl} {pos : Pos} {tb : WX → TS} (hs : X.stack = X.env :: X.outer) (hf : X.env.frame = some X.env.locals) (hN : X.N.Nodup) (tk : Takes X Wout)
    (hb : ∀ (W : WX) (pn : List (Addr × Obj)) (xe : Value → Shared → Prop), Takes (X.tr pn xe) W → PassesOwn (model X.prog X.w) X.A X.env xe → PSs (X.tr pn xe) body (tb W))
    (hk : ClOk X (h₀ :: hds) l) : PS X (.Try body (h₀ :: hds) [] [] pos) (fun D σ H => tb (wCl X.K Wout D l) D σ H) := by
  refine ⟨fun pins s σ H D I h => wpAny_Try_except ?_⟩
  have ok := I.ok
  have fr : X.A.frames = some (X.env :: X.outer) := ok.frames.trans (congrArg some hs)
  refine wpAny_mono ((hb (wCl X.K Wout D l) (X.pn ++ pins) (fun e s₁ => wpAny (model X.prog X.w) X.A (noteFrame e X.env) (fun _ s₂ => wpAny (model X.prog X.w) X.A (setFlight e none) (fun _ s₃ =>
    wpAny (model X.prog X.w) X.A (handleBy e X.env (h₀ :: hds)) (SP X pins D) X.xe s₃) X.xe s₂) X.xe s₁) (fun u s' x => ?_) PassesOwn.looking).run [] s σ H D (I.toTry _) h) (fun f s1 q => ?_) (fun e s1 he => he)
  · obtain ⟨a, B, sI, pins', σ', H', cls, d, rfl, J', nb, up, sky, na, os, ag, w⟩ := x
    have sky' : Sky B (X.env :: X.outer) a (Zc cls d) X.env.locals s'.heap := hs ▸ sky
    show wpAny (model X.prog X.w) X.A (noteFrame (.ref a) X.env) _ _ _
    exact Sky.land Zc.steady fr hf sky' fun h3 fl3 up3 => clauses hs hf hN tk ok hk ⟨J'.ofTry ok, nb, up.trans up3, fl3, os, ag, na⟩ w
  · match f, q with
    | .next, ⟨σ', H', J', q⟩ => exact wpAny_execs_nil ⟨σ', H', J'.ofTry ok, q⟩
    | .brk, ⟨σ', H', J', q⟩ => exact ⟨σ', H', J'.ofTry ok, q⟩
    | .cont, ⟨σ', H', J', q⟩ => exact ⟨σ', H', J'.ofTry ok, q⟩
    | .ret u, ⟨v, σ', H', J', r, q⟩ => exact ⟨v, σ', H', J'.ofTry ok, r, q⟩
end
end L2.Lr

set_option maxHeartbeats 4000000
namespace L2.Lr
open PySem PySem.Spec PyProof.Rows LR
/-! defs that stand where no repr is under way -/
/-- nothing is being written -/
def Quiet (A : Around) : Prop := A.guards = some []
theorem Quiet.deeper {A : Around} (q : Quiet A) (env : Env) : Quiet (A.deeper env) := q
/-- a promise of a def, kept where nothing is being written -/
structure FnQ (P : Program) (w : World) (K : PySem.W.Frag) (mg : Str → Option Value) (base : Heap) (CX : CXT) (k : Nat) (f : Addr) (fd : FuncData) (ps : List Str) (sp : Sp) : Prop where
  len : ∀ vs H Q E, sp vs H Q E → vs.length = ps.length
  run : ∀ (A : Around) (outer : List Env) (s : Shared) (H : Hp) (args : Args) (us : List Value) (vs : List V) (Q : VK) (E : XK), Quiet A → Room k A → Env0 P w K mg base A outer s H → BindsTo s fd args (ps.zip us) → Vals vs us → sp vs H Q E →
    codeAny (model P w) A (.call (.ref f) args) (CR CX outer P w H s Q E) s
section
variable {P : Program} {w : World} {K : PySem.W.Frag} {mg : Str → Option Value} {base : Heap} {CX : CXT} {k : Nat} {f : Addr} {fd : FuncData} {ps : List Str} {sp : Sp}
theorem FnQ.all (F : FnOk P w K mg base CX k f fd ps sp) : FnQ P w K mg base CX k f fd ps sp := ⟨F.len, fun A outer s H args us vs Q E _ => F.run A outer s H args us vs Q E⟩
theorem FnQ.of {x qual : Str} {pa : Arguments} {body : List Stmt} {scope : Scope} {N : List Str} (F : FunD K x qual pa body scope [] [] f fd) (S : FnScope N ps scope) (len : ∀ vs H Q E, sp vs H Q E → vs.length = ps.length)
    (go : ∀ (cdv : Value) (A : Around) (outer : List Env) (s : Shared) (H : Hp) (vs : List V) (Q : VK) (E : XK), Quiet A → Room k (A.deeper (envOfC qual scope s.heap.objs.size f cdv)) → sp vs H Q E →
      ∃ t, PSs (cxOf CX P w K mg base N qual scope f cdv A outer s H E) body t ∧ t { nx := fun _ H' => Q .non H', rt := Q } (start N vs) H) : FnQ P w K mg base CX (k + 1) f fd ps sp := by
  obtain ⟨oc, od, dV, kV, doc, pm, an, cdv, ct, osl, rfl, lk, rec, _, _⟩ := F.ex
  refine ⟨len, fun A outer s H args us vs Q E qA room env bind rel hsp => ?_⟩
  have KX : K.In s.heap := env.mod.kin.keeps fun b o e => (env.bs b o e).1
  have NL : s.heap.NoLimit := env.mod.nolimit.keeps fun b o e => (env.bs b o e).1
  have slots : ∀ y ∈ ps.zip us, scope.names.lookup y.1 = some .local ∨ (scope.names.lookup y.1 = some .cell ∧ ((cellsFrom (s.heap.objs.size + 1) scope.names []).lookup y.1).isSome = true) := by
    rintro ⟨n, v⟩ hy
    exact (S.par n (List.of_mem_zip hy).1).imp id fun q => ⟨q, PySem.W.cellsFrom_some _ _ _ (.inl q)⟩
  refine codeAny_call_function room.depth (KX _ _ lk) rfl S.co S.gen rfl (PySem.W.codeRec_of KX rec) (bind _ _ _ _ (wpAny_newFunctionEnv_cells S.kind slots fun env' he s1 x => ?_))
  subst he
  refine ⟨NL.keeps x.toInCall.keep, codeAny_func ?_⟩
  obtain ⟨t, ht, q⟩ := go cdv A outer s H vs Q E qA (room.deeper _) hsp
  have I : Inv (cxOf CX P w K mg base N qual scope f cdv A outer s H E) [] (start N vs) H s1 := inv_start S room.hd env (len _ _ _ _ hsp) rel x
  refine wpAny_mono (ht.run [] s1 _ H _ I q) (fun fl s' z => ?_) fun _ _ z => z
  match fl, z with
  | .ret u, ⟨v, _, H', J, r, z⟩ => exact ⟨v, H', J.os, J.bare, J.base, J.hok, r, z⟩
  | .next, ⟨_, H', J, z⟩ => exact ⟨.non, H', J.os, J.bare, J.base, J.hok, rfl, z⟩
  | .brk, ⟨_, _, _, z⟩ => exact z.elim
  | .cont, ⟨_, _, _, z⟩ => exact z.elim
end
section
variable {X : Cx} {CX : CXT} {k : Nat} {f : Addr} {fd : FuncData} {ps : List Str} {sp : Sp} {ds : List Value} {dvs : List V} {E : St → XK} {x : Str} {p pos : Pos} {e : Expr} {es : List Expr} {t : TA}
/-- x(e, ..) -/
theorem pe_callQ (F : FnQ X.prog X.w X.K X.mg X.base CX k f fd ps sp) (qA : Quiet X.A) (hr : Room k X.A) (hg : Gl X x) (hm : X.mg x = some (.ref f)) (hk : PySem.W.keepIn X.K (.ref f) = true) (hb : Binds X.K fd ps ds) (hd : Vals dvs ds) (hx : ∀ σ, PassesAt CX X σ (E σ))
    (ha : PA X (e :: es) t) (hdb : (x == ("__debug__" : Str)) = false := by decide) (he : starEach (e :: es) X.env = (false, eval e X.env) :: starEach es X.env := by rfl) (hpl : (backTo pos (starEach es X.env)).any (·.1) = false := by rfl) :
    PE X (.Call (.Name x p) (e :: es) [] pos) (fun σ H Q => t σ H fun vs H1 => sp (vs ++ dvs) H1 Q (E σ)) := by
  refine ⟨fun pins s σ H Q I h => wpAny_Call_Name_kw (ld_glob I hg hm (PySem.W.callWith_K (h₀ := X.base) I.ok.mod.kin hk (thn (ha.run pos pins s σ H _ I h) fun us s1 ⟨vs, H1, I1, r, q⟩ => ⟨I1.kIn, wpAny_call ?_⟩) he hpl) hdb)⟩
  have r2 : Vals (vs ++ dvs) (us ++ ds) := r.append hd
  have n : (us ++ ds).length = ps.length := r2.length.symm.trans (F.len _ _ _ _ q)
  refine codeAny_mono (F.run X.A X.stack s1 H1 ⟨us, []⟩ (us ++ ds) _ Q (E σ) qA hr I1.env0 (hb s1 us I1.kIn n) r2 q) fun r s' z => ?_
  match r, z with
  | .error e, z => exact hx σ pins H1 s1 e s' I1 z
  | .ok (.ret u), z => exact I1.after z
  | .ok .next, z => exact z.elim
  | .ok .brk, z => exact z.elim
  | .ok .cont, z => exact z.elim
end
/-! ### the law's call -/
theorem script_env {P : Program} {w : World} {K : PySem.W.Frag} {mg mb : Str → Option Value} {a : Addr} {s₁ : Shared} {vs : List Value} {ns : List Int}
    (KX : K.In s₁.heap) (hns : s₁.heap.Ns mainGlobals mg) (hb : s₁.heap.Ns builtinsNs mb) (hbb : ∀ x : Str, x ≠ "__name__" → mb x = bootBuiltins x) (hlim : s₁.heap.NoLimit) (hg : s₁.gens = #[])
    (ha : s₁.heap.get? a = some { cls := .type "list", data := .seq vs.toArray }) (hi : IntsAre vs ns) (hl : ns.length ≤ sizeLine) :
    ∃ (H : Hp) (base : Heap), K.In base ∧ base.Ns mainGlobals mg ∧ SqL K H a (ns.map V.int) ∧ Env0 P w K mg base callerA [] s₁ H ∧ ∀ H' h', Un (frs []) [] H H' s₁.heap h' → HOk P w H' h' → OldK s₁.heap h' := by
  have rv := vals_ints hi
  obtain ⟨lo, elo⟩ : ∃ lo : Obj, lo = { cls := .type "list", data := .seq vs.toArray } := ⟨_, rfl⟩
  rw [← elo] at ha
  obtain ⟨H, only, there⟩ : ∃ H : Hp, (∀ b u, H b = some u → b = a ∧ u = .frz lo (.lst (ns.map V.int)) ∧ K.lookup a = none) ∧ (K.lookup a = none → H a = some (.frz lo (.lst (ns.map V.int)))) := by
    cases hk : K.lookup a with
    | none =>
      refine ⟨fun b => if b = a then some (.frz lo (.lst (ns.map V.int))) else none, fun b u z => ?_, fun _ => if_pos rfl⟩
      by_cases h : b = a
      · exact ⟨h, (Option.some.inj ((if_pos h).symm.trans z)).symm, rfl⟩
      · cases (if_neg h).symm.trans z
    | some o => exact ⟨fun _ => none, fun b u z => (by cases z), fun z => (by cases z)⟩
  have off : ∀ {b : Addr} {o : Obj}, s₁.heap.get? b = some o → o.data ≠ lo.data → H b = none := fun {b o} e n => by
    cases q : H b with
    | none => rfl
    | some u =>
      obtain ⟨rfl, _, _⟩ := only _ _ q
      cases ha.symm.trans e
      exact absurd rfl n
  have kb : K.In (hidT s₁.heap H) := fun b o e => hidT_get (KX b o e) (by
    cases q : H b with
    | none => rfl
    | some u =>
      obtain ⟨rfl, _, n⟩ := only _ _ q
      cases n.symm.trans e)
  have nk : ∀ {b : Addr} {m : Str → Option Value}, s₁.heap.Ns b m → (hidT s₁.heap H).Ns b m := fun ⟨o, es, ep, e, dd, r⟩ => ⟨o, es, ep, hidT_get e (off e (by rw [dd, elo]; intro z; cases z)), dd, r⟩
  have hok : HOk P w H s₁.heap := fun b u q => by
    obtain ⟨rfl, rfl, _⟩ := only _ _ q
    exact ⟨ha, by rw [List.length_map]; exact hl, vs, _, rv, by rw [ha, elo]⟩
  refine ⟨H, hidT s₁.heap H, kb, nk hns, ?_, ⟨rfl, ⟨kb, nk hns, ⟨mb, nk hb, hbb⟩, let ⟨mc, h1, h2⟩ := hlim; ⟨mc, nk h1, h2⟩⟩, fun b o e => of_hidT e, Nat.le_of_eq (hidT_size _ _), trivial, fun b z => (nomatch z), hok, .of_eq hg⟩, fun H' h' un ok' => OldK.of_keep fun b o e => ?_⟩
  · cases hk : K.lookup a with
    | none => exact .inl (.inr ⟨lo, there hk⟩)
    | some o =>
      cases ha.symm.trans (KX a o hk)
      exact .inr ⟨lo, vs.toArray, _, hk, by rw [elo], by rw [elo], by rw [elo], by rw [List.size_toArray, hi.length]; exact hl, by simpa using rv⟩
  · cases q : H b with
    | none => exact un.keep b o e q (fun z => nomatch z) (fun z => nomatch z)
    | some u =>
      obtain ⟨rfl, rfl, _⟩ := only _ _ q
      cases ha.symm.trans e
      exact (ok' b _ (un.frzs b _ _ q)).1
/-- the end of a law whose def is kept where nothing is being written -/
theorem walk_ofQ {l : PySem.W.OpenLaw} {n k : Nat} {q : Program} {loose : List Str} {XP : (Str → Option Value) → Heap → Prop} {YP : World → Heap → Prop} {d : DefRec} {CX : CXT} {x : Str} (hn : l.most = some n) (hz : n ≤ sizeLine) (hdf : d.params.defaults = []) (hr : Room k callerA)
    (F : ∀ (w : World) (mg : Str → Option Value) (fa : Addr) (h : Heap), YP w h → h.Ns mainGlobals mg → mg d.name = some (.ref fa) → ∃ (K : PySem.W.Frag) (fd : FuncData) (sp : Sp), K.In h ∧ (∀ (s : Shared) (u : Value), BindsTo s fd ⟨[u], []⟩ [(x, u)]) ∧
      (∀ (H : Hp) (a : Addr) (ns : List Int), ns.length ≤ n → SqL K H a (ns.map V.int) → sp [.ref a] H (fun v _ => v = .bl true) fun _ _ _ => False) ∧ ∀ base : Heap, K.In base → base.Ns mainGlobals mg → FnQ l.prog w K mg base CX k fa fd [x] sp)
    (hC : ∀ (H : Hp) (s : Shared) (e : Value) (s' : Shared), CX [] H s (fun _ _ _ => False) e s' → False) : PySem.W.WalkO q loose XP YP l.row.toRowW d [] (fun f vs => PySem.call f vs) := by
  refine Att.attach_call hn hdf fun w s₀ s₁ mg mb fa o pm cd doc a vs ns G Y ho hd hcd hmg hobj hi hlen hg => ?_
  obtain ⟨K, fd, sp, KX, hb, hsp, hF⟩ := F w mg fa _ Y G.T.g hmg
  obtain ⟨H, base, kb, nb, hS, env, post⟩ := script_env (P := l.prog) (w := w) KX G.T.g G.T.b G.T.builtins G.T.nolimit hg hobj hi (Nat.le_trans hlen hz)
  refine codeAny_mono ((hF base kb nb).run callerA [] s₁ H ⟨[.ref a], []⟩ [.ref a] [.ref a] _ _ rfl hr env (hb s₁ (.ref a)) (.cons rfl .nil) (hsp H a ns hlen hS)) fun r s' z => ?_
  match r, z with
  | .error e, z => exact (hC H s₁ e s' z).elim
  | .ok .next, z => exact z.elim
  | .ok .brk, z => exact z.elim
  | .ok .cont, z => exact z.elim
  | .ok (.ret u), ⟨v, H', os, bare, un, ok', r', q⟩ =>
    cases (show v = .bl true from q)
    cases (show u = Value.bool true from r')
    exact ⟨rfl, post H' _ un ok', os, bare⟩
/-! ### repr of data -/
mutual
theorem noDict {K : PySem.W.Frag} {H : Hp} : ∀ {v : V} {d : PyData}, Dp K H v d → d.hasDict = false
  | _, _, .non => by simp only [PyData.hasDict]
  | _, _, .bl b => by simp only [PyData.hasDict]
  | _, _, .int i => by simp only [PyData.hasDict]
  | _, _, .str x => by simp only [PyData.hasDict]
  | _, _, .lst h a => by simp only [PyData.hasDict]; exact noDictAll a
  | _, _, .tup h a => by simp only [PyData.hasDict]; exact noDictAll a
theorem noDictAll {K : PySem.W.Frag} {H : Hp} : ∀ {vs : List V} {ds : List PyData}, DpAll K H vs ds → PyData.hasDictAll ds = false
  | _, _, .nil => by simp only [PyData.hasDictAll]
  | _, _, .cons h a => by simp only [PyData.hasDictAll, noDict h, noDictAll a, Bool.or_self]
end
/-- repr(x), x data -/
def rRepr (K : PySem.W.Frag) : List V → Hp → VK → Prop := fun xs H Q => ∃ x d, xs = [x] ∧ Dp K H x d ∧ d.showable = true ∧ d.shown.length ≤ sizeLine ∧ d.depth ≤ 60 ∧ Q (.str d.shown) H
theorem call_repr {X : Cx} (qA : Quiet X.A) (hu : X.A.units + 64 < cLine) : CallR X (.builtin "repr") (rRepr X.K) := by
  intro pins s σ H xs us Q I r h
  obtain ⟨x, d, rfl, hd, sh, sz, dp, q⟩ := h
  obtain ⟨u, rfl, rx⟩ := vals1 r
  obtain ⟨as, rd⟩ := Dp.reads I d x u hd rx
  have big : ∀ a, u = .ref a → wpAny (model X.prog X.w) X.A (call (.builtin "repr") [u]) (EP X pins σ Q) X.xe s := fun a e => by
    subst e
    exact repr_of_reads' rd sh (fun z => by rw [noDict hd] at z; cases z) qA (by omega) (fun _ _ e => e) (fun h' u tk k => ⟨.str d.shown, H, I.kept (t' := tk) k, ⟨_, rfl⟩, q⟩) sz
  cases hd with
  | non =>
    cases rx
    simp only [PyData.shown] at q
    exact PySem.P.repr_of_none ⟨.str _, H, I.tok _, ⟨_, rfl⟩, q⟩
  | bl b =>
    cases rx
    simp only [PyData.shown] at q
    exact PySem.P.repr_of_bool ⟨.str _, H, I.tok _, ⟨_, rfl⟩, q⟩
  | int i =>
    obtain ⟨t, rfl⟩ := rx
    simp only [PyData.showable] at sh
    simp only [PyData.shown] at q
    exact PySem.P.repr_of_int (by simpa using sh) ⟨.str _, H, I.tok _, ⟨_, rfl⟩, q⟩
  | str x =>
    obtain ⟨t, rfl⟩ := rx
    simp only [PyData.shown] at q sz
    exact PySem.P.repr_of_str ⟨.str _, H, I.tok _, ⟨_, rfl⟩, q⟩ sz
  | lst h a => exact big _ rx
  | tup h a => exact big _ rx
end L2.Lr

set_option maxHeartbeats 1000000
/-! data of a size: what repr, == and the copies ask of it -/
namespace L2.Lr
open PySem PySem.Spec PyProof.Rows LR
def fine (d : PyData) : Bool := d.canLay0 && (d.leavesShort 40 && d.showable)
def fineAll (ds : List PyData) : Bool := PyData.canLayAll0 ds && (PyData.leavesShortAll 40 ds && PyData.showableAll ds)
theorem fine_tup (ds : List PyData) : fine (.tuple ds) = fineAll ds := by simp only [fine, fineAll, PyData.canLay0, PyData.leavesShort, PyData.showable]
theorem fine_lst (ds : List PyData) : fine (.list ds) = fineAll ds := by simp only [fine, fineAll, PyData.canLay0, PyData.leavesShort, PyData.showable]
theorem fineAll_cons (d : PyData) (ds : List PyData) : fineAll (d :: ds) = (fine d && fineAll ds) := by
  simp only [fine, fineAll, PyData.canLayAll0, PyData.leavesShortAll, PyData.showableAll]
  ac_rfl
theorem fineAll_nil : fineAll [] = true := rfl
theorem fineAll_append : ∀ (a b : List PyData), fineAll (a ++ b) = (fineAll a && fineAll b)
  | [], b => by rw [List.nil_append, fineAll_nil, Bool.true_and]
  | d :: a, b => by rw [List.cons_append, fineAll_cons, fineAll_cons, fineAll_append a b, Bool.and_assoc]
theorem weightAll_append : ∀ (a b : List PyData), PyData.weightAll (a ++ b) = PyData.weightAll a + PyData.weightAll b
  | [], b => by simp [PyData.weightAll]
  | d :: a, b => by
    have := weightAll_append a b
    simp only [List.cons_append, PyData.weightAll]
    omega
theorem depthAll_append : ∀ (a b : List PyData), PyData.depthAll (a ++ b) = max (PyData.depthAll a) (PyData.depthAll b)
  | [], b => by simp [PyData.depthAll]
  | d :: a, b => by
    have := depthAll_append a b
    simp only [List.cons_append, PyData.depthAll]
    omega
theorem length_le_weight : ∀ ds : List PyData, ds.length ≤ PyData.weightAll ds
  | [] => Nat.zero_le _
  | d :: ds => by
    have := length_le_weight ds
    simp only [List.length_cons, PyData.weightAll]
    omega
structure Nice (W D : Nat) (d : PyData) : Prop where
  f : fine d = true
  w : d.weight ≤ W
  dp : d.depth ≤ D
structure NiceAll (W D : Nat) (ds : List PyData) : Prop where
  f : fineAll ds = true
  w : PyData.weightAll ds ≤ W
  dp : PyData.depthAll ds ≤ D
theorem Nice.mono {W W' D D' : Nat} {d : PyData} (h : Nice W D d) (hw : W ≤ W') (hd : D ≤ D') : Nice W' D' d := ⟨h.f, Nat.le_trans h.w hw, Nat.le_trans h.dp hd⟩
theorem NiceAll.mono {W W' D D' : Nat} {ds : List PyData} (h : NiceAll W D ds) (hw : W ≤ W') (hd : D ≤ D') : NiceAll W' D' ds := ⟨h.f, Nat.le_trans h.w hw, Nat.le_trans h.dp hd⟩
theorem NiceAll.tup {W D : Nat} {ds : List PyData} (h : NiceAll W D ds) : Nice W (D + 1) (.tuple ds) := ⟨(fine_tup ds).trans h.f, by simpa only [PyData.weight] using h.w, by simp only [PyData.depth]; have := h.dp; omega⟩
theorem NiceAll.lst {W D : Nat} {ds : List PyData} (h : NiceAll W D ds) : Nice W (D + 1) (.list ds) := ⟨(fine_lst ds).trans h.f, by simpa only [PyData.weight] using h.w, by simp only [PyData.depth]; have := h.dp; omega⟩
theorem Nice.untup {W D : Nat} {ds : List PyData} (h : Nice W (D + 1) (.tuple ds)) : NiceAll W D ds := ⟨(fine_tup ds).symm.trans h.f, by simpa only [PyData.weight] using h.w, by have := h.dp; simp only [PyData.depth] at this; omega⟩
theorem Nice.unlst {W D : Nat} {ds : List PyData} (h : Nice W (D + 1) (.list ds)) : NiceAll W D ds := ⟨(fine_lst ds).symm.trans h.f, by simpa only [PyData.weight] using h.w, by have := h.dp; simp only [PyData.depth] at this; omega⟩
theorem NiceAll.nil (W D : Nat) : NiceAll W D [] := ⟨rfl, Nat.zero_le _, Nat.zero_le _⟩
theorem NiceAll.cons {W1 W2 D : Nat} {d : PyData} {ds : List PyData} (h : Nice W1 D d) (g : NiceAll W2 D ds) : NiceAll (W1 + 1 + W2) D (d :: ds) := by
  refine ⟨by rw [fineAll_cons, h.f, g.f]; rfl, ?_, ?_⟩
  · have := h.w; have := g.w; simp only [PyData.weightAll]; omega
  · have := h.dp; have := g.dp; simp only [PyData.depthAll]; omega
theorem NiceAll.append {W1 W2 D : Nat} {a b : List PyData} (h : NiceAll W1 D a) (g : NiceAll W2 D b) : NiceAll (W1 + W2) D (a ++ b) := by
  refine ⟨by rw [fineAll_append, h.f, g.f]; rfl, ?_, ?_⟩
  · have := h.w; have := g.w; rw [weightAll_append]; omega
  · have := h.dp; have := g.dp; rw [depthAll_append]; omega
theorem NiceAll.head {W D : Nat} {d : PyData} {ds : List PyData} (h : NiceAll W D (d :: ds)) : Nice W D d ∧ NiceAll W D ds ∧ d.weight + 1 + PyData.weightAll ds ≤ W := by
  obtain ⟨hf, hw, hd⟩ := h
  rw [fineAll_cons] at hf
  obtain ⟨f1, f2⟩ := Bool.and_eq_true_iff.mp hf
  simp only [PyData.weightAll] at hw
  simp only [PyData.depthAll] at hd
  exact ⟨⟨f1, by omega, by omega⟩, ⟨f2, by omega, by omega⟩, hw⟩
theorem NiceAll.at {W D : Nat} : ∀ {ds : List PyData} {i : Nat} {d : PyData}, NiceAll W D ds → ds[i]? = some d → Nice W D d
  | [], _, _, _, e => by simp at e
  | d :: ds, 0, _, h, e => by simp at e; subst e; exact h.head.1
  | d :: ds, i + 1, _, h, e => NiceAll.at (i := i) h.head.2.1 (by simpa using e)
theorem NiceAll.mem {W D : Nat} {ds : List PyData} {d : PyData} (h : NiceAll W D ds) (m : d ∈ ds) : Nice W D d := by
  obtain ⟨i, e⟩ := List.mem_iff_getElem?.mp m
  exact h.at e
theorem NiceAll.split {W D : Nat} {a b : List PyData} (h : NiceAll W D (a ++ b)) : NiceAll (PyData.weightAll a) D a ∧ NiceAll (PyData.weightAll b) D b ∧ PyData.weightAll a + PyData.weightAll b ≤ W := by
  obtain ⟨hf, hw, hd⟩ := h
  rw [fineAll_append] at hf
  rw [weightAll_append] at hw
  rw [depthAll_append] at hd
  obtain ⟨f1, f2⟩ := Bool.and_eq_true_iff.mp hf
  exact ⟨⟨f1, Nat.le_refl _, by omega⟩, ⟨f2, Nat.le_refl _, by omega⟩, hw⟩
theorem NiceAll.take {W D : Nat} {ds : List PyData} (n : Nat) (h : NiceAll W D ds) : NiceAll W D (ds.take n) := by
  rw [← List.take_append_drop n ds] at h
  obtain ⟨h1, _, h3⟩ := h.split
  exact h1.mono (by omega) (Nat.le_refl _)
theorem NiceAll.drop {W D : Nat} {ds : List PyData} (n : Nat) (h : NiceAll W D ds) : NiceAll W D (ds.drop n) := by
  rw [← List.take_append_drop n ds] at h
  obtain ⟨_, h2, h3⟩ := h.split
  exact h2.mono (by omega) (Nat.le_refl _)
theorem Nice.shaped {W D : Nat} {d : PyData} (h : Nice W D d) (hD : D ≤ 64) : SeqAt.shaped d = true := by
  obtain ⟨f1, _⟩ := Bool.and_eq_true_iff.mp h.f
  refine Bool.and_eq_true_iff.mpr ⟨f1, decide_eq_true ?_⟩
  have := h.dp
  omega
/-- what repr asks -/
theorem Nice.shown {W D : Nat} {d : PyData} (h : Nice W D d) (hW : W ≤ 390000) : d.showable = true ∧ d.shown.length ≤ sizeLine := by
  obtain ⟨_, f2⟩ := Bool.and_eq_true_iff.mp h.f
  obtain ⟨f2, f3⟩ := Bool.and_eq_true_iff.mp f2
  refine ⟨f3, ?_⟩
  have z := PyData.shown_le 40 (by decide) d f2
  have := h.w
  rw [sizeLine_eq]
  omega
theorem nice_int {i : Int} (h : i.natAbs < 10 ^ 31) : Nice 104 0 (.int i) := by
  have hb : i.natAbs < 2 ^ 103 := Nat.lt_trans h (by decide)
  have hl : i.natAbs.log2 < 103 := PySem.Flt.log2_lt_of (by decide) hb
  refine ⟨?_, ?_, by simp [PyData.depth]⟩
  · have e := int_text_length_le10 (k := 31) (by decide) h
    have e1 : PyData.leavesShort 40 (.int i) = true := by
      simp only [PyData.leavesShort]
      refine decide_eq_true ?_
      show (Str.ofString (toString i)).length ≤ 40
      rw [PySem.ofString_length]
      omega
    have e2 : PyData.showable (.int i) = true := by
      simp only [PyData.showable]
      exact decide_eq_true (by omega)
    show ((PyData.int i).canLay0 && ((PyData.int i).leavesShort 40 && (PyData.int i).showable)) = true
    rw [e1, e2]
    simp [PyData.canLay0]
  · simp only [PyData.weight]
    split <;> omega
/-! ### no lists -/
mutual
def noL : PyData → Bool
  | .tuple ds => noLAll ds
  | .list _ => false
  | .none => true
  | .bool _ => true
  | .int _ => true
  | .str _ => true
  | .dict _ => true
def noLAll : List PyData → Bool
  | [] => true
  | d :: ds => noL d && noLAll ds
end
/-- all but lists stays -/
def Kt (H H' : Hp) : Prop := ∀ b o, H b = some o → (∀ xs, o ≠ .lst xs) → H' b = some o
theorem Kt.seqT {K : PySem.W.Frag} {H H' : Hp} {a : Addr} {xs : List V} (s : Kt H H') (h : SqT K H a xs) : SqT K H' a xs := by
  rcases h with (h | ⟨o, h⟩) | h
  · exact .inl (.inl (s _ _ h fun _ z => by cases z))
  · exact .inl (.inr ⟨o, s _ _ h fun _ z => by cases z⟩)
  · exact .inr h
mutual
theorem Dp.kt {K : PySem.W.Frag} {H H' : Hp} (s : Kt H H') : ∀ {v : V} {d : PyData}, Dp K H v d → noL d = true → Dp K H' v d
  | _, _, .non, _ => .non
  | _, _, .bl b, _ => .bl b
  | _, _, .int i, _ => .int i
  | _, _, .str x, _ => .str x
  | _, _, .lst h a, n => by simp [noL] at n
  | _, _, .tup h a, n => .tup (s.seqT h) (DpAll.kt s a (by simpa only [noL] using n))
theorem DpAll.kt {K : PySem.W.Frag} {H H' : Hp} (s : Kt H H') : ∀ {vs : List V} {ds : List PyData}, DpAll K H vs ds → noLAll ds = true → DpAll K H' vs ds
  | _, _, .nil, _ => .nil
  | _, _, .cons h a, n => by
    simp only [noLAll] at n
    obtain ⟨n1, n2⟩ := Bool.and_eq_true_iff.mp n
    exact .cons (Dp.kt s h n1) (DpAll.kt s a n2)
end
theorem noLAll_append : ∀ (a b : List PyData), noLAll (a ++ b) = (noLAll a && noLAll b)
  | [], b => by simp [noLAll]
  | d :: a, b => by
    simp only [List.cons_append, noLAll, noLAll_append a b, Bool.and_assoc]
theorem Same.kt {H H' : Hp} (s : Same H H') : Kt H H' := fun b o e _ => s b o e
theorem Kt.trans {H H1 H2 : Hp} (a : Kt H H1) (b : Kt H1 H2) : Kt H H2 := fun c o h n => b c o (a c o h n) n
theorem Kt.upd {H : Hp} {D : Addr} {xs : List V} {o : HO} (h : H D = some (.lst xs)) : Kt H (upd H D o) := fun b u e n => (upd_ne fun z => by rw [z, h] at e; exact n _ (Option.some.inj e).symm).trans e
end L2.Lr


set_option maxHeartbeats 4000000
namespace L2.Tx
open PySem PySem.Spec PyProof.Rows NumText L2 TL
/-! ### ints as texts, with their sign -/
def intT (a : Int) : Str := Str.ofString (toString a)
def sgnL (a : Int) : List Nat := if a < 0 then 45 :: numL a.natAbs else numL a.natAbs
def plusL (a : Int) : List Nat := (if a < 0 then 45 else 43) :: numL a.natAbs
def plusT (a : Int) : Str := ⟨(plusL a).toArray⟩
theorem tl_inj {x y : Str} (h : tl x = tl y) : x = y := by
  cases x; cases y
  congr 1
  exact Array.toList_inj.mp h
theorem tl_int (a : Int) : tl (intT a) = sgnL a := by
  unfold intT sgnL
  cases a with
  | ofNat n =>
    rw [if_neg (by show ¬ ((n : Int) < 0); omega)]
    exact tl_num n
  | negSucc n =>
    rw [if_pos (Int.negSucc_lt_zero n)]
    rw [tl_ofString]
    show ("-" ++ toString (n + 1)).toList.map Char.toNat = 45 :: numL (n + 1)
    rw [String.toList_append, List.map_append]
    have e : (toString (n + 1)).toList.map Char.toNat = numL (n + 1) := by
      have z := tl_num (n + 1)
      rw [tl_ofString] at z
      exact z
    rw [e]
    rfl
theorem tl_plus (a : Int) : tl (plusT a) = plusL a := tl_mk _
theorem plus_pos {a : Int} (h : 0 < a) : plusT a = Str.ofString "+" ++ intT a := by
  apply tl_inj
  rw [tl_plus, tl_append, tl_int]
  unfold plusL sgnL
  rw [if_neg (by omega), if_neg (by omega)]
  rfl
theorem plus_neg {a : Int} (h : a < 0) : plusT a = intT a := by
  apply tl_inj
  rw [tl_plus, tl_int]
  unfold plusL sgnL
  rw [if_pos h, if_pos h]
theorem numL_sz {a : Int} (h : a.natAbs < 10 ^ 400) : (numL a.natAbs).length ≤ 400 := numL_len (by decide) h
/-- no m in a number -/
theorem sgn_free {a : Int} {s : Nat} (h : 57 < s) : s ∉ sgnL a := by
  unfold sgnL
  split
  · intro z
    rcases List.mem_cons.mp z with z | z
    · omega
    · exact numL_free (.inr h) z
  · exact numL_free (.inr h)
theorem intText_plus {x : Str} {cs : List Nat} (hx : x.cps.toList = 43 :: cs) (h : AllDigits cs) (h1 : cs ≠ []) (h2 : x.length ≤ 4300) : intText? x = some ((digitsVal cs : Nat) : Int) := by
  have hl : x.cps.toList.length = x.length := Array.length_toList
  rw [hx, List.length_cons] at hl
  have hs : ∀ c ∈ x.cps.toList, 33 ≤ c ∧ c < 128 := by
    rw [hx]
    intro c hc
    rcases List.mem_cons.mp hc with e | hc
    · omega
    · have := h c hc
      omega
  have e1 : numTextOf x = x.cps.toList := by
    refine if_pos ?_
    rw [← Array.all_toList, List.all_eq_true]
    exact fun c hc => decide_eq_true (hs c hc).2
  have e2 : numSeenOf x = x.cps.toList := by
    show (numTextOf x).takeWhile _ = _
    rw [e1]
    exact takeWhile_all fun c hc => bne_iff_ne.mpr (by have := hs c hc; omega)
  have es : sign ((43 :: cs).dropWhile blank) = (false, cs) := by
    rw [dropWhile_of (by decide)]
    rfl
  have ec : core (43 :: cs) = cs := by
    unfold core
    rw [es]
    show (cs.reverse.dropWhile blank).reverse = cs
    rw [dropWhile_digits h.reverse, List.reverse_reverse]
  unfold intText?
  rw [e1, e2, hx]
  refine (if_pos (beq_self_eq_true _)).trans ?_
  rw [ec, es, digits_of h h1]
  have hsz := push_size cs #[]
  have hv := push_foldl cs #[]
  show (if _ ≤ 4300 then some (worth false _) else none) = _
  rw [if_pos (by rw [hsz, Array.size_empty]; omega)]
  unfold worth digitsVal
  rw [hv]
  rfl
theorem natAbs_cast (a : Int) : ((a.natAbs : Nat) : Int) = if a < 0 then -a else a := by split <;> omega
/-- int(text) of what was written -/
theorem int_back {a : Int} (h : a.natAbs < 10 ^ 400) : intText? (intT a) = some a := by
  have hs := numL_sz h
  have hl : tl (intT a) = sgnL a := tl_int a
  have len : (intT a).length ≤ 4300 := by
    rw [len_tl, hl]
    unfold sgnL
    split
    · rw [List.length_cons]; omega
    · omega
  unfold sgnL at hl
  by_cases hn : a < 0
  · rw [if_pos hn] at hl
    have z := intText_neg (x := intT a) hl (numL_digits _) (numL_ne _) len
    rw [numL_val, natAbs_cast, if_pos hn] at z
    rw [z]
    congr 1
    omega
  · rw [if_neg hn] at hl
    have hl' : (intT a).cps.toList = numL a.natAbs := hl
    have z := intText_digits (x := intT a) (by rw [hl']; exact numL_digits _) (by rw [hl']; exact numL_ne _) len
    rw [hl', numL_val, natAbs_cast, if_neg hn] at z
    exact z
theorem plus_back {a : Int} (h : a.natAbs < 10 ^ 400) : intText? (plusT a) = some a := by
  by_cases hn : a < 0
  · rw [plus_neg hn]
    exact int_back h
  · have hs := numL_sz h
    have hl : (plusT a).cps.toList = 43 :: numL a.natAbs := by
      have z := tl_plus a
      unfold plusL at z
      rw [if_neg hn] at z
      exact z
    have z := intText_plus hl (numL_digits _) (numL_ne _) (by
      have e : (plusT a).length = (tl (plusT a)).length := len_tl _
      rw [e, show tl (plusT a) = 43 :: numL a.natAbs from hl, List.length_cons]
      omega)
    rw [numL_val, natAbs_cast, if_neg hn] at z
    exact z
/-! ### a line as text -/
def mT : Str := Str.ofString "m"
def headT (e : Int) : Str := if e = 1 then mT else if e = -1 then Str.ofString "-m" else intT e ++ mT
def tailT (z : Int) : Str := if z = 0 then Str.empty else plusT z
def lineT (z e : Int) : Str := if e = 0 then intT z else headT e ++ tailT z
/-- what stands ahead of the m -/
def preT (e : Int) : Str := if e = 1 then Str.empty else if e = -1 then Str.ofString "-" else intT e
theorem tl_m : tl mT = [109] := rfl
theorem head_pre (e : Int) : headT e = preT e ++ mT := by
  unfold headT preT
  split
  · exact tl_inj (by rw [tl_append]; rfl)
  · split
    · exact tl_inj (by rw [tl_append]; rfl)
    · rfl
theorem pre_free (e : Int) : 109 ∉ tl (preT e) := by
  unfold preT
  split
  · intro z; cases z
  · split
    · decide
    · rw [tl_int]; exact sgn_free (by decide)
theorem line_part {z e : Int} (h : e ≠ 0) : Txt.partition (lineT z e) mT = (preT e, mT, tailT z) := by
  unfold lineT
  rw [if_neg h, head_pre]
  exact partition_app (y := mT) (s := 109) (S := []) tl_m (pre_free e)
theorem int_ne (a : Int) : tl (intT a) ≠ [] := by
  rw [tl_int]
  unfold sgnL
  split
  · exact fun z => by cases z
  · exact numL_ne _
theorem empty_iff {x : Str} : x = Str.ofString "" ↔ tl x = [] := ⟨fun h => by rw [h]; rfl, fun h => tl_inj (by rw [h]; rfl)⟩
theorem pre_empty (e : Int) : preT e = Str.ofString "" ↔ e = 1 := by
  rw [empty_iff]
  unfold preT
  by_cases h1 : e = 1
  · rw [if_pos h1]; exact ⟨fun _ => h1, fun _ => rfl⟩
  · rw [if_neg h1]
    refine ⟨fun z => ?_, fun z => absurd z h1⟩
    by_cases h2 : e = -1
    · rw [if_pos h2] at z; cases z
    · rw [if_neg h2] at z; exact absurd z (int_ne e)
theorem sgn_minus {e : Int} (h : tl (intT e) = [45]) : False := by
  rw [tl_int] at h
  unfold sgnL at h
  split at h
  · have := List.cons.inj h
    exact numL_ne _ this.2
  · have d := numL_digits e.natAbs 45 (by rw [h]; exact List.mem_cons_self)
    omega
theorem pre_minus (e : Int) : preT e = Str.ofString "-" ↔ e = -1 := by
  unfold preT
  by_cases h1 : e = 1
  · rw [if_pos h1]
    exact ⟨fun z => absurd (congrArg tl z) (by intro q; cases q), fun z => by omega⟩
  · rw [if_neg h1]
    by_cases h2 : e = -1
    · rw [if_pos h2]; exact ⟨fun _ => h2, fun _ => rfl⟩
    · rw [if_neg h2]
      exact ⟨fun z => (sgn_minus (congrArg tl z)).elim, fun z => absurd z h2⟩
theorem tail_empty (z : Int) : tailT z = Str.ofString "" ↔ z = 0 := by
  rw [empty_iff]
  unfold tailT
  by_cases h1 : z = 0
  · rw [if_pos h1]; exact ⟨fun _ => h1, fun _ => rfl⟩
  · rw [if_neg h1, tl_plus]
    exact ⟨fun q => (by unfold plusL at q; cases q), fun q => absurd q h1⟩
/-- one text, one line -/
theorem line_inj {z e z' e' : Int} (hz : z.natAbs < 10 ^ 400) (he : e.natAbs < 10 ^ 400) (hz' : z'.natAbs < 10 ^ 400) (he' : e'.natAbs < 10 ^ 400) (h : lineT z e = lineT z' e') : z = z' ∧ e = e' := by
  have free : ∀ a : Int, Txt.partition (intT a) mT = (intT a, Str.empty, Str.empty) := fun a => partition_none (y := mT) (s := 109) (S := []) tl_m (by rw [tl_int]; exact sgn_free (by decide))
  have mne : mT ≠ Str.empty := fun q => by cases congrArg tl q
  by_cases h0 : e = 0
  · by_cases h1 : e' = 0
    · unfold lineT at h
      rw [if_pos h0, if_pos h1] at h
      have b := int_back hz
      rw [h, int_back hz'] at b
      exact ⟨(Option.some.inj b).symm, by omega⟩
    · have p := line_part (z := z') h1
      rw [← h] at p
      unfold lineT at p
      rw [if_pos h0, free] at p
      exact absurd (congrArg (fun q : Str × Str × Str => q.2.1) p).symm mne
  · by_cases h1 : e' = 0
    · have p := line_part (z := z) h0
      rw [h] at p
      unfold lineT at p
      rw [if_pos h1, free] at p
      exact absurd (congrArg (fun q : Str × Str × Str => q.2.1) p).symm mne
    · have p := line_part (z := z) h0
      rw [h, line_part h1] at p
      have q1 : preT e' = preT e := congrArg (fun q : Str × Str × Str => q.1) p
      have q3 : tailT z' = tailT z := congrArg (fun q : Str × Str × Str => q.2.2) p
      refine ⟨?_, ?_⟩
      · by_cases z0 : z = 0
        · have := (tail_empty z).mpr z0
          rw [← q3] at this
          rw [(tail_empty z').mp this, z0]
        · have z1 : z' ≠ 0 := fun q => z0 ((tail_empty z).mp (q3 ▸ (tail_empty z').mpr q))
          unfold tailT at q3
          rw [if_neg z0, if_neg z1] at q3
          have b := plus_back hz
          rw [← q3, plus_back hz'] at b
          exact (Option.some.inj b).symm
      · by_cases e1 : e = 1
        · have := (pre_empty e).mpr e1
          rw [← q1] at this
          rw [(pre_empty e').mp this, e1]
        · by_cases e2 : e = -1
          · have := (pre_minus e).mpr e2
            rw [← q1] at this
            rw [(pre_minus e').mp this, e2]
          · have f1 : e' ≠ 1 := fun q => e1 ((pre_empty e).mp (q1 ▸ (pre_empty e').mpr q))
            have f2 : e' ≠ -1 := fun q => e2 ((pre_minus e).mp (q1 ▸ (pre_minus e').mpr q))
            unfold preT at q1
            rw [if_neg e1, if_neg e2, if_neg f1, if_neg f2] at q1
            have b := int_back he
            rw [← q1, int_back he'] at b
            exact (Option.some.inj b).symm
end L2.Tx

set_option maxHeartbeats 400000
/-! what an own class says of +, -, *, ==, str(o), o(m); f'{x:+}' -/
namespace L2.Lr
open PySem PySem.Spec PyProof.Rows LR StX
section
variable {X : Cx} {CX : CXT} {k n : Nat} {f C : Addr} {fd : FuncData} {ps : List Str} {sp : Sp} {E : XK}
/-- a def that the machine calls, some levels deeper -/
theorem run_at {A : Around} {pins : List (Addr × Obj)} {σ : St} {H : Hp} {s : Shared} {Q : VK} {us : List Value} {vs : List V} (sb : Sub X k A) (F : FnOk X.prog X.w X.K X.mg X.base CX k f fd ps sp) (hb : Binds X.K fd ps []) (hx : Passes CX X E)
    (I : Inv X pins σ H s) (r : Vals vs us) (h : sp vs H Q E) : wpAny (model X.prog X.w) A (call (.ref f) us) (EP X pins σ Q) X.xe s := by
  have e := I.env0
  have e0 : Env0 X.prog X.w X.K X.mg X.base A X.stack s H := ⟨sb.fr.trans e.frames, e.mod, e.bs, e.bsz, e.funs, e.frf, e.hok, e.bare⟩
  have hl : us.length = ps.length := r.length.symm.trans (F.len _ _ _ _ h)
  refine wpAny_call (codeAny_mono (F.run A X.stack s H ⟨us, []⟩ us vs Q E sb.room e0 (by simpa using hb s us I.kIn (by simpa using hl)) r h) fun r s' hq => ?_)
  match r, hq with
  | .error e, hq => exact hx pins σ H s e s' I hq
  | .ok (.ret u), hq => exact I.after hq
  | .ok .next, hq => exact hq.elim
  | .ok .brk, hq => exact hq.elim
  | .ok .cont, hq => exact hq.elim
/-- what a class's own def of this name must have -/
structure Dun (K : PySem.W.Frag) (C f : Addr) (m : Str) : Prop where
  at_ : PySem.W.findIn K (.ref C) m = some (some (.ref f))
  fn : PySem.W.isFn K (.ref f) = true
/-- str(o) by the own __str__ -/
def rStrO (C : Addr) (sp : Sp) (E : XK) : List V → Hp → VK → Prop := fun xs H Q => ∃ a dx fs, xs = [.ref a] ∧ H a = some (.ins C dx fs) ∧ sp [.ref a] H (fun v H' => ∃ y, v = .str y ∧ Q (.str y) H') E
theorem call_strO (d : Dun X.K C f "__str__") (F : FnOk X.prog X.w X.K X.mg X.base CX k f fd ps sp) (hr : Room (k + 2) X.A) (hb : Binds X.K fd ps []) (hx : Passes CX X E) : CallR X (.type "str") (rStrO C sp E) := by
  intro pins s σ H xs us Q I r h
  obtain ⟨a, dx, fs, rfl, ha, h⟩ := h
  obtain ⟨u, rfl, ru⟩ := vals1 r
  cases ru
  obtain ⟨ox, od, J, _⟩ := insC_at I (.inr ⟨dx, fs, ha⟩)
  refine PySem.W.kso_call hr.in1.in1.units0 I.kIn J d.at_ d.fn (wpAny_mono (run_at (A := X.A.in1.in1) ⟨hr.in1.in1, rfl⟩ F hb hx I (vs := [.ref a]) (us := [.ref a]) (.cons rfl .nil) h) (fun v s' z => ?_) fun _ _ z => z)
  obtain ⟨x, H', I', rv, y, rfl, q⟩ := z
  obtain ⟨t, rfl⟩ := rv
  exact ⟨.str y, H', I', ⟨t, rfl⟩, q⟩
/-- .. for an operator -/
structure OwnOp (K : PySem.W.Frag) (C f : Addr) (op : Operator) : Prop where
  at_ : PySem.W.findIn K (.ref C) (PySem.dunder op.info.2) = some (some (.ref f))
  fn : PySem.W.isFn K (.ref f) = true
  first : PySem.W.selfFirst K C = true
  rc : PySem.W.findIn K (.ref C) (dunderR op.info.2) = some none
  t1 : (PySem.W.findIn K (.type "int") (PySem.dunder op.info.2)).isSome = true
  t2 : (PySem.W.findIn K (.type "int") (dunderR op.info.2)).isSome = true
  sub : PySem.W.subIn K (.type "int") (.ref C) = some false
def ownB (K : PySem.W.Frag) (C f : Addr) (op : Operator) : Bool := He.eqO (PySem.W.findIn K (.ref C) (PySem.dunder op.info.2)) (some (some (.ref f))) && (PySem.W.isFn K (.ref f) && (PySem.W.selfFirst K C && (He.eqO (PySem.W.findIn K (.ref C) (dunderR op.info.2)) (some none) &&
  ((PySem.W.findIn K (.type "int") (PySem.dunder op.info.2)).isSome && ((PySem.W.findIn K (.type "int") (dunderR op.info.2)).isSome && decide (PySem.W.subIn K (.type "int") (.ref C) = some false))))))
theorem ownB_ok {K : PySem.W.Frag} {op : Operator} (q : ownB K C f op = true) : OwnOp K C f op := by
  obtain ⟨q1, q⟩ := He.ba q
  obtain ⟨q2, q⟩ := He.ba q
  obtain ⟨q3, q⟩ := He.ba q
  obtain ⟨q4, q⟩ := He.ba q
  obtain ⟨q5, q⟩ := He.ba q
  obtain ⟨q6, q7⟩ := He.ba q
  exact ⟨He.eqO_ok q1, q2, q3, He.eqO_ok q4, q5, q6, of_decide_eq_true q7⟩
def dunB (K : PySem.W.Frag) (C f : Addr) (m : Str) : Bool := He.eqO (PySem.W.findIn K (.ref C) m) (some (some (.ref f))) && PySem.W.isFn K (.ref f)
theorem dunB_ok {K : PySem.W.Frag} {m : Str} (q : dunB K C f m = true) : Dun K C f m := by
  obtain ⟨q1, q2⟩ := He.ba q
  exact ⟨He.eqO_ok q1, q2⟩
/-- a op b, by the left one's own def -/
def rOwn (C : Addr) (sp : Sp) (E : XK) : R2 := fun x y H Q => ∃ a dx fs, x = .ref a ∧ H a = some (.ins C dx fs) ∧ ((∃ i, y = .int i) ∨ ∃ b dy gs, y = .ref b ∧ H b = some (.ins C dy gs)) ∧ sp [.ref a, y] H Q E
theorem cmp_back {pins : List (Addr × Obj)} {σ : St} {Q : VK} {v : Value} {s' : Shared} (z : EP X pins σ Q v s') : PySem.W.CmpBack (EP X pins σ Q) v s' := by
  have nz : v ≠ .notImplemented := by
    rintro rfl
    obtain ⟨x, H', I', rv, q⟩ := z
    cases x <;> first
      | (obtain ⟨t, e⟩ := rv; cases e)
      | cases rv
  cases v <;> first
    | exact absurd rfl nz
    | exact z
theorem op_own {op : Operator} (o : OwnOp X.K C f op) (F : FnOk X.prog X.w X.K X.mg X.base CX k f fd ps sp) (hr : Room k X.A) (hb : Binds X.K fd ps []) (hx : Passes CX X E) : OpR X (binaryOp op) (rOwn C sp E) := by
  intro pins s σ H x y v u Q I rx ry h
  obtain ⟨a, dx, fs, rfl, ha, hy, h⟩ := h
  cases rx
  obtain ⟨ox, od, J, _⟩ := insC_at I (.inr ⟨dx, fs, ha⟩)
  obtain ⟨m, hF⟩ := I.fr
  have run := wpAny_mono (run_at (A := X.A) ⟨hr, rfl⟩ F hb hx I (vs := [.ref a, y]) (us := [.ref a, u]) (.cons rfl (.cons ry .nil)) h) (fun v s' z => cmp_back z) fun _ _ z => z
  rcases hy with ⟨i, rfl⟩ | ⟨b, dy, gs, rfl, hb'⟩
  · obtain ⟨t, rfl⟩ := ry
    obtain ⟨fo, e1⟩ := Option.isSome_iff_exists.mp o.t1
    obtain ⟨ro, e2⟩ := Option.isSome_iff_exists.mp o.t2
    exact PySem.W.ksp_binT hF I.ok.mod.kin J rfl o.first o.at_ o.fn o.rc (.inl rfl) e1 e2 o.sub run
  · cases ry
    obtain ⟨oy, od', J', _⟩ := insC_at I (.inr ⟨dy, gs, hb'⟩)
    exact PySem.W.binop_K hF I.ok.mod.kin J J'.type o.first o.at_ o.fn run
/-- a == b, by the left one's own __eq__ -/
theorem op_eqO (d : Dun X.K C f "__eq__") (F : FnOk X.prog X.w X.K X.mg X.base CX k f fd ps sp) (hr : Room k X.A) (hb : Binds X.K fd ps []) (hx : Passes CX X E) :
    OpR X (compareOp .Eq) (fun x y H Q => ∃ a dx fs b dy gs, x = .ref a ∧ H a = some (.ins C dx fs) ∧ y = .ref b ∧ H b = some (.ins C dy gs) ∧ sp [.ref a, .ref b] H Q E) := by
  intro pins s σ H x y v u Q I rx ry h
  obtain ⟨a, dx, fs, b, dy, gs, rfl, ha, rfl, hb', h⟩ := h
  cases rx
  cases ry
  obtain ⟨ox, od, J, _⟩ := insC_at I (.inr ⟨dx, fs, ha⟩)
  obtain ⟨oy, od', J', _⟩ := insC_at I (.inr ⟨dy, gs, hb'⟩)
  obtain ⟨m, hF⟩ := I.fr
  show wpAny (model X.prog X.w) X.A (richCompare .Eq _ _) _ X.xe s
  refine PySem.W.cmp_K (op := .Eq) (tb := .ref C) hr.units0 hF I.ok.mod.kin J J'.type (by simp [PySem.W.notFirst]) d.at_ d.fn ?_
  exact wpAny_mono (run_at (A := X.A) ⟨hr, rfl⟩ F hb hx I (vs := [.ref a, .ref b]) (us := [.ref a, .ref b]) (.cons rfl (.cons rfl .nil)) h) (fun v s' z => cmp_back z) fun _ _ z => z
end
/-- C(k = v, ..): keywords alone -/
theorem pe_makeK {X : Cx} {CX : CXT} {k : Nat} {f C : Addr} {fd : FuncData} {ps ks : List Str} {sp : Sp} {E : XK} {x : Str} {p pos : Pos} {kws : List Keyword} {tk : TA} {g : List Value → List Value → List Value} {gV : List V → List V → List V}
    (M : Mk X.K C f) (F : FnOk X.prog X.w X.K X.mg X.base CX k f fd ps sp) (hr : Room (k + 1) X.A) (hg : Gl X x) (hm : X.mg x = some (.ref C)) (hb : KBn X.K fd ps 1 ks g gV) (hx : Passes CX X E) (hkw : PK X kws tk)
    (hall : (backToKw pos (keywordEach kws X.env)).all (·.1.isSome) = true := by rfl) (hks : (backToKw pos (keywordEach kws X.env)).filterMap (·.1) = ks := by rfl) (hdb : (x == ("__debug__" : Str)) = false := by decide)
    (hpl : ((backTo pos (starEach [] X.env)).any (·.1) || (backToKw pos (keywordEach kws X.env)).any (·.1.isNone)) = false := by rfl) : PE X (.Call (.Name x p) [] kws pos) (tMakeN C 0 ks.length sp gV E tNil tk) := by
  refine ⟨fun pins s σ H Q I h => ?_⟩
  refine wpAny_Call_Name_kw (ld_glob I hg hm ?_ hdb)
  refine PySem.W.callWith_KW0 (h₀ := X.base) I.ok.mod.kin M.kp hall (thn (hkw.run pos pins s σ H _ I h) fun ws s2 ⟨zs, H2, I2, rz, l1, l2, q2⟩ => ⟨I2.kIn, ?_⟩) hpl
  rw [hks]
  exact run_makeN (us := []) (vs := []) M F hr hb hx I2 .nil rz l1 l2 q2
/-! ### f'{x:+}' of an int -/
theorem plus_field (a : Int) : intField' { fill := 32, align := 62, sign := some 43 } (decide (a < 0)) [] ((Nat.toDigits 10 a.natAbs).map fun c => (if (100 : Nat) == 88 then c.toUpper else c).toNat) [] 3 = Tx.plusT a := by
  have en : ((Nat.toDigits 10 a.natAbs).map fun c => (if (100 : Nat) == 88 then c.toUpper else c).toNat) = TL.numL a.natAbs := rfl
  rw [en]
  have ne := TL.numL_ne a.natAbs
  have e1 : (TL.numL a.natAbs).isEmpty = false := by
    cases h : TL.numL a.natAbs with
    | nil => exact absurd h ne
    | cons c r => rfl
  have pad : (-1 - 1 - ((TL.numL a.natAbs).length : Int)).toNat = 0 := by omega
  unfold intField' Tx.plusT Tx.plusL
  cases hd : decide (a < 0) with
  | true =>
    rw [if_pos (of_decide_eq_true hd)]
    simp [e1]
  | false =>
    rw [if_neg (of_decide_eq_false hd)]
    simp [e1]
open Builtin Builtin.Str Builtin.Int Builtin.Float in
theorem gives_plus (a : Int) (t u : Tok) (hd : a.natAbs.log2 < 1920) : Gives (Builtin.«int.__format__» ⟨[.int a t, .str (Str.ofString "+") u], []⟩) (.str (Tx.plusT a)) := by
  intro prog w A R s hq
  obtain ⟨f, hp, ff⟩ : ∃ f, parseFormatSpec (Str.ofString "+").cps.toList "int" 62 = .ok f ∧ f = { fill := 32, align := 62, sign := some 43 } := ⟨_, rfl, rfl⟩
  unfold Builtin.«int.__format__»
  simp only [selfAndOne, noKeywords, Int.intOfSelf, asInt?, asStr?, List.isEmpty_nil, if_true, pure_bind, bind_pure, bind_assoc, Bool.false_eq_true, if_false,
    show ((Str.ofString "+").length == 0) = false from rfl, show (Value.str (Str.ofString "+") u == Value.none) = false from rfl,
    show (((Str.ofString "+").cps.toList.drop 1).any (· ≥ 128) || ((Str.ofString "+").cps.getD 0 0 ≥ 128 && !([60, 62, 61, 94] : List Nat).contains ((Str.ofString "+").cps.getD 1 0))) = false from rfl]
  refine wpAny_bind (wpAny_typeNameOf (T := "str") (typeIs_str _ _ _) (by decide) fun _ => ?_)
  refine wpAny_bind (wpAny_typeNameOfCut_int ?_)
  have hty : f.type.getD (if (Str.ofString "+").cps.back? == some 0 then 0 else 100) = 100 := by subst ff; rfl
  simp only [hp, hty]
  rw [if_pos (by decide)]
  have hpr : f.precision = none := by subst ff; rfl
  have hz : f.noNeg0 = false := by subst ff; rfl
  have hw : ¬ (f.width.getD 0 > 100000) := by subst ff; decide
  show wpAny _ _ (if _ then _ else _) _ _ _
  rw [if_neg (by simp [hpr])]
  show wpAny _ _ (if _ then _ else _) _ _ _
  rw [if_neg (by simp [hz])]
  show wpAny _ _ (if _ then _ else _) _ _ _
  rw [if_neg (by decide)]
  show wpAny _ _ (do let r ← Builtin.overDigitLimit? a; _) _ _ _
  rw [PySem.overDigitLimit_small hd]
  show wpAny _ _ (if _ then _ else _) _ _ _
  rw [if_neg (by simpa using hw)]
  subst ff
  have key : ∀ Y : Str, Y = Tx.plusT a → wpAny (model prog w) A.in1 (retStr Y) (fun fin s' => match fin with
      | .done f => R (.ok f) s'
      | .again c' => c'.quiet = true ∧ codeAny (model prog w) A c' R s') (fun e s' => R (.error e) s') s := by
    intro Y e
    subst e
    unfold retStr
    refine wpAny_bind (wpAny_mkStr (wpAny_pure ?_) ?_)
    · exact hq.2
    · exact hq.1
  refine key _ (Eq.trans ?_ (plus_field a))
  simp only [Bool.false_eq_true, if_false, show ((10 : Nat) == 10) = true by decide, if_true]
  rfl
/-- {x:+} of an int -/
def tFmtP (te : TE) : TE := fun σ H Q => te σ H fun x H1 => ∃ i : Int, x = .int i ∧ i.natAbs.log2 < 1920 ∧ (Tx.plusT i).length ≤ sizeLine ∧ Q (.str (Tx.plusT i)) H1
theorem pe_fmtP {X : Cx} {e : Expr} {te : TE} {pos p1 p2 : Pos} {k} (he : PE X e te) : PE X (.FormattedValue e (-1) (some (.JoinedStr [.Constant (.str "+") k p1] p2)) pos) (tFmtP te) := by
  refine ⟨fun pins s σ H Q I h => ?_⟩
  refine wpAny_FormattedValue_spec (thn (he.run pins s σ H _ I h) fun v s1 hv => ?_)
  obtain ⟨x, H1, I1, r1, i, rfl, hd, hz, q⟩ := hv
  obtain ⟨t, rfl⟩ := r1
  have js : PE X (.JoinedStr [.Constant (.str "+") k p1] p2) (tC (.str "+")) := pe_joined1 pe_str
  refine thn (js.run pins s1 σ H1 (fun v H2 => v = .str "+" ∧ Q (.str (Tx.plusT i)) H2) I1 ⟨rfl, q⟩) fun r s2 hr => ?_
  obtain ⟨y, H2, I2, r2, ey, q2⟩ := hr
  subst ey
  obtain ⟨t2, rfl⟩ := r2
  refine ⟨_, t2, rfl, ?_⟩
  exact wpAny_formatField_spec (T := "int") (idf := "int.__format__") (B := Builtin.«int.__format__») (by decide) (fun s' => typeIs_int s' i t) PyProof.Rows.slot_int_format PyProof.Rows.entry_int_format (fun a b => PyProof.Rows.args_int_format a b) (fun u => gives_plus i t u hd)
    ⟨.str (Tx.plusT i), H2, I2.tok _, ⟨_, rfl⟩, q2⟩ (by decide) hz
end L2.Lr

set_option maxHeartbeats 400000
/-! the same where something may be raised: C(..), a op b, o(..), C.f(..); a != b, a == b of unlike kinds -/
namespace L2.Lr
open PySem PySem.Spec PyProof.Rows LR StX
section
variable {X : Cx} {CX : CXT} {k n : Nat} {f C : Addr} {fd : FuncData} {ps : List Str} {sp : Sp}
theorem run_atS {A : Around} {pins : List (Addr × Obj)} {σ : St} {H : Hp} {s : Shared} {Q : VK} {E : XK} {us : List Value} {vs : List V} (sb : Sub X k A) (F : FnOk X.prog X.w X.K X.mg X.base CX k f fd ps sp) (hb : Binds X.K fd ps []) (hx : PassesAt CX X σ E)
    (I : Inv X pins σ H s) (r : Vals vs us) (h : sp vs H Q E) : wpAny (model X.prog X.w) A (call (.ref f) us) (EP X pins σ Q) X.xe s := by
  have e := I.env0
  have e0 : Env0 X.prog X.w X.K X.mg X.base A X.stack s H := ⟨sb.fr.trans e.frames, e.mod, e.bs, e.bsz, e.funs, e.frf, e.hok, e.bare⟩
  have hl : us.length = ps.length := r.length.symm.trans (F.len _ _ _ _ h)
  refine wpAny_call (codeAny_mono (F.run A X.stack s H ⟨us, []⟩ us vs Q E sb.room e0 (by simpa using hb s us I.kIn (by simpa using hl)) r h) fun r s' hq => ?_)
  match r, hq with
  | .error e, hq => exact hx pins H s e s' I hq
  | .ok (.ret u), hq => exact I.after hq
  | .ok .next, hq => exact hq.elim
  | .ok .brk, hq => exact hq.elim
  | .ok .cont, hq => exact hq.elim
/-- C(..) in a try -/
def tMakeS (C : Addr) (sp : Sp) (E : St → XK) (t : TA) : TE := fun σ H Q => t σ H fun vs H1 => ∀ x dx, H1 x = none → H1 dx = none → dx ≠ x → sp (.ref x :: vs) (upd (upd H1 dx (.own x)) x (.ins C dx [])) (fun v H2 => v = .non ∧ Q (.ref x) H2) (E σ)
theorem pe_makeS {E : St → XK} {x : Str} {p pos : Pos} {e : Expr} {es : List Expr} {t : TA} (M : Mk X.K C f) (F : FnOk X.prog X.w X.K X.mg X.base CX k f fd ps sp) (hr : Room (k + 1) X.A) (hg : Gl X x) (hm : X.mg x = some (.ref C)) (hb : Binds X.K fd ps []) (hx : ∀ σ, PassesAt CX X σ (E σ)) (ha : PA X (e :: es) t)
    (hdb : (x == ("__debug__" : Str)) = false := by decide) (he : starEach (e :: es) X.env = (false, eval e X.env) :: starEach es X.env := by rfl) (hpl : (backTo pos (starEach es X.env)).any (·.1) = false := by rfl) :
    PE X (.Call (.Name x p) (e :: es) [] pos) (tMakeS C sp E t) := by
  refine ⟨fun pins s0 σ H Q I0 h => wpAny_Call_Name_kw (ld_glob I0 hg hm (PySem.W.callWith_K (h₀ := X.base) I0.ok.mod.kin M.kp (thn (ha.run pos pins s0 σ H _ I0 h) fun us s ⟨vs, H1, I, r, q⟩ => ⟨I.kIn, ?_⟩) he hpl) hdb)⟩
  have hq := q (s.heap.objs.size + 1) s.heap.objs.size (I.hok.fresh (Nat.le_succ _)) (I.hok.fresh (Nat.le_refl _)) (Nat.ne_of_lt (Nat.lt_succ_self _))
  have I2 := Inv.made (C := C) I
  have r2 : Vals (V.ref (s.heap.objs.size + 1) :: vs) (Value.ref (s.heap.objs.size + 1) :: us) := .cons rfl r
  have hl : (Value.ref (s.heap.objs.size + 1) :: us).length = ps.length := r2.length.symm.trans (F.len _ _ _ _ hq)
  have bb : ∀ s2 : Shared, X.K.In s2.heap → BindsTo s2 fd ⟨Value.ref (s.heap.objs.size + 1) :: us, []⟩ (ps.zip (Value.ref (s.heap.objs.size + 1) :: us)) := fun s2 h2 => by simpa using hb s2 (Value.ref (s.heap.objs.size + 1) :: us) h2 (by simpa using hl)
  refine wpAny_call (make_map (f := f) I.kIn M.makes M.init (beq_iff_eq.mp M.fn) (codeAny_mono (F.run _ X.stack _ _ ⟨Value.ref (s.heap.objs.size + 1) :: us, []⟩ _ _ _ (E σ) (hr.make C us []) (I2.env0.make C us []) (bb _ I2.kIn) r2 hq) fun z s' hz => ?_))
  match z, hz with
  | .error e, hz => exact hx σ pins _ _ e s' I2 hz
  | .ok (.ret u), hz =>
    obtain ⟨v, H', I3, rv, ev, q3⟩ := I2.after hz
    subst ev
    exact ⟨rv, ⟨.ref (s.heap.objs.size + 1), H', I3, rfl, q3⟩⟩
  | .ok .next, hz => exact hz.elim
  | .ok .brk, hz => exact hz.elim
  | .ok .cont, hz => exact hz.elim
/-! ### operators -/
/-- a two-place operation at these slots -/
def OpA (X : Cx) (σ : St) (g : Value → Value → Sem Value) (r : R2) : Prop := ∀ (pins : List (Addr × Obj)) (s : Shared) (H : Hp) (x y : V) (v u : Value) (Q : VK), Inv X pins σ H s → RelV x v → RelV y u → r x y H Q → wpAny (model X.prog X.w) X.A (g v u) (EP X pins σ Q) X.xe s
def tOpA (r : St → R2) (ta tb : TE) : TE := fun σ H Q => ta σ H fun x H1 => tb σ H1 fun y H2 => r σ x y H2 Q
theorem pe_opA {a b : Expr} {ta tb : TE} {pos : Pos} {op : Operator} {r : St → R2} (ho : ∀ σ, OpA X σ (binaryOp op) (r σ)) (ha : PE X a ta) (hb : PE X b tb) : PE X (.BinOp a op b pos) (tOpA r ta tb) :=
  ⟨fun pins s σ H Q I h => wpAny_BinOp (binT ha hb (R := fun x y H2 => r σ x y H2 Q) I h fun v u s2 x y H2 I2 rx ry q => ho σ pins s2 H2 x y v u Q I2 rx ry q)⟩
/-- the kind of a value that is no own instance -/
inductive KindV (K : PySem.W.Frag) (H : Hp) : V → String → Prop where
  | non : KindV K H .non "NoneType"
  | bl (b : Bool) : KindV K H (.bl b) "bool"
  | int (i : Int) : KindV K H (.int i) "int"
  | str (x : Str) : KindV K H (.str x) "str"
  | lst {a : Addr} {xs : List V} (h : SqL K H a xs) : KindV K H (.ref a) "list"
  | tup {a : Addr} {xs : List V} (h : SqT K H a xs) : KindV K H (.ref a) "tuple"
theorem looks_ref {M : Model} {h : Heap} {a : Addr} {o : Obj} (e : h.get? a = some o) : PySem.W.Looks M h (typeOf (.ref a)) o.cls := fun A Q E s kp q => wpAny_typeOf_ref (kp _ _ e) q
theorem kind_looks {pins : List (Addr × Obj)} {σ : St} {H : Hp} {s : Shared} {x : V} {u : Value} {t : String} (I : Inv X pins σ H s) (h : KindV X.K H x t) (r : RelV x u) {M : Model} : PySem.W.Looks M s.heap (typeOf u) (.type t) := by
  cases h with
  | non => cases r; exact PySem.W.Looks.of_pure rfl
  | bl b => cases r; exact PySem.W.Looks.of_pure rfl
  | int i => obtain ⟨k, rfl⟩ := r; exact PySem.W.Looks.of_pure rfl
  | str i => obtain ⟨k, rfl⟩ := r; exact PySem.W.Looks.of_pure rfl
  | lst h =>
    cases r
    obtain ⟨its, rv, hl, _⟩ := I.list h
    obtain ⟨o, n, e, c, _⟩ := hl
    have z := looks_ref (M := M) e
    rw [c] at z
    exact z
  | tup h =>
    cases r
    obtain ⟨its, rv, hl, _⟩ := I.tuple h
    obtain ⟨o, e, c, _⟩ := hl
    have z := looks_ref (M := M) e
    rw [c] at z
    exact z
/-- the names of the kinds -/
def kinds : List String := ["NoneType", "bool", "int", "str", "list", "tuple"]
theorem KindV.mem {K : PySem.W.Frag} {H : Hp} {x : V} {t : String} (h : KindV K H x t) : t ∈ kinds := by
  cases h <;> decide
/-- what a class's own def for an operator must have, beside all kinds -/
structure OwnOps (K : PySem.W.Frag) (C f : Addr) (op : Operator) : Prop where
  at_ : PySem.W.findIn K (.ref C) (PySem.dunder op.info.2) = some (some (.ref f))
  fn : PySem.W.isFn K (.ref f) = true
  first : PySem.W.selfFirst K C = true
  rc : PySem.W.findIn K (.ref C) (dunderR op.info.2) = some none
  ks : ∀ t ∈ kinds, (PySem.W.findIn K (.type t) (PySem.dunder op.info.2)).isSome = true ∧ (PySem.W.findIn K (.type t) (dunderR op.info.2)).isSome = true ∧ PySem.W.subIn K (.type t) (.ref C) = some false
def kindB (K : PySem.W.Frag) (C : Addr) (op : Operator) (t : String) : Bool := (PySem.W.findIn K (.type t) (PySem.dunder op.info.2)).isSome && ((PySem.W.findIn K (.type t) (dunderR op.info.2)).isSome && decide (PySem.W.subIn K (.type t) (.ref C) = some false))
def ownsB (K : PySem.W.Frag) (C f : Addr) (op : Operator) : Bool := He.eqO (PySem.W.findIn K (.ref C) (PySem.dunder op.info.2)) (some (some (.ref f))) && (PySem.W.isFn K (.ref f) && (PySem.W.selfFirst K C && (He.eqO (PySem.W.findIn K (.ref C) (dunderR op.info.2)) (some none) && kinds.all (kindB K C op))))
theorem ownsB_ok {K : PySem.W.Frag} {op : Operator} (q : ownsB K C f op = true) : OwnOps K C f op := by
  obtain ⟨q1, q⟩ := He.ba q
  obtain ⟨q2, q⟩ := He.ba q
  obtain ⟨q3, q⟩ := He.ba q
  obtain ⟨q4, q5⟩ := He.ba q
  refine ⟨He.eqO_ok q1, q2, q3, He.eqO_ok q4, fun t ht => ?_⟩
  obtain ⟨a1, a⟩ := He.ba (List.all_eq_true.mp q5 t ht)
  obtain ⟨a2, a3⟩ := He.ba a
  exact ⟨a1, a2, of_decide_eq_true a3⟩
open PySem.W in
/-- a op b where b is of a built-in kind, told by a look -/
theorem bin_kind {prog : Program} {w : World} {A : Around} {W : Value → Shared → Prop} {s : Shared} {K : Frag} {x : Addr} {h₀ : Heap} {L : Addr} {m : Str → Option Value} {ox : Obj} {od : Option Obj} {op : Operator} {b : Value} {t : String} {Q : Value → Shared → Prop}
    (F : Fr h₀ L s.heap m) (X0 : K.In h₀) (I : InstAt s.heap x ox C od) (hb : Looks (model prog w) s.heap (typeOf b) (.type t)) (o : OwnOps K C f op) (ht : t ∈ kinds)
    (h : wpAny (model prog w) A (call (.ref f) [.ref x, b]) (PySem.W.CmpBack Q) W s) : wpAny (model prog w) A (binaryOp op (.ref x) b) Q W s := by
  have X := X0.keeps F.keep
  obtain ⟨cd, rest, hcd, hm⟩ := ksp_first o.first
  obtain ⟨k1, k2, k3⟩ := o.ks t ht
  obtain ⟨fo, h1⟩ := Option.isSome_iff_exists.mp k1
  obtain ⟨ro, h2⟩ := Option.isSome_iff_exists.mp k2
  have hs := o.at_
  have hr := o.rc
  rcases hi : op.info with ⟨sym, nm⟩
  rw [hi] at hs hr h1 h2
  dsimp only at hs hr h1 h2
  have one := ksp_try X I hs o.fn h
  obtain ⟨hh, g, d, tt, os⟩ := s
  have l1 : Looks (model prog w) hh (typeOf (.ref x)) (.ref C) := I.type
  have l2 : Looks (model prog w) hh (typeOf b) (.type t) := hb
  have l3 : Looks (model prog w) hh (fillsNumberSlot (.ref C) nm) true := fills_K X hcd hm hs
  have l4 : Looks (model prog w) hh (fillsNumberSlot (.type t) nm) ((fo.isSome && !isSeqSlot fo) || (ro.isSome && !isSeqSlot ro)) := ksp_fillsT X h1 h2
  have l5 : Looks (model prog w) hh (isSubtype (.type t) (.ref C)) false := looks_subIn X k3
  have l6 : Looks (model prog w) hh (numberSlotInPython (.ref C) nm) true := ksp_inPy X hs hr (.inl rfl)
  have l7 : Looks (model prog w) hh (numberSlotInPython (.type t) nm) false := Looks.of_pure rfl
  have l8 : Looks (model prog w) hh (typeLookup (.type t) (dunderR nm)) ro := looks_findIn X h2
  generalize ((fo.isSome && !isSeqSlot fo) || (ro.isSome && !isSeqSlot ro)) = right at l4
  have ne : (Value.ref C == Value.type t) = false := Bool.eq_false_iff.mpr fun q => by cases beq_iff_eq.mp q
  simp only [binaryOp, hi]
  refine wpAny_holding (wpAny_bind ?_)
  unfold binaryOp1
  refine wpAny_bind (l1.at (wpAny_bind (l2.at (wpAny_bind (l3.at ?_)))))
  simp only [ne, Bool.false_eq_true, if_false]
  cases right <;>
  · ksp_lk
    refine wpAny_mono one (fun r s' z => ?_) fun _ _ z => z
    obtain ⟨v, rfl, q⟩ := z
    ksp_lk
    exact q
/-- a op b, by the left one's own def, in a try -/
theorem op_ownA {op : Operator} {E : St → XK} (o : OwnOps X.K C f op) (F : FnOk X.prog X.w X.K X.mg X.base CX k f fd ps sp) (hr : Room k X.A) (hb : Binds X.K fd ps []) (hx : ∀ σ, PassesAt CX X σ (E σ)) (σ : St) :
    OpA X σ (binaryOp op) (fun x y H Q => ∃ a dx fs, x = .ref a ∧ H a = some (.ins C dx fs) ∧ ((∃ t, KindV X.K H y t) ∨ ∃ b dy gs, y = .ref b ∧ H b = some (.ins C dy gs)) ∧ sp [.ref a, y] H Q (E σ)) := by
  intro pins s H x y v u Q I rx ry h
  obtain ⟨a, dx, fs, rfl, ha, hy, h⟩ := h
  cases rx
  obtain ⟨ox, od, J, _⟩ := insC_at I (.inr ⟨dx, fs, ha⟩)
  obtain ⟨m, hF⟩ := I.fr
  have run := wpAny_mono (run_atS (A := X.A) ⟨hr, rfl⟩ F hb (hx σ) I (vs := [.ref a, y]) (us := [.ref a, u]) (.cons rfl (.cons ry .nil)) h) (fun v s' z => cmp_back z) fun _ _ z => z
  rcases hy with ⟨t, hk⟩ | ⟨b, dy, gs, rfl, hb'⟩
  · exact bin_kind hF I.ok.mod.kin J (kind_looks I hk ry) o hk.mem run
  · cases ry
    obtain ⟨oy, od', J', _⟩ := insC_at I (.inr ⟨dy, gs, hb'⟩)
    exact PySem.W.binop_K hF I.ok.mod.kin J J'.type o.first o.at_ o.fn run
/-- o(..) in a try -/
def tCallOS (X : Cx) (C : Addr) (sp : Sp) (E : St → XK) (tf : TE) (t : TA) : TE := fun σ H Q => tf σ H fun y H1 => ∃ a, y = V.ref a ∧ t σ H1 fun vs H2 => InsC X H2 a C ∧ sp (V.ref a :: vs) H2 Q (E σ)
theorem pe_callOS {E : St → XK} {fe e : Expr} {es : List Expr} {tf : TE} {t : TA} {pos : Pos} (hf : PE X fe tf) (c : CallO X.K C f) (F : FnOk X.prog X.w X.K X.mg X.base CX k f fd ps sp) (hr : Room k X.A) (hb : Binds X.K fd ps []) (hx : ∀ σ, PassesAt CX X σ (E σ)) (ha : PA X (e :: es) t)
    (ht : eval (.Call fe (e :: es) [] pos) X.env = (do callWith pos (← eval fe X.env) [] (backTo pos (starEach (e :: es) X.env)) (backToKw pos (keywordEach [] X.env))) := by rfl)
    (he : starEach (e :: es) X.env = (false, eval e X.env) :: starEach es X.env := by rfl) (hpl : (backTo pos (starEach es X.env)).any (·.1) = false := by rfl) : PE X (.Call fe (e :: es) [] pos) (tCallOS X C sp E tf t) := by
  refine ⟨fun pins s σ H Q I h => Call_ (thn (hf.run pins s σ H _ I h) fun u s1 ⟨y, H1, I1, ry, a, ey, q⟩ => ?_) ht⟩
  subst ey
  cases ry
  refine callO_with (thn (ha.run pos pins s1 σ H1 _ I1 q) fun us s2 ⟨vs, H2, I2, r, hi, q2⟩ => ?_) he hpl
  obtain ⟨ox, od, J, hd⟩ := insC_at I2 hi
  refine ⟨⟨_, _, _, J, hd⟩, ?_⟩
  have r2 : Vals (V.ref a :: vs) (Value.ref a :: us) := .cons rfl r
  have hl : (Value.ref a :: us).length = ps.length := r2.length.symm.trans (F.len _ _ _ _ q2)
  have bb : BindsTo s2 fd ⟨Value.ref a :: us, []⟩ (ps.zip (Value.ref a :: us)) := by simpa using hb s2 (Value.ref a :: us) I2.kIn (by simpa using hl)
  refine wpAny_call (PySem.W.kco_code I2.kIn J hd c.at_ c.fn c.fi (codeAny_mono (F.run X.A X.stack s2 H2 ⟨Value.ref a :: us, []⟩ _ _ Q (E σ) hr I2.env0 bb r2 q2) fun z s' hz => ?_))
  match z, hz with
  | .error e, hz => exact hx σ pins _ _ e s' I2 hz
  | .ok (.ret u), hz => exact I2.after hz
  | .ok .next, hz => exact hz.elim
  | .ok .brk, hz => exact hz.elim
  | .ok .cont, hz => exact hz.elim
/-- what a static method must have: its record at p, its def at g -/
structure Stat (K : PySem.W.Frag) (C p g : Addr) (m : Str) : Prop where
  rd : PySem.W.readsIn K C (.type "type") = true
  ga : PySem.W.specialIn K (.ref C) "__getattribute__" = some (some (.builtin "type.__getattribute__"))
  at_ : PySem.W.findCls K (.ref C) (.type "type") m = some (.get (.builtin "staticmethod.__get__") (.ref p) .none (.ref C))
  rc : ∃ rest, PySem.W.recIn K p "staticmethod" = some (.ref g :: rest)
  kp : PySem.W.keepIn K (.ref g) = true
/-- C.m(..), m a static method, in a try -/
theorem pe_statS {E : St → XK} {x m : Str} {p0 pos apos : Pos} {pr : Addr} {e : Expr} {es : List Expr} {t : TA} {pl : Sem Bool} (c : Stat X.K C pr f m) (F : FnOk X.prog X.w X.K X.mg X.base CX k f fd ps sp) (hr : Room k X.A) (hg : Gl X x) (hm : X.mg x = some (.ref C)) (hb : Binds X.K fd ps []) (hx : ∀ σ, PassesAt CX X σ (E σ))
    (ha : PA X (e :: es) t) (hdb : (x == ("__debug__" : Str)) = false := by decide) (hst : starEach (e :: es) X.env = (false, eval e X.env) :: starEach es X.env := by rfl) (hpl : (backTo pos (starEach es X.env)).any (·.1) = false := by rfl)
    (ht : eval (.Call (.Attribute (.Name x p0) m apos) (e :: es) [] pos) X.env = (do
      let ov ← eval (.Name x p0) X.env
      standAt apos.atName
      let (f, first) ← holding [ov] (getMethod ov m pl)
      callWith pos f first (backTo pos (starEach (e :: es) X.env)) (backToKw pos (keywordEach [] X.env))) := by rfl) :
    PE X (.Call (.Attribute (.Name x p0) m apos) (e :: es) [] pos) (tCallS sp E t) := by
  have hn : PE X (.Name x p0) (tC (.ref C)) := pe_glob hg hm rfl hdb
  refine ⟨fun pins s σ H Q I h => PySem.W.methodCall_KW (pl := pl) (thn (hn.run pins s σ H (fun v H1 => v = .ref C ∧ t σ H1 fun vs H2 => sp vs H2 Q (E σ)) I ⟨rfl, h⟩) fun u s1 ⟨v, H1, I1, rv, ev, q⟩ => ?_) ht⟩
  subst ev
  cases rv
  obtain ⟨rest, rc⟩ := c.rc
  refine PySem.W.method_cls I1.kIn c.ga (PySem.W.cls_bind I1.kIn c.rd c.at_ (wpAny_call (PySem.W.sm_get (s := { s1 with toks := s1.toks + 1 }) I1.kIn rc (PySem.W.handed_on rfl ?_))))
  have I2 := I1.tok (s1.toks + 1)
  refine PySem.W.callWith_K (first := []) (h₀ := X.base) I2.ok.mod.kin c.kp (thn (ha.run pos pins _ σ H1 _ I2 q) fun us s2 ⟨vs, H2, I3, r, q2⟩ => ⟨I3.kIn, ?_⟩) hst hpl
  exact run_atS (A := X.A) ⟨hr, rfl⟩ F hb (hx σ) I3 r q2
/-- a == b, b of a built-in kind: the left one's own __eq__ -/
theorem op_eqK {E : XK} (d : Dun X.K C f "__eq__") (F : FnOk X.prog X.w X.K X.mg X.base CX k f fd ps sp) (hr : Room k X.A) (hb : Binds X.K fd ps []) (hx : Passes CX X E) :
    OpR X (compareOp .Eq) (fun x y H Q => ∃ a dx fs t, x = .ref a ∧ H a = some (.ins C dx fs) ∧ KindV X.K H y t ∧ PySem.W.subIn X.K (.type t) (.ref C) = some false ∧ sp [.ref a, y] H Q E) := by
  intro pins s σ H x y v u Q I rx ry h
  obtain ⟨a, dx, fs, t, rfl, ha, hk, hs, h⟩ := h
  cases rx
  obtain ⟨ox, od, J, _⟩ := insC_at I (.inr ⟨dx, fs, ha⟩)
  obtain ⟨m, hF⟩ := I.fr
  show wpAny (model X.prog X.w) X.A (richCompare .Eq _ _) _ X.xe s
  refine PySem.W.cmp_K (op := .Eq) (tb := .type t) hr.units0 hF I.ok.mod.kin J (kind_looks I hk ry) (by simp [PySem.W.notFirst, hs]) d.at_ d.fn ?_
  exact wpAny_mono (run_at (A := X.A) ⟨hr, rfl⟩ F hb hx I (vs := [.ref a, y]) (us := [.ref a, u]) (.cons rfl (.cons ry .nil)) h) (fun v s' z => cmp_back z) fun _ _ z => z
end
open PySem.W Builtin in
theorem bound_bi {M : Model} {A : Around} {W : Value → Shared → Prop} {s : Shared} {K : Frag} {x C : Addr} {ox : Obj} {od : Option Obj} {name : Str} {id : String} {args : List Value} {Q : Option Value → Shared → Prop} (X : K.In s.heap) (I : InstAt s.heap x ox C od) (hs : findIn K (.ref C) name = some (some (.builtin id)))
    (hb : ∀ self, bindSpecial (.builtin id) self = pure (.builtin id, [self])) (h : wpAny M A (call (.builtin id) (.ref x :: args)) (fun v => Q (some v)) W s) : wpAny M A (callSpecialIfBound? (.ref x) name args) Q W s := by
  simp only [callSpecialIfBound?, bindSpecialIfBound?]
  refine wpAny_holding (wpAny_bind (wpAny_bind (wpAny_bind (I.type.here ((looks_findIn X hs).here ?_)))))
  refine wpAny_bind (wpAny_askSetting (wpAny_ite ?_))
  have fin : wpAny M A (call (.builtin id) ([.ref x] ++ args) >>= fun v => pure (some v)) Q W s := wpAny_bind (wpAny_mono h (fun v s' z => wpAny_pure z) fun _ _ z => z)
  split
  · exact wpAny_bind ((Looks.of_pure (hb _)).here (wpAny_pure (by exact fin)))
  · exact wpAny_tryCatch (wpAny_bind ((Looks.of_pure (hb _)).here (wpAny_pure (by exact fin))))
open PySem.W Builtin in
/-- a != b by the own __eq__ -/
theorem ne_own {prog : Program} {w : World} {A : Around} {W : Value → Shared → Prop} {s : Shared} {K : Frag} {x y C f : Addr} {h₀ : Heap} {L : Addr} {m : Str → Option Value} {ox oy : Obj} {od od' : Option Obj} {Q : Value → Shared → Prop} (hu : A.units < cLine) (hu1 : A.in1.units < cLine)
    (F : Fr h₀ L s.heap m) (X0 : K.In h₀) (I : InstAt s.heap x ox C od) (J : InstAt s.heap y oy C od') (hn : findIn K (.ref C) "__ne__" = some (some (.builtin "object.__ne__"))) (hm : mroIn K C (.type "object") = some true) (hs : findIn K (.ref C) "__eq__" = some (some (.ref f))) (hf : isFn K (.ref f) = true)
    (h : wpAny (model prog w) A.in1 (call (.ref f) [.ref x, .ref y]) (fun v s' => ∃ b, v = .bool b ∧ Q (.bool (!b)) s') W s) : wpAny (model prog w) A (richCompare .NotEq (.ref x) (.ref y)) Q W s := by
  have X := X0.keeps F.keep
  have inner : wpAny (model prog w) A (call (.builtin "object.__ne__") [.ref x, .ref y]) (fun v s' => ∃ b, v = .bool b ∧ Q (.bool b) s') W s := by
    refine wpAny_call (codeAny_call_builtin PySem.F.slot_object_ne.plain PySem.F.entry_object_ne (check_slot (i := "object.__ne__") (owner := "object") (n := "__ne__") (by decide +kernel) (by decide +kernel) (I.type.andThen (looks_mroIn X hm)) (PySem.F.args_object_ne_2 _ _) ?_))
    unfold Builtin.«object.__ne__»
    refine wpAny_bind (m := slotArgs "__ne__" 1 _) (wpAny_pure ?_)
    refine wpAny_bind (m := cRoomFor _ _) (wpAny_cRoomFor hu1 ?_)
    refine wpAny_bind (m := callSpecialIfBound? (.ref x) (Str.ofString "__eq__") _) (ifBound_K X I hs hf (wpAny_mono h (fun v s' z => ?_) fun _ _ z => z))
    obtain ⟨b, rfl, q⟩ := z
    refine wpAny_bind (m := truthy (.bool b)) (wpAny_truthy_bool ?_)
    exact wpAny_pure ⟨!b, rfl, q⟩
  have one : wpAny (model prog w) A (tryCompare (.ref x) (cmpInfo .NotEq).2.1 (.ref y)) (fun r s' => ∃ v, r = some v ∧ Q v s') W s := by
    unfold tryCompare
    refine wpAny_bind (bound_bi X I hn PySem.F.slot_object_ne.bind (wpAny_mono inner (fun v s' z => ?_) fun _ _ z => z))
    obtain ⟨b, rfl, q⟩ := z
    exact wpAny_pure ⟨_, rfl, q⟩
  unfold richCompare
  simp only [oneThing_ref]
  refine wpAny_holding (wpAny_bind (wpAny_cRoomFor hu ?_))
  refine wpAny_bind (I.type.here (wpAny_bind (J.type.here ?_)))
  split
  · rename_i q
    simp at q
  · refine wpAny_bind (wpAny_pure ?_)
    simp only [Bool.false_eq_true, if_false]
    refine wpAny_bind (wpAny_mono one (fun r s' z => ?_) fun _ _ z => z)
    obtain ⟨v, rfl, q⟩ := z
    exact wpAny_pure q
section
variable {X : Cx} {CX : CXT} {k n : Nat} {f C : Addr} {fd : FuncData} {ps : List Str} {sp : Sp}
/-- a != b of two of the class -/
theorem op_neO {E : XK} (d : Dun X.K C f "__eq__") (hn : PySem.W.findIn X.K (.ref C) "__ne__" = some (some (.builtin "object.__ne__"))) (hm : PySem.W.mroIn X.K C (.type "object") = some true) (F : FnOk X.prog X.w X.K X.mg X.base CX k f fd ps sp) (hr : Room (k + 1) X.A) (hb : Binds X.K fd ps []) (hx : Passes CX X E) :
    OpR X (compareOp .NotEq) (fun x y H Q => ∃ a dx fs b dy gs, x = .ref a ∧ H a = some (.ins C dx fs) ∧ y = .ref b ∧ H b = some (.ins C dy gs) ∧ sp [.ref a, .ref b] H (fun v H' => ∃ b, v = .bl b ∧ Q (.bl (!b)) H') E) := by
  intro pins s σ H x y v u Q I rx ry h
  obtain ⟨a, dx, fs, b, dy, gs, rfl, ha, rfl, hb', h⟩ := h
  cases rx
  cases ry
  obtain ⟨ox, od, J, _⟩ := insC_at I (.inr ⟨dx, fs, ha⟩)
  obtain ⟨oy, od', J', _⟩ := insC_at I (.inr ⟨dy, gs, hb'⟩)
  obtain ⟨m, hF⟩ := I.fr
  show wpAny (model X.prog X.w) X.A (richCompare .NotEq _ _) _ X.xe s
  refine ne_own hr.units0 hr.in1.units0 hF I.ok.mod.kin J J' hn hm d.at_ d.fn ?_
  refine wpAny_mono (run_at (A := X.A.in1) ⟨hr.in1, rfl⟩ F hb hx I (vs := [.ref a, .ref b]) (us := [.ref a, .ref b]) (.cons rfl (.cons rfl .nil)) h) (fun v s' z => ?_) fun _ _ z => z
  obtain ⟨x, H', I', rv, c, rfl, q⟩ := z
  cases rv
  exact ⟨c, rfl, .bl (!c), H', I', rfl, q⟩
/-- a != b, two lists of the very same things -/
theorem op_neS (hu : X.A.units + 64 < cLine) : OpR X (compareOp .NotEq) (fun x y H Q => ∃ a b xs, x = .ref a ∧ y = .ref b ∧ SqL X.K H a xs ∧ SqL X.K H b xs ∧ (∀ v ∈ xs, flatB v = true ∨ ∃ r, v = .ref r) ∧ Q (.bl false) H) := by
  intro pins s σ H x y v u Q I rx ry h
  obtain ⟨a, b, xs, rfl, rfl, ha, hb, hi, q⟩ := h
  cases rx
  cases ry
  obtain ⟨us, r1, p1, _⟩ := I.list ha
  obtain ⟨ws, r2, p2, _⟩ := I.list hb
  have hsz : us.toArray.size = ws.toArray.size := by rw [List.size_toArray, List.size_toArray, ← r1.length, ← r2.length]
  have he : ∀ j (h1 : j < us.toArray.size) (h2 : j < ws.toArray.size), SeqAt.EqAt X.A.in1 s us.toArray[j] ws.toArray[j] true := by
    intro j h1 h2
    have l1 : j < us.length := by simpa using h1
    have l2 : j < ws.length := by simpa using h2
    have hj : j < xs.length := by rw [r1.length]; exact l1
    obtain ⟨u1, e1, q1⟩ := r1.get (List.getElem?_eq_getElem hj)
    obtain ⟨u2, e2, q2⟩ := r2.get (List.getElem?_eq_getElem hj)
    have z1 : us.toArray[j] = u1 := by
      have := List.getElem?_eq_getElem l1
      rw [e1] at this
      simpa using (Option.some.inj this).symm
    have z2 : ws.toArray[j] = u2 := by
      have := List.getElem?_eq_getElem l2
      rw [e2] at this
      simpa using (Option.some.inj this).symm
    rw [z1, z2]
    rcases hi xs[j] (List.getElem_mem hj) with f | ⟨r, er⟩
    · exact eqAt_same q1 q2 f
    · rw [er] at q1 q2
      cases q1
      cases q2
      exact SeqAt.EqAt.same _
  have z := SeqAt.RcNeAt.lists (e := fun _ => true) p1.isList p2.isList hsz (show X.A.units < cLine by omega) he X.prog X.w X.xe (EP X pins σ Q)
  refine z ?_
  rw [show (List.range us.toArray.size).all (fun _ => true) = true from List.all_eq_true.mpr fun _ _ => rfl]
  exact ⟨.bl false, H, I, rfl, q⟩
/-- isinstance(x, C): an instance, or data -/
theorem call_isCD (c : C8.InsC X.K C) : CallR X (.builtin "isinstance") (fun xs H Q => ∃ x, xs = [x, .ref C] ∧ ((∃ d, Dp X.K H x d ∧ PySem.W.kitOne X.K (.type (tyN d)) (.ref C) = some false ∧ Q (.bl false) H) ∨ ∃ a dx fs, x = .ref a ∧ H a = some (.ins C dx fs) ∧ Q (.bl true) H)) := by
  intro pins s σ H xs us Q I r h
  obtain ⟨x, rfl, h⟩ := h
  rcases h with ⟨d, hd, hk, q⟩ | ⟨a, dx, fs, rfl, ha, q⟩
  · exact call_isi pins s σ H _ _ Q I r ⟨x, .ref C, .type (tyN d), .ref C, false, rfl, .own C, tyD hd, hk, q⟩
  · exact C8.call_isC c pins s σ H _ _ Q I r ⟨a, dx, fs, rfl, ha, q⟩
/-- isinstance(x, t), t built-in: data, or an instance of C -/
theorem call_isDT {t : String} (c : C8.InsC X.K C) (kf : PySem.W.kitOne X.K (.ref C) (.type t) = some false) : CallR X (.builtin "isinstance") (fun xs H Q => ∃ x, xs = [x, .ty t] ∧ ((∃ d b, Dp X.K H x d ∧ kitB (tyN d) t = some b ∧ Q (.bl b) H) ∨ ∃ a dx fs, x = .ref a ∧ H a = some (.ins C dx fs) ∧ Q (.bl false) H)) := by
  intro pins s σ H xs us Q I r h
  obtain ⟨x, rfl, h⟩ := h
  rcases h with ⟨d, b, hd, hk, q⟩ | ⟨a, dx, fs, rfl, ha, q⟩
  · exact call_isi pins s σ H _ _ Q I r ⟨x, .ty t, .type (tyN d), .type t, b, rfl, .ty t, tyD hd, kit_ty hk, q⟩
  · obtain ⟨u, w', rfl, ru, rw'⟩ := vals2 r
    cases rw'
    exact isinst_ok I ru (TyOf.ins ha c.cl c.ha c.hn c.htk c.hm) kf fun tk => ⟨.bl false, H, I.tok _, rfl, q⟩
end
end L2.Lr

set_option maxHeartbeats 1000000
/-! pieces of texts and of lists; texts of low signs -/
namespace L2.Tx
open PySem PySem.Spec PyProof.Rows NumText L2 TL
theorem len_app (x y : Str) : (x ++ y).length = x.length + y.length := by
  rw [len_tl, len_tl, len_tl, tl_append, List.length_append]
theorem empty_app (x : Str) : Str.empty ++ x = x := tl_inj (by rw [tl_append]; rfl)
theorem app_empty (x : Str) : x ++ Str.empty = x := tl_inj (by rw [tl_append]; exact List.append_nil _)
theorem app_assoc (x y z : Str) : x ++ y ++ z = x ++ (y ++ z) := tl_inj (by rw [tl_append, tl_append, tl_append, tl_append, List.append_assoc])
theorem tl_cut (t : Str) (lo hi : Option Int) : tl (cutS t lo hi) = ((tl t).drop (HT.sIx t.length 0 lo)).take (HT.sIx t.length t.length hi - HT.sIx t.length 0 lo) := rfl
theorem tl_from (t : Str) (k : Nat) : tl (cutS t (some (k : Int)) none) = (tl t).drop k := by
  rw [tl_cut, HT.sIx_nat, HT.sIx_none, len_tl]
  by_cases h : k ≤ (tl t).length
  · rw [Nat.min_eq_left h, List.take_of_length_le (by rw [List.length_drop]; omega)]
  · rw [Nat.min_eq_right (by omega), List.drop_of_length_le (l := tl t) (Nat.le_refl _), List.drop_of_length_le (l := tl t) (i := k) (by omega)]
    simp
theorem tl_to (t : Str) (k : Nat) : tl (cutS t none (some (k : Int))) = (tl t).take k := by
  rw [tl_cut, HT.sIx_nat, HT.sIx_none, len_tl, List.drop_zero, Nat.sub_zero]
  by_cases h : k ≤ (tl t).length
  · rw [Nat.min_eq_left h]
  · rw [Nat.min_eq_right (by omega), List.take_length, List.take_of_length_le (by omega)]
theorem cut_le (t : Str) (lo hi : Option Int) : (cutS t lo hi).length ≤ t.length := cutS_length t lo hi
/-- signs below 256 -/
def Low (t : Str) : Prop := ∀ c ∈ tl t, c < 256
theorem Low.app {x y : Str} (h : Low x) (g : Low y) : Low (x ++ y) := fun c hc => by
  rw [tl_append] at hc
  exact (List.mem_append.mp hc).elim (h c) (g c)
theorem Low.cut {t : Str} (h : Low t) (lo hi : Option Int) : Low (cutS t lo hi) := fun c hc => h c (List.mem_of_mem_drop (List.mem_of_mem_take (by rw [tl_cut] at hc; exact hc)))
theorem low_num (n : Nat) : ∀ c ∈ numL n, c < 256 := fun c hc => by
  have := numL_digits n c hc
  omega
theorem low_int (a : Int) : Low (intT a) := fun c hc => by
  rw [tl_int] at hc
  unfold sgnL at hc
  split at hc
  · rcases List.mem_cons.mp hc with rfl | hc
    · decide
    · exact low_num _ c hc
  · exact low_num _ c hc
theorem low_plus (a : Int) : Low (plusT a) := fun c hc => by
  rw [tl_plus] at hc
  unfold plusL at hc
  rcases List.mem_cons.mp hc with rfl | hc
  · split <;> decide
  · exact low_num _ c hc
theorem low_empty : Low Str.empty := fun c hc => by cases hc
theorem low_of {t : Str} (h : (tl t).all (fun c => decide (c < 256)) = true) : Low t := fun c hc => of_decide_eq_true (List.all_eq_true.mp h c hc)
theorem Low.small {t : Str} (h : Low t) : ∀ c ∈ t.cps.toList, c < 1114112 := fun c hc => Nat.lt_trans (h c hc) (by decide)
end L2.Tx

set_option maxHeartbeats 1000000
namespace L2.Tx
open PySem TL
/-! ### isascii, isalpha, islower: small letters -/
def lettersL : List Nat := ("abcdefghijklmnopqrstuvwxyz" : Str).cps.toList
theorem low_signs : ((List.range 128).all fun c => (decide (c ∈ lettersL) == (Unicode.isAlpha c && !(Unicode.isUpper c || Unicode.isTitle c))) && (!decide (c ∈ lettersL) || Unicode.isLower c)) = true := by decide +kernel
theorem low_sign {c : Nat} (h : c < 128) : decide (c ∈ lettersL) = (Unicode.isAlpha c && !(Unicode.isUpper c || Unicode.isTitle c)) ∧ (c ∈ lettersL → Unicode.isLower c = true) := by
  have z := List.all_eq_true.mp low_signs c (List.mem_range.mpr h)
  obtain ⟨z1, z2⟩ := Bool.and_eq_true_iff.mp z
  refine ⟨eq_of_beq z1, fun m => ?_⟩
  rw [decide_eq_true m] at z2
  exact z2
theorem letter_low : (lettersL.all fun c => decide (c < 128)) = true := by decide +kernel
theorem all_L (t : Str) (p : Nat → Bool) : t.cps.all p = (tl t).all p := by
  rw [← Array.all_toList]
theorem any_L (t : Str) (p : Nat → Bool) : t.cps.any p = (tl t).any p := by
  rw [← Array.any_toList]
theorem word_letters {t : Str} (h1 : 1 ≤ t.length) : (PySem.Txt.isascii t && (PySem.Txt.isalpha t && PySem.Txt.islower t)) = (tl t).all fun c => decide (c ∈ lettersL) := by
  unfold PySem.Txt.isascii PySem.Txt.isalpha PySem.Txt.islower
  rw [all_L, all_L, any_L, any_L, decide_eq_true (show t.length > 0 by omega), Bool.true_and]
  rw [len_tl] at h1
  generalize tl t = l at h1
  rw [Bool.eq_iff_iff]
  constructor
  · intro h
    obtain ⟨ha, h⟩ := Bool.and_eq_true_iff.mp h
    obtain ⟨hb, h⟩ := Bool.and_eq_true_iff.mp h
    obtain ⟨hc, hd⟩ := Bool.and_eq_true_iff.mp h
    refine List.all_eq_true.mpr fun c m => ?_
    rw [(low_sign (of_decide_eq_true (List.all_eq_true.mp ha c m))).1, List.all_eq_true.mp hb c m, Bool.true_and]
    cases hu : (Unicode.isUpper c || Unicode.isTitle c) with
    | false => rfl
    | true => rw [List.any_eq_true.mpr ⟨c, m, hu⟩] at hd; cases hd
  · intro h
    have h := List.all_eq_true.mp h
    have lo : ∀ c ∈ l, c < 128 := fun c m => of_decide_eq_true (List.all_eq_true.mp letter_low c (of_decide_eq_true (h c m)))
    have al : ∀ c ∈ l, Unicode.isAlpha c = true ∧ (Unicode.isUpper c || Unicode.isTitle c) = false := fun c m => by
      have z := (low_sign (lo c m)).1
      rw [h c m] at z
      obtain ⟨z1, z2⟩ := Bool.and_eq_true_iff.mp z.symm
      refine ⟨z1, ?_⟩
      cases hu : (Unicode.isUpper c || Unicode.isTitle c) with
      | false => rfl
      | true => rw [hu] at z2; cases z2
    refine Bool.and_eq_true_iff.mpr ⟨List.all_eq_true.mpr fun c m => decide_eq_true (lo c m), Bool.and_eq_true_iff.mpr ⟨List.all_eq_true.mpr fun c m => (al c m).1, Bool.and_eq_true_iff.mpr ⟨?_, ?_⟩⟩⟩
    · cases l with
      | nil => simp at h1
      | cons c l => exact List.any_eq_true.mpr ⟨c, List.mem_cons_self .., (low_sign (lo c (List.mem_cons_self ..))).2 (of_decide_eq_true (h c (List.mem_cons_self ..)))⟩
    · cases hu : l.any (fun c => Unicode.isUpper c || Unicode.isTitle c) with
      | false => rfl
      | true =>
        obtain ⟨c, m, z⟩ := List.any_eq_true.mp hu
        rw [(al c m).2] at z
        cases z
end L2.Tx

set_option maxHeartbeats 4000000
namespace L2.L02
open PySem PySem.Spec PyProof.Rows LR L2.Lr
local macro_rules | `(tactic| walk_at "nx") => `(tactic| dsimp only [gName, tNext, tSeq, tAsg, List.set_cons_zero, List.set_cons_succ])
def top (i : Nat) : Stmt := PySem.Challenge.pw_leastrooms_k02_rows_judged.main.body.getD i (.Pass ⟨0, 0, 0, 0⟩)
abbrev sWord : Stmt := top 10
abbrev sInt : Stmt := top 11
abbrev sBetw : Stmt := top 12
abbrev sCount : Stmt := top 15
abbrev sRound : Stmt := top 32
abbrev sHow : Stmt := top 34
abbrev sSize : Stmt := top 35
abbrev sHead : Stmt := top 36
abbrev sSing : Stmt := top 37
abbrev FnP (K : PySem.W.Frag) (x : Str) (st : Stmt) (f : Addr) (fd : FuncData) : Prop := FunD K x x (defArgs st) (defBody st) (defScope st) [] [] f fd
theorem scN : FnScope ["thing"] ["thing"] (defScope sInt) := ⟨rfl, rfl, rfl, by decide +kernel, rfl, by decide +kernel, by decide +kernel⟩
theorem scB : FnScope ["thing", "low", "high"] ["thing", "low", "high"] (defScope sBetw) := ⟨rfl, rfl, rfl, by decide +kernel, rfl, by decide +kernel, by decide +kernel⟩
theorem scC : FnScope ["thing", "a", "b"] ["thing"] (defScope sCount) := ⟨rfl, rfl, rfl, by decide +kernel, rfl, by decide +kernel, by decide +kernel⟩
theorem scR : FnScope ["part"] ["part"] (defScope sRound) := ⟨rfl, rfl, rfl, by decide +kernel, rfl, by decide +kernel, by decide +kernel⟩
theorem scH : FnScope ["part", "depth"] ["part", "depth"] (defScope sHead) := ⟨rfl, rfl, rfl, by decide +kernel, rfl, by decide +kernel, by decide +kernel⟩
theorem scG : FnScope ["part"] ["part"] (defScope sSing) := ⟨rfl, rfl, rfl, by decide +kernel, rfl, by decide +kernel, by decide +kernel⟩
theorem scW : FnScope ["parts", "depth", "many", "part"] ["parts", "depth"] (defScope sHow) := ⟨rfl, rfl, rfl, by decide +kernel, rfl, by decide +kernel, by decide +kernel⟩
theorem scZ : FnScope ["part", "depth"] ["part", "depth"] (defScope sSize) := ⟨rfl, rfl, rfl, by decide +kernel, rfl, by decide +kernel, by decide +kernel⟩
/-- a def as its callers need it -/
structure Def (P : Program) (w : World) (K : PySem.W.Frag) (mg : Str → Option Value) (base : Heap) (CX : CXT) (k : Nat) (x : Str) (f : Addr) (fd : FuncData) (ps : List Str) (sp : Sp) : Prop where
  ok : FnOk P w K mg base CX k f fd ps sp
  g : mg x = some (.ref f)
  k : PySem.W.keepIn K (.ref f) = true
  b : Binds K fd ps []
/-- the built-in names, and the constants -/
structure Prg (mg : Str → Option Value) : Prop where
  isn : mg "isinstance" = none
  len : mg "len" = none
  int : mg "int" = none
  bool : mg "bool" = none
  tuple : mg "tuple" = none
  str : mg "str" = none
  far : ∃ t, mg "LARGEST_NUMBER" = some (.int (10 ^ 30) t)
  most : ∃ t, mg "MOST_PARTS" = some (.int 60 t)
  deep : ∃ t, mg "MOST_LOOPS" = some (.int 4 t)
  once : ∃ t, mg "MOST_AT_ONCE" = some (.int 9 t)
  long : ∃ t, mg "LONGEST_WORK" = some (.int 99 t)
  norow : ∃ t, mg "NO_ROW" = some (.int 61 t)
theorem bbI : bootBuiltins "int" = some (.type "int") := by decide +kernel
theorem bbB : bootBuiltins "bool" = some (.type "bool") := by decide +kernel
theorem bbT : bootBuiltins "tuple" = some (.type "tuple") := by decide +kernel
theorem bbS : bootBuiltins "str" = some (.type "str") := by decide +kernel
theorem pe_gI {X : Cx} {x : Str} {i : Int} {t : Tok} {p : Pos} (hm : X.mg x = some (.int i t)) (hg : Gl X x := by rfl) (hd : (x == ("__debug__" : Str)) = false := by decide) : PE X (.Name x p) (tC (.int i)) := pe_glob hg hm (show RelV (.int i) (.int i t) from ⟨t, rfl⟩) hd
/-! ### what the defs are to answer, of data -/
def intD : PyData → Bool
  | .int _ => true
  | _ => false
def betw (lo hi : Int) : PyData → Bool
  | .int i => decide (lo ≤ i) && decide (i ≤ hi)
  | _ => false
def countD : PyData → Bool
  | .tuple [.int a, .int b] => (decide (0 ≤ a) && decide (a ≤ 9)) && ((decide (-(10 ^ 30) ≤ b) && decide (b ≤ 10 ^ 30)) && (decide (a > 0) || decide (b ≥ 0)))
  | _ => false
def spInt (K : PySem.W.Frag) : Sp := fun vs H Q _ => ∃ x d, vs = [x] ∧ Dp K H x d ∧ Q (.bl (intD d)) H
def spBetw (K : PySem.W.Frag) : Sp := fun vs H Q _ => ∃ x lo hi d, vs = [x, .int lo, .int hi] ∧ Dp K H x d ∧ Q (.bl (betw lo hi d)) H
def spCount (K : PySem.W.Frag) : Sp := fun vs H Q _ => ∃ x d, vs = [x] ∧ Dp K H x d ∧ Q (.bl (countD d)) H
def letters : List Nat := ("abcdefghijklmnopqrstuvwxyz" : Str).cps.toList
def wordD : PyData → Bool
  | .str x => (decide (1 ≤ x.length) && decide (x.length ≤ 8)) && x.cps.toList.all fun c => decide (c ∈ letters)
  | _ => false
def roundW (w : Str) : Bool := decide (w = "loop") || decide (w = "forever")
def headD (dep : Int) (w : Str) : List PyData → Bool
  | [_] => decide (w = "forever") && decide (dep = 0)
  | [c, _] => !decide (w = "forever") && (countD c && decide (dep < 4))
  | _ => false
def singD (w : Str) : List PyData → Bool
  | [t] => decide (w = "work") && betw 1 99 t
  | [c, k] => !decide (w = "work") && ((decide (w = "send") || decide (w = "take")) && (wordD c && betw 1 9 k))
  | _ => false
mutual
/-- its texts are not too long -/
def sOk : PyData → Prop
  | .str x => x.length ≤ sizeLine ∧ PyData.strOk x = true
  | .tuple ds => ds.length ≤ sizeLine ∧ sOkAll ds
  | .none => True
  | .bool _ => True
  | .int _ => True
  | .list _ => True
  | .dict _ => True
def sOkAll : List PyData → Prop
  | [] => True
  | d :: ds => sOk d ∧ sOkAll ds
end
theorem sOkAll.at : ∀ {ds : List PyData} {i : Nat} {d : PyData}, sOkAll ds → ds[i]? = some d → sOk d
  | [], _, _, _, e => by simp at e
  | d :: ds, 0, _, h, e => by simp at e; subst e; unfold sOkAll at h; exact h.1
  | d :: ds, i + 1, _, h, e => by unfold sOkAll at h; exact sOkAll.at (ds := ds) (i := i) h.2 (by simpa using e)
def spWord (K : PySem.W.Frag) : Sp := fun vs H Q _ => ∃ x d, vs = [x] ∧ Dp K H x d ∧ sOk d ∧ ∀ H', Same H H' → Q (.bl (wordD d)) H'
def spRound (K : PySem.W.Frag) : Sp := fun vs H Q _ => ∃ x w ds, vs = [x] ∧ Dp K H x (.tuple (.str w :: ds)) ∧ ∀ H', Same H H' → Q (.bl (roundW w)) H'
def spHead (K : PySem.W.Frag) : Sp := fun vs H Q _ => ∃ x dep w ds, vs = [x, .int dep] ∧ Dp K H x (.tuple (.str w :: ds)) ∧ Q (.bl (headD dep w ds)) H
def spSing (K : PySem.W.Frag) : Sp := fun vs H Q _ => ∃ x w ds, vs = [x] ∧ Dp K H x (.tuple (.str w :: ds)) ∧ sOkAll ds ∧ ∀ H', Same H H' → Q (.bl (singD w ds)) H'
/-- the parts one by one; 61 where they are more than 60 -/
def goL (sz : PyData → Int) : Int → List PyData → Int
  | m, [] => m
  | m, d :: ds => if 60 < m + sz d then 61 else goL sz (m + sz d) ds
def howF (sz : PyData → Int) : PyData → Int
  | .tuple ds => goL sz 0 ds
  | _ => 61
def lastD (ds : List PyData) : PyData := ds.getLast?.getD .none
/-- a part that may hold n loops more in each other -/
def sizeD : Nat → PyData → Int
  | 0, .tuple (.str w :: ds) => if roundW w then 61 else if singD w ds then 1 else 61
  | n + 1, .tuple (.str w :: ds) => if roundW w then (if headD (3 - n) w ds then 1 + howF (sizeD n) (lastD ds) else 61) else if singD w ds then 1 else 61
  | _, _ => 61
def spSize (K : PySem.W.Frag) (n : Nat) : Sp := fun vs H Q _ => ∃ x d, vs = [x, .int (4 - n)] ∧ Dp K H x d ∧ sOk d ∧ ∀ H', Same H H' → Q (.int (sizeD n d)) H'
def spHow (K : PySem.W.Frag) (n : Nat) : Sp := fun vs H Q _ => ∃ x d, vs = [x, .int (4 - n)] ∧ Dp K H x d ∧ sOk d ∧ ∀ H', Same H H' → Q (.int (howF (sizeD n) d)) H'
theorem pe_never {X : Cx} {e : Expr} : PE X e (fun _ _ _ => False) := ⟨fun _ _ _ _ _ _ h => h.elim⟩
section
variable {P : Program} {w : World} {K : PySem.W.Frag} {mg : Str → Option Value} {base : Heap}
theorem ok_int {f : Addr} {fd : FuncData} (F : FnP K "is_integer" sInt f fd) (T : Prg mg) : FnOk P w K mg base CX0 1 f fd ["thing"] (spInt K) := by
  refine F.ok scN (fun vs H Q E h => ?_) (fun cdv A outer s H vs Q E hr h => ?_)
  · obtain ⟨x, d, rfl, _⟩ := h
    rfl
  · obtain ⟨x, d, rfl, hd, q⟩ := h
    refine ⟨_, pss_one (ps_ret (pe_and (pe_isD T.isn (pv 0) (pe_bltn (by rfl) T.int bbI (by rfl)) (by rfl)) (pe_one (pe_not (pe_isD T.isn (pv 0) (pe_bltn (by rfl) T.bool bbB (by rfl)) (by rfl)))))), ?_⟩
    cases d with
    | int i => exact ⟨_, rfl, _, _, hd, (by decide +kernel : kitB "int" "int" = some true), _, rfl, iteT ⟨_, rfl, _, _, hd, (by decide +kernel : kitB "int" "bool" = some false), _, rfl, q⟩⟩
    | bool b => exact ⟨_, rfl, _, _, hd, (by decide +kernel : kitB "bool" "int" = some true), _, rfl, iteT ⟨_, rfl, _, _, hd, (by decide +kernel : kitB "bool" "bool" = some true), _, rfl, q⟩⟩
    | none => exact ⟨_, rfl, _, _, hd, (by decide +kernel : kitB "NoneType" "int" = some false), _, rfl, iteF q⟩
    | str x => exact ⟨_, rfl, _, _, hd, (by decide +kernel : kitB "str" "int" = some false), _, rfl, iteF q⟩
    | list x => exact ⟨_, rfl, _, _, hd, (by decide +kernel : kitB "list" "int" = some false), _, rfl, iteF q⟩
    | tuple x => exact ⟨_, rfl, _, _, hd, (by decide +kernel : kitB "tuple" "int" = some false), _, rfl, iteF q⟩
    | dict x => cases hd
theorem ok_betw {f fN : Addr} {fd dN : FuncData} (F : FnP K "is_between" sBetw f fd) (N : Def P w K mg base CX0 1 "is_integer" fN dN ["thing"] (spInt K)) : FnOk P w K mg base CX0 2 f fd ["thing", "low", "high"] (spBetw K) := by
  refine F.ok scB (fun vs H Q E h => ?_) (fun cdv A outer s H vs Q E hr h => ?_)
  · obtain ⟨x, lo, hi, d, rfl, _⟩ := h
    rfl
  · obtain ⟨x, lo, hi, d, rfl, hd, q⟩ := h
    refine ⟨_, pss_one (ps_ret (pe_and (pe_call N.ok hr (by rfl) N.g N.k N.b .nil pass0 (pa_cons (pv 0) pa_nil)) (pe_one (pe_chain op_le op_le (pv 1) (pv 0) (pv 2))))), ?_⟩
    have e0 : start ["thing", "low", "high"] [x, .int lo, .int hi] = [some x, some (.int lo), some (.int hi)] := rfl
    rw [e0]
    refine ⟨_, rfl, x, d, rfl, hd, _, rfl, ?_⟩
    cases hd with
    | int i =>
      refine iteT ⟨_, rfl, _, rfl, _, _, rfl, rfl, _, rfl, ite_dec (fun h => ?_) fun h => ?_⟩
      · refine ⟨_, rfl, _, _, rfl, rfl, ?_⟩
        have e : betw lo hi (.int i) = decide (i ≤ hi) := by
          show (decide (lo ≤ i) && decide (i ≤ hi)) = _
          rw [decide_eq_true h, Bool.true_and]
        rw [e] at q
        exact q
      · have e : betw lo hi (.int i) = false := by
          show (decide (lo ≤ i) && decide (i ≤ hi)) = _
          rw [decide_eq_false h, Bool.false_and]
        rw [e] at q
        exact q
    | _ => exact iteF q
theorem betw_int {lo hi : Int} {d : PyData} (h : betw lo hi d = true) : ∃ i, d = .int i ∧ lo ≤ i ∧ i ≤ hi := by
  cases d with
  | int i =>
    obtain ⟨h1, h2⟩ := Bool.and_eq_true_iff.mp (show (decide (lo ≤ i) && decide (i ≤ hi)) = true from h)
    exact ⟨i, rfl, of_decide_eq_true h1, of_decide_eq_true h2⟩
  | _ => cases h
theorem countD_two {d e : PyData} : countD (.tuple [d, e]) = (betw 0 9 d && (betw (-(10 ^ 30)) (10 ^ 30) e && (match d, e with | .int a, .int b => decide (a > 0) || decide (b ≥ 0) | _, _ => false))) := by
  cases d <;> cases e <;> first | rfl | (simp [countD, betw])
theorem ok_count {f fB : Addr} {fd dB : FuncData} (F : FnP K "is_count" sCount f fd) (T : Prg mg) (N : Def P w K mg base CX0 2 "is_between" fB dB ["thing", "low", "high"] (spBetw K)) : FnOk P w K mg base CX0 3 f fd ["thing"] (spCount K) := by
  refine F.ok scC (fun vs H Q E h => ?_) (fun cdv A outer s H vs Q E hr h => ?_)
  · obtain ⟨x, d, rfl, _⟩ := h
    rfl
  · obtain ⟨x, d, rfl, hd, q⟩ := h
    obtain ⟨tf, hfar⟩ := T.far
    refine ⟨_, pss_cons (ps_if (PW.pt (pw_or (pt_not (pt_val (pe_isD T.isn (pv 0) (pe_bltn (by rfl) T.tuple bbT (by rfl)) (by rfl)))) (pw_or1 (pt_cmpR op_ne (pe_callB call_len_seq (by rfl) T.len boot_len (pa_cons (pv 0) pa_nil)) pe_int (nomark _))))) (pss_one (ps_ret pe_bl)) pss_nil)
      (pss_cons (ps_asg (pv 0) (pg_tup rfl (pgs_cons (pg_name (i := 1) scC.nd rfl (Or.inl rfl)) (pgs_cons (pg_name (i := 2) scC.nd rfl (Or.inl rfl)) pgs_nil))))
      (pss_cons (ps_if (PW.pt (pw_or (pt_not (pt_val (pe_call N.ok hr (by rfl) N.g N.k N.b .nil pass0 (pa_cons (pv 1) (pa_cons pe_int (pa_cons pe_int pa_nil))))))
          (pw_or1 (pt_not (pt_val (pe_call N.ok hr (by rfl) N.g N.k N.b .nil pass0 (pa_cons (pv 2) (pa_cons (pe_un un_neg (pe_gI hfar (by rfl))) (pa_cons (pe_gI hfar (by rfl)) pa_nil))))))))) (pss_one (ps_ret pe_bl)) pss_nil)
      (pss_one (ps_ret (pe_or (pe_cmpR op_gt (pv 1) pe_int (nomark _)) (pe_one (pe_cmpR op_ge (pv 2) pe_int (nomark _)))))))), ?_⟩
    have e0 : start ["thing", "a", "b"] [x] = [some x, none, none] := rfl
    rw [e0]
    have qf : countD d = false → Q (.bl false) H := fun e => by rw [e] at q; exact q
    refine go_seq ?_
    cases hd with
    | non => exact ⟨_, rfl, _, _, .non, (by decide +kernel : kitB "NoneType" "tuple" = some false), _, rfl, iteT (iteT (qf rfl))⟩
    | bl b => exact ⟨_, rfl, _, _, .bl b, (by decide +kernel : kitB "bool" "tuple" = some false), _, rfl, iteT (iteT (qf rfl))⟩
    | int i => exact ⟨_, rfl, _, _, .int i, (by decide +kernel : kitB "int" "tuple" = some false), _, rfl, iteT (iteT (qf rfl))⟩
    | str i => exact ⟨_, rfl, _, _, .str i, (by decide +kernel : kitB "str" "tuple" = some false), _, rfl, iteT (iteT (qf rfl))⟩
    | lst hS ha => exact ⟨_, rfl, _, _, .lst hS ha, (by decide +kernel : kitB "list" "tuple" = some false), _, rfl, iteT (iteT (qf rfl))⟩
    | @tup t xs ds hS ha =>
      refine ⟨_, rfl, _, _, .tup hS ha, (by decide +kernel : kitB "tuple" "tuple" = some true), _, rfl, iteF ⟨_, rfl, t, xs, rfl, .inr hS, rfl, _, rfl, ?_⟩⟩
      have short : ∀ {A B : Prop}, xs.length ≠ 2 → (countD (.tuple ds) = false → A) → countD (.tuple ds) = false → (if (!decide (V.int (xs.length : Int) = V.int 2)) = true then A else B) := fun n h e => by
        rw [decide_eq_false (fun z => n (by have z1 := V.int.inj z; omega))]
        exact iteT (h e)
      cases ha with
      | nil => exact short (fun z => by cases z) (fun e => qf e) rfl
      | @cons v1 vs d1 ds1 h1 ha1 =>
        cases ha1 with
        | nil => exact short (fun z => by cases z) (fun e => qf e) (by cases h1 <;> rfl)
        | @cons v2 vs2 d2 ds2 h2 ha2 =>
          cases ha2 with
          | cons h3 ha3 => exact short (by simp only [List.length_cons]; omega) (fun e => qf e) (by cases h1 <;> first | rfl | (cases h2 <;> rfl))
          | nil =>
            refine iteNS rfl ?_
            walk_at "nx"
            refine ⟨_, rfl, t, _, rfl, hS, rfl, v1, _, rfl, v2, _, rfl, rfl, ?_⟩
            refine ⟨_, rfl, v1, 0, 9, d1, rfl, h1, _, rfl, ?_⟩
            have q' := q
            rw [countD_two] at q'
            cases b1 : betw 0 9 d1 with
            | false =>
              rw [b1] at q'
              exact q'
            | true =>
              rw [b1, Bool.true_and] at q'
              refine iteF ⟨_, rfl, _, rfl, v2, -(10 ^ 30), 10 ^ 30, d2, rfl, h2, _, rfl, ?_⟩
              cases b2 : betw (-(10 ^ 30)) (10 ^ 30) d2 with
              | false =>
                rw [b2] at q'
                exact q'
              | true =>
                rw [b2, Bool.true_and] at q'
                obtain ⟨i, rfl, _, _⟩ := betw_int b1
                obtain ⟨j, rfl, _, _⟩ := betw_int b2
                cases h1
                cases h2
                walk_at "nx"
                refine ⟨_, rfl, _, _, rfl, rfl, _, rfl, ite_dec (fun g => ?_) fun g => ⟨_, rfl, _, _, rfl, rfl, ?_⟩⟩
                · dsimp only at q'
                  rw [decide_eq_true g, Bool.true_or] at q'
                  exact q'
                · dsimp only at q'
                  rw [decide_eq_false g, Bool.false_or] at q'
                  exact q'
theorem tupD {H : Hp} {x : V} {d : PyData} {ds : List PyData} (h : Dp K H x (.tuple (d :: ds))) : ∃ t v vs, x = .ref t ∧ SqT K H t (v :: vs) ∧ Dp K H v d ∧ DpAll K H vs ds := by
  cases h with
  | tup hS ha =>
    cases ha with
    | cons h1 h2 => exact ⟨_, _, _, rfl, hS, h1, h2⟩
theorem at0 {v : V} {vs : List V} : atI (v :: vs) 0 = some v := atI_nat (j := 0) rfl
theorem at1 {v u : V} {vs : List V} : atI (v :: u :: vs) 1 = some u := atI_nat (j := 1) rfl
theorem at2 {v u y : V} {vs : List V} : atI (v :: u :: y :: vs) 2 = some y := atI_nat (j := 2) rfl
theorem len_if {m : Nat} {n : Int} {A B : Prop} (h1 : (m : Int) = n → A) (h2 : (m : Int) ≠ n → B) : if decide (V.int (m : Int) = V.int n) = true then A else B :=
  ite_dec (fun h => h1 (V.int.inj h)) fun h => h2 fun z => h (by rw [z])
theorem len_ne {m : Nat} {n : Int} {A B : Prop} (h1 : (m : Int) ≠ n → A) (h2 : (m : Int) = n → B) : if (!decide (V.int (m : Int) = V.int n)) = true then A else B := by
  by_cases h : (m : Int) = n
  · rw [decide_eq_true (by rw [h])]
    exact iteF (h2 h)
  · rw [decide_eq_false fun z => h (V.int.inj z)]
    exact iteT (h1 h)
theorem dec_vint {i j : Int} : decide (V.int i = V.int j) = decide (i = j) := by
  by_cases h : i = j
  · rw [decide_eq_true h, decide_eq_true (by rw [h])]
  · rw [decide_eq_false h, decide_eq_false fun z => h (V.int.inj z)]
theorem strD {H : Hp} {x : V} {w : Str} (h : Dp K H x (.str w)) : x = .str w := by cases h; rfl
theorem ok_round {f : Addr} {fd : FuncData} (F : FnP K "is_round" sRound f fd) : FnOk P w K mg base CX0 1 f fd ["part"] (spRound K) := by
  refine F.ok scR (fun vs H Q E h => ?_) (fun cdv A outer s H vs Q E hr h => ?_)
  · obtain ⟨x, w, ds, rfl, _⟩ := h
    rfl
  · obtain ⟨x, w, ds, rfl, hd, q⟩ := h
    obtain ⟨t, v, vs, rfl, hS, h1, h2⟩ := tupD hd
    cases strD h1
    refine ⟨_, pss_one (ps_ret (pe_cmpR op_in_seq (pe_ix ix_tup (pv 0) pe_int (fun _ _ => rfl)) (pe_tup (pa_cons pe_str (pa_cons pe_str pa_nil))) (by rfl))), ?_⟩
    have e0 : start ["part"] [V.ref t] = [some (.ref t)] := rfl
    rw [e0]
    refine ⟨_, rfl, t, _, 0, .str w, rfl, rfl, hS, at0, by show 2 ≤ sizeLine; decide, fun p np => ?_⟩
    refine ⟨p, _, rfl, .inr (SqT.of upd_same), rfl, rfl, ?_⟩
    have z := q _ (same_upd (o := .tup [.str "loop", .str "forever"]) np)
    have e : inV (V.str w) [V.str "loop", V.str "forever"] = roundW w := by
      have c : ∀ y : Str, ((y : Str) == w) = decide (w = y) := fun y => by
        by_cases h : w = y
        · subst h; simp
        · have h' : ¬ y = w := fun z => h z.symm
          simp [h, h']
      show (((("loop" : Str) == w) || ((("forever" : Str) == w) || false))) = _
      rw [c, c, Bool.or_false]
      rfl
    rw [← e] at z
    exact z
theorem ok_head {f fC : Addr} {fd dC : FuncData} (F : FnP K "_is_head" sHead f fd) (T : Prg mg) (N : Def P w K mg base CX0 3 "is_count" fC dC ["thing"] (spCount K)) : FnOk P w K mg base CX0 4 f fd ["part", "depth"] (spHead K) := by
  refine F.ok scH (fun vs H Q E h => ?_) (fun cdv A outer s H vs Q E hr h => ?_)
  · obtain ⟨x, dep, w, ds, rfl, _⟩ := h
    rfl
  · obtain ⟨x, dep, w, ds, rfl, hd, q⟩ := h
    obtain ⟨t, v, vs, rfl, hS, h1, h2⟩ := tupD hd
    cases strD h1
    obtain ⟨td, hdeep⟩ := T.deep
    refine ⟨_, pss_cons (ps_if (pt_cmpR op_eq (pe_ix ix_tup (pv 0) pe_int (fun _ _ => rfl)) pe_str (nomark _)) (pss_one (ps_ret (pe_and (pe_cmpR op_eq (pe_callB call_len_seq (by rfl) T.len boot_len (pa_cons (pv 0) pa_nil)) pe_int (nomark _)) (pe_one (pe_cmpR op_eq (pv 1) pe_int (nomark _)))))) pss_nil)
      (pss_one (ps_ret (pe_and (pe_cmpR op_eq (pe_callB call_len_seq (by rfl) T.len boot_len (pa_cons (pv 0) pa_nil)) pe_int (nomark _)) (pe_and (pe_call N.ok hr (by rfl) N.g N.k N.b .nil pass0 (pa_cons (pe_ix ix_tup (pv 0) pe_int (fun _ _ => rfl)) pa_nil)) (pe_one (pe_cmpR op_lt (pv 1) (pe_gI hdeep (by rfl)) (nomark _))))))), ?_⟩
    have e0 : start ["part", "depth"] [V.ref t, .int dep] = [some (.ref t), some (.int dep)] := rfl
    rw [e0]
    have hq : ∀ b, headD dep w ds = b → Q (.bl b) H := fun b e => by rw [e] at q; exact q
    refine go_seq ?_
    refine ⟨_, rfl, t, _, 0, .str w, rfl, rfl, hS, at0, rfl, _, rfl, ite_dec (fun hw => ?_) fun hw => ?_⟩
    · have hw := V.str.inj hw
      refine ⟨_, rfl, t, _, rfl, .inr hS, rfl, _, rfl, ?_⟩
      cases h2 with
      | nil => exact len_if (fun z => absurd z (by simp)) fun _ => hq _ rfl
      | cons g1 h3 =>
        cases h3 with
        | nil =>
          refine len_if (fun _ => ⟨_, rfl, rfl, hq _ ?_⟩) (fun z => absurd rfl z)
          show (decide (w = "forever") && decide (dep = 0)) = _
          rw [decide_eq_true hw, Bool.true_and, dec_vint]
        | cons g2 h4 =>
          refine len_if (fun z => absurd z ?_) fun _ => hq _ ?_
          · simp only [List.length_cons]; omega
          · cases h4 with
            | nil =>
              show (!decide (w = "forever") && _) = _
              rw [decide_eq_true hw]
              rfl
            | cons _ _ => rfl
    · have hw : ¬ w = "forever" := fun z => hw (by rw [z])
      refine ⟨_, rfl, t, _, rfl, .inr hS, rfl, _, rfl, ?_⟩
      cases h2 with
      | nil => exact len_if (fun z => absurd z (by simp)) fun _ => hq _ rfl
      | cons g1 h3 =>
        cases h3 with
        | nil =>
          refine len_if (fun z => absurd z (by simp)) fun _ => hq _ ?_
          show (decide (w = "forever") && _) = _
          rw [decide_eq_false hw]
          rfl
        | cons g2 h4 =>
          cases h4 with
          | cons _ _ => exact len_if (fun z => absurd z (by simp only [List.length_cons]; omega)) fun _ => hq _ rfl
          | nil =>
            refine len_if (fun _ => ⟨_, rfl, t, _, 1, _, rfl, rfl, hS, at1, _, _, rfl, g1, _, rfl, ?_⟩) (fun z => absurd rfl z)
            have e : ∀ c k, headD dep w [c, k] = (countD c && decide (dep < 4)) := fun c k => by
              show (!decide (w = "forever") && _) = _
              rw [decide_eq_false hw, Bool.not_false, Bool.true_and]
            simp only [e] at hq
            refine ite2 (fun h => ⟨_, rfl, _, _, rfl, rfl, hq _ ?_⟩) fun h => hq _ ?_
            · rw [h, Bool.true_and]
            · rw [Bool.not_eq_true _ |>.mp h, Bool.false_and]
theorem ok_sing {f fB fW : Addr} {fd dB dW : FuncData} (F : FnP K "_is_single" sSing f fd) (T : Prg mg) (N : Def P w K mg base CX0 2 "is_between" fB dB ["thing", "low", "high"] (spBetw K)) (W : Def P w K mg base CX0 1 "is_word" fW dW ["thing"] (spWord K)) : FnOk P w K mg base CX0 3 f fd ["part"] (spSing K) := by
  refine F.ok scG (fun vs H Q E h => ?_) (fun cdv A outer s H vs Q E hr h => ?_)
  · obtain ⟨x, w, ds, rfl, _⟩ := h
    rfl
  · obtain ⟨x, w, ds, rfl, hd, hso, q⟩ := h
    obtain ⟨t, v, vs, rfl, hS, h1, h2⟩ := tupD hd
    cases strD h1
    obtain ⟨tl, hlong⟩ := T.long
    obtain ⟨to, honce⟩ := T.once
    have hr1 : Room 1 _ := hr.mono (by decide)
    refine ⟨_, pss_cons (ps_if (pt_cmpR op_eq (pe_ix ix_tup (pv 0) pe_int (fun _ _ => rfl)) pe_str (nomark _)) (pss_one (ps_ret (pe_and (pe_cmpR op_eq (pe_callB call_len_seq (by rfl) T.len boot_len (pa_cons (pv 0) pa_nil)) pe_int (nomark _)) (pe_one (pe_call N.ok hr (by rfl) N.g N.k N.b .nil pass0 (pa_cons (pe_ix ix_tup (pv 0) pe_int (fun _ _ => rfl)) (pa_cons pe_int (pa_cons (pe_gI hlong (by rfl)) pa_nil)))))))) pss_nil)
      (pss_cons (ps_if (PW.pt (pw_or (pt_cmpR op_notIn_seq (pe_ix ix_tup (pv 0) pe_int (fun _ _ => rfl)) (pe_tup (pa_cons pe_str (pa_cons pe_str pa_nil))) (by rfl)) (pw_or1 (pt_cmpR op_ne (pe_callB call_len_seq (by rfl) T.len boot_len (pa_cons (pv 0) pa_nil)) pe_int (nomark _))))) (pss_one (ps_ret pe_bl)) pss_nil)
      (pss_one (ps_ret (pe_and (pe_call W.ok hr1 (by rfl) W.g W.k W.b .nil pass0 (pa_cons (pe_ix ix_tup (pv 0) pe_int (fun _ _ => rfl)) pa_nil)) (pe_one (pe_call N.ok hr (by rfl) N.g N.k N.b .nil pass0 (pa_cons (pe_ix ix_tup (pv 0) pe_int (fun _ _ => rfl)) (pa_cons pe_int (pa_cons (pe_gI honce (by rfl)) pa_nil))))))))), ?_⟩
    have e0 : start ["part"] [V.ref t] = [some (.ref t)] := rfl
    rw [e0]
    have hq : ∀ b H', Same H H' → singD w ds = b → Q (.bl b) H' := fun b H' s' e => by
      have z := q H' s'
      rw [e] at z
      exact z
    refine go_seq ?_
    refine ⟨_, rfl, t, _, 0, .str w, rfl, rfl, hS, at0, rfl, _, rfl, ite_dec (fun hw => ?_) fun hw => ?_⟩
    · have hw := V.str.inj hw
      refine ⟨_, rfl, t, _, rfl, .inr hS, rfl, _, rfl, ?_⟩
      cases h2 with
      | nil => exact len_if (fun z => absurd z (by simp)) fun _ => hq _ H (Same.refl H) rfl
      | cons g1 h3 =>
        cases h3 with
        | nil =>
          refine len_if (fun _ => ⟨_, rfl, t, _, 1, _, rfl, rfl, hS, at1, _, 1, 99, _, rfl, g1, hq _ H (Same.refl H) ?_⟩) (fun z => absurd rfl z)
          show (decide (w = "work") && _) = _
          rw [decide_eq_true hw, Bool.true_and]
        | cons g2 h4 =>
          refine len_if (fun z => absurd z ?_) fun _ => hq _ H (Same.refl H) ?_
          · simp only [List.length_cons]; omega
          · cases h4 with
            | nil =>
              show (!decide (w = "work") && _) = _
              rw [decide_eq_true hw]
              rfl
            | cons _ _ => rfl
    · have hw : ¬ w = "work" := fun z => hw (by rw [z])
      walk_at "nx"
      refine ⟨_, rfl, t, _, 0, .str w, rfl, rfl, hS, at0, by show 2 ≤ sizeLine; decide, fun p np => ?_⟩
      have sp := same_upd (o := .tup [.str "send", .str "take"]) np
      refine ⟨p, _, rfl, .inr (SqT.of upd_same), rfl, rfl, _, rfl, ?_⟩
      have e : inV (V.str w) [V.str "send", V.str "take"] = (decide (w = "send") || decide (w = "take")) := by
        have c : ∀ y : Str, ((y : Str) == w) = decide (w = y) := fun y => by
          by_cases h : w = y
          · subst h; simp
          · have h' : ¬ y = w := fun z => h z.symm
            simp [h, h']
        show (((("send" : Str) == w) || ((("take" : Str) == w) || false))) = _
        rw [c, c, Bool.or_false]
      have e2 : ∀ c k, singD w [c, k] = ((decide (w = "send") || decide (w = "take")) && (wordD c && betw 1 9 k)) := fun c k => by
        show (!decide (w = "work") && _) = _
        rw [decide_eq_false hw, Bool.not_false, Bool.true_and]
      have e3 : ∀ c, singD w [c] = false := fun c => by
        show (decide (w = "work") && _) = _
        rw [decide_eq_false hw]
        rfl
      rw [if_pos rfl, e]
      have no : (singD w ds = false) → Q (.bl false) (upd H p (.tup [.str "send", .str "take"])) := fun z => hq _ _ sp z
      cases hst : (decide (w = "send") || decide (w = "take")) with
      | false =>
        simp only [hst, Bool.false_and] at e2
        refine no ?_
        cases h2 with
        | nil => rfl
        | cons g1 h3 =>
          cases h3 with
          | nil => exact e3 _
          | cons g2 h4 =>
            cases h4 with
            | nil => exact e2 _ _
            | cons _ _ => rfl
      | true =>
        simp only [hst, Bool.true_and] at e2
        refine ⟨_, rfl, t, _, rfl, .inr (seqT sp hS), rfl, _, rfl, ?_⟩
        cases h2 with
        | nil => exact len_ne (fun _ => no rfl) fun z => absurd z (by simp)
        | cons g1 h3 =>
          cases h3 with
          | nil => exact len_ne (fun _ => no (e3 _)) fun z => absurd z (by simp)
          | cons g2 h4 =>
            cases h4 with
            | cons _ _ => exact len_ne (fun _ => no rfl) fun z => absurd z (by simp only [List.length_cons]; omega)
            | nil =>
              refine len_ne (fun z => absurd rfl z) fun _ => ?_
              walk_at "nx"
              refine ⟨_, rfl, t, _, 1, _, rfl, rfl, seqT sp hS, at1, _, _, rfl, Dp.same sp g1, sOkAll.at (i := 0) hso rfl, fun H2 s2 => ⟨_, rfl, ite2 (fun h => ?_) fun h => hq _ H2 (sp.trans s2) ?_⟩⟩
              · refine ⟨_, rfl, t, _, 2, _, rfl, rfl, seqT (sp.trans s2) hS, at2, _, 1, 9, _, rfl, Dp.same (sp.trans s2) g2, hq _ H2 (sp.trans s2) ?_⟩
                rw [e2, h, Bool.true_and]
              · rw [e2, Bool.not_eq_true _ |>.mp h, Bool.false_and]
theorem ok_how {n : Nat} {f fS : Addr} {fd dS : FuncData} (F : FnP K "_how_many" sHow f fd) (T : Prg mg) {k : Nat} (N : Def P w K mg base CX0 k "_size_of" fS dS ["part", "depth"] (spSize K n)) : FnOk P w K mg base CX0 (k + 1) f fd ["parts", "depth"] (spHow K n) := by
  refine F.ok scW (fun vs H Q E h => ?_) (fun cdv A outer s H vs Q E hr h => ?_)
  · obtain ⟨x, d, rfl, _⟩ := h
    rfl
  · obtain ⟨x, d, rfl, hd, hso, q⟩ := h
    obtain ⟨tm, hmost⟩ := T.most
    obtain ⟨tn, hno⟩ := T.norow
    refine ⟨_, PSs.nox (pss_cons (ps_if (pt_not (pt_val (pe_isD T.isn (pv 0) (pe_bltn (by rfl) T.tuple bbT (by rfl)) (by rfl)))) (pss_one (ps_ret (pe_gI hno (by rfl)))) pss_nil)
      (pss_cons (ps_set (i := 2) scW.nd rfl (Or.inl rfl) pe_int)
      (pss_cons (ps_for PassesOwn.never rfl (pi_tup (pv 0)) (pg_name (i := 3) scW.nd rfl (Or.inl rfl))
        (pss_cons (ps_set (i := 2) scW.nd rfl (Or.inl rfl) (pe_op op_add (pv 2) (pe_call N.ok hr (by rfl) N.g N.k N.b .nil pass0 (pa_cons (pv 3) (pa_cons (pv 1) pa_nil)))))
        (pss_one (ps_if (pt_cmpR op_gt (pv 2) (pe_gI hmost (by rfl)) (nomark _)) (pss_one (ps_ret (pe_gI hno (by rfl)))) pss_nil))))
      (pss_one (ps_ret (pv 2)))))), ?_⟩
    have e0 : start ["parts", "depth", "many", "part"] [x, .int (4 - n)] = [some x, some (.int (4 - n)), none, none] := rfl
    rw [e0]
    have qf : howF (sizeD n) d = 61 → Q (.int 61) H := fun e => by
      have z := q H (Same.refl H)
      rw [e] at z
      exact z
    refine go_seq ?_
    cases hd with
    | non => exact ⟨_, rfl, _, _, .non, (by decide +kernel : kitB "NoneType" "tuple" = some false), _, rfl, iteT (qf rfl)⟩
    | bl b => exact ⟨_, rfl, _, _, .bl b, (by decide +kernel : kitB "bool" "tuple" = some false), _, rfl, iteT (qf rfl)⟩
    | int i => exact ⟨_, rfl, _, _, .int i, (by decide +kernel : kitB "int" "tuple" = some false), _, rfl, iteT (qf rfl)⟩
    | str i => exact ⟨_, rfl, _, _, .str i, (by decide +kernel : kitB "str" "tuple" = some false), _, rfl, iteT (qf rfl)⟩
    | lst hS ha => exact ⟨_, rfl, _, _, .lst hS ha, (by decide +kernel : kitB "list" "tuple" = some false), _, rfl, iteT (qf rfl)⟩
    | @tup t xs ds hS ha =>
      refine ⟨_, rfl, _, _, .tup hS ha, (by decide +kernel : kitB "tuple" "tuple" = some true), _, rfl, ?_⟩
      walk_at "nx"
      refine iteF ?_
      refine ⟨_, rfl, t, rfl, ⟨_, hS⟩, for_tupD (K := K) (a := t) (xs := xs) (fun i σ H' => Same H H' ∧ ∃ m o, σ = [some (.ref t), some (.int (4 - n)), some (.int m), o] ∧ goL (sizeD n) m (ds.drop i) = goL (sizeD n) 0 ds)
        ⟨Same.refl H, _, _, rfl, rfl⟩ (fun i σ H' _ q => seqT q.1 hS) ?_ ?_⟩
      · rintro D' i v σ H2 hrt hnx - - hi ⟨s2, m, o, rfl, eg⟩
        obtain ⟨dv, hdi, hdv⟩ := DpAll.at ha hi
        have edrop : ds.drop i = dv :: ds.drop (i + 1) := by
          obtain ⟨hlt, e⟩ := List.getElem?_eq_some_iff.mp hdi
          rw [← e]
          exact List.drop_eq_getElem_cons hlt
        rw [edrop] at eg
        walk_at "nx"
        refine ⟨_, rfl, _, rfl, _, rfl, v, dv, rfl, Dp.same s2 hdv, sOkAll.at (by unfold sOk at hso; exact hso.2) hdi, fun H3 s3 => ⟨_, _, rfl, rfl, ?_⟩⟩
        have s0 := s2.trans s3
        refine ⟨_, rfl, _, _, rfl, rfl, _, rfl, ite_dec (fun g => ?_) fun g => hnx _ _ ⟨s0, _, _, rfl, ?_⟩⟩
        · have e : goL (sizeD n) m (dv :: ds.drop (i + 1)) = 61 := if_pos g
          show D'.rt (.int 61) H3
          rw [hrt]
          have z := q H3 s0
          rw [show howF (sizeD n) (.tuple ds) = 61 from eg.symm.trans e] at z
          exact z
        · rw [← eg]
          exact (if_neg g).symm
      · rintro σ H2 ⟨s2, m, o, rfl, eg⟩
        have len : ds.drop xs.length = [] := by
          rw [DpAll.length ha]
          exact List.drop_length
        rw [len] at eg
        have z := q H2 s2
        rw [show howF (sizeD n) (.tuple ds) = m from eg.symm] at z
        exact ⟨_, rfl, z⟩
theorem head4 {w : Str} {ds : List PyData} : headD (4 - ((0 : Nat) : Int)) w ds = false := by
  match ds with
  | [] => rfl
  | [d] => show (decide (w = "forever") && decide ((4 : Int) - ((0 : Nat) : Int) = 0)) = false; rw [decide_eq_false (p := (4 : Int) - ((0 : Nat) : Int) = 0) (by omega), Bool.and_false]
  | [c, d] => show (!decide (w = "forever") && (countD c && decide ((4 : Int) - ((0 : Nat) : Int) < 4))) = false; rw [decide_eq_false (p := (4 : Int) - ((0 : Nat) : Int) < 4) (by omega), Bool.and_false, Bool.and_false]
  | _ :: _ :: _ :: _ => rfl
theorem head_ne {dep : Int} {w : Str} {ds : List PyData} (h : headD dep w ds = true) : ds ≠ [] := fun z => by
  subst z
  cases h
theorem last_of {H : Hp} {v : V} {vs : List V} {ds : List PyData} (h : DpAll K H vs ds) (n : ds ≠ []) : ∃ u, atI (v :: vs) (-1) = some u ∧ Dp K H u (lastD ds) := by
  have hl := DpAll.length h
  have nv : vs ≠ [] := fun z => n (by rw [z] at hl; exact List.length_eq_zero_iff.mp hl.symm)
  have e := List.dropLast_concat_getLast nv
  have hlast : vs[vs.length - 1]? = some (vs.getLast nv) := by rw [← List.getLast?_eq_getElem?, List.getLast?_eq_some_getLast nv]
  obtain ⟨d, hd, hu⟩ := DpAll.at h hlast
  refine ⟨vs.getLast nv, ?_, ?_⟩
  · have z := atI_last (v :: vs.dropLast) (vs.getLast nv)
    rw [List.cons_append, e] at z
    exact z
  · have : lastD ds = d := by
      unfold lastD
      rw [List.getLast?_eq_getElem?, ← hl, hd]
      rfl
    rw [this]
    exact hu
theorem last_ok {ds : List PyData} (h : sOkAll ds) (n : ds ≠ []) : sOk (lastD ds) := by
  have e : ds[ds.length - 1]? = some (lastD ds) := by
    unfold lastD
    rw [← List.getLast?_eq_getElem?]
    cases hl : ds.getLast? with
    | none => exact absurd (List.getLast?_eq_none_iff.mp hl) n
    | some d => rfl
  exact sOkAll.at h e
theorem ok_size0 {f fR fH fG : Addr} {fd dR dH dG : FuncData} (F : FnP K "_size_of" sSize f fd) (T : Prg mg) {k : Nat} (h4 : 4 ≤ k) (R : Def P w K mg base CX0 1 "is_round" fR dR ["part"] (spRound K)) (Hd : Def P w K mg base CX0 4 "_is_head" fH dH ["part", "depth"] (spHead K)) (G : Def P w K mg base CX0 3 "_is_single" fG dG ["part"] (spSing K)) : FnOk P w K mg base CX0 (k + 1) f fd ["part", "depth"] (spSize K 0) := by
  refine F.ok scZ (fun vs H Q E h => ?_) (fun cdv A outer s H vs Q E hr h => ?_)
  · obtain ⟨x, d, rfl, _⟩ := h
    rfl
  · obtain ⟨x, d, rfl, hd, hso, q⟩ := h
    obtain ⟨tn, hno⟩ := T.norow
    have hr1 : Room 1 _ := hr.mono (by omega)
    have hr3 : Room 3 _ := hr.mono (by omega)
    have hr4 : Room 4 _ := hr.mono h4
    refine ⟨_, pss_cons (ps_if (PW.pt (pw_or (pt_not (pt_val (pe_isD T.isn (pv 0) (pe_bltn (by rfl) T.tuple bbT (by rfl)) (by rfl)))) (pw_or (pt_not (pt_truth (pv 0) (fun _ => rfl))) (pw_or1 (pt_not (pt_val (pe_isD T.isn (pe_ix ix_tup (pv 0) pe_int (fun _ _ => rfl)) (pe_bltn (by rfl) T.str bbS (by rfl)) (by rfl)))))))) (pss_one (ps_ret (pe_gI hno (by rfl)))) pss_nil)
      (pss_cons (ps_if (pt_val (pe_call R.ok hr1 (by rfl) R.g R.k R.b .nil pass0 (pa_cons (pv 0) pa_nil))) (pss_one (ps_ret (pe_ifExp (pt_val (pe_call Hd.ok hr4 (by rfl) Hd.g Hd.k Hd.b .nil pass0 (pa_cons (pv 0) (pa_cons (pv 1) pa_nil)))) (pe_op op_add pe_int pe_never) (pe_gI hno (by rfl))))) pss_nil)
      (pss_one (ps_ret (pe_ifExp (pt_val (pe_call G.ok hr3 (by rfl) G.g G.k G.b .nil pass0 (pa_cons (pv 0) pa_nil))) pe_int (pe_gI hno (by rfl)))))), ?_⟩
    have e0 : start ["part", "depth"] [x, .int (4 - ((0 : Nat) : Int))] = [some x, some (.int (4 - ((0 : Nat) : Int)))] := rfl
    rw [e0]
    have qf : ∀ H', Same H H' → sizeD (0) d = 61 → Q (.int 61) H' := fun H' s' e => by
      have z := q H' s'
      rw [e] at z
      exact z
    refine go_seq ?_
    cases hd with
    | non => exact ⟨_, rfl, _, _, .non, (by decide +kernel : kitB "NoneType" "tuple" = some false), _, rfl, iteT (iteT (qf H (Same.refl H) rfl))⟩
    | bl b => exact ⟨_, rfl, _, _, .bl b, (by decide +kernel : kitB "bool" "tuple" = some false), _, rfl, iteT (iteT (qf H (Same.refl H) rfl))⟩
    | int i => exact ⟨_, rfl, _, _, .int i, (by decide +kernel : kitB "int" "tuple" = some false), _, rfl, iteT (iteT (qf H (Same.refl H) rfl))⟩
    | str i => exact ⟨_, rfl, _, _, .str i, (by decide +kernel : kitB "str" "tuple" = some false), _, rfl, iteT (iteT (qf H (Same.refl H) rfl))⟩
    | lst hS ha => exact ⟨_, rfl, _, _, .lst hS ha, (by decide +kernel : kitB "list" "tuple" = some false), _, rfl, iteT (iteT (qf H (Same.refl H) rfl))⟩
    | @tup t xs ds hS ha =>
      refine ⟨_, rfl, _, _, .tup hS ha, (by decide +kernel : kitB "tuple" "tuple" = some true), _, rfl, iteF ⟨_, rfl, _, .inr (.inl ⟨xs, hS, rfl⟩), ?_⟩⟩
      have hd : Dp K H (.ref t) (.tuple ds) := .tup hS ha
      cases ha with
      | nil => exact iteT (qf H (Same.refl H) rfl)
      | @cons v vs d1 rest h1 h2 =>
        refine iteF ⟨_, rfl, t, _, 0, v, rfl, rfl, hS, at0, ?_⟩
        cases h1 with
        | non => exact ⟨_, _, .non, (by decide +kernel : kitB "NoneType" "str" = some false), _, rfl, qf H (Same.refl H) rfl⟩
        | bl b => exact ⟨_, _, .bl b, (by decide +kernel : kitB "bool" "str" = some false), _, rfl, qf H (Same.refl H) rfl⟩
        | int i => exact ⟨_, _, .int i, (by decide +kernel : kitB "int" "str" = some false), _, rfl, qf H (Same.refl H) rfl⟩
        | lst hS2 ha2 => exact ⟨_, _, .lst hS2 ha2, (by decide +kernel : kitB "list" "str" = some false), _, rfl, qf H (Same.refl H) rfl⟩
        | tup hS2 ha2 => exact ⟨_, _, .tup hS2 ha2, (by decide +kernel : kitB "tuple" "str" = some false), _, rfl, qf H (Same.refl H) rfl⟩
        | str w =>
          have hsr : sOkAll rest := by unfold sOk sOkAll at hso; exact hso.2.2
          refine ⟨_, _, .str w, (by decide +kernel : kitB "str" "str" = some true), _, rfl, ?_⟩
          walk_at "nx"
          refine ⟨_, rfl, _, w, rest, rfl, hd, fun H1 s1 => ⟨_, rfl, ?_⟩⟩
          cases hw : roundW w with
          | false =>
            have e : sizeD (0) (.tuple (.str w :: rest)) = if singD w rest then 1 else 61 := by
              show (if roundW w then _ else _) = _
              rw [hw]
              rfl
            walk_at "nx"
            refine ⟨_, rfl, _, w, rest, rfl, Dp.same s1 hd, hsr, fun H2 s2 => ⟨_, rfl, ?_⟩⟩
            have z := q H2 (s1.trans s2)
            rw [e] at z
            cases hs : singD w rest with
            | false => rw [hs] at z; exact z
            | true => rw [hs] at z; exact z
          | true =>
            refine ⟨_, rfl, _, rfl, _, _, w, rest, rfl, Dp.same s1 hd, _, rfl, ?_⟩
            rw [show headD (4 - ((0 : Nat) : Int)) w rest = false from head4]
            refine qf H1 s1 ?_
            show (if roundW w then (61 : Int) else _) = 61
            rw [hw]
            rfl
theorem ok_sizeS {m : Nat} {f fR fH fG : Addr} {fd dR dH dG : FuncData} (F : FnP K "_size_of" sSize f fd) (T : Prg mg) {k : Nat} (h4 : 4 ≤ k) (R : Def P w K mg base CX0 1 "is_round" fR dR ["part"] (spRound K)) (Hd : Def P w K mg base CX0 4 "_is_head" fH dH ["part", "depth"] (spHead K)) (G : Def P w K mg base CX0 3 "_is_single" fG dG ["part"] (spSing K)) {fW : Addr} {dW : FuncData} (N : Def P w K mg base CX0 k "_how_many" fW dW ["parts", "depth"] (spHow K m)) : FnOk P w K mg base CX0 (k + 1) f fd ["part", "depth"] (spSize K (m + 1)) := by
  refine F.ok scZ (fun vs H Q E h => ?_) (fun cdv A outer s H vs Q E hr h => ?_)
  · obtain ⟨x, d, rfl, _⟩ := h
    rfl
  · obtain ⟨x, d, rfl, hd, hso, q⟩ := h
    obtain ⟨tn, hno⟩ := T.norow
    have hr1 : Room 1 _ := hr.mono (by omega)
    have hr3 : Room 3 _ := hr.mono (by omega)
    have hr4 : Room 4 _ := hr.mono h4
    refine ⟨_, pss_cons (ps_if (PW.pt (pw_or (pt_not (pt_val (pe_isD T.isn (pv 0) (pe_bltn (by rfl) T.tuple bbT (by rfl)) (by rfl)))) (pw_or (pt_not (pt_truth (pv 0) (fun _ => rfl))) (pw_or1 (pt_not (pt_val (pe_isD T.isn (pe_ix ix_tup (pv 0) pe_int (fun _ _ => rfl)) (pe_bltn (by rfl) T.str bbS (by rfl)) (by rfl)))))))) (pss_one (ps_ret (pe_gI hno (by rfl)))) pss_nil)
      (pss_cons (ps_if (pt_val (pe_call R.ok hr1 (by rfl) R.g R.k R.b .nil pass0 (pa_cons (pv 0) pa_nil))) (pss_one (ps_ret (pe_ifExp (pt_val (pe_call Hd.ok hr4 (by rfl) Hd.g Hd.k Hd.b .nil pass0 (pa_cons (pv 0) (pa_cons (pv 1) pa_nil)))) (pe_op op_add pe_int (pe_call N.ok hr (by rfl) N.g N.k N.b .nil pass0 (pa_cons (pe_ix ix_tup (pv 0) (pe_un un_neg pe_int) (fun _ _ => rfl)) (pa_cons (pe_op op_add (pv 1) pe_int) pa_nil)))) (pe_gI hno (by rfl))))) pss_nil)
      (pss_one (ps_ret (pe_ifExp (pt_val (pe_call G.ok hr3 (by rfl) G.g G.k G.b .nil pass0 (pa_cons (pv 0) pa_nil))) pe_int (pe_gI hno (by rfl)))))), ?_⟩
    have e0 : start ["part", "depth"] [x, .int (4 - (((m + 1) : Nat) : Int))] = [some x, some (.int (4 - (((m + 1) : Nat) : Int)))] := rfl
    rw [e0]
    have qf : ∀ H', Same H H' → sizeD ((m + 1)) d = 61 → Q (.int 61) H' := fun H' s' e => by
      have z := q H' s'
      rw [e] at z
      exact z
    refine go_seq ?_
    cases hd with
    | non => exact ⟨_, rfl, _, _, .non, (by decide +kernel : kitB "NoneType" "tuple" = some false), _, rfl, iteT (iteT (qf H (Same.refl H) rfl))⟩
    | bl b => exact ⟨_, rfl, _, _, .bl b, (by decide +kernel : kitB "bool" "tuple" = some false), _, rfl, iteT (iteT (qf H (Same.refl H) rfl))⟩
    | int i => exact ⟨_, rfl, _, _, .int i, (by decide +kernel : kitB "int" "tuple" = some false), _, rfl, iteT (iteT (qf H (Same.refl H) rfl))⟩
    | str i => exact ⟨_, rfl, _, _, .str i, (by decide +kernel : kitB "str" "tuple" = some false), _, rfl, iteT (iteT (qf H (Same.refl H) rfl))⟩
    | lst hS ha => exact ⟨_, rfl, _, _, .lst hS ha, (by decide +kernel : kitB "list" "tuple" = some false), _, rfl, iteT (iteT (qf H (Same.refl H) rfl))⟩
    | @tup t xs ds hS ha =>
      refine ⟨_, rfl, _, _, .tup hS ha, (by decide +kernel : kitB "tuple" "tuple" = some true), _, rfl, iteF ⟨_, rfl, _, .inr (.inl ⟨xs, hS, rfl⟩), ?_⟩⟩
      have hd : Dp K H (.ref t) (.tuple ds) := .tup hS ha
      cases ha with
      | nil => exact iteT (qf H (Same.refl H) rfl)
      | @cons v vs d1 rest h1 h2 =>
        refine iteF ⟨_, rfl, t, _, 0, v, rfl, rfl, hS, at0, ?_⟩
        cases h1 with
        | non => exact ⟨_, _, .non, (by decide +kernel : kitB "NoneType" "str" = some false), _, rfl, qf H (Same.refl H) rfl⟩
        | bl b => exact ⟨_, _, .bl b, (by decide +kernel : kitB "bool" "str" = some false), _, rfl, qf H (Same.refl H) rfl⟩
        | int i => exact ⟨_, _, .int i, (by decide +kernel : kitB "int" "str" = some false), _, rfl, qf H (Same.refl H) rfl⟩
        | lst hS2 ha2 => exact ⟨_, _, .lst hS2 ha2, (by decide +kernel : kitB "list" "str" = some false), _, rfl, qf H (Same.refl H) rfl⟩
        | tup hS2 ha2 => exact ⟨_, _, .tup hS2 ha2, (by decide +kernel : kitB "tuple" "str" = some false), _, rfl, qf H (Same.refl H) rfl⟩
        | str w =>
          have hsr : sOkAll rest := by unfold sOk sOkAll at hso; exact hso.2.2
          refine ⟨_, _, .str w, (by decide +kernel : kitB "str" "str" = some true), _, rfl, ?_⟩
          walk_at "nx"
          refine ⟨_, rfl, _, w, rest, rfl, hd, fun H1 s1 => ⟨_, rfl, ?_⟩⟩
          cases hw : roundW w with
          | false =>
            have e : sizeD ((m + 1)) (.tuple (.str w :: rest)) = if singD w rest then 1 else 61 := by
              show (if roundW w then _ else _) = _
              rw [hw]
              rfl
            walk_at "nx"
            refine ⟨_, rfl, _, w, rest, rfl, Dp.same s1 hd, hsr, fun H2 s2 => ⟨_, rfl, ?_⟩⟩
            have z := q H2 (s1.trans s2)
            rw [e] at z
            cases hs : singD w rest with
            | false => rw [hs] at z; exact z
            | true => rw [hs] at z; exact z
          | true =>
            refine ⟨_, rfl, _, rfl, _, _, w, rest, rfl, Dp.same s1 hd, _, rfl, ?_⟩
            have e : sizeD (m + 1) (.tuple (.str w :: rest)) = if headD (4 - ((m + 1 : Nat) : Int)) w rest then 1 + howF (sizeD m) (lastD rest) else 61 := by
              show (if roundW w then (if headD (3 - (m : Int)) w rest then 1 + howF (sizeD m) (lastD rest) else 61) else _) = _
              rw [hw, if_pos rfl, show (3 : Int) - m = 4 - ((m + 1 : Nat) : Int) by omega]
            cases hh : headD (4 - ((m + 1 : Nat) : Int)) w rest with
            | false =>
              refine qf H1 s1 ?_
              rw [e, hh]
              rfl
            | true =>
              obtain ⟨vl, hvl, hdl⟩ := last_of (v := .str w) (DpAll.same s1 h2) (head_ne hh)
              refine ⟨_, rfl, 1, rfl, t, _, -1, vl, rfl, rfl, seqT s1 hS, hvl, _, rfl, _, _, rfl, rfl, vl, lastD rest, ?_, hdl, last_ok hsr (head_ne hh), fun H2 s2 => ⟨_, _, rfl, rfl, ?_⟩⟩
              · have e9 : (4 : Int) - ((m + 1 : Nat) : Int) + 1 = 4 - m := by omega
                show [vl, V.int (4 - ((m + 1 : Nat) : Int) + 1)] = _
                rw [e9]
              · have z := q H2 (s1.trans s2)
                rw [e, hh] at z
                exact z
end
end L2.L02

set_option maxHeartbeats 4000000
namespace L2.Lr
open PySem PySem.Spec PyProof.Rows LR
theorem lc_strD {x : Str} {g : TG} {tt : TT} {te : TE} {vs : List Nat} {σ : St} {H1 : Hp} {D : Addr} {Qd : Hp → Prop} (Pv : Nat → Hp → Prop) (h0 : Pv 0 (upd H1 D (.lst [])))
    (hs : ∀ i c H, x.cps[i]? = some c → Pv i H → g (.str ⟨#[c]⟩) (wipe σ vs) H fun σ2 H2 => wipe σ2 vs = wipe σ vs ∧ tt σ2 H2 fun b H3 =>
      if b = true then te σ2 H3 fun y H4 => ∃ acc, H4 D = some (.lst acc) ∧ acc.length < sizeLine ∧ Pv (i + 1) (upd H4 D (.lst (acc ++ [y]))) else Pv (i + 1) H3) (hd : ∀ H, Pv x.cps.size H → Qd H) :
    ∃ W : Nat → Nat → Hp → Prop, (∃ m, W 0 m (upd H1 D (.lst []))) ∧ ∀ i m H, W i m H →
      ((Its x).stop i H ∧ Qd H) ∨ ((Its x).go i H ∧ ∃ Nx : Hp → Prop, (∀ H', Nx H' → ∃ m', m' < m ∧ W (i + 1) m' H') ∧ ∀ y H', (Its x).yld i H y H' → g y (wipe σ vs) H' fun σ2 H2 => wipe σ2 vs = wipe σ vs ∧ tt σ2 H2 fun b H3 =>
        if b = true then te σ2 H3 fun z H4 => ∃ acc, H4 D = some (.lst acc) ∧ acc.length < sizeLine ∧ Nx (upd H4 D (.lst (acc ++ [z]))) else Nx H3) := by
  refine ⟨fun i m H => m + i = x.cps.size ∧ Pv i H, ⟨x.cps.size, rfl, h0⟩, fun i m H ⟨e, p⟩ => ?_⟩
  by_cases hlt : i < x.cps.size
  · refine .inr ⟨hlt, Pv (i + 1), fun H' p' => ⟨m - 1, by omega, by omega, p'⟩, fun y H' ⟨eH, c, hc, ey⟩ => ?_⟩
    subst eH ey
    exact hs i c _ hc p
  · have ei : i = x.cps.size := by omega
    subst ei
    exact .inl ⟨Nat.le_refl _, hd H p⟩
end L2.Lr
namespace L2.L02
open PySem PySem.Spec PyProof.Rows LR L2.Lr
theorem scO : FnScope ["thing"] ["thing"] (defScope sWord) := ⟨rfl, rfl, rfl, by decide +kernel, rfl, by decide +kernel, by decide +kernel⟩
theorem pe_gS {X : Cx} {x : Str} {i : Str} {t : Tok} {p : Pos} (hm : X.mg x = some (.str i t)) (hg : Gl X x := by rfl) (hd : (x == ("__debug__" : Str)) = false := by decide) : PE X (.Name x p) (tC (.str i)) := pe_glob hg hm (show RelV (.str i) (.str i t) from ⟨t, rfl⟩) hd
section
variable {P : Program} {w : World} {K : PySem.W.Frag} {mg : Str → Option Value} {base : Heap}
theorem ok_word {f : Addr} {fd : FuncData} (F : FnP K "is_word" sWord f fd) (T : Prg mg) {t2 : Tok} (hlw : mg "LONGEST_WORD" = some (.int 8 t2)) : FnOk P w K mg base CX0 1 f fd ["thing"] (spWord K) := by
  refine F.ok scO (fun vs H Q E h => ?_) (fun cdv A outer s H vs Q E hr h => ?_)
  · obtain ⟨x, d, rfl, _⟩ := h
    rfl
  · obtain ⟨x, d, rfl, hd, hso, q⟩ := h
    have q := q H (Same.refl H)
    refine ⟨_, pss_cons (ps_if (PW.pt (pw_or (pt_not (pt_val (pe_isD T.isn (pv 0) (pe_bltn (by rfl) T.str bbS (by rfl)) (by rfl)))) (pw_or1 (pt_not (pt_chain op_le op_le pe_int (pe_callB call_len_str (by rfl) T.len boot_len (pa_cons (pv 0) pa_nil)) (pe_gI hlw (by rfl))))))) (pss_one (ps_ret pe_bl)) pss_nil)
      (pss_one (ps_ret (pe_and (pe_m0 PySem.F.slot_str_isascii PySem.F.type_str_isascii mt_isascii (pv 0)) (pe_and (pe_m0 PySem.F.slot_str_isalpha PySem.F.type_str_isalpha mt_isalpha (pv 0)) (pe_one (pe_m0 PySem.F.slot_str_islower PySem.F.type_str_islower mt_islower (pv 0))))))), ?_⟩
    have e0 : start ["thing"] [x] = [some x] := rfl
    rw [e0]
    refine go_seq ?_
    have no : ∀ {t : String} (b : kitB t "str" = some false), TyX K H x (.type t) → wordD d = false → True := fun _ _ _ => trivial
    cases hd with
    | non => exact ⟨_, rfl, _, _, .non, (by decide +kernel : kitB "NoneType" "str" = some false), _, rfl, iteT (iteT q)⟩
    | bl b => exact ⟨_, rfl, _, _, .bl b, (by decide +kernel : kitB "bool" "str" = some false), _, rfl, iteT (iteT q)⟩
    | int i => exact ⟨_, rfl, _, _, .int i, (by decide +kernel : kitB "int" "str" = some false), _, rfl, iteT (iteT q)⟩
    | lst hS ha => exact ⟨_, rfl, _, _, .lst hS ha, (by decide +kernel : kitB "list" "str" = some false), _, rfl, iteT (iteT q)⟩
    | tup hS ha => exact ⟨_, rfl, _, _, .tup hS ha, (by decide +kernel : kitB "tuple" "str" = some false), _, rfl, iteT (iteT q)⟩
    | str t =>
      have hs : t.length ≤ sizeLine := by unfold sOk at hso; exact hso.1
      have wd : wordD (.str t) = ((decide (1 ≤ t.length) && decide (t.length ≤ 8)) && (PySem.Txt.isascii t && (PySem.Txt.isalpha t && PySem.Txt.islower t))) := by
        show ((decide (1 ≤ t.length) && decide (t.length ≤ 8)) && (TL.tl t).all fun c => decide (c ∈ letters)) = _
        by_cases h1 : 1 ≤ t.length
        · rw [L2.Tx.word_letters h1]
          rfl
        · rw [decide_eq_false h1]
          rfl
      rw [wd] at q
      refine ⟨_, rfl, _, _, .str t, (by decide +kernel : kitB "str" "str" = some true), _, rfl, iteF ?_⟩
      refine ⟨_, rfl, t, rfl, hs, _, _, rfl, rfl, _, rfl, ite_dec (fun g1 => ?_) fun g1 => ?_⟩
      · refine ⟨_, _, rfl, rfl, _, rfl, ?_⟩
        by_cases g2 : (t.length : Int) ≤ 8
        · rw [decide_eq_true g2]
          rw [decide_eq_true (show 1 ≤ t.length by omega), decide_eq_true (show t.length ≤ 8 by omega), Bool.and_self, Bool.true_and] at q
          refine iteF ?_
          refine ⟨_, rfl, ⟨_, rfl⟩, t, rfl, rfl, trivial, _, rfl, ?_⟩
          cases h1 : PySem.Txt.isascii t with
          | false => rw [h1] at q; exact iteF q
          | true =>
            rw [h1] at q
            refine iteT ⟨_, rfl, ⟨_, rfl⟩, t, rfl, rfl, trivial, _, rfl, ?_⟩
            cases h2 : PySem.Txt.isalpha t with
            | false => rw [h2] at q; exact iteF q
            | true => rw [h2] at q; exact iteT ⟨_, rfl, ⟨_, rfl⟩, t, rfl, rfl, trivial, q⟩
        · rw [decide_eq_false g2]
          rw [decide_eq_false (show ¬ t.length ≤ 8 by omega), Bool.and_false, Bool.false_and] at q
          exact iteT q
      · rw [decide_eq_false (show ¬ 1 ≤ t.length by omega), Bool.false_and, Bool.false_and] at q
        exact ⟨_, rfl, iteT q⟩
end
end L2.L02

set_option maxHeartbeats 4000000
namespace L2.L02
open PySem PySem.Spec PyProof.Rows LR L2.Lr
local macro_rules | `(tactic| walk_at "nx") => `(tactic| dsimp only [gName, tNext, tSeq, tAsg, List.set_cons_zero, List.set_cons_succ])
abbrev lMany : Stmt := top 46
abbrev lWhole : Stmt := top 47
abbrev lWord : Stmt := top 48
abbrev lPart : Stmt := top 49
abbrev lParts : Stmt := top 50
abbrev lDeep : Stmt := top 53
theorem scl1 : FnScope ["_law_thing", "_law_least", "_law_most"] ["_law_thing", "_law_least", "_law_most"] (defScope lWhole) := ⟨rfl, rfl, rfl, by decide +kernel, rfl, by decide +kernel, by decide +kernel⟩
theorem scl2 : FnScope ["_law_thing", "_law_sign"] ["_law_thing"] (defScope lWord) := ⟨rfl, rfl, rfl, by decide +kernel, rfl, by decide +kernel, by decide +kernel⟩
theorem scl3 : FnScope ["_law_part_here", "_law_deep_here", "_law_may_end"] ["_law_part_here", "_law_deep_here", "_law_may_end"] (defScope lPart) := ⟨rfl, rfl, rfl, by decide +kernel, rfl, by decide +kernel, by decide +kernel⟩
theorem scl4 : FnScope ["_law_parts_here", "_law_deep_here", "_law_is_outer", "_law_at"] ["_law_parts_here", "_law_deep_here", "_law_is_outer"] (defScope lParts) := ⟨rfl, rfl, rfl, by decide +kernel, rfl, by decide +kernel, by decide +kernel⟩
theorem shapedL : ∀ {L : List Nat}, (∀ c ∈ L, c < 1114112) → PyData.canLayAll0 (L.map fun c => PyData.str ⟨#[c]⟩) = true ∧ PyData.depthAll (L.map fun c => PyData.str ⟨#[c]⟩) = 0
  | [], _ => ⟨by simp [PyData.canLayAll0], by simp [PyData.depthAll]⟩
  | c :: L, h => by
    obtain ⟨h1, h2⟩ := shapedL (L := L) fun c m => h c (List.mem_cons_of_mem _ m)
    refine ⟨?_, ?_⟩
    · simp only [List.map_cons, PyData.canLayAll0, PyData.canLay0, PyData.strOk, h1, Bool.and_true]
      simpa using h c (List.mem_cons_self ..)
    · simp only [List.map_cons, PyData.depthAll, PyData.depth, h2]
      rfl
theorem shaped_signs {L : List Nat} (h : ∀ c ∈ L, c < 1114112) : SeqAt.shaped (.list (L.map fun c => PyData.str ⟨#[c]⟩)) = true := by
  obtain ⟨h1, h2⟩ := shapedL h
  unfold SeqAt.shaped
  simp only [PyData.canLay0, PyData.depth, h1, h2, Bool.true_and]
  decide
theorem signsD {K : PySem.W.Frag} {H : Hp} : ∀ (L : List Nat), DpAll K H (L.map fun c => V.str ⟨#[c]⟩) (L.map fun c => PyData.str ⟨#[c]⟩)
  | [] => .nil
  | c :: L => .cons (.str _) (signsD L)
section
variable {P : Program} {w : World} {K : PySem.W.Frag} {mg : Str → Option Value} {base : Heap}
theorem ol_whole {f : Addr} {fd : FuncData} (F : FnP K "_law_is_whole" lWhole f fd) (T : Prg mg) : FnOk P w K mg base CX0 1 f fd ["_law_thing", "_law_least", "_law_most"] (spBetw K) := by
  refine F.ok scl1 (fun vs H Q E h => ?_) (fun cdv A outer s H vs Q E hr h => ?_)
  · obtain ⟨x, lo, hi, d, rfl, _⟩ := h
    rfl
  · obtain ⟨x, lo, hi, d, rfl, hd, q⟩ := h
    refine ⟨_, pss_one (ps_ret (pe_and (pe_isD T.isn (pv 0) (pe_bltn (by rfl) T.int bbI (by rfl)) (by rfl)) (pe_and (pe_not (pe_isD T.isn (pv 0) (pe_bltn (by rfl) T.bool bbB (by rfl)) (by rfl))) (pe_one (pe_chain op_le op_le (pv 1) (pv 0) (pv 2)))))), ?_⟩
    have e0 : start ["_law_thing", "_law_least", "_law_most"] [x, .int lo, .int hi] = [some x, some (.int lo), some (.int hi)] := rfl
    rw [e0]
    cases hd with
    | int i =>
      refine ⟨_, rfl, _, _, .int i, (by decide +kernel : kitB "int" "int" = some true), _, rfl, iteT ⟨_, rfl, _, _, .int i, (by decide +kernel : kitB "int" "bool" = some false), _, rfl, _, rfl, iteT ⟨_, rfl, _, rfl, _, _, rfl, rfl, _, rfl, ite_dec (fun h => ?_) fun h => ?_⟩⟩⟩
      · refine ⟨_, rfl, _, _, rfl, rfl, ?_⟩
        have e : betw lo hi (.int i) = decide (i ≤ hi) := by
          show (decide (lo ≤ i) && decide (i ≤ hi)) = _
          rw [decide_eq_true h, Bool.true_and]
        rw [e] at q
        exact q
      · have e : betw lo hi (.int i) = false := by
          show (decide (lo ≤ i) && decide (i ≤ hi)) = _
          rw [decide_eq_false h, Bool.false_and]
        rw [e] at q
        exact q
    | bl b => exact ⟨_, rfl, _, _, .bl b, (by decide +kernel : kitB "bool" "int" = some true), _, rfl, iteT ⟨_, rfl, _, _, .bl b, (by decide +kernel : kitB "bool" "bool" = some true), _, rfl, _, rfl, iteF q⟩⟩
    | non => exact ⟨_, rfl, _, _, .non, (by decide +kernel : kitB "NoneType" "int" = some false), _, rfl, iteF q⟩
    | str x => exact ⟨_, rfl, _, _, .str x, (by decide +kernel : kitB "str" "int" = some false), _, rfl, iteF q⟩
    | lst hS ha => exact ⟨_, rfl, _, _, .lst hS ha, (by decide +kernel : kitB "list" "int" = some false), _, rfl, iteF q⟩
    | tup hS ha => exact ⟨_, rfl, _, _, .tup hS ha, (by decide +kernel : kitB "tuple" "int" = some false), _, rfl, iteF q⟩
theorem ol_word {f : Addr} {fd : FuncData} (F : FnP K "_law_is_word" lWord f fd) (T : Prg mg) : FnOk P w K mg base CX0 1 f fd ["_law_thing"] (spWord K) := by
  refine F.ok scl2 (fun vs H Q E h => ?_) (fun cdv A outer s H vs Q E hr h => ?_)
  · obtain ⟨x, d, rfl, _⟩ := h
    rfl
  · obtain ⟨x, d, rfl, hd, hso, q⟩ := h
    have hu := hr.units
    refine ⟨_, PSs.nox (pss_cons (ps_if (PW.pt (pw_or (pt_not (pt_val (pe_isD T.isn (pv 0) (pe_bltn (by rfl) T.str bbS (by rfl)) (by rfl)))) (pw_or1 (pt_not (pt_chain op_le op_le pe_int (pe_callB call_len_str (by rfl) T.len boot_len (pa_cons (pv 0) pa_nil)) pe_int))))) (pss_one (ps_ret pe_bl)) pss_nil)
      (pss_one (ps_ret (pe_cmpR (op_eqD hu) (pe_lc (own := [("_law_sign", 1)]) (g := gName 1) (by rfl) scl2.nd (pi_str (pv 0)) (blkOk_by (N := ["_law_thing", "_law_sign"]) (sc := defScope lWord) (by decide +kernel)) (fun _ _ _ _ _ => pg_name (i := 1) scl2.nd rfl (Or.inl rfl)) (fun _ _ _ _ _ => pts_one (pt_cmpR op_notIn_sign (pv 1) pe_str (by rfl))) (fun _ _ _ _ _ => pv 1)) (pe_lst pa_nil) (nomark _))))), ?_⟩
    have e0 : start ["_law_thing", "_law_sign"] [x] = [some x, none] := rfl
    rw [e0]
    have qf : wordD d = false → Q (.bl false) H := fun e => by
      have z := q H (Same.refl H)
      rw [e] at z
      exact z
    refine go_seq ?_
    cases hd with
    | non => exact ⟨_, rfl, _, _, .non, (by decide +kernel : kitB "NoneType" "str" = some false), _, rfl, iteT (iteT (qf rfl))⟩
    | bl b => exact ⟨_, rfl, _, _, .bl b, (by decide +kernel : kitB "bool" "str" = some false), _, rfl, iteT (iteT (qf rfl))⟩
    | int i => exact ⟨_, rfl, _, _, .int i, (by decide +kernel : kitB "int" "str" = some false), _, rfl, iteT (iteT (qf rfl))⟩
    | lst hS ha => exact ⟨_, rfl, _, _, .lst hS ha, (by decide +kernel : kitB "list" "str" = some false), _, rfl, iteT (iteT (qf rfl))⟩
    | tup hS ha => exact ⟨_, rfl, _, _, .tup hS ha, (by decide +kernel : kitB "tuple" "str" = some false), _, rfl, iteT (iteT (qf rfl))⟩
    | str x =>
      obtain ⟨hso, hok⟩ : x.length ≤ sizeLine ∧ PyData.strOk x = true := by unfold sOk at hso; exact hso
      have wd : wordD (.str x) = ((decide (1 ≤ x.length) && decide (x.length ≤ 8)) && x.cps.toList.all fun c => decide (c ∈ letters)) := rfl
      refine ⟨_, rfl, _, _, .str x, (by decide +kernel : kitB "str" "str" = some true), _, rfl, iteF ?_⟩
      refine ⟨_, rfl, x, rfl, hso, _, _, rfl, rfl, _, rfl, ite_dec (fun g1 => ?_) fun g1 => ?_⟩
      · refine ⟨_, _, rfl, rfl, _, rfl, ?_⟩
        by_cases g2 : (x.length : Int) ≤ 8
        · rw [decide_eq_true g2]
          walk_at "nx"
          have l8 : x.length ≤ 8 := by omega
          have sz : x.cps.size ≤ 8 := l8
          refine iteF ?_
          refine ⟨_, rfl, x, rfl, fun D hD => lc_strD (fun i H' => Same H H' ∧ H' D = some (.lst (((x.cps.toList.take i).filter fun c => !decide (c ∈ letters)).map fun c => V.str ⟨#[c]⟩))) ⟨same_upd hD, upd_same⟩ ?_ ?_⟩
          · rintro i c H' hc ⟨s', hD'⟩
            have hc' : x.cps.toList[i]? = some c := by rw [Array.getElem?_toList]; exact hc
            have hlt : i < x.cps.size := (Array.getElem?_eq_some_iff.mp hc).1
            refine ⟨rfl, _, rfl, c, _, rfl, rfl, _, rfl, ?_⟩
            have et : (List.take (i + 1) x.cps.toList).filter (fun c => !decide (c ∈ letters)) = (List.take i x.cps.toList).filter (fun c => !decide (c ∈ letters)) ++ [c].filter (fun c => !decide (c ∈ letters)) := by
              rw [List.take_add_one, hc', List.filter_append]
              rfl
            by_cases hm : c ∈ letters
            · have e1 : [c].filter (fun c => !decide (c ∈ letters)) = [] := by simp [hm]
              rw [e1, List.append_nil] at et
              rw [show decide (c ∈ ("abcdefghijklmnopqrstuvwxyz" : Str).cps.toList) = true from decide_eq_true hm]
              refine iteF ⟨s', ?_⟩
              rw [et]
              exact hD'
            · have e1 : [c].filter (fun c => !decide (c ∈ letters)) = [c] := by simp [hm]
              rw [e1] at et
              rw [show decide (c ∈ ("abcdefghijklmnopqrstuvwxyz" : Str).cps.toList) = false from decide_eq_false hm]
              refine iteT ⟨_, rfl, _, hD', ?_, ?_, ?_⟩
              · have h1 : ((List.take i x.cps.toList).filter fun c => !decide (c ∈ letters)).length ≤ 8 := by
                  refine Nat.le_trans (List.length_filter_le _ _) ?_
                  rw [List.length_take, Array.length_toList]; omega
                rw [List.length_map, sizeLine_eq]
                omega
              · intro b o e
                by_cases hb : b = D
                · rw [hb, hD] at e
                  cases e
                · exact (upd_ne hb).trans (s' b o e)
              · rw [upd_same, et, List.map_append]
                rfl
          · rintro H' ⟨s', hD'⟩
            have e : (x.cps.toList.take x.cps.size) = x.cps.toList := by
              rw [← Array.length_toList]; exact List.take_length
            rw [e] at hD'
            refine ⟨by show 0 ≤ sizeLine; omega, fun p np => ?_⟩
            have s2 := same_upd (o := .lst []) np
            have small : ∀ c ∈ (x.cps.toList.filter fun c => !decide (c ∈ letters)), c < 1114112 := fun c m => by
              have z := (Array.all_eq_true_iff_forall_mem.mp hok) c (Array.mem_toList_iff.mp (List.mem_filter.mp m).1)
              simpa using z
            refine ⟨_, .list [], .lst (SqL.of (s2 _ _ hD')) (signsD _), .lst (SqL.of upd_same) .nil, shaped_signs small, by rfl, ?_⟩
            have z := q _ (s'.trans s2)
            rw [wd, decide_eq_true (show 1 ≤ x.length by omega), decide_eq_true l8, Bool.and_self, Bool.true_and] at z
            have e9 : PyData.eqv (.list ((x.cps.toList.filter fun c => !decide (c ∈ letters)).map fun c => PyData.str ⟨#[c]⟩)) (.list []) = x.cps.toList.all fun c => decide (c ∈ letters) := by
              cases hf : x.cps.toList.filter fun c => !decide (c ∈ letters) with
              | nil =>
                have : x.cps.toList.all (fun c => decide (c ∈ letters)) = true := List.all_eq_true.mpr fun c m => by
                  have z := List.filter_eq_nil_iff.mp hf c m
                  simpa using z
                rw [this]
                rfl
              | cons c L =>
                have : x.cps.toList.all (fun c => decide (c ∈ letters)) = false := by
                  have m : c ∈ x.cps.toList.filter fun c => !decide (c ∈ letters) := by rw [hf]; exact List.mem_cons_self ..
                  obtain ⟨m1, m2⟩ := List.mem_filter.mp m
                  exact List.all_eq_false.mpr ⟨c, m1, by simpa using m2⟩
                rw [this]
                rfl
            rw [e9]
            exact z
        · rw [decide_eq_false g2]
          exact qf (by rw [wd, decide_eq_false (show ¬ x.length ≤ 8 by omega), Bool.and_false, Bool.false_and])
      · exact ⟨_, rfl, qf (by rw [wd, decide_eq_false (show ¬ 1 ≤ x.length by omega), Bool.false_and, Bool.false_and])⟩
end
end L2.L02

set_option maxHeartbeats 4000000
namespace L2.L02
open PySem PySem.Spec PyProof.Rows LR L2.Lr
local macro_rules | `(tactic| walk_at "nx") => `(tactic| dsimp only [gName, tNext, tSeq, tAsg, List.set_cons_zero, List.set_cons_succ])
/-- is the datum this text -/
def isW (d : PyData) (w : Str) : Bool := PyData.eqv d (.str w)
def sendL : List PyData → Bool
  | [c, k] => wordD c && betw 1 9 k
  | _ => false
def workL : List PyData → Bool
  | [t] => betw 1 99 t
  | _ => false
def everL (inner : Option (PyData → Bool)) (may : Bool) : List PyData → Bool
  | [b] => may && (match inner with | some g => g b | none => false)
  | _ => false
def loopL (inner : Option (PyData → Bool)) : List PyData → Bool
  | [c, b] => countD c && (match inner with | some g => g b | none => false)
  | _ => false
def partF (inner : Option (PyData → Bool)) (may : Bool) : PyData → Bool
  | .tuple (d :: ds) => if isW d "send" || isW d "take" then sendL ds else if isW d "work" then workL ds else if isW d "forever" then everL inner may ds else if isW d "loop" then loopL inner ds else false
  | _ => false
def allAt (pt : Bool → PyData → Bool) (outer : Bool) : List PyData → Bool
  | [] => true
  | [d] => pt outer d
  | d :: e :: ds => pt false d && allAt pt outer (e :: ds)
def partsF (pt : Bool → PyData → Bool) (outer : Bool) : PyData → Bool
  | .tuple ds => allAt pt outer ds
  | _ => false
def partL : Nat → Bool → PyData → Bool
  | 0 => partF none
  | n + 1 => partF (some (partsF (partL n) false))
def Fit (d : PyData) : Prop := sOk d ∧ SeqAt.shaped d = true
theorem Fit.at {ds : List PyData} (h : Fit (.tuple ds)) {i : Nat} {d : PyData} (e : ds[i]? = some d) : Fit d := by
  obtain ⟨h1, h2⟩ := h
  refine ⟨sOkAll.at (by unfold sOk at h1; exact h1.2) e, ?_⟩
  obtain ⟨h3, h4⟩ := Bool.and_eq_true_iff.mp h2
  simp only [PyData.canLay0] at h3
  have h4 := of_decide_eq_true h4
  simp only [PyData.depth] at h4
  have key : ∀ {ds : List PyData} {i : Nat}, PyData.canLayAll0 ds = true → ds[i]? = some d → d.canLay0 = true ∧ d.depth ≤ PyData.depthAll ds := by
    intro ds
    induction ds with
    | nil => intro i _ e; simp at e
    | cons a r ih =>
      intro i hc e
      simp only [PyData.canLayAll0] at hc
      obtain ⟨c1, c2⟩ := Bool.and_eq_true_iff.mp hc
      simp only [PyData.depthAll]
      cases i with
      | zero =>
        simp at e
        subst e
        exact ⟨c1, Nat.le_max_left _ _⟩
      | succ i =>
        obtain ⟨k1, k2⟩ := ih (i := i) c2 (by simpa using e)
        exact ⟨k1, Nat.le_trans k2 (Nat.le_max_right _ _)⟩
  obtain ⟨k1, k2⟩ := key h3 e
  unfold SeqAt.shaped
  rw [k1, decide_eq_true (show d.depth ≤ 64 by omega)]
  rfl
theorem part_one {n : Nat} {may : Bool} {d : PyData} : partL n may (.tuple [d]) = false := by
  have : ∀ inner, partF inner may (.tuple [d]) = false := fun inner => by
    simp only [partF, sendL, workL, everL, loopL]
    split <;> (try rfl)
    split <;> (try rfl)
    split <;> (try rfl)
    split <;> rfl
  cases n with
  | zero => exact this _
  | succ n => exact this _
def spLPart (K : PySem.W.Frag) (n : Nat) : Sp := fun vs H Q _ => ∃ x d may, vs = [x, .int (4 - n), .bl may] ∧ Dp K H x d ∧ Fit d ∧ ∀ H', Same H H' → Q (.bl (partL n may d)) H'
def spLParts (K : PySem.W.Frag) (n : Nat) : Sp := fun vs H Q _ => ∃ x d outer, vs = [x, .int (4 - n), .bl outer] ∧ Dp K H x d ∧ Fit d ∧ ∀ H', Same H H' → Q (.bl (partsF (partL n) outer d)) H'
section
variable {P : Program} {w : World} {K : PySem.W.Frag} {mg : Str → Option Value} {base : Heap}
theorem ol_part0 {f fW fN : Addr} {fd dW dN : FuncData} (F : FnP K "_law_is_part" lPart f fd) (T : Prg mg) {k : Nat} (h1 : 1 ≤ k) (W : Def P w K mg base CX0 1 "_law_is_word" fW dW ["_law_thing"] (spWord K)) (N : Def P w K mg base CX0 1 "_law_is_whole" fN dN ["_law_thing", "_law_least", "_law_most"] (spBetw K)) : FnOk P w K mg base CX0 (k + 1) f fd ["_law_part_here", "_law_deep_here", "_law_may_end"] (spLPart K 0) := by
  refine F.ok scl3 (fun vs H Q E h => ?_) (fun cdv A outer s H vs Q E hr h => ?_)
  · obtain ⟨x, d, may, rfl, _⟩ := h
    rfl
  · obtain ⟨x, d, may, rfl, hd, fit, q⟩ := h
    have hr1 : Room 1 _ := hr.mono h1
    have hu := hr.units
    refine ⟨_, (pss_cons (ps_if (PW.pt (pw_or (pt_not (pt_val (pe_isD T.isn (pv 0) (pe_bltn (by rfl) T.tuple bbT (by rfl)) (by rfl)))) (pw_or1 (pt_cmpR op_lt (pe_callB call_len_seq (by rfl) T.len boot_len (pa_cons (pv 0) pa_nil)) pe_int (nomark _))))) (pss_one (ps_ret pe_bl)) pss_nil)
 (pss_cons (ps_if (PW.pt (pw_or (pt_cmpR (op_eqD hu) (pe_ix ix_tup (pv 0) pe_int (fun _ _ => rfl)) pe_str (nomark _)) (pw_or1 (pt_cmpR (op_eqD hu) (pe_ix ix_tup (pv 0) pe_int (fun _ _ => rfl)) pe_str (nomark _))))) (pss_one (ps_ret (pe_and (pe_cmpR op_eq (pe_callB call_len_seq (by rfl) T.len boot_len (pa_cons (pv 0) pa_nil)) pe_int (nomark _)) (pe_and (pe_call W.ok hr1 (by rfl) W.g W.k W.b .nil pass0 (pa_cons (pe_ix ix_tup (pv 0) pe_int (fun _ _ => rfl)) pa_nil)) (pe_one (pe_call N.ok hr1 (by rfl) N.g N.k N.b .nil pass0 (pa_cons (pe_ix ix_tup (pv 0) pe_int (fun _ _ => rfl)) (pa_cons pe_int (pa_cons pe_int pa_nil))))))))) pss_nil)
 (pss_cons (ps_if (pt_cmpR (op_eqD hu) (pe_ix ix_tup (pv 0) pe_int (fun _ _ => rfl)) pe_str (nomark _)) (pss_one (ps_ret (pe_and (pe_cmpR op_eq (pe_callB call_len_seq (by rfl) T.len boot_len (pa_cons (pv 0) pa_nil)) pe_int (nomark _)) (pe_one (pe_call N.ok hr1 (by rfl) N.g N.k N.b .nil pass0 (pa_cons (pe_ix ix_tup (pv 0) pe_int (fun _ _ => rfl)) (pa_cons pe_int (pa_cons pe_int pa_nil)))))))) pss_nil)
 (pss_cons (ps_if (pt_cmpR (op_eqD hu) (pe_ix ix_tup (pv 0) pe_int (fun _ _ => rfl)) pe_str (nomark _)) (pss_one (ps_ret (pe_and (pe_cmpR op_eq (pe_callB call_len_seq (by rfl) T.len boot_len (pa_cons (pv 0) pa_nil)) pe_int (nomark _)) (pe_and (pv 2) (pe_and (pe_cmpR op_lt (pv 1) pe_int (nomark _)) (pe_one pe_never)))))) pss_nil)
 (pss_cons (ps_if (PW.pt (pw_or (pt_cmpR (op_neD hu) (pe_ix ix_tup (pv 0) pe_int (fun _ _ => rfl)) pe_str (nomark _)) (pw_or (pt_cmpR op_ne (pe_callB call_len_seq (by rfl) T.len boot_len (pa_cons (pv 0) pa_nil)) pe_int (nomark _)) (pw_or (pt_not (pt_val (pe_isD T.isn (pe_ix ix_tup (pv 0) pe_int (fun _ _ => rfl)) (pe_bltn (by rfl) T.tuple bbT (by rfl)) (by rfl)))) (pw_or (pt_cmpR op_ne (pe_callB call_len_seq (by rfl) T.len boot_len (pa_cons (pe_ix ix_tup (pv 0) pe_int (fun _ _ => rfl)) pa_nil)) pe_int (nomark _)) (pw_or1 (pt_cmpR op_eq (pv 1) pe_int (nomark _)))))))) (pss_one (ps_ret pe_bl)) pss_nil)
 (pss_cons (ps_if (PW.pt (pw_or (pt_not (pt_val (pe_call N.ok hr1 (by rfl) N.g N.k N.b .nil pass0 (pa_cons (pe_ix ix_tup (pe_ix ix_tup (pv 0) pe_int (fun _ _ => rfl)) pe_int (fun _ _ => rfl)) (pa_cons pe_int (pa_cons pe_int pa_nil)))))) (pw_or1 (pt_not (pt_val (pe_call N.ok hr1 (by rfl) N.g N.k N.b .nil pass0 (pa_cons (pe_ix ix_tup (pe_ix ix_tup (pv 0) pe_int (fun _ _ => rfl)) pe_int (fun _ _ => rfl)) (pa_cons (pe_un un_neg (pe_op op_pow pe_int pe_int)) (pa_cons (pe_op op_pow pe_int pe_int) pa_nil))))))))) (pss_one (ps_ret pe_bl)) pss_nil)
 (pss_one (ps_ret (pe_and (pe_or (pe_cmpR op_gt (pe_ix ix_tup (pe_ix ix_tup (pv 0) pe_int (fun _ _ => rfl)) pe_int (fun _ _ => rfl)) pe_int (nomark _)) (pe_one (pe_cmpR op_ge (pe_ix ix_tup (pe_ix ix_tup (pv 0) pe_int (fun _ _ => rfl)) pe_int (fun _ _ => rfl)) pe_int (nomark _)))) (pe_one pe_never)))))))))), ?_⟩
    have e0 : start ["_law_part_here", "_law_deep_here", "_law_may_end"] [x, .int (4 - ((0 : Nat) : Int)), .bl may] = [some x, some (.int (4 - ((0 : Nat) : Int))), some (.bl may)] := rfl
    rw [e0]
    have qf : ∀ H', Same H H' → partL 0 may d = false → Q (.bl false) H' := fun H' s' e => by
      have z := q H' s'
      rw [e] at z
      exact z
    refine go_seq ?_
    cases hd with
    | non => exact ⟨_, rfl, _, _, .non, (by decide +kernel : kitB "NoneType" "tuple" = some false), _, rfl, iteT (iteT (qf H (Same.refl H) rfl))⟩
    | bl b => exact ⟨_, rfl, _, _, .bl b, (by decide +kernel : kitB "bool" "tuple" = some false), _, rfl, iteT (iteT (qf H (Same.refl H) rfl))⟩
    | int i => exact ⟨_, rfl, _, _, .int i, (by decide +kernel : kitB "int" "tuple" = some false), _, rfl, iteT (iteT (qf H (Same.refl H) rfl))⟩
    | str i => exact ⟨_, rfl, _, _, .str i, (by decide +kernel : kitB "str" "tuple" = some false), _, rfl, iteT (iteT (qf H (Same.refl H) rfl))⟩
    | lst hS ha => exact ⟨_, rfl, _, _, .lst hS ha, (by decide +kernel : kitB "list" "tuple" = some false), _, rfl, iteT (iteT (qf H (Same.refl H) rfl))⟩
    | @tup t xs ds hS ha =>
      refine ⟨_, rfl, _, _, .tup hS ha, (by decide +kernel : kitB "tuple" "tuple" = some true), _, rfl, iteF ⟨_, rfl, t, xs, rfl, .inr hS, _, _, rfl, rfl, _, rfl, ?_⟩⟩
      cases ha with
      | nil => exact qf H (Same.refl H) rfl
      | @cons v0 vs d0 rest h0 hr0 =>
        obtain ⟨_, shp⟩ := Fit.at fit (i := 0) (d := d0) rfl
        cases hr0 with
        | nil => exact qf H (Same.refl H) part_one
        | @cons v1 vs1 d1 rest1 h1' hr1' =>
          refine ite_dec (fun z => absurd z (by simp only [List.length_cons]; omega)) fun _ => ?_
          walk_at "nx"
          have q' : ∀ b H', Same H H' → partL 0 may (.tuple (d0 :: d1 :: rest1)) = b → Q (.bl b) H' := fun b H' s' e => by
            have z := q H' s'
            rw [e] at z
            exact z
          refine ⟨_, rfl, t, _, 0, _, rfl, rfl, hS, at0, d0, .str "send", h0, .str _, shp, by decide +kernel, _, rfl, ?_⟩
          cases b1 : PyData.eqv d0 (.str "send") with
          | true =>
            have e : partL 0 may (.tuple (d0 :: d1 :: rest1)) = sendL (d1 :: rest1) := if_pos (by show (PyData.eqv d0 (.str "send") || _) = true; rw [b1]; rfl)
            rw [e] at q'
            refine ⟨_, rfl, t, _, rfl, .inr hS, rfl, _, rfl, ?_⟩
            cases hr1' with
            | nil => exact len_if (fun z => absurd z (by simp)) fun _ => q' _ H (Same.refl H) rfl
            | @cons v2 vs2 d2 rest2 h2' hr2' =>
              cases hr2' with
              | cons _ _ => exact len_if (fun z => absurd z (by simp only [List.length_cons]; omega)) fun _ => q' _ H (Same.refl H) rfl
              | nil =>
                refine len_if (fun _ => ?_) (fun z => absurd rfl z)
                refine ⟨_, rfl, t, _, 1, _, rfl, rfl, hS, at1, _, d1, rfl, h1', (Fit.at fit (i := 1) rfl).1, fun H1 s1 => ⟨_, rfl, ?_⟩⟩
                cases hw : wordD d1 with
                | false => exact q' _ H1 s1 (by show (wordD d1 && _) = _; rw [hw]; rfl)
                | true => exact ⟨_, rfl, t, _, 2, _, rfl, rfl, seqT s1 hS, at2, _, 1, 9, d2, rfl, Dp.same s1 h2', q' _ H1 s1 (by show (wordD d1 && _) = _; rw [hw]; rfl)⟩
          | false =>
            walk_at "nx"
            rw [if_neg Bool.false_ne_true]
            refine ⟨_, rfl, t, _, 0, _, rfl, rfl, hS, at0, d0, .str "take", h0, .str _, shp, by decide +kernel, _, rfl, ?_⟩
            cases b2 : PyData.eqv d0 (.str "take") with
            | true =>
              have e : partL 0 may (.tuple (d0 :: d1 :: rest1)) = sendL (d1 :: rest1) := if_pos (by show (PyData.eqv d0 (.str "send") || PyData.eqv d0 (.str "take")) = true; rw [b1, b2]; rfl)
              rw [e] at q'
              refine ⟨_, rfl, t, _, rfl, .inr hS, rfl, _, rfl, ?_⟩
              cases hr1' with
              | nil => exact len_if (fun z => absurd z (by simp)) fun _ => q' _ H (Same.refl H) rfl
              | @cons v2 vs2 d2 rest2 h2' hr2' =>
                cases hr2' with
                | cons _ _ => exact len_if (fun z => absurd z (by simp only [List.length_cons]; omega)) fun _ => q' _ H (Same.refl H) rfl
                | nil =>
                  refine len_if (fun _ => ?_) (fun z => absurd rfl z)
                  refine ⟨_, rfl, t, _, 1, _, rfl, rfl, hS, at1, _, d1, rfl, h1', (Fit.at fit (i := 1) rfl).1, fun H1 s1 => ⟨_, rfl, ?_⟩⟩
                  cases hw : wordD d1 with
                  | false => exact q' _ H1 s1 (by show (wordD d1 && _) = _; rw [hw]; rfl)
                  | true => exact ⟨_, rfl, t, _, 2, _, rfl, rfl, seqT s1 hS, at2, _, 1, 9, d2, rfl, Dp.same s1 h2', q' _ H1 s1 (by show (wordD d1 && _) = _; rw [hw]; rfl)⟩
            | false =>
              have e2 : (isW d0 "send" || isW d0 "take") = false := by show (PyData.eqv d0 (.str "send") || PyData.eqv d0 (.str "take")) = false; rw [b1, b2]; rfl
              have n2 : ¬ (isW d0 "send" || isW d0 "take") = true := by rw [e2]; exact Bool.false_ne_true
              refine ⟨_, rfl, t, _, 0, _, rfl, rfl, hS, at0, d0, .str "work", h0, .str _, shp, by decide +kernel, _, rfl, ?_⟩
              cases b3 : PyData.eqv d0 (.str "work") with
              | true =>
                have e : partL 0 may (.tuple (d0 :: d1 :: rest1)) = workL (d1 :: rest1) := (if_neg n2).trans (if_pos b3)
                rw [e] at q'
                refine ⟨_, rfl, t, _, rfl, .inr hS, rfl, _, rfl, ?_⟩
                cases hr1' with
                | nil => exact len_if (fun _ => ⟨_, rfl, t, _, 1, _, rfl, rfl, hS, at1, _, 1, 99, d1, rfl, h1', q' _ H (Same.refl H) rfl⟩) (fun z => absurd rfl z)
                | cons _ _ => exact len_if (fun z => absurd z (by simp only [List.length_cons]; omega)) fun _ => q' _ H (Same.refl H) rfl
              | false =>
                have n3 : ¬ isW d0 "work" = true := by show ¬ PyData.eqv d0 (.str "work") = true; rw [b3]; exact Bool.false_ne_true
                walk_at "nx"
                refine ⟨_, rfl, t, _, 0, _, rfl, rfl, hS, at0, d0, .str "forever", h0, .str _, shp, by decide +kernel, _, rfl, ?_⟩
                cases b4 : PyData.eqv d0 (.str "forever") with
                | true =>
                  have e : partL 0 may (.tuple (d0 :: d1 :: rest1)) = everL none may (d1 :: rest1) := (if_neg n2).trans ((if_neg n3).trans (if_pos b4))
                  rw [e] at q'
                  refine ⟨_, rfl, t, _, rfl, .inr hS, rfl, _, rfl, ?_⟩
                  cases hr1' with
                  | cons _ _ => exact len_if (fun z => absurd z (by simp only [List.length_cons]; omega)) fun _ => q' _ H (Same.refl H) rfl
                  | nil =>
                    refine len_if (fun _ => ⟨_, rfl, _, rfl, ?_⟩) (fun z => absurd rfl z)
                    cases may with
                    | false => exact q' _ H (Same.refl H) rfl
                    | true =>
                      refine iteT ⟨_, rfl, _, _, rfl, rfl, _, rfl, ?_⟩
                      rw [decide_eq_false (show ¬ (4 : Int) - ((0 : Nat) : Int) < 4 by omega)]
                      exact q' _ H (Same.refl H) rfl
                | false =>
                  have n4 : ¬ isW d0 "forever" = true := by show ¬ PyData.eqv d0 (.str "forever") = true; rw [b4]; exact Bool.false_ne_true
                  walk_at "nx"
                  refine ⟨_, rfl, t, _, 0, _, rfl, rfl, hS, at0, d0, .str "loop", h0, .str _, shp, by decide +kernel, _, rfl, ?_⟩
                  cases b5 : PyData.eqv d0 (.str "loop") with
                  | false =>
                    have n5 : ¬ isW d0 "loop" = true := by show ¬ PyData.eqv d0 (.str "loop") = true; rw [b5]; exact Bool.false_ne_true
                    exact q' false H (Same.refl H) ((if_neg n2).trans ((if_neg n3).trans ((if_neg n4).trans (if_neg n5))))
                  | true =>
                    have e : partL 0 may (.tuple (d0 :: d1 :: rest1)) = loopL none (d1 :: rest1) := (if_neg n2).trans ((if_neg n3).trans ((if_neg n4).trans (if_pos b5)))
                    rw [e] at q'
                    refine iteF ⟨_, rfl, t, _, rfl, .inr hS, rfl, _, rfl, ?_⟩
                    cases hr1' with
                    | nil => exact len_ne (fun _ => q' _ H (Same.refl H) rfl) (fun z => absurd z (by simp))
                    | @cons v2 vs2 d2 rest2 h2' hr2' =>
                      cases hr2' with
                      | cons _ _ => exact len_ne (fun _ => q' _ H (Same.refl H) rfl) (fun z => absurd z (by simp only [List.length_cons]; omega))
                      | nil =>
                        refine len_ne (fun z => absurd rfl z) fun _ => ?_
                        have cf : countD d1 = false → loopL none [d1, d2] = false := fun z => by
                          show (countD d1 && _) = false
                          rw [z]
                          rfl
                        refine ⟨_, rfl, t, _, 1, _, rfl, rfl, hS, at1, ?_⟩
                        cases h1' with
                        | non => exact ⟨_, _, .non, (by decide +kernel : kitB "NoneType" "tuple" = some false), _, rfl, iteT (q' _ H (Same.refl H) (cf rfl))⟩
                        | bl b => exact ⟨_, _, .bl b, (by decide +kernel : kitB "bool" "tuple" = some false), _, rfl, iteT (q' _ H (Same.refl H) (cf rfl))⟩
                        | int i => exact ⟨_, _, .int i, (by decide +kernel : kitB "int" "tuple" = some false), _, rfl, iteT (q' _ H (Same.refl H) (cf rfl))⟩
                        | str i => exact ⟨_, _, .str i, (by decide +kernel : kitB "str" "tuple" = some false), _, rfl, iteT (q' _ H (Same.refl H) (cf rfl))⟩
                        | lst hy ha => exact ⟨_, _, .lst hy ha, (by decide +kernel : kitB "list" "tuple" = some false), _, rfl, iteT (q' _ H (Same.refl H) (cf rfl))⟩
                        | @tup ty ys es hy ha =>
                          refine ⟨_, _, .tup hy ha, (by decide +kernel : kitB "tuple" "tuple" = some true), _, rfl, iteF ?_⟩
                          refine ⟨_, rfl, t, _, 1, _, rfl, rfl, hS, at1, ty, ys, rfl, .inr hy, rfl, _, rfl, ?_⟩
                          cases ha with
                          | nil => exact len_ne (fun _ => q' _ H (Same.refl H) (cf rfl)) (fun z => absurd z (by simp))
                          | @cons u1 us1 c1 cs1 g1 ha1 =>
                            cases ha1 with
                            | nil => exact len_ne (fun _ => q' _ H (Same.refl H) (cf (by cases c1 <;> rfl))) (fun z => absurd z (by simp))
                            | @cons u2 us2 c2 cs2 g2 ha2 =>
                              cases ha2 with
                              | cons _ _ => exact len_ne (fun _ => q' _ H (Same.refl H) (cf (by cases c1 <;> first | rfl | (cases c2 <;> rfl)))) (fun z => absurd z (by simp only [List.length_cons]; omega))
                              | nil =>
                                refine len_ne (fun z => absurd rfl z) fun _ => ?_
                                refine ⟨_, rfl, rfl, _, rfl, ?_⟩
                                rw [decide_eq_true (show V.int ((4 : Int) - ((0 : Nat) : Int)) = V.int 4 from rfl)]
                                exact q' _ H (Same.refl H) (by show (countD _ && false) = false; rw [Bool.and_false])
theorem ol_partS {m : Nat} {f fW fN fG : Addr} {fd dW dN dG : FuncData} (F : FnP K "_law_is_part" lPart f fd) (T : Prg mg) {k : Nat} (h1 : 1 ≤ k) (W : Def P w K mg base CX0 1 "_law_is_word" fW dW ["_law_thing"] (spWord K)) (N : Def P w K mg base CX0 1 "_law_is_whole" fN dN ["_law_thing", "_law_least", "_law_most"] (spBetw K)) (G : Def P w K mg base CX0 k "_law_are_parts" fG dG ["_law_parts_here", "_law_deep_here", "_law_is_outer"] (spLParts K m)) : FnOk P w K mg base CX0 (k + 1) f fd ["_law_part_here", "_law_deep_here", "_law_may_end"] (spLPart K (m + 1)) := by
  refine F.ok scl3 (fun vs H Q E h => ?_) (fun cdv A outer s H vs Q E hr h => ?_)
  · obtain ⟨x, d, may, rfl, _⟩ := h
    rfl
  · obtain ⟨x, d, may, rfl, hd, fit, q⟩ := h
    have hr1 : Room 1 _ := hr.mono h1
    have hu := hr.units
    have hrk : Room k _ := hr
    refine ⟨_, (pss_cons (ps_if (PW.pt (pw_or (pt_not (pt_val (pe_isD T.isn (pv 0) (pe_bltn (by rfl) T.tuple bbT (by rfl)) (by rfl)))) (pw_or1 (pt_cmpR op_lt (pe_callB call_len_seq (by rfl) T.len boot_len (pa_cons (pv 0) pa_nil)) pe_int (nomark _))))) (pss_one (ps_ret pe_bl)) pss_nil)
 (pss_cons (ps_if (PW.pt (pw_or (pt_cmpR (op_eqD hu) (pe_ix ix_tup (pv 0) pe_int (fun _ _ => rfl)) pe_str (nomark _)) (pw_or1 (pt_cmpR (op_eqD hu) (pe_ix ix_tup (pv 0) pe_int (fun _ _ => rfl)) pe_str (nomark _))))) (pss_one (ps_ret (pe_and (pe_cmpR op_eq (pe_callB call_len_seq (by rfl) T.len boot_len (pa_cons (pv 0) pa_nil)) pe_int (nomark _)) (pe_and (pe_call W.ok hr1 (by rfl) W.g W.k W.b .nil pass0 (pa_cons (pe_ix ix_tup (pv 0) pe_int (fun _ _ => rfl)) pa_nil)) (pe_one (pe_call N.ok hr1 (by rfl) N.g N.k N.b .nil pass0 (pa_cons (pe_ix ix_tup (pv 0) pe_int (fun _ _ => rfl)) (pa_cons pe_int (pa_cons pe_int pa_nil))))))))) pss_nil)
 (pss_cons (ps_if (pt_cmpR (op_eqD hu) (pe_ix ix_tup (pv 0) pe_int (fun _ _ => rfl)) pe_str (nomark _)) (pss_one (ps_ret (pe_and (pe_cmpR op_eq (pe_callB call_len_seq (by rfl) T.len boot_len (pa_cons (pv 0) pa_nil)) pe_int (nomark _)) (pe_one (pe_call N.ok hr1 (by rfl) N.g N.k N.b .nil pass0 (pa_cons (pe_ix ix_tup (pv 0) pe_int (fun _ _ => rfl)) (pa_cons pe_int (pa_cons pe_int pa_nil)))))))) pss_nil)
 (pss_cons (ps_if (pt_cmpR (op_eqD hu) (pe_ix ix_tup (pv 0) pe_int (fun _ _ => rfl)) pe_str (nomark _)) (pss_one (ps_ret (pe_and (pe_cmpR op_eq (pe_callB call_len_seq (by rfl) T.len boot_len (pa_cons (pv 0) pa_nil)) pe_int (nomark _)) (pe_and (pv 2) (pe_and (pe_cmpR op_lt (pv 1) pe_int (nomark _)) (pe_one (pe_call G.ok hrk (by rfl) G.g G.k G.b .nil pass0 (pa_cons (pe_ix ix_tup (pv 0) pe_int (fun _ _ => rfl)) (pa_cons (pe_op op_add (pv 1) pe_int) (pa_cons pe_bl pa_nil)))))))))) pss_nil)
 (pss_cons (ps_if (PW.pt (pw_or (pt_cmpR (op_neD hu) (pe_ix ix_tup (pv 0) pe_int (fun _ _ => rfl)) pe_str (nomark _)) (pw_or (pt_cmpR op_ne (pe_callB call_len_seq (by rfl) T.len boot_len (pa_cons (pv 0) pa_nil)) pe_int (nomark _)) (pw_or (pt_not (pt_val (pe_isD T.isn (pe_ix ix_tup (pv 0) pe_int (fun _ _ => rfl)) (pe_bltn (by rfl) T.tuple bbT (by rfl)) (by rfl)))) (pw_or (pt_cmpR op_ne (pe_callB call_len_seq (by rfl) T.len boot_len (pa_cons (pe_ix ix_tup (pv 0) pe_int (fun _ _ => rfl)) pa_nil)) pe_int (nomark _)) (pw_or1 (pt_cmpR op_eq (pv 1) pe_int (nomark _)))))))) (pss_one (ps_ret pe_bl)) pss_nil)
 (pss_cons (ps_if (PW.pt (pw_or (pt_not (pt_val (pe_call N.ok hr1 (by rfl) N.g N.k N.b .nil pass0 (pa_cons (pe_ix ix_tup (pe_ix ix_tup (pv 0) pe_int (fun _ _ => rfl)) pe_int (fun _ _ => rfl)) (pa_cons pe_int (pa_cons pe_int pa_nil)))))) (pw_or1 (pt_not (pt_val (pe_call N.ok hr1 (by rfl) N.g N.k N.b .nil pass0 (pa_cons (pe_ix ix_tup (pe_ix ix_tup (pv 0) pe_int (fun _ _ => rfl)) pe_int (fun _ _ => rfl)) (pa_cons (pe_un un_neg (pe_op op_pow pe_int pe_int)) (pa_cons (pe_op op_pow pe_int pe_int) pa_nil))))))))) (pss_one (ps_ret pe_bl)) pss_nil)
 (pss_one (ps_ret (pe_and (pe_or (pe_cmpR op_gt (pe_ix ix_tup (pe_ix ix_tup (pv 0) pe_int (fun _ _ => rfl)) pe_int (fun _ _ => rfl)) pe_int (nomark _)) (pe_one (pe_cmpR op_ge (pe_ix ix_tup (pe_ix ix_tup (pv 0) pe_int (fun _ _ => rfl)) pe_int (fun _ _ => rfl)) pe_int (nomark _)))) (pe_one (pe_call G.ok hrk (by rfl) G.g G.k G.b .nil pass0 (pa_cons (pe_ix ix_tup (pv 0) pe_int (fun _ _ => rfl)) (pa_cons (pe_op op_add (pv 1) pe_int) (pa_cons pe_bl pa_nil)))))))))))))), ?_⟩
    have e0 : start ["_law_part_here", "_law_deep_here", "_law_may_end"] [x, .int (4 - (((m + 1) : Nat) : Int)), .bl may] = [some x, some (.int (4 - (((m + 1) : Nat) : Int))), some (.bl may)] := rfl
    rw [e0]
    have qf : ∀ H', Same H H' → partL (m + 1) may d = false → Q (.bl false) H' := fun H' s' e => by
      have z := q H' s'
      rw [e] at z
      exact z
    refine go_seq ?_
    cases hd with
    | non => exact ⟨_, rfl, _, _, .non, (by decide +kernel : kitB "NoneType" "tuple" = some false), _, rfl, iteT (iteT (qf H (Same.refl H) rfl))⟩
    | bl b => exact ⟨_, rfl, _, _, .bl b, (by decide +kernel : kitB "bool" "tuple" = some false), _, rfl, iteT (iteT (qf H (Same.refl H) rfl))⟩
    | int i => exact ⟨_, rfl, _, _, .int i, (by decide +kernel : kitB "int" "tuple" = some false), _, rfl, iteT (iteT (qf H (Same.refl H) rfl))⟩
    | str i => exact ⟨_, rfl, _, _, .str i, (by decide +kernel : kitB "str" "tuple" = some false), _, rfl, iteT (iteT (qf H (Same.refl H) rfl))⟩
    | lst hS ha => exact ⟨_, rfl, _, _, .lst hS ha, (by decide +kernel : kitB "list" "tuple" = some false), _, rfl, iteT (iteT (qf H (Same.refl H) rfl))⟩
    | @tup t xs ds hS ha =>
      refine ⟨_, rfl, _, _, .tup hS ha, (by decide +kernel : kitB "tuple" "tuple" = some true), _, rfl, iteF ⟨_, rfl, t, xs, rfl, .inr hS, _, _, rfl, rfl, _, rfl, ?_⟩⟩
      cases ha with
      | nil => exact qf H (Same.refl H) rfl
      | @cons v0 vs d0 rest h0 hr0 =>
        obtain ⟨_, shp⟩ := Fit.at fit (i := 0) (d := d0) rfl
        cases hr0 with
        | nil => exact qf H (Same.refl H) part_one
        | @cons v1 vs1 d1 rest1 h1' hr1' =>
          refine ite_dec (fun z => absurd z (by simp only [List.length_cons]; omega)) fun _ => ?_
          walk_at "nx"
          have q' : ∀ b H', Same H H' → partL (m + 1) may (.tuple (d0 :: d1 :: rest1)) = b → Q (.bl b) H' := fun b H' s' e => by
            have z := q H' s'
            rw [e] at z
            exact z
          refine ⟨_, rfl, t, _, 0, _, rfl, rfl, hS, at0, d0, .str "send", h0, .str _, shp, by decide +kernel, _, rfl, ?_⟩
          cases b1 : PyData.eqv d0 (.str "send") with
          | true =>
            have e : partL (m + 1) may (.tuple (d0 :: d1 :: rest1)) = sendL (d1 :: rest1) := if_pos (by show (PyData.eqv d0 (.str "send") || _) = true; rw [b1]; rfl)
            rw [e] at q'
            refine ⟨_, rfl, t, _, rfl, .inr hS, rfl, _, rfl, ?_⟩
            cases hr1' with
            | nil => exact len_if (fun z => absurd z (by simp)) fun _ => q' _ H (Same.refl H) rfl
            | @cons v2 vs2 d2 rest2 h2' hr2' =>
              cases hr2' with
              | cons _ _ => exact len_if (fun z => absurd z (by simp only [List.length_cons]; omega)) fun _ => q' _ H (Same.refl H) rfl
              | nil =>
                refine len_if (fun _ => ?_) (fun z => absurd rfl z)
                refine ⟨_, rfl, t, _, 1, _, rfl, rfl, hS, at1, _, d1, rfl, h1', (Fit.at fit (i := 1) rfl).1, fun H1 s1 => ⟨_, rfl, ?_⟩⟩
                cases hw : wordD d1 with
                | false => exact q' _ H1 s1 (by show (wordD d1 && _) = _; rw [hw]; rfl)
                | true => exact ⟨_, rfl, t, _, 2, _, rfl, rfl, seqT s1 hS, at2, _, 1, 9, d2, rfl, Dp.same s1 h2', q' _ H1 s1 (by show (wordD d1 && _) = _; rw [hw]; rfl)⟩
          | false =>
            walk_at "nx"
            rw [if_neg Bool.false_ne_true]
            refine ⟨_, rfl, t, _, 0, _, rfl, rfl, hS, at0, d0, .str "take", h0, .str _, shp, by decide +kernel, _, rfl, ?_⟩
            cases b2 : PyData.eqv d0 (.str "take") with
            | true =>
              have e : partL (m + 1) may (.tuple (d0 :: d1 :: rest1)) = sendL (d1 :: rest1) := if_pos (by show (PyData.eqv d0 (.str "send") || PyData.eqv d0 (.str "take")) = true; rw [b1, b2]; rfl)
              rw [e] at q'
              refine ⟨_, rfl, t, _, rfl, .inr hS, rfl, _, rfl, ?_⟩
              cases hr1' with
              | nil => exact len_if (fun z => absurd z (by simp)) fun _ => q' _ H (Same.refl H) rfl
              | @cons v2 vs2 d2 rest2 h2' hr2' =>
                cases hr2' with
                | cons _ _ => exact len_if (fun z => absurd z (by simp only [List.length_cons]; omega)) fun _ => q' _ H (Same.refl H) rfl
                | nil =>
                  refine len_if (fun _ => ?_) (fun z => absurd rfl z)
                  refine ⟨_, rfl, t, _, 1, _, rfl, rfl, hS, at1, _, d1, rfl, h1', (Fit.at fit (i := 1) rfl).1, fun H1 s1 => ⟨_, rfl, ?_⟩⟩
                  cases hw : wordD d1 with
                  | false => exact q' _ H1 s1 (by show (wordD d1 && _) = _; rw [hw]; rfl)
                  | true => exact ⟨_, rfl, t, _, 2, _, rfl, rfl, seqT s1 hS, at2, _, 1, 9, d2, rfl, Dp.same s1 h2', q' _ H1 s1 (by show (wordD d1 && _) = _; rw [hw]; rfl)⟩
            | false =>
              have e2 : (isW d0 "send" || isW d0 "take") = false := by show (PyData.eqv d0 (.str "send") || PyData.eqv d0 (.str "take")) = false; rw [b1, b2]; rfl
              have n2 : ¬ (isW d0 "send" || isW d0 "take") = true := by rw [e2]; exact Bool.false_ne_true
              refine ⟨_, rfl, t, _, 0, _, rfl, rfl, hS, at0, d0, .str "work", h0, .str _, shp, by decide +kernel, _, rfl, ?_⟩
              cases b3 : PyData.eqv d0 (.str "work") with
              | true =>
                have e : partL (m + 1) may (.tuple (d0 :: d1 :: rest1)) = workL (d1 :: rest1) := (if_neg n2).trans (if_pos b3)
                rw [e] at q'
                refine ⟨_, rfl, t, _, rfl, .inr hS, rfl, _, rfl, ?_⟩
                cases hr1' with
                | nil => exact len_if (fun _ => ⟨_, rfl, t, _, 1, _, rfl, rfl, hS, at1, _, 1, 99, d1, rfl, h1', q' _ H (Same.refl H) rfl⟩) (fun z => absurd rfl z)
                | cons _ _ => exact len_if (fun z => absurd z (by simp only [List.length_cons]; omega)) fun _ => q' _ H (Same.refl H) rfl
              | false =>
                have n3 : ¬ isW d0 "work" = true := by show ¬ PyData.eqv d0 (.str "work") = true; rw [b3]; exact Bool.false_ne_true
                walk_at "nx"
                refine ⟨_, rfl, t, _, 0, _, rfl, rfl, hS, at0, d0, .str "forever", h0, .str _, shp, by decide +kernel, _, rfl, ?_⟩
                cases b4 : PyData.eqv d0 (.str "forever") with
                | true =>
                  have e : partL (m + 1) may (.tuple (d0 :: d1 :: rest1)) = everL (some (partsF (partL m) false)) may (d1 :: rest1) := (if_neg n2).trans ((if_neg n3).trans (if_pos b4))
                  rw [e] at q'
                  refine ⟨_, rfl, t, _, rfl, .inr hS, rfl, _, rfl, ?_⟩
                  cases hr1' with
                  | cons _ _ => exact len_if (fun z => absurd z (by simp only [List.length_cons]; omega)) fun _ => q' _ H (Same.refl H) rfl
                  | nil =>
                    refine len_if (fun _ => ⟨_, rfl, _, rfl, ?_⟩) (fun z => absurd rfl z)
                    cases may with
                    | false => exact q' _ H (Same.refl H) rfl
                    | true =>
                      refine iteT ⟨_, rfl, _, _, rfl, rfl, _, rfl, ?_⟩
                      rw [decide_eq_true (show (4 : Int) - ((m + 1 : Nat) : Int) < 4 by omega)]
                      exact ⟨_, rfl, t, _, 1, _, rfl, rfl, hS, at1, _, rfl, _, _, rfl, rfl, _, d1, false, (by show [_, V.int ((4 : Int) - ((m + 1 : Nat) : Int) + 1), _] = _; rw [show (4 : Int) - ((m + 1 : Nat) : Int) + 1 = 4 - m by omega]), h1', Fit.at fit (i := 1) rfl, fun H1 s1 => q' _ H1 s1 rfl⟩
                | false =>
                  have n4 : ¬ isW d0 "forever" = true := by show ¬ PyData.eqv d0 (.str "forever") = true; rw [b4]; exact Bool.false_ne_true
                  walk_at "nx"
                  refine ⟨_, rfl, t, _, 0, _, rfl, rfl, hS, at0, d0, .str "loop", h0, .str _, shp, by decide +kernel, _, rfl, ?_⟩
                  cases b5 : PyData.eqv d0 (.str "loop") with
                  | false =>
                    have n5 : ¬ isW d0 "loop" = true := by show ¬ PyData.eqv d0 (.str "loop") = true; rw [b5]; exact Bool.false_ne_true
                    exact q' false H (Same.refl H) ((if_neg n2).trans ((if_neg n3).trans ((if_neg n4).trans (if_neg n5))))
                  | true =>
                    have e : partL (m + 1) may (.tuple (d0 :: d1 :: rest1)) = loopL (some (partsF (partL m) false)) (d1 :: rest1) := (if_neg n2).trans ((if_neg n3).trans ((if_neg n4).trans (if_pos b5)))
                    rw [e] at q'
                    refine iteF ⟨_, rfl, t, _, rfl, .inr hS, rfl, _, rfl, ?_⟩
                    cases hr1' with
                    | nil => exact len_ne (fun _ => q' _ H (Same.refl H) rfl) (fun z => absurd z (by simp))
                    | @cons v2 vs2 d2 rest2 h2' hr2' =>
                      cases hr2' with
                      | cons _ _ => exact len_ne (fun _ => q' _ H (Same.refl H) rfl) (fun z => absurd z (by simp only [List.length_cons]; omega))
                      | nil =>
                        refine len_ne (fun z => absurd rfl z) fun _ => ?_
                        have cf : countD d1 = false → loopL (some (partsF (partL m) false)) [d1, d2] = false := fun z => by
                          show (countD d1 && _) = false
                          rw [z]
                          rfl
                        refine ⟨_, rfl, t, _, 1, _, rfl, rfl, hS, at1, ?_⟩
                        cases h1' with
                        | non => exact ⟨_, _, .non, (by decide +kernel : kitB "NoneType" "tuple" = some false), _, rfl, iteT (q' _ H (Same.refl H) (cf rfl))⟩
                        | bl b => exact ⟨_, _, .bl b, (by decide +kernel : kitB "bool" "tuple" = some false), _, rfl, iteT (q' _ H (Same.refl H) (cf rfl))⟩
                        | int i => exact ⟨_, _, .int i, (by decide +kernel : kitB "int" "tuple" = some false), _, rfl, iteT (q' _ H (Same.refl H) (cf rfl))⟩
                        | str i => exact ⟨_, _, .str i, (by decide +kernel : kitB "str" "tuple" = some false), _, rfl, iteT (q' _ H (Same.refl H) (cf rfl))⟩
                        | lst hy ha => exact ⟨_, _, .lst hy ha, (by decide +kernel : kitB "list" "tuple" = some false), _, rfl, iteT (q' _ H (Same.refl H) (cf rfl))⟩
                        | @tup ty ys es hy ha =>
                          refine ⟨_, _, .tup hy ha, (by decide +kernel : kitB "tuple" "tuple" = some true), _, rfl, iteF ?_⟩
                          refine ⟨_, rfl, t, _, 1, _, rfl, rfl, hS, at1, ty, ys, rfl, .inr hy, rfl, _, rfl, ?_⟩
                          cases ha with
                          | nil => exact len_ne (fun _ => q' _ H (Same.refl H) (cf rfl)) (fun z => absurd z (by simp))
                          | @cons u1 us1 c1 cs1 g1 ha1 =>
                            cases ha1 with
                            | nil => exact len_ne (fun _ => q' _ H (Same.refl H) (cf (by cases c1 <;> rfl))) (fun z => absurd z (by simp))
                            | @cons u2 us2 c2 cs2 g2 ha2 =>
                              cases ha2 with
                              | cons _ _ => exact len_ne (fun _ => q' _ H (Same.refl H) (cf (by cases c1 <;> first | rfl | (cases c2 <;> rfl)))) (fun z => absurd z (by simp only [List.length_cons]; omega))
                              | nil =>
                                refine len_ne (fun z => absurd rfl z) fun _ => ?_
                                refine ⟨_, rfl, rfl, _, rfl, ?_⟩
                                rw [decide_eq_false (show ¬ V.int ((4 : Int) - ((m + 1 : Nat) : Int)) = V.int 4 from fun z => by have z2 := V.int.inj z; omega)]
                                walk_at "nx"
                                have pw : CPow 10 30 := ⟨by decide, by decide, by decide⟩
                                refine ⟨_, rfl, t, _, 1, _, rfl, rfl, hS, at1, ty, _, 0, _, rfl, rfl, hy, at0, _, 0, 9, c1, rfl, g1, _, rfl, ?_⟩
                                have two := countD_two (d := c1) (e := c2)
                                cases b6 : betw 0 9 c1 with
                                | false => exact q' _ H (Same.refl H) (cf (by rw [two, b6]; rfl))
                                | true =>
                                  refine iteF ⟨_, rfl, t, _, 1, _, rfl, rfl, hS, at1, ty, _, 1, _, rfl, rfl, hy, at1, _, _, rfl, rfl, pw, _, rfl, _, _, rfl, rfl, pw, u2, -(10 ^ 30), 10 ^ 30, c2, rfl, g2, _, rfl, ?_⟩
                                  cases b7 : betw (-(10 ^ 30)) (10 ^ 30) c2 with
                                  | false => exact q' _ H (Same.refl H) (cf (by rw [two, b6, b7]; rfl))
                                  | true =>
                                    obtain ⟨i, rfl, _, _⟩ := betw_int b6
                                    obtain ⟨j, rfl, _, _⟩ := betw_int b7
                                    cases g1
                                    cases g2
                                    have ct : countD (.tuple [.int i, .int j]) = true → loopL (some (partsF (partL m) false)) [.tuple [.int i, .int j], d2] = partsF (partL m) false d2 := fun z => by
                                      show (countD _ && partsF (partL m) false d2) = _
                                      rw [z, Bool.true_and]
                                    rw [b6, b7, Bool.true_and, Bool.true_and] at two
                                    dsimp only at two
                                    walk_at "nx"
                                    refine ⟨_, rfl, t, _, 1, _, rfl, rfl, hS, at1, ty, _, 0, _, rfl, rfl, hy, at0, _, _, rfl, rfl, _, rfl, ?_⟩
                                    by_cases hi : i > 0
                                    · rw [decide_eq_true (show (0 : Int) < i from hi)]
                                      refine ⟨_, rfl, ?_⟩
                                      refine ⟨_, rfl, t, _, 2, _, rfl, rfl, hS, at2, _, rfl, _, _, rfl, rfl, _, d2, false, (by show [_, V.int ((4 : Int) - ((m + 1 : Nat) : Int) + 1), _] = _; rw [show (4 : Int) - ((m + 1 : Nat) : Int) + 1 = 4 - m by omega]), h2', Fit.at fit (i := 2) rfl, fun H1 s1 => q' _ H1 s1 (ct ?_)⟩
                                      rw [two, decide_eq_true hi, Bool.true_or]
                                    · rw [decide_eq_false (show ¬ (0 : Int) < i from hi)]
                                      refine ⟨_, rfl, t, _, 1, _, rfl, rfl, hS, at1, ty, _, 1, _, rfl, rfl, hy, at1, _, _, rfl, rfl, _, rfl, ?_⟩
                                      by_cases hj : j ≥ 0
                                      · rw [decide_eq_true (show (0 : Int) ≤ j from hj)]
                                        refine ⟨_, rfl, t, _, 2, _, rfl, rfl, hS, at2, _, rfl, _, _, rfl, rfl, _, d2, false, (by show [_, V.int ((4 : Int) - ((m + 1 : Nat) : Int) + 1), _] = _; rw [show (4 : Int) - ((m + 1 : Nat) : Int) + 1 = 4 - m by omega]), h2', Fit.at fit (i := 2) rfl, fun H1 s1 => q' _ H1 s1 (ct ?_)⟩
                                        rw [two, decide_eq_true hj, Bool.or_true]
                                      · rw [decide_eq_false (show ¬ (0 : Int) ≤ j from hj)]
                                        exact q' _ H (Same.refl H) (cf (by rw [two, decide_eq_false hi, decide_eq_false hj]; rfl))
end
end L2.L02

set_option maxHeartbeats 4000000
namespace L2.L02
open PySem PySem.Spec PyProof.Rows LR L2.Lr
local macro_rules | `(tactic| walk_at "nx") => `(tactic| dsimp only [gName, tNext, tSeq, tAsg, List.set_cons_zero, List.set_cons_succ])
theorem allAt_iff {pt : Bool → PyData → Bool} {outer : Bool} : ∀ {ds : List PyData}, allAt pt outer ds = true ↔ ∀ (j : Nat) (d : PyData), ds[j]? = some d → pt (outer && decide (j + 1 = ds.length)) d = true
  | [] => ⟨fun _ j d e => by simp at e, fun _ => rfl⟩
  | [a] => by
    refine ⟨fun h j d e => ?_, fun h => ?_⟩
    · cases j with
      | zero =>
        simp at e
        subst e
        rw [decide_eq_true (show 0 + 1 = [_].length from rfl), Bool.and_true]
        exact h
      | succ j => simp at e
    · have z := h 0 a rfl
      rw [decide_eq_true (show 0 + 1 = [a].length from rfl), Bool.and_true] at z
      exact z
  | a :: b :: r => by
    have ih := allAt_iff (pt := pt) (outer := outer) (ds := b :: r)
    show (pt false a && allAt pt outer (b :: r)) = true ↔ _
    rw [Bool.and_eq_true, ih]
    refine ⟨fun ⟨h1, h2⟩ j d e => ?_, fun h => ⟨?_, fun j d e => ?_⟩⟩
    · cases j with
      | zero =>
        simp at e
        subst e
        rw [decide_eq_false (by simp only [List.length_cons]; omega), Bool.and_false]
        exact h1
      | succ j =>
        have z := h2 j d (by simpa using e)
        have e2 : decide (j + 1 + 1 = (a :: b :: r).length) = decide (j + 1 = (b :: r).length) := by
          simp only [List.length_cons]
          by_cases q : j + 1 = r.length + 1
          · rw [decide_eq_true q, decide_eq_true (by omega)]
          · rw [decide_eq_false q, decide_eq_false (by omega)]
        rw [e2]
        exact z
    · have z := h 0 a rfl
      rw [decide_eq_false (by simp only [List.length_cons]; omega), Bool.and_false] at z
      exact z
    · have z := h (j + 1) d (by simpa using e)
      have e2 : decide (j + 1 + 1 = (a :: b :: r).length) = decide (j + 1 = (b :: r).length) := by
        simp only [List.length_cons]
        by_cases q : j + 1 = r.length + 1
        · rw [decide_eq_true q, decide_eq_true (by omega)]
        · rw [decide_eq_false q, decide_eq_false (by omega)]
      rw [e2] at z
      exact z
section
variable {P : Program} {w : World} {K : PySem.W.Frag} {mg : Str → Option Value} {base : Heap}
theorem ol_parts {n : Nat} {f fS : Addr} {fd dS : FuncData} (F : FnP K "_law_are_parts" lParts f fd) (T : Prg mg) (hrange : mg "range" = none) {k : Nat} (N : Def P w K mg base CX0 k "_law_is_part" fS dS ["_law_part_here", "_law_deep_here", "_law_may_end"] (spLPart K n)) : FnOk P w K mg base CX0 (k + 1) f fd ["_law_parts_here", "_law_deep_here", "_law_is_outer"] (spLParts K n) := by
  refine F.ok scl4 (fun vs H Q E h => ?_) (fun cdv A outer s H vs Q E hr h => ?_)
  · obtain ⟨x, d, o, rfl, _⟩ := h
    rfl
  · obtain ⟨x, d, ou, rfl, hd, fit, q⟩ := h
    refine ⟨_, PSs.nox (pss_cons (ps_if (pt_not (pt_val (pe_isD T.isn (pv 0) (pe_bltn (by rfl) T.tuple bbT (by rfl)) (by rfl)))) (pss_one (ps_ret pe_bl)) pss_nil)
      (pss_cons (ps_for PassesOwn.never rfl (pi_range1 (by rfl) hrange (pa_cons (pe_callB call_len_seq (by rfl) T.len boot_len (pa_cons (pv 0) pa_nil)) pa_nil)) (pg_name (i := 3) scl4.nd rfl (Or.inl rfl))
        (pss_one (ps_if (pt_not (pt_val (pe_call N.ok hr (by rfl) N.g N.k N.b .nil pass0 (pa_cons (pe_ix ix_tup (pv 0) (pv 3) (fun _ _ => rfl)) (pa_cons (pv 1) (pa_cons (pe_and (pv 2) (pe_one (pe_cmpR op_eq (pv 3) (pe_op op_sub (pe_callB call_len_seq (by rfl) T.len boot_len (pa_cons (pv 0) pa_nil)) pe_int) (nomark _)))) pa_nil)))))) (pss_one (ps_ret pe_bl)) pss_nil)))
      (pss_one (ps_ret pe_bl)))), ?_⟩
    have e0 : start ["_law_parts_here", "_law_deep_here", "_law_is_outer", "_law_at"] [x, .int (4 - (n : Int)), .bl ou] = [some x, some (.int (4 - (n : Int))), some (.bl ou), none] := rfl
    rw [e0]
    have qf : partsF (partL n) ou d = false → Q (.bl false) H := fun e => by
      have z := q H (Same.refl H)
      rw [e] at z
      exact z
    refine go_seq ?_
    cases hd with
    | non => exact ⟨_, rfl, _, _, .non, (by decide +kernel : kitB "NoneType" "tuple" = some false), _, rfl, iteT (qf rfl)⟩
    | bl b => exact ⟨_, rfl, _, _, .bl b, (by decide +kernel : kitB "bool" "tuple" = some false), _, rfl, iteT (qf rfl)⟩
    | int i => exact ⟨_, rfl, _, _, .int i, (by decide +kernel : kitB "int" "tuple" = some false), _, rfl, iteT (qf rfl)⟩
    | str i => exact ⟨_, rfl, _, _, .str i, (by decide +kernel : kitB "str" "tuple" = some false), _, rfl, iteT (qf rfl)⟩
    | lst hS ha => exact ⟨_, rfl, _, _, .lst hS ha, (by decide +kernel : kitB "list" "tuple" = some false), _, rfl, iteT (qf rfl)⟩
    | @tup t xs ds hS ha =>
      refine ⟨_, rfl, _, _, .tup hS ha, (by decide +kernel : kitB "tuple" "tuple" = some true), _, rfl, ?_⟩
      walk_at "nx"
      refine iteF ?_
      have hl := DpAll.length ha
      have hzl : ds.length ≤ sizeLine := by have z := fit.1; unfold sOk at z; exact z.1
      refine ⟨_, rfl, t, xs, rfl, .inr hS, _, rfl, ?_, ?_, for_rangeD (lo := 0) (fun i σ H' => Same H H' ∧ (∃ o, σ = [some (.ref t), some (.int (4 - (n : Int))), some (.bl ou), o]) ∧ ∀ j, j < i → ∀ d, ds[j]? = some d → partL n (ou && decide (j + 1 = ds.length)) d = true)
        ⟨Same.refl H, ⟨_, rfl⟩, fun j z => absurd z (Nat.not_lt_zero j)⟩ ?_ ?_⟩
      · omega
      · have := sizeLine_eq
        omega
      · rintro D' i σ H2 hrt hnx - - hi ⟨s2, ⟨o, rfl⟩, hall⟩
        have hi : i < xs.length := by omega
        have hid : i < ds.length := by omega
        obtain ⟨v, hv⟩ : ∃ v, xs[i]? = some v := ⟨_, List.getElem?_eq_getElem hi⟩
        obtain ⟨dv, hdv, hD⟩ := DpAll.at ha hv
        have hat : atI xs (0 + (i : Int)) = some v := by rw [Int.zero_add]; exact atI_nat hv
        walk_at "nx"
        have go : ∀ may, may = (ou && decide (i + 1 = ds.length)) → ∀ H3, Same H H3 → (fun b H4 => if b = true then D'.rt (.bl false) H4 else D'.nx [some (.ref t), some (.int (4 - (n : Int))), some (.bl ou), some (.int (0 + (i : Int)))] H4) (!partL n may dv) H3 := fun may em H3 s3 => by
          dsimp only
          cases hp : partL n may dv with
          | true =>
            refine iteF (hnx _ _ ⟨s3, ⟨_, rfl⟩, fun j hj d e => ?_⟩)
            by_cases hji : j = i
            · subst hji
              cases hdv.symm.trans e
              rw [← em]
              exact hp
            · exact hall j (by omega) d e
          | false =>
            refine iteT ?_
            rw [hrt]
            have z := q H3 s3
            have e : partsF (partL n) ou (.tuple ds) = false := by
              cases hz : allAt (partL n) ou ds with
              | false => exact hz
              | true =>
                have y := allAt_iff.mp hz i dv hdv
                rw [← em, hp] at y
                cases y
            rw [e] at z
            exact z
        refine ⟨_, rfl, _, rfl, t, _, _, v, rfl, rfl, seqT s2 hS, hat, _, rfl, _, rfl, _, rfl, ?_⟩
        cases ou with
        | false =>
          refine ⟨v, dv, false, rfl, Dp.same s2 hD, Fit.at fit hdv, fun H3 s3 => ⟨_, rfl, ?_⟩⟩
          exact go false rfl H3 (s2.trans s3)
        | true =>
          refine ⟨_, rfl, _, rfl, t, xs, rfl, .inr (seqT s2 hS), _, _, rfl, rfl, rfl, v, dv, decide (i + 1 = ds.length), ?_, Dp.same s2 hD, Fit.at fit hdv, fun H3 s3 => ⟨_, rfl, ?_⟩⟩
          · rw [dec_vint]
            have e : decide ((0 : Int) + (i : Int) = (xs.length : Int) - 1) = decide (i + 1 = ds.length) := by
              by_cases h : i + 1 = ds.length
              · rw [decide_eq_true h, decide_eq_true (by omega)]
              · rw [decide_eq_false h, decide_eq_false (by omega)]
            rw [e]
            rfl
          · exact go _ (Bool.true_and _).symm H3 (s2.trans s3)
      · rintro σ H2 ⟨s2, ⟨o, rfl⟩, hall⟩
        have e : partsF (partL n) ou (.tuple ds) = true := allAt_iff.mpr fun j d e => by
          have hj := (List.getElem?_eq_some_iff.mp e).1
          exact hall j (by omega) d e
        have z := q H2 s2
        rw [e] at z
        exact z
end
end L2.L02

set_option maxHeartbeats 4000000
namespace L2.L02
open PySem PySem.Spec PyProof.Rows LR L2.Lr
local macro_rules | `(tactic| walk_at "nx") => `(tactic| dsimp only [gName, tNext, tSeq, tAsg, List.set_cons_zero, List.set_cons_succ])
theorem scm : FnScope ["_law_parts_here", "_law_part_here"] ["_law_parts_here"] (defScope lMany) := ⟨rfl, rfl, rfl, by decide +kernel, rfl, by decide +kernel, by decide +kernel⟩
def manyS (mp : PyData → Int) : PyData → Int
  | .tuple ds => (ds.map mp).sum
  | .list ds => (ds.map mp).sum
  | _ => 0
def manyP : Nat → PyData → Int
  | n + 1, .tuple (.str w :: ds) => 1 + (if roundW w then manyS (manyP n) (lastD ds) else 0)
  | _, _ => 1
def okM (n : Nat) (d : PyData) : Prop := ∃ may, partL n may d = true
theorem inV_round {w : Str} : inV (V.str w) [V.str "loop", V.str "forever"] = roundW w := by
  have c : ∀ y : Str, ((y : Str) == w) = decide (w = y) := fun y => by
    by_cases h : w = y
    · subst h; simp
    · have h' : ¬ y = w := fun z => h z.symm
      simp [h, h']
  show (((("loop" : Str) == w) || ((("forever" : Str) == w) || false))) = _
  rw [c, c, Bool.or_false]
  rfl
theorem isW_str {d : PyData} {w : Str} (h : isW d w = true) : d = .str w := by
  cases d with
  | str x =>
    have z : (x == w) = true := h
    rw [eq_of_beq z]
  | _ => simp [isW, PyData.eqv] at h
theorem partF_str {inner : Option (PyData → Bool)} {may : Bool} {d : PyData} (h : partF inner may d = true) : ∃ w ds, d = .tuple (.str w :: ds) ∧ (roundW w = true → ∃ g, inner = some g ∧ ds ≠ [] ∧ g (lastD ds) = true) := by
  match d, h with
  | .tuple (d0 :: ds), h =>
    have h : (if isW d0 "send" || isW d0 "take" then sendL ds else if isW d0 "work" then workL ds else if isW d0 "forever" then everL inner may ds else if isW d0 "loop" then loopL inner ds else false) = true := h
    split at h
    · rename_i c
      rcases Bool.or_eq_true_iff.mp c with c | c <;> cases isW_str c <;> exact ⟨_, ds, rfl, fun z => absurd z (by decide +kernel)⟩
    · split at h
      · rename_i c
        cases isW_str c
        exact ⟨_, ds, rfl, fun z => absurd z (by decide +kernel)⟩
      · split at h
        · rename_i c
          cases isW_str c
          refine ⟨_, ds, rfl, fun _ => ?_⟩
          match ds, inner, h with
          | [b], some g, h =>
            obtain ⟨_, h2⟩ := Bool.and_eq_true_iff.mp (show (may && g b) = true from h)
            exact ⟨g, rfl, by simp, h2⟩
          | [b], none, h => cases (Bool.and_eq_true_iff.mp (show (may && false) = true from h)).2
        · split at h
          · rename_i c
            cases isW_str c
            refine ⟨_, ds, rfl, fun _ => ?_⟩
            match ds, inner, h with
            | [c, b], some g, h =>
              obtain ⟨_, h2⟩ := Bool.and_eq_true_iff.mp (show (countD c && g b) = true from h)
              exact ⟨g, rfl, by simp, h2⟩
            | [c, b], none, h => cases (Bool.and_eq_true_iff.mp (show (countD c && false) = true from h)).2
          · cases h
theorem okM_zero {d : PyData} (h : okM 0 d) : ∃ w ds, d = .tuple (.str w :: ds) ∧ roundW w = false := by
  obtain ⟨may, h⟩ := h
  obtain ⟨w, ds, e, k⟩ := partF_str (inner := none) h
  refine ⟨w, ds, e, ?_⟩
  cases hw : roundW w with
  | false => rfl
  | true =>
    obtain ⟨g, z, _⟩ := k hw
    cases z
theorem okM_succ {n : Nat} {d : PyData} (h : okM (n + 1) d) : ∃ w ds, d = .tuple (.str w :: ds) ∧ (roundW w = true → ds ≠ [] ∧ ∃ es, lastD ds = .tuple es ∧ ∀ e, e ∈ es → okM n e) := by
  obtain ⟨may, h⟩ := h
  obtain ⟨w, ds, e, k⟩ := partF_str (inner := some (partsF (partL n) false)) h
  refine ⟨w, ds, e, fun hw => ?_⟩
  obtain ⟨g, z, nn, hg⟩ := k hw
  cases z
  refine ⟨nn, ?_⟩
  match hl : lastD ds, hg with
  | .tuple es, hg =>
    refine ⟨es, rfl, fun e he => ?_⟩
    obtain ⟨i, hi⟩ := List.getElem?_of_mem he
    exact ⟨_, allAt_iff.mp (show allAt (partL n) false es = true from hg) i e hi⟩
def spMany (K : PySem.W.Frag) (n : Nat) : Sp := fun vs H Q _ => ∃ x d ds, vs = [x] ∧ (d = .tuple ds ∨ d = .list ds) ∧ Dp K H x d ∧ ds.length ≤ sizeLine ∧ sOkAll ds ∧ (∀ e, e ∈ ds → okM n e) ∧ ∀ H', Same H H' → Q (.int (manyS (manyP n) d)) H'
section
variable {P : Program} {w : World} {K : PySem.W.Frag} {mg : Str → Option Value} {base : Heap}
theorem ol_many0 {f : Addr} {fd : FuncData} (F : FnP K "_law_many" lMany f fd) (T : Prg mg) (hsum : mg "sum" = none) {k : Nat} : FnOk P w K mg base CX0 (k + 1) f fd ["_law_parts_here"] (spMany K 0) := by
  refine F.ok scm (fun vs H Q E h => ?_) (fun cdv A outer s H vs Q E hr h => ?_)
  · obtain ⟨x, d, ds, rfl, _⟩ := h
    rfl
  · obtain ⟨x, d, ds, rfl, hkind, hd, hz, hso, hok, q⟩ := h
    rcases hkind with rfl | rfl
    · refine ⟨_, PSs.nox (pss_one (ps_ret (pe_callB (cr_sum rfl) (by rfl) hsum (by decide +kernel) (pa_cons (pe_lc (own := [("_law_part_here", 1)]) (g := gName 1) (tt := tYes) rfl scm.nd (pi_tup (pv 0)) (blkOk_by (N := ["_law_parts_here", "_law_part_here"]) (sc := defScope lMany) (by decide +kernel)) (fun _ _ _ _ _ => pg_name (i := 1) scm.nd rfl (Or.inl rfl)) (fun _ _ _ _ _ => pts_nil)
        (fun _ _ _ _ _ => pe_op op_add pe_int (pe_ifExp (pt_cmpR (r := rIn K false) (by exact op_in_seq) (pe_ix (r := rIxT K) (by exact ix_tup) (pv 1) pe_int (fun _ _ => rfl)) (pe_lst (pa_cons pe_str (pa_cons pe_str pa_nil))) (by rfl)) pe_never pe_int))) pa_nil)))), ?_⟩
      have e0 : start ["_law_parts_here", "_law_part_here"] [x] = [some x, none] := rfl
      rw [e0]
      cases hd with
      | @tup t xs ds hS ha =>
        refine ⟨_, rfl, t, rfl, ⟨_, hS⟩, fun D hD => lc_tup (K := K) (a := t) (xs := xs) (fun i H' => Same H H' ∧ H' D = some (.lst (((ds.take i).map (manyP 0)).map V.int))) ⟨same_upd hD, upd_same⟩ (fun i H' _ q => seqT q.1 hS) ?_ ?_⟩
        · rintro i v H' hv ⟨s', hD'⟩
          obtain ⟨dv, hdv, hDv⟩ := DpAll.at ha hv
          have hmem := List.mem_of_getElem? hdv
          have hlt := (List.getElem?_eq_some_iff.mp hdv).1
          have fin : ∀ (r : Int) (H4 : Hp), r = manyP 0 dv → Same H' H4 → ∃ acc, H4 D = some (.lst acc) ∧ acc.length < sizeLine ∧ Same H (upd H4 D (.lst (acc ++ [V.int r]))) ∧
              (upd H4 D (.lst (acc ++ [V.int r]))) D = some (.lst (((ds.take (i + 1)).map (manyP 0)).map V.int)) := fun r H4 er s4 => by
            refine ⟨_, s4 _ _ hD', ?_, fun b o e => ?_, ?_⟩
            · rw [List.length_map, List.length_map, List.length_take]
              omega
            · by_cases hb : b = D
              · rw [hb, hD] at e
                cases e
              · exact (upd_ne hb).trans (s4 _ _ (s' b o e))
            · rw [upd_same, List.take_add_one, hdv, List.map_append, List.map_append, er]
              rfl
          obtain ⟨w, es, rfl, hw⟩ := okM_zero (hok _ hmem)
          obtain ⟨te, ve, vse, rfl, hSe, he1, he2⟩ := tupD hDv
          cases strD he1
          refine ⟨rfl, ?_⟩
          refine ⟨_, rfl, te, _, 0, .str w, rfl, rfl, seqT s' hSe, at0, by show 2 ≤ sizeLine; decide, fun p np => ⟨p, _, rfl, .inl (SqL.of upd_same), rfl, rfl, _, rfl, ?_⟩⟩
          have sp := same_upd (o := .lst [.str "loop", .str "forever"]) np
          rw [if_neg Bool.false_ne_true, inV_round]
          rw [hw]
          exact iteF ⟨_, _, rfl, rfl, fin _ _ rfl sp⟩
        · rintro H' ⟨s', hD'⟩
          rw [DpAll.length ha, List.take_length] at hD'
          exact ⟨D, ds.map (manyP 0), rfl, SqL.of hD', q H' s'⟩
    · refine ⟨_, PSs.nox (pss_one (ps_ret (pe_callB (cr_sum rfl) (by rfl) hsum (by decide +kernel) (pa_cons (pe_lc (own := [("_law_part_here", 1)]) (g := gName 1) (tt := tYes) rfl scm.nd (pi_list (pv 0)) (blkOk_by (N := ["_law_parts_here", "_law_part_here"]) (sc := defScope lMany) (by decide +kernel)) (fun _ _ _ _ _ => pg_name (i := 1) scm.nd rfl (Or.inl rfl)) (fun _ _ _ _ _ => pts_nil)
        (fun _ _ _ _ _ => pe_op op_add pe_int (pe_ifExp (pt_cmpR (r := rIn K false) (by exact op_in_seq) (pe_ix (r := rIxT K) (by exact ix_tup) (pv 1) pe_int (fun _ _ => rfl)) (pe_lst (pa_cons pe_str (pa_cons pe_str pa_nil))) (by rfl)) pe_never pe_int))) pa_nil)))), ?_⟩
      have e0 : start ["_law_parts_here", "_law_part_here"] [x] = [some x, none] := rfl
      rw [e0]
      cases hd with
      | @lst t xs ds hS ha =>
        refine ⟨_, rfl, t, rfl, ⟨_, hS⟩, fun D hD => lc_list (K := K) (a := t) (xs := xs) (fun i H' => Same H H' ∧ H' D = some (.lst (((ds.take i).map (manyP 0)).map V.int))) ⟨same_upd hD, upd_same⟩ (fun i H' _ q => q.1.seq hS) ?_ ?_⟩
        · rintro i v H' hv ⟨s', hD'⟩
          obtain ⟨dv, hdv, hDv⟩ := DpAll.at ha hv
          have hmem := List.mem_of_getElem? hdv
          have hlt := (List.getElem?_eq_some_iff.mp hdv).1
          have fin : ∀ (r : Int) (H4 : Hp), r = manyP 0 dv → Same H' H4 → ∃ acc, H4 D = some (.lst acc) ∧ acc.length < sizeLine ∧ Same H (upd H4 D (.lst (acc ++ [V.int r]))) ∧
              (upd H4 D (.lst (acc ++ [V.int r]))) D = some (.lst (((ds.take (i + 1)).map (manyP 0)).map V.int)) := fun r H4 er s4 => by
            refine ⟨_, s4 _ _ hD', ?_, fun b o e => ?_, ?_⟩
            · rw [List.length_map, List.length_map, List.length_take]
              omega
            · by_cases hb : b = D
              · rw [hb, hD] at e
                cases e
              · exact (upd_ne hb).trans (s4 _ _ (s' b o e))
            · rw [upd_same, List.take_add_one, hdv, List.map_append, List.map_append, er]
              rfl
          obtain ⟨w, es, rfl, hw⟩ := okM_zero (hok _ hmem)
          obtain ⟨te, ve, vse, rfl, hSe, he1, he2⟩ := tupD hDv
          cases strD he1
          refine ⟨rfl, ?_⟩
          refine ⟨_, rfl, te, _, 0, .str w, rfl, rfl, seqT s' hSe, at0, by show 2 ≤ sizeLine; decide, fun p np => ⟨p, _, rfl, .inl (SqL.of upd_same), rfl, rfl, _, rfl, ?_⟩⟩
          have sp := same_upd (o := .lst [.str "loop", .str "forever"]) np
          rw [if_neg Bool.false_ne_true, inV_round]
          rw [hw]
          exact iteF ⟨_, _, rfl, rfl, fin _ _ rfl sp⟩
        · rintro H' ⟨s', hD'⟩
          rw [DpAll.length ha, List.take_length] at hD'
          exact ⟨D, ds.map (manyP 0), rfl, SqL.of hD', q H' s'⟩
theorem ol_manyS {m : Nat} {f fN : Addr} {fd dN : FuncData} (F : FnP K "_law_many" lMany f fd) (T : Prg mg) (hsum : mg "sum" = none) {k : Nat} (N : Def P w K mg base CX0 k "_law_many" fN dN ["_law_parts_here"] (spMany K m)) : FnOk P w K mg base CX0 (k + 1) f fd ["_law_parts_here"] (spMany K (m + 1)) := by
  refine F.ok scm (fun vs H Q E h => ?_) (fun cdv A outer s H vs Q E hr h => ?_)
  · obtain ⟨x, d, ds, rfl, _⟩ := h
    rfl
  · obtain ⟨x, d, ds, rfl, hkind, hd, hz, hso, hok, q⟩ := h
    have hrk : Room k _ := hr
    rcases hkind with rfl | rfl
    · refine ⟨_, PSs.nox (pss_one (ps_ret (pe_callB (cr_sum rfl) (by rfl) hsum (by decide +kernel) (pa_cons (pe_lc (own := [("_law_part_here", 1)]) (g := gName 1) (tt := tYes) rfl scm.nd (pi_tup (pv 0)) (blkOk_by (N := ["_law_parts_here", "_law_part_here"]) (sc := defScope lMany) (by decide +kernel)) (fun _ _ _ _ _ => pg_name (i := 1) scm.nd rfl (Or.inl rfl)) (fun _ _ _ _ _ => pts_nil)
        (fun _ _ _ _ _ => pe_op op_add pe_int (pe_ifExp (pt_cmpR (r := rIn K false) (by exact op_in_seq) (pe_ix (r := rIxT K) (by exact ix_tup) (pv 1) pe_int (fun _ _ => rfl)) (pe_lst (pa_cons pe_str (pa_cons pe_str pa_nil))) (by rfl)) (pe_call N.ok hrk (by rfl) N.g N.k N.b .nil pass0 (pa_cons (pe_ix (r := rIxT K) (by exact ix_tup) (pv 1) (pe_un un_neg pe_int) (fun _ _ => rfl)) pa_nil)) pe_int))) pa_nil)))), ?_⟩
      have e0 : start ["_law_parts_here", "_law_part_here"] [x] = [some x, none] := rfl
      rw [e0]
      cases hd with
      | @tup t xs ds hS ha =>
        refine ⟨_, rfl, t, rfl, ⟨_, hS⟩, fun D hD => lc_tup (K := K) (a := t) (xs := xs) (fun i H' => Same H H' ∧ H' D = some (.lst (((ds.take i).map (manyP (m + 1))).map V.int))) ⟨same_upd hD, upd_same⟩ (fun i H' _ q => seqT q.1 hS) ?_ ?_⟩
        · rintro i v H' hv ⟨s', hD'⟩
          obtain ⟨dv, hdv, hDv⟩ := DpAll.at ha hv
          have hmem := List.mem_of_getElem? hdv
          have hlt := (List.getElem?_eq_some_iff.mp hdv).1
          have fin : ∀ (r : Int) (H4 : Hp), r = manyP (m + 1) dv → Same H' H4 → ∃ acc, H4 D = some (.lst acc) ∧ acc.length < sizeLine ∧ Same H (upd H4 D (.lst (acc ++ [V.int r]))) ∧
              (upd H4 D (.lst (acc ++ [V.int r]))) D = some (.lst (((ds.take (i + 1)).map (manyP (m + 1))).map V.int)) := fun r H4 er s4 => by
            refine ⟨_, s4 _ _ hD', ?_, fun b o e => ?_, ?_⟩
            · rw [List.length_map, List.length_map, List.length_take]
              omega
            · by_cases hb : b = D
              · rw [hb, hD] at e
                cases e
              · exact (upd_ne hb).trans (s4 _ _ (s' b o e))
            · rw [upd_same, List.take_add_one, hdv, List.map_append, List.map_append, er]
              rfl
          obtain ⟨w, es, rfl, k2⟩ := okM_succ (hok _ hmem)
          obtain ⟨te, ve, vse, rfl, hSe, he1, he2⟩ := tupD hDv
          cases strD he1
          refine ⟨rfl, ?_⟩
          refine ⟨_, rfl, te, _, 0, .str w, rfl, rfl, seqT s' hSe, at0, by show 2 ≤ sizeLine; decide, fun p np => ⟨p, _, rfl, .inl (SqL.of upd_same), rfl, rfl, _, rfl, ?_⟩⟩
          have sp := same_upd (o := .lst [.str "loop", .str "forever"]) np
          rw [if_neg Bool.false_ne_true, inV_round]
          cases hw : roundW w with
          | false => exact iteF ⟨_, _, rfl, rfl, fin _ _ (by show _ = 1 + (if roundW w then _ else 0); rw [hw]; rfl) sp⟩
          | true =>
            obtain ⟨nn, es2, hl, hall⟩ := k2 hw
            have ok1 : sOk (.tuple (.str w :: es)) := sOkAll.at hso hdv
            have ok2 : sOkAll es := by unfold sOk sOkAll at ok1; exact ok1.2.2
            have ok3 := last_ok ok2 nn
            obtain ⟨vl, hvl, hdl⟩ := last_of (v := .str w) (DpAll.same (s'.trans sp) he2) nn
            refine iteT ⟨_, rfl, 1, rfl, te, _, -1, vl, rfl, rfl, seqT (s'.trans sp) hSe, hvl, vl, lastD es, es2, rfl, .inl hl, hdl, ?_, ?_, hall, fun H5 s5 => ⟨_, _, rfl, rfl, fin _ _ ?_ (sp.trans s5)⟩⟩
            · rw [hl] at ok3; unfold sOk at ok3; exact ok3.1
            · rw [hl] at ok3; unfold sOk at ok3; exact ok3.2
            · show _ = 1 + (if roundW w then _ else 0)
              rw [hw]
              rfl
        · rintro H' ⟨s', hD'⟩
          rw [DpAll.length ha, List.take_length] at hD'
          exact ⟨D, ds.map (manyP (m + 1)), rfl, SqL.of hD', q H' s'⟩
    · refine ⟨_, PSs.nox (pss_one (ps_ret (pe_callB (cr_sum rfl) (by rfl) hsum (by decide +kernel) (pa_cons (pe_lc (own := [("_law_part_here", 1)]) (g := gName 1) (tt := tYes) rfl scm.nd (pi_list (pv 0)) (blkOk_by (N := ["_law_parts_here", "_law_part_here"]) (sc := defScope lMany) (by decide +kernel)) (fun _ _ _ _ _ => pg_name (i := 1) scm.nd rfl (Or.inl rfl)) (fun _ _ _ _ _ => pts_nil)
        (fun _ _ _ _ _ => pe_op op_add pe_int (pe_ifExp (pt_cmpR (r := rIn K false) (by exact op_in_seq) (pe_ix (r := rIxT K) (by exact ix_tup) (pv 1) pe_int (fun _ _ => rfl)) (pe_lst (pa_cons pe_str (pa_cons pe_str pa_nil))) (by rfl)) (pe_call N.ok hrk (by rfl) N.g N.k N.b .nil pass0 (pa_cons (pe_ix (r := rIxT K) (by exact ix_tup) (pv 1) (pe_un un_neg pe_int) (fun _ _ => rfl)) pa_nil)) pe_int))) pa_nil)))), ?_⟩
      have e0 : start ["_law_parts_here", "_law_part_here"] [x] = [some x, none] := rfl
      rw [e0]
      cases hd with
      | @lst t xs ds hS ha =>
        refine ⟨_, rfl, t, rfl, ⟨_, hS⟩, fun D hD => lc_list (K := K) (a := t) (xs := xs) (fun i H' => Same H H' ∧ H' D = some (.lst (((ds.take i).map (manyP (m + 1))).map V.int))) ⟨same_upd hD, upd_same⟩ (fun i H' _ q => q.1.seq hS) ?_ ?_⟩
        · rintro i v H' hv ⟨s', hD'⟩
          obtain ⟨dv, hdv, hDv⟩ := DpAll.at ha hv
          have hmem := List.mem_of_getElem? hdv
          have hlt := (List.getElem?_eq_some_iff.mp hdv).1
          have fin : ∀ (r : Int) (H4 : Hp), r = manyP (m + 1) dv → Same H' H4 → ∃ acc, H4 D = some (.lst acc) ∧ acc.length < sizeLine ∧ Same H (upd H4 D (.lst (acc ++ [V.int r]))) ∧
              (upd H4 D (.lst (acc ++ [V.int r]))) D = some (.lst (((ds.take (i + 1)).map (manyP (m + 1))).map V.int)) := fun r H4 er s4 => by
            refine ⟨_, s4 _ _ hD', ?_, fun b o e => ?_, ?_⟩
            · rw [List.length_map, List.length_map, List.length_take]
              omega
            · by_cases hb : b = D
              · rw [hb, hD] at e
                cases e
              · exact (upd_ne hb).trans (s4 _ _ (s' b o e))
            · rw [upd_same, List.take_add_one, hdv, List.map_append, List.map_append, er]
              rfl
          obtain ⟨w, es, rfl, k2⟩ := okM_succ (hok _ hmem)
          obtain ⟨te, ve, vse, rfl, hSe, he1, he2⟩ := tupD hDv
          cases strD he1
          refine ⟨rfl, ?_⟩
          refine ⟨_, rfl, te, _, 0, .str w, rfl, rfl, seqT s' hSe, at0, by show 2 ≤ sizeLine; decide, fun p np => ⟨p, _, rfl, .inl (SqL.of upd_same), rfl, rfl, _, rfl, ?_⟩⟩
          have sp := same_upd (o := .lst [.str "loop", .str "forever"]) np
          rw [if_neg Bool.false_ne_true, inV_round]
          cases hw : roundW w with
          | false => exact iteF ⟨_, _, rfl, rfl, fin _ _ (by show _ = 1 + (if roundW w then _ else 0); rw [hw]; rfl) sp⟩
          | true =>
            obtain ⟨nn, es2, hl, hall⟩ := k2 hw
            have ok1 : sOk (.tuple (.str w :: es)) := sOkAll.at hso hdv
            have ok2 : sOkAll es := by unfold sOk sOkAll at ok1; exact ok1.2.2
            have ok3 := last_ok ok2 nn
            obtain ⟨vl, hvl, hdl⟩ := last_of (v := .str w) (DpAll.same (s'.trans sp) he2) nn
            refine iteT ⟨_, rfl, 1, rfl, te, _, -1, vl, rfl, rfl, seqT (s'.trans sp) hSe, hvl, vl, lastD es, es2, rfl, .inl hl, hdl, ?_, ?_, hall, fun H5 s5 => ⟨_, _, rfl, rfl, fin _ _ ?_ (sp.trans s5)⟩⟩
            · rw [hl] at ok3; unfold sOk at ok3; exact ok3.1
            · rw [hl] at ok3; unfold sOk at ok3; exact ok3.2
            · show _ = 1 + (if roundW w then _ else 0)
              rw [hw]
              rfl
        · rintro H' ⟨s', hD'⟩
          rw [DpAll.length ha, List.take_length] at hD'
          exact ⟨D, ds.map (manyP (m + 1)), rfl, SqL.of hD', q H' s'⟩
end
end L2.L02

set_option maxHeartbeats 4000000
namespace L2.L02
open PySem PySem.Spec PyProof.Rows LR L2.Lr
/-! the law's reckoning and the program's are one -/
theorem sum_pos {mp : PyData → Int} : ∀ {ds : List PyData}, (∀ d, d ∈ ds → 1 ≤ mp d) → 0 ≤ (ds.map mp).sum
  | [], _ => by simp
  | d :: r, h => by
    have h1 := h d (List.mem_cons_self ..)
    have h2 := sum_pos (ds := r) fun e m => h e (List.mem_cons_of_mem _ m)
    simp only [List.map_cons, List.sum_cons]
    omega
theorem goL_ok {sz mp : PyData → Int} {good : PyData → Bool} : ∀ {ds : List PyData} {m : Int}, 0 ≤ m →
    (∀ d, d ∈ ds → 1 ≤ mp d ∧ (good d = true → mp d ≤ 60 → sz d = mp d) ∧ ((good d = false ∨ 60 < mp d) → 60 < sz d)) →
    (((∀ d, d ∈ ds → good d = true) ∧ m + (ds.map mp).sum ≤ 60) → goL sz m ds = m + (ds.map mp).sum) ∧ (¬ ((∀ d, d ∈ ds → good d = true) ∧ m + (ds.map mp).sum ≤ 60) → 60 < goL sz m ds)
  | [], m, hm, _ => by
    refine ⟨fun _ => by simp [goL], fun h => ?_⟩
    show 60 < m
    by_cases q : 60 < m
    · exact q
    · exact absurd ⟨fun d z => absurd z (List.not_mem_nil), by simp; omega⟩ h
  | d :: r, m, hm, h => by
    obtain ⟨p1, p2, p3⟩ := h d (List.mem_cons_self ..)
    have hr : ∀ e, e ∈ r → _ := fun e me => h e (List.mem_cons_of_mem _ me)
    have hs := sum_pos (mp := mp) (ds := r) fun e me => (hr e me).1
    simp only [List.map_cons, List.sum_cons]
    have un : goL sz m (d :: r) = if 60 < m + sz d then 61 else goL sz (m + sz d) r := rfl
    rw [un]
    by_cases bad : good d = false ∨ 60 < mp d
    · have h60 := p3 bad
      rw [if_pos (by omega)]
      refine ⟨fun ⟨g1, g2⟩ => ?_, fun _ => by decide⟩
      rcases bad with bad | bad
      · have z := g1 d (List.mem_cons_self ..)
        rw [bad] at z
        cases z
      · omega
    · have gd : good d = true := by
        cases z : good d with
        | true => rfl
        | false => exact absurd (.inl z) bad
      have le : mp d ≤ 60 := by
        by_cases q : mp d ≤ 60
        · exact q
        · exact absurd (.inr (by omega)) bad
      rw [p2 gd le]
      by_cases big : 60 < m + mp d
      · rw [if_pos big]
        exact ⟨fun ⟨_, g2⟩ => by omega, fun _ => by decide⟩
      · rw [if_neg big]
        obtain ⟨i1, i2⟩ := goL_ok (sz := sz) (mp := mp) (good := good) (ds := r) (m := m + mp d) (by omega) hr
        refine ⟨fun ⟨g1, g2⟩ => ?_, fun n => i2 fun ⟨g1, g2⟩ => n ⟨fun e me => ?_, by omega⟩⟩
        · rw [i1 ⟨fun e me => g1 e (List.mem_cons_of_mem _ me), by omega⟩]
          omega
        · rcases List.mem_cons.mp me with rfl | me
          · exact gd
          · exact g1 e me
theorem manyP_pos : ∀ (n : Nat) (d : PyData), 1 ≤ manyP n d := by
  intro n
  induction n with
  | zero => intro d; exact Int.le_refl 1
  | succ n ih =>
    intro d
    unfold manyP
    split
    · rename_i n' w ds heq
      cases heq
      split
      · have : 0 ≤ manyS (manyP n) (lastD ds) := by
          unfold manyS
          split
          · exact sum_pos fun e _ => ih e
          · exact sum_pos fun e _ => ih e
          · exact Int.le_refl 0
        omega
      · omega
    · exact Int.le_refl 1
theorem isW_eq {w v : Str} : isW (.str w) v = decide (w = v) := by
  show (w == v) = _
  by_cases h : w = v
  · subst h; simp
  · simp [h]
theorem sizeD_other {n : Nat} {d : PyData} (h : ¬ ∃ w ds, d = .tuple (.str w :: ds)) : sizeD n d = 61 := by
  unfold sizeD
  split
  · exact absurd ⟨_, _, rfl⟩ h
  · exact absurd ⟨_, _, rfl⟩ h
  · rfl
theorem single {inner : Option (PyData → Bool)} {may : Bool} {w : Str} {ds : List PyData} (h : roundW w = false) : partF inner may (.tuple (.str w :: ds)) = singD w ds := by
  obtain ⟨h1, h2⟩ := Bool.or_eq_false_iff.mp h
  show (if isW (.str w) "send" || isW (.str w) "take" then sendL ds else if isW (.str w) "work" then workL ds else if isW (.str w) "forever" then everL inner may ds else if isW (.str w) "loop" then loopL inner ds else false) = _
  rw [isW_eq, isW_eq, isW_eq, isW_eq, isW_eq, h1, h2]
  by_cases hs : (decide (w = "send") || decide (w = "take")) = true
  · rw [if_pos hs]
    have nw : decide (w = "work") = false := by
      rcases Bool.or_eq_true_iff.mp hs with z | z <;> (have z := of_decide_eq_true z; subst z; decide +kernel)
    match ds with
    | [] => rfl
    | [a] => show false = (decide (w = "work") && _); rw [nw]; rfl
    | [a, b] => show _ = (!decide (w = "work") && ((decide (w = "send") || decide (w = "take")) && _)); rw [nw, hs]; rfl
    | _ :: _ :: _ :: _ => rfl
  · rw [if_neg hs]
    have hs' := Bool.not_eq_true _ |>.mp hs
    cases hw : decide (w = "work") with
    | true =>
      rw [if_pos rfl]
      match ds with
      | [] => rfl
      | [a] => show _ = (decide (w = "work") && _); rw [hw]; rfl
      | [a, b] => show false = (!decide (w = "work") && _); rw [hw]; rfl
      | _ :: _ :: _ :: _ => rfl
    | false =>
      rw [if_neg Bool.false_ne_true, if_neg Bool.false_ne_true, if_neg Bool.false_ne_true]
      match ds with
      | [] => rfl
      | [a] => show false = (decide (w = "work") && _); rw [hw]; rfl
      | [a, b] => show false = (!decide (w = "work") && ((decide (w = "send") || decide (w = "take")) && _)); rw [hs']; simp
      | _ :: _ :: _ :: _ => rfl
/-- may a forever stand here -/
def top4 (n : Nat) : Bool := decide (n = 4)
/-- the outermost parts as the law judges them, a forever let in anywhere among them -/
theorem round_size {n : Nat} (hn : n + 1 ≤ 4) {w : Str} {ds : List PyData} (hw : roundW w = true) (ih : ∀ d, (partL n (top4 n) d = true → manyP n d ≤ 60 → sizeD n d = manyP n d) ∧ ((partL n (top4 n) d = false ∨ 60 < manyP n d) → 60 < sizeD n d)) :
    (partL (n + 1) (top4 (n + 1)) (.tuple (.str w :: ds)) = true → manyP (n + 1) (.tuple (.str w :: ds)) ≤ 60 → sizeD (n + 1) (.tuple (.str w :: ds)) = manyP (n + 1) (.tuple (.str w :: ds))) ∧
    ((partL (n + 1) (top4 (n + 1)) (.tuple (.str w :: ds)) = false ∨ 60 < manyP (n + 1) (.tuple (.str w :: ds))) → 60 < sizeD (n + 1) (.tuple (.str w :: ds))) := by
  have tn : top4 n = false := decide_eq_false (by omega)
  rw [tn] at ih
  have em : manyP (n + 1) (.tuple (.str w :: ds)) = 1 + manyS (manyP n) (lastD ds) := by
    show 1 + (if roundW w then _ else 0) = _
    rw [hw]
    rfl
  have es : sizeD (n + 1) (.tuple (.str w :: ds)) = if headD (3 - n) w ds then 1 + howF (sizeD n) (lastD ds) else 61 := by
    show (if roundW w then _ else _) = _
    rw [hw]
    rfl
  have ep : partL (n + 1) (top4 (n + 1)) (.tuple (.str w :: ds)) = (headD (3 - n) w ds && partsF (partL n) false (lastD ds)) := by
    show partF (some (partsF (partL n) false)) (top4 (n + 1)) (.tuple (.str w :: ds)) = _
    show (if isW (.str w) "send" || isW (.str w) "take" then sendL ds else if isW (.str w) "work" then workL ds else if isW (.str w) "forever" then everL (some (partsF (partL n) false)) (top4 (n + 1)) ds else if isW (.str w) "loop" then loopL (some (partsF (partL n) false)) ds else false) = _
    rcases Bool.or_eq_true_iff.mp hw with z | z
    · have z := of_decide_eq_true z
      subst z
      match ds with
      | [] => rfl
      | [a] => rfl
      | [c, b] =>
        show (countD c && partsF (partL n) false b) = ((!false && (countD c && decide ((3 : Int) - n < 4))) && partsF (partL n) false b)
        rw [decide_eq_true (show (3 : Int) - n < 4 by omega), Bool.and_true]
        rfl
      | _ :: _ :: _ :: _ => rfl
    · have z := of_decide_eq_true z
      subst z
      match ds with
      | [] => rfl
      | [a] =>
        show (top4 (n + 1) && partsF (partL n) false a) = ((true && decide ((3 : Int) - n = 0)) && partsF (partL n) false a)
        have : top4 (n + 1) = decide ((3 : Int) - n = 0) := by
          unfold top4
          by_cases h : n + 1 = 4
          · rw [decide_eq_true h, decide_eq_true (by omega)]
          · rw [decide_eq_false h, decide_eq_false (by omega)]
        rw [this, Bool.true_and]
      | [c, b] => rfl
      | _ :: _ :: _ :: _ => rfl
  have inner : (partsF (partL n) false (lastD ds) = true → 1 + manyS (manyP n) (lastD ds) ≤ 60 → howF (sizeD n) (lastD ds) = manyS (manyP n) (lastD ds)) ∧ ((partsF (partL n) false (lastD ds) = false ∨ 60 < 1 + manyS (manyP n) (lastD ds)) → 60 < 1 + howF (sizeD n) (lastD ds)) := by
    by_cases ht : ∃ xs, lastD ds = .tuple xs
    · obtain ⟨xs, hx⟩ := ht
      rw [hx]
      obtain ⟨g1, g2⟩ := goL_ok (sz := sizeD n) (mp := manyP n) (good := partL n false) (ds := xs) (m := 0) (Int.le_refl 0) fun d _ => ⟨manyP_pos n d, ih d⟩
      have all : partsF (partL n) false (.tuple xs) = true ↔ ∀ d, d ∈ xs → partL n false d = true := by
        show allAt (partL n) false xs = true ↔ _
        rw [allAt_iff]
        refine ⟨fun h d m => ?_, fun h j d e => ?_⟩
        · obtain ⟨j, hj⟩ := List.getElem?_of_mem m
          exact h j d hj
        · exact h d (List.mem_of_getElem? e)
      have eh : howF (sizeD n) (.tuple xs) = goL (sizeD n) 0 xs := rfl
      have eS : manyS (manyP n) (.tuple xs) = (xs.map (manyP n)).sum := rfl
      rw [eh, eS]
      rw [Int.zero_add] at g1 g2
      refine ⟨fun p le => g1 ⟨all.mp p, by omega⟩, fun p => ?_⟩
      by_cases ok : (∀ d, d ∈ xs → partL n false d = true) ∧ (xs.map (manyP n)).sum ≤ 60
      · have e := g1 ok
        rcases p with p | p
        · rw [all.mpr ok.1] at p
          cases p
        · rw [e]
          omega
      · have := g2 ok
        omega
    · have e1 : partsF (partL n) false (lastD ds) = false := by
        unfold partsF
        split
        · rename_i xs hx
          exact absurd ⟨xs, hx⟩ ht
        · rfl
      have e2 : howF (sizeD n) (lastD ds) = 61 := by
        unfold howF
        split
        · rename_i xs hx
          exact absurd ⟨xs, hx⟩ ht
        · rfl
      rw [e1, e2]
      exact ⟨fun z => (by cases z), fun _ => (by decide)⟩
  rw [em, es, ep]
  obtain ⟨k1, k2⟩ := inner
  cases hh : headD (3 - n) w ds with
  | false => exact ⟨fun z => (by cases z), fun _ => (show (60 : Int) < 61 by decide)⟩
  | true =>
    rw [Bool.true_and, if_pos rfl]
    exact ⟨fun p le => (by rw [k1 p le]), fun p => k2 p⟩
theorem size_ok : ∀ (n : Nat), n ≤ 4 → ∀ d, (partL n (top4 n) d = true → manyP n d ≤ 60 → sizeD n d = manyP n d) ∧ ((partL n (top4 n) d = false ∨ 60 < manyP n d) → 60 < sizeD n d) := by
  intro n
  induction n with
  | zero =>
    intro _ d
    by_cases hx : ∃ w ds, d = .tuple (.str w :: ds)
    · obtain ⟨w, ds, rfl⟩ := hx
      cases hw : roundW w with
      | false =>
        have ep : partL 0 (top4 0) (.tuple (.str w :: ds)) = singD w ds := single hw
        have es : sizeD 0 (.tuple (.str w :: ds)) = if singD w ds then 1 else 61 := by
          show (if roundW w then _ else _) = _
          rw [hw]
          rfl
        rw [ep, es]
        cases singD w ds with
        | true => exact ⟨fun _ _ => rfl, fun z => z.elim (fun y => nomatch y) fun y => absurd (show (60 : Int) < 1 from y) (by decide)⟩
        | false => exact ⟨fun z => (by cases z), fun _ => (by decide)⟩
      | true =>
        have es : sizeD 0 (.tuple (.str w :: ds)) = 61 := by
          show (if roundW w then _ else _) = _
          rw [hw]
          rfl
        rw [es]
        refine ⟨fun z => ?_, fun _ => by decide⟩
        obtain ⟨w', ds', e, k⟩ := partF_str (inner := none) (show partF none (top4 0) _ = true from z)
        cases e
        obtain ⟨g, y, _⟩ := k hw
        cases y
    · rw [sizeD_other hx]
      refine ⟨fun z => ?_, fun _ => by decide⟩
      obtain ⟨w', ds', e, _⟩ := partF_str (inner := none) (show partF none (top4 0) _ = true from z)
      exact absurd ⟨w', ds', e⟩ hx
  | succ n ih =>
    intro hn d
    by_cases hx : ∃ w ds, d = .tuple (.str w :: ds)
    · obtain ⟨w, ds, rfl⟩ := hx
      cases hw : roundW w with
      | true => exact round_size hn hw (ih (by omega))
      | false =>
        have ep : partL (n + 1) (top4 (n + 1)) (.tuple (.str w :: ds)) = singD w ds := single hw
        have es : sizeD (n + 1) (.tuple (.str w :: ds)) = if singD w ds then 1 else 61 := by
          show (if roundW w then _ else _) = _
          rw [hw]
          rfl
        have em : manyP (n + 1) (.tuple (.str w :: ds)) = 1 := by
          show 1 + (if roundW w then _ else 0) = _
          rw [hw]
          rfl
        rw [ep, es, em]
        cases singD w ds with
        | true => exact ⟨fun _ _ => rfl, fun z => z.elim (fun y => nomatch y) fun y => absurd y (by decide)⟩
        | false => exact ⟨fun z => (by cases z), fun _ => (by decide)⟩
    · rw [sizeD_other hx]
      refine ⟨fun z => ?_, fun _ => by decide⟩
      obtain ⟨w', ds', e, _⟩ := partF_str (inner := some (partsF (partL n) false)) (show partF _ (top4 (n + 1)) _ = true from z)
      exact absurd ⟨w', ds', e⟩ hx
end L2.L02

set_option maxHeartbeats 4000000
namespace L2.L02
open PySem PySem.Spec PyProof.Rows LR L2.Lr
local macro_rules | `(tactic| walk_at "rd") => `(tactic| simp only [tSeq, tAsg, gName, tIfS, tTest, tOp, tIf, tInt, rI, rI0, tVar, tC, tCB, tCons, tNil, tNext, tRet, tLst, rIxL, CPow, CMul, gSub, rSetL, rIxT,
  List.getElem?_cons_zero, List.getElem?_cons_succ, List.set_cons_zero, List.set_cons_succ, Option.some.injEq, V.int.injEq, V.ref.injEq, V.bl.injEq, V.str.injEq, List.cons.injEq, and_true, true_and, exists_and_left, exists_eq_left', exists_eq_left, exists_eq, decide_eq_true_eq, or_true, true_or, List.length_cons, List.length_nil, Nat.zero_add, Nat.reduceAdd])
local macro_rules | `(tactic| walk_at "so") => `(tactic| repeat (first | refine And.intro (by omega) ?_ | refine And.intro (by decide) ?_))
local macro_rules | `(tactic| walk_at "nx") => `(tactic| dsimp only [gName, tNext, tSeq, tAsg, List.set_cons_zero, List.set_cons_succ])
abbrev sPool : Stmt := top 42
abbrev sTake : Stmt := top 43
abbrev sOdd : Stmt := top 51
theorem scpo : FnScope ["_law_script", "_law_k", "_law_cell", "_law_seed"] ["_law_script", "_law_k"] (defScope sPool) := ⟨rfl, rfl, rfl, by decide +kernel, rfl, by decide +kernel, by decide +kernel⟩
theorem scta : FnScope ["_law_pool_here", "_law_many_here", "_law_found"] ["_law_pool_here", "_law_many_here"] (defScope sTake) := ⟨rfl, rfl, rfl, by decide +kernel, rfl, by decide +kernel, by decide +kernel⟩
theorem scod : FnScope ["_law_pool_here", "_law_some"] ["_law_pool_here"] (defScope sOdd) := ⟨rfl, rfl, rfl, by decide +kernel, rfl, by decide +kernel, by decide +kernel⟩
theorem scde : FnScope ["_law_many_here", "_law_found", "_law_turn"] ["_law_many_here"] (defScope lDeep) := ⟨rfl, rfl, rfl, by decide +kernel, rfl, by decide +kernel, by decide +kernel⟩
/-! ### what the law draws -/
def PoolAt (H : Hp) (p : Addr) : Prop := ∃ c s : Int, H p = some (.lst [.int c, .int s]) ∧ 0 ≤ c ∧ 0 ≤ s ∧ s < 2147483648
/-- all but p stays -/
def Adv (p : Addr) (H H' : Hp) : Prop := ∀ b o, H b = some o → b ≠ p → H' b = some o
theorem Adv.refl {p : Addr} {H : Hp} : Adv p H H := fun _ _ h _ => h
theorem Adv.trans {p : Addr} {H H1 H2 : Hp} (a : Adv p H H1) (b : Adv p H1 H2) : Adv p H H2 := fun c o h n => b c o (a c o h n) n
theorem Adv.same {p : Addr} {H H1 H2 : Hp} (a : Adv p H H1) (b : Same H1 H2) : Adv p H H2 := fun c o h n => b c o (a c o h n)
theorem Same.adv {p : Addr} {H H1 H2 : Hp} (a : Same H H1) (b : Adv p H1 H2) : Adv p H H2 := fun c o h n => b c o (a c o h) n
theorem Adv.new {p : Addr} {H H1 : Hp} (n : H p = none) (a : Adv p H H1) : Same H H1 := fun c o h => a c o h (ne_of_none h n)
theorem PoolAt.ne {H : Hp} {p t : Addr} {xs : List V} (h : PoolAt H p) (e : H t = some (.tup xs)) : t ≠ p := by
  obtain ⟨c, s, hp, _⟩ := h
  intro z
  rw [z, hp] at e
  cases e
theorem PoolAt.same {H H' : Hp} {p : Addr} (h : PoolAt H p) (s : Same H H') : PoolAt H' p := by
  obtain ⟨c, s', hp, q⟩ := h
  exact ⟨c, s', s _ _ hp, q⟩
theorem Adv.none {p t : Addr} {H H1 : Hp} (a : Adv p H H1) (hp : PoolAt H1 p) (n : H1 t = .none) : H t = .none := by
  cases e : H t with
  | none => rfl
  | some o =>
    obtain ⟨c, s, hq, _⟩ := hp
    by_cases h : t = p
    · rw [h, hq] at n
      cases n
    · rw [a t o e h] at n
      cases n
def spPool (K : PySem.W.Frag) : Sp := fun vs H Q _ => ∃ (a : Addr) (ns : List Int) (k : Int), vs = [.ref a, .int k] ∧ SqL K H a (ns.map V.int) ∧ ns.length ≤ 1000 ∧ 0 ≤ k ∧ k < 1000 ∧
  ∀ (p : Addr) (H' : Hp), H p = none → Same H H' → PoolAt H' p → Q (.ref p) H'
def spTake : Sp := fun vs H Q _ => ∃ (p : Addr) (m : Int), vs = [.ref p, .int m] ∧ PoolAt H p ∧ 0 < m ∧ m < 2 ^ 128 ∧
  ∀ (r : Int) (H' : Hp), 0 ≤ r → r < m → Adv p H H' → PoolAt H' p → Q (.int r) H'
def odd1 : List PyData := [.none, (.int 5), (.str "send"), (.tuple []), (.tuple [(.str "send")]), (.tuple [(.str "send"), (.str "c")]), (.tuple [(.str "send"), (.str "c"), (.int 0)]), (.tuple [(.str "send"), (.str "c"), (.int 10)]), (.tuple [(.str "send"), (.str "C"), (.int 1)])]
def odd2 : List PyData := [(.tuple [(.str "take"), (.str ""), (.int 1)]), (.tuple [(.str "take"), (.str "c"), (.bool true)]), (.tuple [(.str "take"), (.int 5), (.int 1)]), (.tuple [(.str "work"), (.int 0)]), (.tuple [(.str "work"), (.int 100)]), (.tuple [(.str "work"), (.str "1")])]
def odd3 : List PyData := [(.tuple [(.str "loop"), (.int 3), (.tuple [])]), (.tuple [(.str "loop"), (.tuple [(.int 0), (.int (-1))]), (.tuple [])]), (.tuple [(.str "loop"), (.tuple [(.int 1), (.int 0)]), (.list [])]), (.tuple [(.str "loop"), (.tuple [(.int 1), (.int 0)])]), (.tuple [(.str "loop"), (.tuple [(.int 10), (.int 0)]), (.tuple [])])]
def odd4 : List PyData := [(.tuple [(.str "forever"), (.tuple [])]), (.tuple [(.str "forever"), .none]), (.tuple [(.str "forever"), (.tuple []), (.tuple [])]), (.list [(.str "send"), (.str "c"), (.int 1)]), (.tuple [(.str "loop"), (.tuple [(.int 0), (.int 1)]), (.tuple [.none])])]
def odd5 : List PyData := [(.tuple [(.int 5), (.str "c"), (.int 1)]), (.tuple [(.list [(.str "send")]), (.str "c"), (.int 1)]), (.tuple [(.str "wait"), (.str "c"), (.int 1)]), (.tuple [(.str "take"), (.str "abcdefghi"), (.int 1)])]
mutual
/-- no list of two whole numbers in it -/
def npD : PyData → Bool
  | .list ds => (match ds with | [.int _, .int _] => false | _ => true) && npAll ds
  | .tuple ds => npAll ds
  | .none => true
  | .bool _ => true
  | .int _ => true
  | .str _ => true
  | .dict _ => true
def npAll : List PyData → Bool
  | [] => true
  | d :: ds => npD d && npAll ds
end
theorem seqL_adv {K : PySem.W.Frag} {H H' : Hp} {p a : Addr} {xs : List V} {ds : List PyData} (hp : PoolAt H p) (s : Adv p H H') (h : SqL K H a xs) (ha : DpAll K H xs ds) (n : npD (.list ds) = true) : SqL K H' a xs := by
  obtain ⟨c, s', e, _⟩ := hp
  rcases h with (h | ⟨o, h⟩) | h
  · refine .inl (.inl (s _ _ h fun z => ?_))
    rw [z, e] at h
    have z2 : [V.int c, V.int s'] = xs := by injection (Option.some.inj h)
    subst z2
    cases ha with
    | cons a1 r1 =>
      cases r1 with
      | cons a2 r2 =>
        cases r2
        cases a1
        cases a2
        simp [npD] at n
  · exact .inl (.inr ⟨o, s _ _ h fun z => by rw [z, e] at h; cases h⟩)
  · exact .inr h
theorem seqT_adv {K : PySem.W.Frag} {H H' : Hp} {p a : Addr} {xs : List V} (hp : PoolAt H p) (s : Adv p H H') (h : SqT K H a xs) : SqT K H' a xs := by
  obtain ⟨c, s', e, _⟩ := hp
  rcases h with (h | ⟨o, h⟩) | h
  · exact .inl (.inl (s _ _ h fun z => by rw [z, e] at h; cases h))
  · exact .inl (.inr ⟨o, s _ _ h fun z => by rw [z, e] at h; cases h⟩)
  · exact .inr h
mutual
theorem Dp.adv {K : PySem.W.Frag} {H H' : Hp} {p : Addr} (hp : PoolAt H p) (s : Adv p H H') : ∀ {v : V} {d : PyData}, Dp K H v d → npD d = true → Dp K H' v d
  | _, _, .non, _ => .non
  | _, _, .bl b, _ => .bl b
  | _, _, .int i, _ => .int i
  | _, _, .str x, _ => .str x
  | _, _, .lst h a, n => .lst (seqL_adv hp s h a n) (DpAll.adv hp s a (by unfold npD at n; exact (Bool.and_eq_true_iff.mp n).2))
  | _, _, .tup h a, n => .tup (seqT_adv hp s h) (DpAll.adv hp s a (by unfold npD at n; exact n))
theorem DpAll.adv {K : PySem.W.Frag} {H H' : Hp} {p : Addr} (hp : PoolAt H p) (s : Adv p H H') : ∀ {vs : List V} {ds : List PyData}, DpAll K H vs ds → npAll ds = true → DpAll K H' vs ds
  | _, _, .nil, _ => .nil
  | _, _, .cons h a, n => .cons (Dp.adv hp s h (by unfold npAll at n; exact (Bool.and_eq_true_iff.mp n).1)) (DpAll.adv hp s a (by unfold npAll at n; exact (Bool.and_eq_true_iff.mp n).2))
end
def oddL : List PyData := odd1 ++ odd2 ++ odd3 ++ odd4 ++ odd5
def spOdd (K : PySem.W.Frag) : Sp := fun vs H Q _ => ∃ p : Addr, vs = [.ref p] ∧ PoolAt H p ∧ ∀ (v : V) (d : PyData) (H' : Hp), Adv p H H' → PoolAt H' p → d ∈ oddL → Dp K H' v d → Q v H'
section
variable {P : Program} {w : World} {K : PySem.W.Frag} {mg : Str → Option Value} {base : Heap}
theorem ol_pool {f : Addr} {fd : FuncData} (F : FnP K "_law_pool" sPool f fd) (gl : mg "len" = none) : FnOk P w K mg base CX0 1 f fd ["_law_script", "_law_k"] (spPool K) := by
  refine F.ok scpo (fun vs H Q E h => ?_) (fun cdv A outer s H vs Q E hr h => ?_)
  · obtain ⟨a, ns, k, rfl, _⟩ := h
    rfl
  · obtain ⟨a, ns, k, rfl, hS, hl, h0, h1, q⟩ := h
    refine ⟨_, pss_cons (ps_set (i := 2) scpo.nd rfl (Or.inl rfl) pe_int)
      (pss_cons (ps_if (pt_cmpR op_lt (pv 1) (pe_callB call_len (by rfl) gl boot_len (pa_cons (pv 0) pa_nil)) (nomark _)) (pss_one (ps_set (i := 2) scpo.nd rfl (Or.inl rfl) (pe_ix ix_list (pv 0) (pv 1) (fun _ _ => rfl)))) pss_nil)
      (pss_cons (ps_set (i := 3) scpo.nd rfl (Or.inl rfl) (pe_op op_mod (pe_op op_mul (pe_op op_add (pe_op op_add (pe_op op_mod (pv 2) pe_int) (pe_op op_mul (pe_op op_mul pe_int (pv 1)) (pv 1))) pe_int) pe_int) pe_int))
      (pss_cons (ps_if (pt_cmpR op_lt (pv 2) (pe_op op_pow pe_int pe_int) (nomark _)) (pss_one (ps_set (i := 2) scpo.nd rfl (Or.inl rfl) pe_int)) pss_nil)
      (pss_one (ps_ret (pe_lst (pa_cons (pv 2) (pa_cons (pe_op op_add (pe_op op_mod (pe_op op_mul (pv 3) (pv 3)) pe_int) pe_int) pa_nil)))))))), ?_⟩
    have e0 : start ["_law_script", "_law_k", "_law_cell", "_law_seed"] [V.ref a, V.int k] = [some (.ref a), some (.int k), none, none] := rfl
    rw [e0]
    have fin : ∀ (c x : Int) (p : Addr), 0 ≤ c → H p = none → Q (.ref p) (upd H p (.lst [.int c, .int (x % 2147483587 + 1)])) := fun c x p hc hp => q p _ hp (same_upd hp) ⟨c, _, upd_same, hc, by omega, by omega⟩
    walk_at "rd"
    have e2 : (10 : Int) ^ (Int.toNat 18) = 1000000000000000000 := by decide
    rw [e2]
    refine ⟨(ns.map V.int).length, Or.inl ⟨_, hS, rfl⟩, ?_⟩
    rw [List.length_map]
    split
    · rename_i hk
      obtain ⟨z, ez⟩ : ∃ z, ns[k.toNat]? = some z := ⟨_, List.getElem?_eq_getElem (by omega)⟩
      refine ⟨_, hS, .int z, ?_, z, rfl, ?_⟩
      · have e1 : k = (k.toNat : Int) := by omega
        rw [e1]
        exact atI_nat (by rw [List.getElem?_map, ez]; rfl)
      · walk_at "so"
        refine ⟨z, rfl, ?_⟩
        split
        · walk_at "so"
          exact fun p hp => fin _ _ p (Int.le_refl 0) hp
        · rename_i hc
          walk_at "so"
          exact fun p hp => fin _ _ p (by omega) hp
    · walk_at "so"
      exact fun p hp => fin _ _ p (Int.le_refl 0) hp
theorem ol_take {f : Addr} {fd : FuncData} (F : FnP K "_law_take" sTake f fd) : FnOk P w K mg base CX0 1 f fd ["_law_pool_here", "_law_many_here"] spTake := by
  refine F.ok scta (fun vs H Q E h => ?_) (fun cdv A outer s H vs Q E hr h => ?_)
  · obtain ⟨a, m, rfl, _⟩ := h
    rfl
  · obtain ⟨p, m, rfl, ⟨c, s, hp, hc, hs0, hs1⟩, hm0, hm1, q⟩ := h
    refine ⟨_, pss_cons (ps_if (pt_cmpR op_gt (pe_ix ix_list (pv 0) pe_int (fun _ _ => rfl)) pe_int (nomark _))
        (pss_cons (ps_set (i := 2) scta.nd rfl (Or.inl rfl) (pe_op op_mod (pe_ix ix_list (pv 0) pe_int (fun _ _ => rfl)) (pv 1)))
        (pss_cons (ps_asg (pe_op op_fdivW (pe_ix ix_list (pv 0) pe_int (fun _ _ => rfl)) (pv 1)) (pg_sub (pv 0) pe_int set_list))
        (pss_one (ps_ret (pv 2))))) pss_nil)
      (pss_cons (ps_asg (pe_op op_mod (pe_op op_add (pe_op op_mul (pe_ix ix_list (pv 0) pe_int (fun _ _ => rfl)) pe_int) pe_int) pe_int) (pg_sub (pv 0) pe_int set_list))
      (pss_one (ps_ret (pe_op op_mod (pe_op op_fdiv (pe_op op_mod (pe_op op_mul (pe_ix ix_list (pv 0) pe_int (fun _ _ => rfl)) (pe_ix ix_list (pv 0) pe_int (fun _ _ => rfl))) pe_int) pe_int) (pv 1))))), ?_⟩
    have e0 : start ["_law_pool_here", "_law_many_here", "_law_found"] [V.ref p, V.int m] = [some (.ref p), some (.int m), none] := rfl
    rw [e0]
    have fin : ∀ (r c' s' : Int), 0 ≤ r → r < m → 0 ≤ c' → 0 ≤ s' → s' < 2147483648 → Q (.int r) (upd H p (.lst [.int c', .int s'])) := fun r c' s' h0 h1 hc' hs0' hs1' =>
      q r _ h0 h1 (fun b o e n => (upd_ne n).trans e) ⟨c', s', upd_same, hc', hs0', hs1'⟩
    walk_at "rd"
    refine ⟨_, SqL.of hp, _, rfl, c, rfl, ?_⟩
    split
    · refine ⟨_, SqL.of hp, _, rfl, c, rfl, hm0, _, SqL.of hp, _, rfl, c, rfl, wide_div (b := 128) hm0 (by omega) (by decide) (by decide), _, hp, 0, rfl, ?_⟩
      exact fin _ _ s (Int.emod_nonneg _ (by omega)) (Int.emod_lt_of_pos _ hm0) (Int.ediv_nonneg hc (by omega)) hs0 hs1
    · refine ⟨_, SqL.of hp, .int s, rfl, s, rfl, by omega, by decide, _, hp, 1, rfl, _, SqL.of upd_same, _, rfl, _, SqL.of upd_same, _, rfl, _, rfl, _, rfl, .inl (by omega), by decide, ⟨by decide, by decide⟩, hm0, ?_⟩
      exact fin _ c _ (Int.emod_nonneg _ (by omega)) (Int.emod_lt_of_pos _ hm0) hc (by omega) (by omega)
theorem ol_odd {f fN : Addr} {fd dN : FuncData} (F : FnP K "_law_odd" sOdd f fd) (N : Def P w K mg base CX0 1 "_law_take" fN dN ["_law_pool_here", "_law_many_here"] spTake) : FnOk P w K mg base CX0 2 f fd ["_law_pool_here"] (spOdd K) := by
  refine F.ok scod (fun vs H Q E h => ?_) (fun cdv A outer s H vs Q E hr h => ?_)
  · obtain ⟨p, rfl, _⟩ := h
    rfl
  · obtain ⟨p, rfl, hp, q⟩ := h
    refine ⟨_, pss_cons (ps_set (i := 1) scod.nd rfl (Or.inl rfl) (pd_lstL (pd_cons pd_non (pd_cons pd_int (pd_cons pd_str (pd_cons (pd_tup pd_nil) (pd_cons (pd_tup (pd_cons pd_str pd_nil)) (pd_cons (pd_tup (pd_cons pd_str (pd_cons pd_str pd_nil))) (pd_cons (pd_tup (pd_cons pd_str (pd_cons pd_str (pd_cons pd_int pd_nil)))) (pd_cons (pd_tup (pd_cons pd_str (pd_cons pd_str (pd_cons pd_int pd_nil)))) (pd_cons (pd_tup (pd_cons pd_str (pd_cons pd_str (pd_cons pd_int pd_nil)))) pd_nil)))))))))))
      (pss_cons (ps_set (i := 1) scod.nd rfl (Or.inl rfl) (pe_op op_cat (pv 1) (pd_lstL (pd_cons (pd_tup (pd_cons pd_str (pd_cons pd_str (pd_cons pd_int pd_nil)))) (pd_cons (pd_tup (pd_cons pd_str (pd_cons pd_str (pd_cons pd_bl pd_nil)))) (pd_cons (pd_tup (pd_cons pd_str (pd_cons pd_int (pd_cons pd_int pd_nil)))) (pd_cons (pd_tup (pd_cons pd_str (pd_cons pd_int pd_nil))) (pd_cons (pd_tup (pd_cons pd_str (pd_cons pd_int pd_nil))) (pd_cons (pd_tup (pd_cons pd_str (pd_cons pd_str pd_nil))) pd_nil)))))))))
      (pss_cons (ps_set (i := 1) scod.nd rfl (Or.inl rfl) (pe_op op_cat (pv 1) (pd_lstL (pd_cons (pd_tup (pd_cons pd_str (pd_cons pd_int (pd_cons (pd_tup pd_nil) pd_nil)))) (pd_cons (pd_tup (pd_cons pd_str (pd_cons (pd_tup (pd_cons pd_int (pd_cons pd_neg pd_nil))) (pd_cons (pd_tup pd_nil) pd_nil)))) (pd_cons (pd_tup (pd_cons pd_str (pd_cons (pd_tup (pd_cons pd_int (pd_cons pd_int pd_nil))) (pd_cons (pd_lst pd_nil) pd_nil)))) (pd_cons (pd_tup (pd_cons pd_str (pd_cons (pd_tup (pd_cons pd_int (pd_cons pd_int pd_nil))) pd_nil))) (pd_cons (pd_tup (pd_cons pd_str (pd_cons (pd_tup (pd_cons pd_int (pd_cons pd_int pd_nil))) (pd_cons (pd_tup pd_nil) pd_nil)))) pd_nil))))))))
      (pss_cons (ps_set (i := 1) scod.nd rfl (Or.inl rfl) (pe_op op_cat (pv 1) (pd_lstL (pd_cons (pd_tup (pd_cons pd_str (pd_cons (pd_tup pd_nil) pd_nil))) (pd_cons (pd_tup (pd_cons pd_str (pd_cons pd_non pd_nil))) (pd_cons (pd_tup (pd_cons pd_str (pd_cons (pd_tup pd_nil) (pd_cons (pd_tup pd_nil) pd_nil)))) (pd_cons (pd_lst (pd_cons pd_str (pd_cons pd_str (pd_cons pd_int pd_nil)))) (pd_cons (pd_tup (pd_cons pd_str (pd_cons (pd_tup (pd_cons pd_int (pd_cons pd_int pd_nil))) (pd_cons (pd_tup (pd_cons pd_non pd_nil)) pd_nil)))) pd_nil))))))))
      (pss_one (ps_ret (pe_ix ix_list (pe_op op_cat (pv 1) (pd_lstL (pd_cons (pd_tup (pd_cons pd_int (pd_cons pd_str (pd_cons pd_int pd_nil)))) (pd_cons (pd_tup (pd_cons (pd_lst (pd_cons pd_str pd_nil)) (pd_cons pd_str (pd_cons pd_int pd_nil)))) (pd_cons (pd_tup (pd_cons pd_str (pd_cons pd_str (pd_cons pd_int pd_nil)))) (pd_cons (pd_tup (pd_cons pd_str (pd_cons pd_str (pd_cons pd_int pd_nil)))) pd_nil)))))) (pe_call N.ok hr (by rfl) N.g N.k N.b .nil pass0 (pa_cons (pv 0) (pa_cons pe_int pa_nil))) (fun _ _ => rfl))))))), ?_⟩
    have e0 : start ["_law_pool_here", "_law_some"] [V.ref p] = [some (.ref p), none] := rfl
    rw [e0]
    intro p1 v1 H1 s1 h1 d1
    walk_at "nx"
    refine ⟨_, rfl, fun p2 v2 H2 s2 h2 d2 => ⟨p1, p2, v1, v2, rfl, rfl, s2 _ _ h1, h2, by rw [DpAll.length d1, DpAll.length d2]; show 15 ≤ sizeLine; decide, fun r2 n2 => ?_⟩⟩
    have d12 := DpAll.append (DpAll.same s2 d1) d2
    have t2 := same_upd (o := .lst (v1 ++ v2)) n2
    have g2 : (upd H2 r2 (.lst (v1 ++ v2))) r2 = some (.lst (v1 ++ v2)) := upd_same
    have d12 := DpAll.same t2 d12
    have z2 := s1.trans (s2.trans t2)
    generalize upd H2 r2 (.lst (v1 ++ v2)) = G2 at d12 t2 g2 z2 ⊢
    walk_at "nx"
    refine ⟨_, rfl, fun p3 v3 H3 s3 h3 d3 => ⟨r2, p3, v1 ++ v2, v3, rfl, rfl, s3 _ _ g2, h3, by rw [DpAll.length d12, DpAll.length d3]; show 20 ≤ sizeLine; decide, fun r3 n3 => ?_⟩⟩
    have d13 := DpAll.append (DpAll.same s3 d12) d3
    have t3 := same_upd (o := .lst (v1 ++ v2 ++ v3)) n3
    have g3 : (upd H3 r3 (.lst (v1 ++ v2 ++ v3))) r3 = some (.lst (v1 ++ v2 ++ v3)) := upd_same
    have d13 := DpAll.same t3 d13
    have z3 := z2.trans (s3.trans t3)
    generalize upd H3 r3 (.lst (v1 ++ v2 ++ v3)) = G3 at d13 t3 g3 z3 ⊢
    walk_at "nx"
    refine ⟨_, rfl, fun p4 v4 H4 s4 h4 d4 => ⟨r3, p4, v1 ++ v2 ++ v3, v4, rfl, rfl, s4 _ _ g3, h4, by rw [DpAll.length d13, DpAll.length d4]; show 25 ≤ sizeLine; decide, fun r4 n4 => ?_⟩⟩
    have d14 := DpAll.append (DpAll.same s4 d13) d4
    have t4 := same_upd (o := .lst (v1 ++ v2 ++ v3 ++ v4)) n4
    have g4 : (upd H4 r4 (.lst (v1 ++ v2 ++ v3 ++ v4))) r4 = some (.lst (v1 ++ v2 ++ v3 ++ v4)) := upd_same
    have d14 := DpAll.same t4 d14
    have z4 := z3.trans (s4.trans t4)
    generalize upd H4 r4 (.lst (v1 ++ v2 ++ v3 ++ v4)) = G4 at d14 t4 g4 z4 ⊢
    walk_at "nx"
    refine ⟨_, rfl, fun p5 v5 H5 s5 h5 d5 => ⟨r4, p5, v1 ++ v2 ++ v3 ++ v4, v5, rfl, rfl, s5 _ _ g4, h5, by rw [DpAll.length d14, DpAll.length d5]; show 29 ≤ sizeLine; decide, fun r5 n5 => ?_⟩⟩
    have d15 := DpAll.append (DpAll.same s5 d14) d5
    have t5 := same_upd (o := .lst (v1 ++ v2 ++ v3 ++ v4 ++ v5)) n5
    have g5 : (upd H5 r5 (.lst (v1 ++ v2 ++ v3 ++ v4 ++ v5))) r5 = some (.lst (v1 ++ v2 ++ v3 ++ v4 ++ v5)) := upd_same
    have d15 := DpAll.same t5 d15
    have z5 := z4.trans (s5.trans t5)
    generalize upd H5 r5 (.lst (v1 ++ v2 ++ v3 ++ v4 ++ v5)) = G5 at d15 t5 g5 z5 ⊢
    refine ⟨_, rfl, p, 29, rfl, hp.same z5, by decide, by decide, fun r H6 l6 u6 a6 hp6 => ?_⟩
    have hlen := DpAll.length d15
    obtain ⟨v, hv⟩ : ∃ v, (v1 ++ v2 ++ v3 ++ v4 ++ v5)[r.toNat]? = some v := ⟨_, List.getElem?_eq_getElem (by rw [hlen]; show r.toNat < 29; omega)⟩
    obtain ⟨d, hd, hD⟩ := DpAll.at d15 hv
    have hmem : d ∈ oddL := List.mem_of_getElem? hd
    have ne5 : r5 ≠ p := fun z => by
      obtain ⟨c, s', e, _⟩ := hp.same z5
      rw [z, e] at g5
      have z2 := Option.some.inj g5
      have z3 : [V.int c, V.int s'] = v1 ++ v2 ++ v3 ++ v4 ++ v5 := by injection z2
      have z4 := congrArg List.length z3
      rw [hlen] at z4
      exact absurd z4 (by show ¬ 2 = 29; decide)
    refine ⟨r5, _, r, v, rfl, rfl, SqL.of (a6 _ _ g5 ne5), ?_, q v d H6 (Same.adv z5 a6) hp6 hmem (Dp.adv (hp.same z5) a6 hD ?_)⟩
    · rw [show r = ((r.toNat : Nat) : Int) by omega]
      exact atI_nat hv
    · have np : (oddL.all npD) = true := by decide +kernel
      exact List.all_eq_true.mp np d hmem
end
end L2.L02

set_option maxHeartbeats 4000000
namespace L2.L02
open PySem PySem.Spec PyProof.Rows LR L2.Lr
local macro_rules | `(tactic| walk_at "nx") => `(tactic| dsimp only [gName, tNext, tSeq, tAsg, List.set_cons_zero, List.set_cons_succ])
def deepD : Nat → PyData
  | 0 => .tuple [.str "work", .int 1]
  | n + 1 => .tuple [.str "loop", .tuple [.int 0, .int 2], .tuple [deepD n]]
def spDeep (K : PySem.W.Frag) : Sp := fun vs H Q _ => ∃ m : Int, vs = [.int m] ∧ 0 ≤ m ∧ m ≤ 1000 ∧ ∀ (v : V) (H' : Hp), Same H H' → Dp K H' v (deepD m.toNat) → Q v H'
section
variable {P : Program} {w : World} {K : PySem.W.Frag} {mg : Str → Option Value} {base : Heap}
theorem ol_deep {f : Addr} {fd : FuncData} (F : FnP K "_law_deep" lDeep f fd) (hrange : mg "range" = none) : FnOk P w K mg base CX0 1 f fd ["_law_many_here"] (spDeep K) := by
  refine F.ok scde (fun vs H Q E h => ?_) (fun cdv A outer s H vs Q E hr h => ?_)
  · obtain ⟨m, rfl, _⟩ := h
    rfl
  · obtain ⟨m, rfl, h0, h1, q⟩ := h
    refine ⟨_, PSs.nox (pss_cons (ps_set (i := 1) scde.nd rfl (Or.inl rfl) (pd_tup (pd_cons pd_str (pd_cons pd_int pd_nil))))
      (pss_cons (ps_for PassesOwn.never rfl (pi_range1 (by rfl) hrange (pa_cons (pv 0) pa_nil)) (pg_name (i := 2) scde.nd rfl (Or.inl rfl))
        (pss_one (ps_set (i := 1) scde.nd rfl (Or.inl rfl) (pe_tup (pa_cons pe_str (pa_cons (pd_tup (pd_cons pd_int (pd_cons pd_int pd_nil))) (pa_cons (pe_tup (pa_cons (pv 1) pa_nil)) pa_nil)))))))
      (pss_one (ps_ret (pv 1))))), ?_⟩
    have e0 : start ["_law_many_here", "_law_found", "_law_turn"] [V.int m] = [some (.int m), none, none] := rfl
    rw [e0]
    intro v H1 s1 d1
    walk_at "nx"
    refine ⟨_, rfl, m, rfl, by omega, by omega, for_rangeD (lo := 0) (fun i σ H' => Same H H' ∧ ∃ v o, σ = [some (.int m), some v, o] ∧ Dp K H' v (deepD i)) ⟨s1, _, _, rfl, d1⟩ ?_ ?_⟩
    · rintro D' i σ H2 hrt hnx - - hi ⟨s2, v, o, rfl, dv⟩
      walk_at "nx"
      intro u H3 s3 d3
      refine ⟨_, rfl, by show 1 ≤ sizeLine; decide, fun p np => ⟨by show 3 ≤ sizeLine; decide, fun r nr => ?_⟩⟩
      have t1 := same_upd (o := .tup [v]) np
      have t2 := same_upd (o := .tup [.str "loop", u, .ref p]) nr
      refine hnx _ _ ⟨s2.trans (s3.trans (t1.trans t2)), _, _, rfl, ?_⟩
      exact .tup (SqT.of upd_same) (.cons (.str _) (.cons (Dp.same (t1.trans t2) d3) (.cons (.tup (SqT.of (t2 _ _ upd_same)) (.cons (Dp.same (s3.trans (t1.trans t2)) dv) .nil)) .nil)))
    · rintro σ H2 ⟨s2, v, o, rfl, dv⟩
      exact ⟨_, rfl, q v H2 s2 dv⟩
end
end L2.L02

set_option maxHeartbeats 1000000
namespace L2.L02
open PySem PySem.Spec PyProof.Rows LR L2.Lr
local macro_rules | `(tactic| walk_at "nx") => `(tactic| dsimp only [gName, tNext, tSeq, tAsg, List.set_cons_zero, List.set_cons_succ])
abbrev sPart : Stmt := top 44
abbrev sParts : Stmt := top 45
abbrev NP : List Str := ["_law_pool_here", "_law_deep_here", "_law_way", "_law_channel", "_law_body", "_law_turn"]
theorem scpt : FnScope NP ["_law_pool_here", "_law_deep_here"] (defScope sPart) := ⟨rfl, rfl, rfl, by decide +kernel, rfl, by decide +kernel, by decide +kernel⟩
abbrev NPs : List Str := ["_law_pool_here", "_law_many_here", "_law_found", "_law_body", "_law_turn"]
theorem scps : FnScope NPs ["_law_pool_here", "_law_many_here"] (defScope sParts) := ⟨rfl, rfl, rfl, by decide +kernel, rfl, by decide +kernel, by decide +kernel⟩
theorem Adv.kt {p : Addr} {H H' : Hp} (h : PoolAt H p) (a : Adv p H H') : Kt H H' := fun b o e n => a b o e fun z => by
  obtain ⟨c, s, hp, _⟩ := h
  rw [z, hp] at e
  exact n _ (Option.some.inj e).symm
/-! ### drawn parts -/
def wB : Nat → Nat
  | 0 => 200
  | n + 1 => 3 * (wB n + 1) + 320
structure Drawn (n : Nat) (d : PyData) : Prop where
  ok : ∀ may, partL n may d = true
  nice : Nice (wB n) (2 * n + 2) d
  nol : noL d = true
theorem wB_mono (n : Nat) : 200 ≤ wB n := by
  cases n with
  | zero => exact Nat.le_refl _
  | succ n => show 200 ≤ 3 * (wB n + 1) + 320; omega
theorem partL_is (n : Nat) (may : Bool) : ∃ inner, partL n may = partF inner may := by
  cases n with
  | zero => exact ⟨none, rfl⟩
  | succ n => exact ⟨_, rfl⟩
theorem drawn_single {n : Nat} {w : Str} {ds : List PyData} (hw : roundW w = false) (hs : singD w ds = true) (hn : Nice 200 1 (.tuple (.str w :: ds))) (hl : noL (.tuple (.str w :: ds)) = true) : Drawn n (.tuple (.str w :: ds)) := by
  refine ⟨fun may => ?_, hn.mono (wB_mono n) (by omega), hl⟩
  obtain ⟨inner, e⟩ := partL_is n may
  rw [e, single hw]
  exact hs
def chans : List Str := ["c", "d", "box", "abcdefgh"]
def chD (c : Str) : Bool := wordD (.str c) && (fine (.str c) && decide ((PyData.str c).weight ≤ 8))
theorem chans_ok : (chans.all chD) = true := by decide +kernel
theorem nice_w {w : Str} (h : (fine (.str w) && decide ((PyData.str w).weight ≤ 8)) = true) : Nice 8 0 (.str w) := by
  obtain ⟨h1, h2⟩ := Bool.and_eq_true_iff.mp h
  exact ⟨h1, of_decide_eq_true h2, by simp [PyData.depth]⟩
theorem nice_small {i : Int} (h0 : 0 ≤ i) (h1 : i ≤ 1000) : Nice 104 0 (.int i) := nice_int (Nat.lt_of_le_of_lt (show i.natAbs ≤ 1000 by omega) (by decide))
theorem drawn_move {n : Nat} {w c : Str} {k : Int} (hw : w = "send" ∨ w = "take") (hc : c ∈ chans) (h1 : 1 ≤ k) (h9 : k ≤ 9) : Drawn n (.tuple [.str w, .str c, .int k]) := by
  have hcd := List.all_eq_true.mp chans_ok c hc
  obtain ⟨c1, c2⟩ := Bool.and_eq_true_iff.mp hcd
  have nw : Nice 8 0 (.str w) := by rcases hw with rfl | rfl <;> exact nice_w (by decide +kernel)
  have hb : betw 1 9 (.int k) = true := by
    show (decide (1 ≤ k) && decide (k ≤ 9)) = true
    rw [decide_eq_true h1, decide_eq_true h9]
    rfl
  refine drawn_single ?_ ?_ ?_ rfl
  · rcases hw with rfl | rfl <;> decide +kernel
  · show (!decide (w = "work") && ((decide (w = "send") || decide (w = "take")) && (wordD (.str c) && betw 1 9 (.int k)))) = true
    rw [c1, hb]
    rcases hw with rfl | rfl <;> decide +kernel
  · exact (NiceAll.cons nw (NiceAll.cons (nice_w c2) (NiceAll.cons (nice_small (by omega) (by omega)) (NiceAll.nil 0 0)))).tup.mono (by omega) (Nat.le_refl _)
theorem drawn_work {n : Nat} {t : Int} (h1 : 1 ≤ t) (h9 : t ≤ 99) : Drawn n (.tuple [.str "work", .int t]) := by
  refine drawn_single (by decide +kernel) ?_ ?_ rfl
  · show (decide (("work" : Str) = "work") && (decide (1 ≤ t) && decide (t ≤ 99))) = true
    rw [decide_eq_true h1, decide_eq_true h9, decide_eq_true rfl]
    rfl
  · exact (NiceAll.cons (nice_w (by decide +kernel)) (NiceAll.cons (nice_small (by omega) (by omega)) (NiceAll.nil 0 0))).tup.mono (by omega) (Nat.le_refl _)
/-- a few of them -/
structure Some (n m : Nat) (ds : List PyData) : Prop where
  len : ds.length ≤ m
  all : ∀ d ∈ ds, Drawn n d
theorem Some.nice {n m : Nat} {ds : List PyData} (h : Some n m ds) : NiceAll (m * (wB n + 1)) (2 * n + 2) ds := by
  obtain ⟨hl, ha⟩ := h
  induction ds generalizing m with
  | nil => exact NiceAll.nil _ _
  | cons d ds ih =>
    cases m with
    | zero => simp at hl
    | succ m =>
      have z := NiceAll.cons (ha d List.mem_cons_self).nice (ih (m := m) (by simp at hl; omega) fun e he => ha e (List.mem_cons_of_mem _ he))
      exact z.mono (by rw [Nat.succ_mul]; omega) (Nat.le_refl _)
theorem Some.nol {n m : Nat} {ds : List PyData} (h : Some n m ds) : noLAll ds = true := by
  obtain ⟨hl, ha⟩ := h
  clear hl
  induction ds with
  | nil => rfl
  | cons d ds ih =>
    simp only [noLAll]
    rw [(ha d List.mem_cons_self).nol, ih fun e he => ha e (List.mem_cons_of_mem _ he)]
    rfl
theorem Some.parts {n m : Nat} {ds : List PyData} (h : Some n m ds) (o : Bool) : partsF (partL n) o (.tuple ds) = true :=
  allAt_iff.mpr fun j d e => (h.all d (List.mem_of_getElem? e)).ok _
theorem drawn_loop {n : Nat} {a b : Int} {ds : List PyData} (hc : countD (.tuple [.int a, .int b]) = true) (ha : a.natAbs < 10 ^ 31) (hb : b.natAbs < 10 ^ 31) (h : Some n 3 ds) : Drawn (n + 1) (.tuple [.str "loop", .tuple [.int a, .int b], .tuple ds]) := by
  refine ⟨fun may => ?_, ?_, ?_⟩
  · show (if isW (.str "loop") "send" || isW (.str "loop") "take" then sendL [.tuple [.int a, .int b], .tuple ds] else if isW (.str "loop") "work" then workL [.tuple [.int a, .int b], .tuple ds] else if isW (.str "loop") "forever" then everL (some (partsF (partL n) false)) may [.tuple [.int a, .int b], .tuple ds] else if isW (.str "loop") "loop" then (countD (.tuple [.int a, .int b]) && partsF (partL n) false (.tuple ds)) else false) = true
    rw [isW_eq, isW_eq, isW_eq, isW_eq, isW_eq, hc, h.parts]
    rw [decide_eq_false (p := ("loop" : Str) = "send") (by decide +kernel), decide_eq_false (p := ("loop" : Str) = "take") (by decide +kernel), decide_eq_false (p := ("loop" : Str) = "work") (by decide +kernel), decide_eq_false (p := ("loop" : Str) = "forever") (by decide +kernel), decide_eq_true (p := ("loop" : Str) = "loop") rfl]
    rfl
  · have h1 : Nice 210 1 (.tuple [.int a, .int b]) := (NiceAll.cons (nice_int ha) (NiceAll.cons (nice_int hb) (NiceAll.nil 0 0))).tup.mono (by omega) (Nat.le_refl _)
    have h2 := h.nice.tup
    refine (NiceAll.cons (D := 2 * n + 3) ((nice_w (w := "loop") (by decide +kernel)).mono (Nat.le_refl _) (by omega)) (NiceAll.cons (h1.mono (Nat.le_refl _) (by omega)) (NiceAll.cons h2 (NiceAll.nil 0 _)))).tup.mono ?_ (by omega)
    show _ ≤ 3 * (wB n + 1) + 320
    omega
  · have := h.nol
    simp only [noL, noLAll, this, Bool.and_true]
def spPart (K : PySem.W.Frag) (n : Nat) : Sp := fun vs H Q _ => ∃ p : Addr, vs = [.ref p, .int (4 - n)] ∧ PoolAt H p ∧ ∀ (v : V) (d : PyData) (H' : Hp), Adv p H H' → PoolAt H' p → Dp K H' v d → Drawn n d → Q v H'
theorem chan_at {r : Int} (h0 : 0 ≤ r) (h1 : r < 4) : ∃ c, atI [V.str "c", V.str "d", V.str "box", V.str "abcdefgh"] r = some (.str c) ∧ c ∈ chans := by
  have h4 : r = 0 ∨ r = 1 ∨ r = 2 ∨ r = 3 := by omega
  rcases h4 with rfl | rfl | rfl | rfl
  · exact ⟨"c", rfl, by simp [chans]⟩
  · exact ⟨"d", rfl, by simp [chans]⟩
  · exact ⟨"box", rfl, by simp [chans]⟩
  · exact ⟨"abcdefgh", rfl, by simp [chans]⟩
theorem four_at {a b c e r : Int} (h0 : 0 ≤ r) (h1 : r < 4) (ha : 1 ≤ a ∧ a ≤ 9) (hb : 1 ≤ b ∧ b ≤ 9) (hc : 1 ≤ c ∧ c ≤ 9) (he : 1 ≤ e ∧ e ≤ 9) : ∃ k : Int, atI [V.int a, V.int b, V.int c, V.int e] r = some (.int k) ∧ 1 ≤ k ∧ k ≤ 9 := by
  have h4 : r = 0 ∨ r = 1 ∨ r = 2 ∨ r = 3 := by omega
  rcases h4 with rfl | rfl | rfl | rfl
  · exact ⟨_, rfl, ha⟩
  · exact ⟨_, rfl, hb⟩
  · exact ⟨_, rfl, hc⟩
  · exact ⟨_, rfl, he⟩
/-- what a comprehension of drawn parts has so far -/
structure SoFar (K : PySem.W.Frag) (H : Hp) (p D : Addr) (n i : Nat) : Prop where
  po : PoolAt H p
  ls : ∃ vs ds, H D = some (.lst vs) ∧ DpAll K H vs ds ∧ ds.length = i ∧ ∀ d ∈ ds, Drawn n d
theorem SoFar.more {K : PySem.W.Frag} {H H1 : Hp} {p D : Addr} {n i : Nat} {v : V} {d : PyData} (h : SoFar K H p D n i) (ne : D ≠ p) (a : Adv p H H1) (hp1 : PoolAt H1 p) (hv : Dp K H1 v d) (hd : Drawn n d) :
    ∃ acc, H1 D = some (.lst acc) ∧ acc.length = i ∧ SoFar K (upd H1 D (.lst (acc ++ [v]))) p D n (i + 1) := by
  obtain ⟨vs, ds, hD, hds, hl, hg⟩ := h.ls
  have hD1 := a _ _ hD ne
  have k1 : Kt H H1 := Adv.kt h.po a
  have k2 : Kt H1 (upd H1 D (.lst (vs ++ [v]))) := Kt.upd hD1
  have nl : noLAll ds = true := (Some.mk (m := ds.length) (Nat.le_refl _) hg : Some n ds.length ds).nol
  refine ⟨vs, hD1, by rw [DpAll.length hds, hl], ?_, vs ++ [v], ds ++ [d], upd_same, DpAll.append (DpAll.kt (k1.trans k2) hds nl) (.cons (Dp.kt k2 hv hd.nol) .nil), by rw [List.length_append, hl]; rfl, fun e he => ?_⟩
  · obtain ⟨c, s, hp, q⟩ := hp1
    exact ⟨c, s, (upd_ne ne.symm).trans hp, q⟩
  · rcases List.mem_append.mp he with h | h
    · exact hg e h
    · rw [List.mem_singleton.mp h]; exact hd
section
variable {P : Program} {w : World} {K : PySem.W.Frag} {mg : Str → Option Value} {base : Heap}
theorem ol_draw0 {f fT : Addr} {fd dT : FuncData} (F : FnP K "_law_part" sPart f fd) (T : Prg mg) {k : Nat} (h1 : 1 ≤ k) (N : Def P w K mg base CX0 1 "_law_take" fT dT ["_law_pool_here", "_law_many_here"] spTake) : FnOk P w K mg base CX0 (k + 1) f fd ["_law_pool_here", "_law_deep_here"] (spPart K 0) := by
  refine F.ok scpt (fun vs H Q E h => ?_) (fun cdv A outer s H vs Q E hr h => ?_)
  · obtain ⟨p, rfl, _⟩ := h
    rfl
  · obtain ⟨p, rfl, hp, q⟩ := h
    have hr1 : Room 1 _ := hr.mono h1
    refine ⟨_, PSs.nox (C8.pss_cut (ps_par (i := 2) (j := 3) (by rfl) scpt.nd rfl rfl (by decide) rfl rfl (pa_cons (pe_call N.ok hr1 (by rfl) N.g N.k N.b .nil pass0 (pa_cons (pv 0) (pa_cons pe_int pa_nil))) (pa_cons (pe_ix ix_list (pe_lst (pa_cons pe_str (pa_cons pe_str (pa_cons pe_str (pa_cons pe_str pa_nil))))) (pe_call N.ok hr1 (by rfl) N.g N.k N.b .nil pass0 (pa_cons (pv 0) (pa_cons pe_int pa_nil))) (fun _ _ => rfl)) pa_nil)) (by rfl))
      (C8.pss_cut (ps_if (pt_cmpR op_lt (pv 2) pe_int (nomark _)) (pss_one (ps_ret (pe_tup (pa_cons pe_str (pa_cons (pv 3) (pa_cons (pe_ix ix_list (pe_lst (pa_cons pe_int (pa_cons pe_int (pa_cons pe_int (pa_cons pe_int pa_nil))))) (pe_call N.ok hr1 (by rfl) N.g N.k N.b .nil pass0 (pa_cons (pv 0) (pa_cons pe_int pa_nil))) (fun _ _ => rfl)) pa_nil)))))) pss_nil)
      (C8.pss_cut (ps_if (pt_cmpR op_lt (pv 2) pe_int (nomark _)) (pss_one (ps_ret (pe_tup (pa_cons pe_str (pa_cons (pv 3) (pa_cons (pe_ix ix_list (pe_lst (pa_cons pe_int (pa_cons pe_int (pa_cons pe_int (pa_cons pe_int pa_nil))))) (pe_call N.ok hr1 (by rfl) N.g N.k N.b .nil pass0 (pa_cons (pv 0) (pa_cons pe_int pa_nil))) (fun _ _ => rfl)) pa_nil)))))) pss_nil)
      (pss_cons (ps_if (PW.pt (pw_or (pt_cmpR op_eq (pv 2) pe_int (nomark _)) (pw_or1 (pt_cmpR op_eq (pv 1) pe_int (nomark _))))) (pss_one (ps_ret (pe_tup (pa_cons pe_str (pa_cons (pe_op op_add pe_int (pe_call N.ok hr1 (by rfl) N.g N.k N.b .nil pass0 (pa_cons (pv 0) (pa_cons pe_int pa_nil)))) pa_nil))))) pss_nil)
      (pss_cons (ps_set (i := 4) scpt.nd rfl (Or.inl rfl) pe_never)
      (pss_one (ps_ret pe_never))))))), ?_⟩
    have e0 : start NP [V.ref p, .int (4 - ((0 : Nat) : Int))] = [some (.ref p), some (.int (4 - ((0 : Nat) : Int))), none, none, none, none] := rfl
    rw [e0]
    refine ⟨fun σ' H' => ∃ (way : Int) (c : Str), σ' = [some (.ref p), some (.int (4 - ((0 : Nat) : Int))), some (.int way), some (.str c), none, none] ∧ c ∈ chans ∧ Adv p H H' ∧ PoolAt H' p, ?_, ?_⟩
    · refine ⟨_, rfl, p, 9, rfl, hp, by decide, by decide, fun way H1 w0 w1 a1 hp1 => ?_⟩
      refine ⟨by show 4 ≤ sizeLine; decide, fun l nl => ⟨_, rfl, p, 4, rfl, hp1.same (same_upd nl), by decide, by decide, fun r H2 r0 r1 a2 hp2 => ?_⟩⟩
      have lne : l ≠ p := fun x => by
        obtain ⟨c, s', e', _⟩ := hp1
        rw [x, e'] at nl; cases nl
      obtain ⟨c, hc, hm⟩ := chan_at r0 r1
      refine ⟨l, _, r, _, rfl, rfl, SqL.of (a2 _ _ upd_same lne), hc, ?_⟩
      exact ⟨_, _, rfl, way, c, rfl, hm, (a1.same (same_upd nl)).trans a2, hp2⟩
    rintro σ1 H1 ⟨way, c, rfl, hm, a1, hp1⟩
    have move : ∀ (w : Str) (k : Int), (w = "send" ∨ w = "take") → 1 ≤ k → k ≤ 9 → ∀ H2 t, Adv p H1 H2 → PoolAt H2 p → H2 t = none → Q (.ref t) (upd H2 t (.tup [.str w, .str c, .int k])) := fun w k hw k1 k9 H2 t a2 hp2 n2 =>
      q _ _ _ ((a1.trans a2).same (same_upd n2)) (hp2.same (same_upd n2)) (.tup (SqT.of upd_same) (.cons (.str _) (.cons (.str _) (.cons (.int _) .nil)))) (drawn_move hw hm k1 k9)
    refine ⟨fun σ' H' => σ' = [some (.ref p), some (.int (4 - ((0 : Nat) : Int))), some (.int way), some (.str c), none, none] ∧ H' = H1, ?_, ?_⟩
    · refine ⟨_, rfl, _, _, rfl, rfl, _, rfl, ite_dec (fun _ => ?_) fun _ => ⟨rfl, rfl⟩⟩
      refine ⟨_, rfl, by show 4 ≤ sizeLine; decide, fun l nl => ⟨_, rfl, p, 4, rfl, hp1.same (same_upd nl), by decide, by decide, fun r H2 r0 r1 a2 hp2 => ?_⟩⟩
      have lne : l ≠ p := fun x => by
        obtain ⟨c, s', e', _⟩ := hp1
        rw [x, e'] at nl; cases nl
      obtain ⟨k, hk, k1, k9⟩ := four_at (a := 1) (b := 1) (c := 2) (e := 9) r0 r1 (by omega) (by omega) (by omega) (by omega)
      refine ⟨l, _, r, _, rfl, rfl, SqL.of (a2 _ _ upd_same lne), hk, by show 3 ≤ sizeLine; decide, fun t nt => ?_⟩
      exact move "send" k (.inl rfl) k1 k9 H2 t (Same.adv (same_upd nl) a2) hp2 nt
    rintro σ2 H2 ⟨rfl, rfl⟩
    refine ⟨fun σ' H' => σ' = [some (.ref p), some (.int (4 - ((0 : Nat) : Int))), some (.int way), some (.str c), none, none] ∧ H' = H2, ?_, ?_⟩
    · refine ⟨_, rfl, _, _, rfl, rfl, _, rfl, ite_dec (fun _ => ?_) fun _ => ⟨rfl, rfl⟩⟩
      refine ⟨_, rfl, by show 4 ≤ sizeLine; decide, fun l nl => ⟨_, rfl, p, 4, rfl, hp1.same (same_upd nl), by decide, by decide, fun r H3 r0 r1 a2 hp2 => ?_⟩⟩
      have lne : l ≠ p := fun x => by
        obtain ⟨c, s', e', _⟩ := hp1
        rw [x, e'] at nl; cases nl
      obtain ⟨k, hk, k1, k9⟩ := four_at (a := 1) (b := 1) (c := 3) (e := 9) r0 r1 (by omega) (by omega) (by omega) (by omega)
      refine ⟨l, _, r, _, rfl, rfl, SqL.of (a2 _ _ upd_same lne), hk, by show 3 ≤ sizeLine; decide, fun t nt => ?_⟩
      exact move "take" k (.inr rfl) k1 k9 H3 t (Same.adv (same_upd nl) a2) hp2 nt
    rintro σ3 H3 ⟨rfl, rfl⟩
    have last : ∀ {D : Ends}, D.rt = Q → tRet (tTup (tCons (tC (.str "work")) (tCons (tOp (rI0 fun i j => .int (i + j)) (tC (.int 1)) (tCall spTake [] E0 (tCons (tVar 0) (tCons (tC (.int 99)) tNil)))) tNil))) D [some (.ref p), some (.int (4 - ((0 : Nat) : Int))), some (.int way), some (.str c), none, none] H3 := fun {D} hD => by
      refine ⟨_, rfl, p, 99, rfl, hp1, by decide, by decide, fun r H4 r0 r1 a4 hp4 => ⟨_, _, rfl, rfl, by show 2 ≤ sizeLine; decide, fun t nt => ?_⟩⟩
      rw [hD]
      exact q _ _ _ ((a1.trans a4).same (same_upd nt)) (hp4.same (same_upd nt)) (.tup (SqT.of upd_same) (.cons (.str _) (.cons (.int _) .nil))) (drawn_work (by omega) (by omega))
    refine ⟨_, rfl, rfl, _, rfl, ?_⟩
    generalize decide (V.int way = V.int 6) = b6
    cases b6 with
    | true => exact last rfl
    | false =>
      refine ⟨_, rfl, rfl, _, rfl, ?_⟩
      have e4 : decide (V.int (4 - ((0 : Nat) : Int)) = V.int 4) = true := decide_eq_true rfl
      rw [e4]
      exact last rfl
theorem ol_drawS {m : Nat} {f fT fG : Addr} {fd dT dG : FuncData} (F : FnP K "_law_part" sPart f fd) (T : Prg mg) {k : Nat} (h1 : 1 ≤ k) (N : Def P w K mg base CX0 1 "_law_take" fT dT ["_law_pool_here", "_law_many_here"] spTake) (G : Def P w K mg base CX0 k "_law_part" fG dG ["_law_pool_here", "_law_deep_here"] (spPart K m)) (hm4 : m + 1 ≤ 4) (hrange : mg "range" = none) : FnOk P w K mg base CX0 (k + 1) f fd ["_law_pool_here", "_law_deep_here"] (spPart K (m + 1)) := by
  refine F.ok scpt (fun vs H Q E h => ?_) (fun cdv A outer s H vs Q E hr h => ?_)
  · obtain ⟨p, rfl, _⟩ := h
    rfl
  · obtain ⟨p, rfl, hp, q⟩ := h
    have hr1 : Room 1 _ := hr.mono h1
    refine ⟨_, PSs.nox (C8.pss_cut (ps_par (i := 2) (j := 3) (by rfl) scpt.nd rfl rfl (by decide) rfl rfl (pa_cons (pe_call N.ok hr1 (by rfl) N.g N.k N.b .nil pass0 (pa_cons (pv 0) (pa_cons pe_int pa_nil))) (pa_cons (pe_ix ix_list (pe_lst (pa_cons pe_str (pa_cons pe_str (pa_cons pe_str (pa_cons pe_str pa_nil))))) (pe_call N.ok hr1 (by rfl) N.g N.k N.b .nil pass0 (pa_cons (pv 0) (pa_cons pe_int pa_nil))) (fun _ _ => rfl)) pa_nil)) (by rfl))
      (C8.pss_cut (ps_if (pt_cmpR op_lt (pv 2) pe_int (nomark _)) (pss_one (ps_ret (pe_tup (pa_cons pe_str (pa_cons (pv 3) (pa_cons (pe_ix ix_list (pe_lst (pa_cons pe_int (pa_cons pe_int (pa_cons pe_int (pa_cons pe_int pa_nil))))) (pe_call N.ok hr1 (by rfl) N.g N.k N.b .nil pass0 (pa_cons (pv 0) (pa_cons pe_int pa_nil))) (fun _ _ => rfl)) pa_nil)))))) pss_nil)
      (C8.pss_cut (ps_if (pt_cmpR op_lt (pv 2) pe_int (nomark _)) (pss_one (ps_ret (pe_tup (pa_cons pe_str (pa_cons (pv 3) (pa_cons (pe_ix ix_list (pe_lst (pa_cons pe_int (pa_cons pe_int (pa_cons pe_int (pa_cons pe_int pa_nil))))) (pe_call N.ok hr1 (by rfl) N.g N.k N.b .nil pass0 (pa_cons (pv 0) (pa_cons pe_int pa_nil))) (fun _ _ => rfl)) pa_nil)))))) pss_nil)
      (pss_cons (ps_if (PW.pt (pw_or (pt_cmpR op_eq (pv 2) pe_int (nomark _)) (pw_or1 (pt_cmpR op_eq (pv 1) pe_int (nomark _))))) (pss_one (ps_ret (pe_tup (pa_cons pe_str (pa_cons (pe_op op_add pe_int (pe_call N.ok hr1 (by rfl) N.g N.k N.b .nil pass0 (pa_cons (pv 0) (pa_cons pe_int pa_nil)))) pa_nil))))) pss_nil)
      (pss_cons (ps_set (i := 4) scpt.nd rfl (Or.inl rfl) (pe_callTy call_tuple_of (by rfl) T.tuple bbT (pa_cons (pe_lc (own := [("_law_turn", 5)]) (g := gName 5) (tt := tYes) rfl scpt.nd (pi_range1 (by rfl) hrange (pa_cons (pe_call N.ok hr1 (by rfl) N.g N.k N.b .nil pass0 (pa_cons (pv 0) (pa_cons pe_int pa_nil))) pa_nil)) (blkOk_by (N := NP) (sc := defScope sPart) (by decide +kernel)) (fun _ _ _ _ _ => pg_name (i := 5) scpt.nd rfl (Or.inl rfl)) (fun _ _ _ _ _ => pts_nil) (fun _ _ _ _ _ => pe_call G.ok hr (by rfl) G.g G.k G.b .nil pass0 (pa_cons (pv 0) (pa_cons (pe_op op_add (pv 1) pe_int) pa_nil)))) pa_nil)))
      (pss_one (ps_ret (pe_tup (pa_cons pe_str (pa_cons (pe_ix ix_list (pe_lst (pa_cons (pe_tup (pa_cons pe_int (pa_cons (pe_call N.ok hr1 (by rfl) N.g N.k N.b .nil pass0 (pa_cons (pv 0) (pa_cons pe_int pa_nil))) pa_nil))) (pa_cons (pe_tup (pa_cons pe_int (pa_cons pe_int pa_nil))) (pa_cons (pe_tup (pa_cons pe_int (pa_cons (pe_un un_neg pe_int) pa_nil))) (pa_cons (pe_tup (pa_cons pe_int (pa_cons pe_int pa_nil))) (pa_cons (pe_tup (pa_cons pe_int (pa_cons (pe_op op_pow pe_int pe_int) pa_nil))) pa_nil)))))) (pe_call N.ok hr1 (by rfl) N.g N.k N.b .nil pass0 (pa_cons (pv 0) (pa_cons pe_int pa_nil))) (fun _ _ => rfl)) (pa_cons (pv 4) pa_nil))))))))))), ?_⟩
    have e0 : start NP [V.ref p, .int (4 - ((m + 1 : Nat) : Int))] = [some (.ref p), some (.int (4 - ((m + 1 : Nat) : Int))), none, none, none, none] := rfl
    rw [e0]
    refine ⟨fun σ' H' => ∃ (way : Int) (c : Str), σ' = [some (.ref p), some (.int (4 - ((m + 1 : Nat) : Int))), some (.int way), some (.str c), none, none] ∧ c ∈ chans ∧ Adv p H H' ∧ PoolAt H' p, ?_, ?_⟩
    · refine ⟨_, rfl, p, 9, rfl, hp, by decide, by decide, fun way H1 w0 w1 a1 hp1 => ?_⟩
      refine ⟨by show 4 ≤ sizeLine; decide, fun l nl => ⟨_, rfl, p, 4, rfl, hp1.same (same_upd nl), by decide, by decide, fun r H2 r0 r1 a2 hp2 => ?_⟩⟩
      have lne : l ≠ p := fun x => by
        obtain ⟨c, s', e', _⟩ := hp1
        rw [x, e'] at nl; cases nl
      obtain ⟨c, hc, hm⟩ := chan_at r0 r1
      refine ⟨l, _, r, _, rfl, rfl, SqL.of (a2 _ _ upd_same lne), hc, ?_⟩
      exact ⟨_, _, rfl, way, c, rfl, hm, (a1.same (same_upd nl)).trans a2, hp2⟩
    rintro σ1 H1 ⟨way, c, rfl, hm, a1, hp1⟩
    have move : ∀ (w : Str) (k : Int), (w = "send" ∨ w = "take") → 1 ≤ k → k ≤ 9 → ∀ H2 t, Adv p H1 H2 → PoolAt H2 p → H2 t = none → Q (.ref t) (upd H2 t (.tup [.str w, .str c, .int k])) := fun w k hw k1 k9 H2 t a2 hp2 n2 =>
      q _ _ _ ((a1.trans a2).same (same_upd n2)) (hp2.same (same_upd n2)) (.tup (SqT.of upd_same) (.cons (.str _) (.cons (.str _) (.cons (.int _) .nil)))) (drawn_move hw hm k1 k9)
    refine ⟨fun σ' H' => σ' = [some (.ref p), some (.int (4 - ((m + 1 : Nat) : Int))), some (.int way), some (.str c), none, none] ∧ H' = H1, ?_, ?_⟩
    · refine ⟨_, rfl, _, _, rfl, rfl, _, rfl, ite_dec (fun _ => ?_) fun _ => ⟨rfl, rfl⟩⟩
      refine ⟨_, rfl, by show 4 ≤ sizeLine; decide, fun l nl => ⟨_, rfl, p, 4, rfl, hp1.same (same_upd nl), by decide, by decide, fun r H2 r0 r1 a2 hp2 => ?_⟩⟩
      have lne : l ≠ p := fun x => by
        obtain ⟨c, s', e', _⟩ := hp1
        rw [x, e'] at nl; cases nl
      obtain ⟨k, hk, k1, k9⟩ := four_at (a := 1) (b := 1) (c := 2) (e := 9) r0 r1 (by omega) (by omega) (by omega) (by omega)
      refine ⟨l, _, r, _, rfl, rfl, SqL.of (a2 _ _ upd_same lne), hk, by show 3 ≤ sizeLine; decide, fun t nt => ?_⟩
      exact move "send" k (.inl rfl) k1 k9 H2 t (Same.adv (same_upd nl) a2) hp2 nt
    rintro σ2 H2 ⟨rfl, rfl⟩
    refine ⟨fun σ' H' => σ' = [some (.ref p), some (.int (4 - ((m + 1 : Nat) : Int))), some (.int way), some (.str c), none, none] ∧ H' = H2, ?_, ?_⟩
    · refine ⟨_, rfl, _, _, rfl, rfl, _, rfl, ite_dec (fun _ => ?_) fun _ => ⟨rfl, rfl⟩⟩
      refine ⟨_, rfl, by show 4 ≤ sizeLine; decide, fun l nl => ⟨_, rfl, p, 4, rfl, hp1.same (same_upd nl), by decide, by decide, fun r H3 r0 r1 a2 hp2 => ?_⟩⟩
      have lne : l ≠ p := fun x => by
        obtain ⟨c, s', e', _⟩ := hp1
        rw [x, e'] at nl; cases nl
      obtain ⟨k, hk, k1, k9⟩ := four_at (a := 1) (b := 1) (c := 3) (e := 9) r0 r1 (by omega) (by omega) (by omega) (by omega)
      refine ⟨l, _, r, _, rfl, rfl, SqL.of (a2 _ _ upd_same lne), hk, by show 3 ≤ sizeLine; decide, fun t nt => ?_⟩
      exact move "take" k (.inr rfl) k1 k9 H3 t (Same.adv (same_upd nl) a2) hp2 nt
    rintro σ3 H3 ⟨rfl, rfl⟩
    have last : ∀ {D : Ends}, D.rt = Q → tRet (tTup (tCons (tC (.str "work")) (tCons (tOp (rI0 fun i j => .int (i + j)) (tC (.int 1)) (tCall spTake [] E0 (tCons (tVar 0) (tCons (tC (.int 99)) tNil)))) tNil))) D [some (.ref p), some (.int (4 - ((m + 1 : Nat) : Int))), some (.int way), some (.str c), none, none] H3 := fun {D} hD => by
      refine ⟨_, rfl, p, 99, rfl, hp1, by decide, by decide, fun r H4 r0 r1 a4 hp4 => ⟨_, _, rfl, rfl, by show 2 ≤ sizeLine; decide, fun t nt => ?_⟩⟩
      rw [hD]
      exact q _ _ _ ((a1.trans a4).same (same_upd nt)) (hp4.same (same_upd nt)) (.tup (SqT.of upd_same) (.cons (.str _) (.cons (.int _) .nil))) (drawn_work (by omega) (by omega))
    refine ⟨_, rfl, rfl, _, rfl, ?_⟩
    generalize decide (V.int way = V.int 6) = b6
    cases b6 with
    | true => exact last rfl
    | false =>
      refine ⟨_, rfl, rfl, _, rfl, ?_⟩
      have e4 : decide (V.int (4 - ((m + 1 : Nat) : Int)) = V.int 4) = false := decide_eq_false fun z => by have := V.int.inj z; omega
      rw [e4]
      walk_at "nx"
      -- the body
      refine ⟨_, rfl, p, 4, rfl, hp1, by decide, by decide, fun r H4 r0 r1 a4 hp4 => ⟨r, rfl, by omega, by omega, fun D hD => ?_⟩⟩
      have dne : D ≠ p := fun x => by
        obtain ⟨c, s', e', _⟩ := hp4
        rw [x, e'] at hD; cases hD
      have sD := same_upd (o := .lst []) hD
      refine lc_range (n := r.toNat) (lo := 0) (fun i H' => Adv p H4 H' ∧ SoFar K H' p D m i) ⟨Same.adv sD Adv.refl, hp4.same sD, [], [], upd_same, .nil, rfl, fun d z => nomatch z⟩ ?_ ?_
      · rintro i H5 hi ⟨a5, sf⟩
        refine ⟨rfl, _, rfl, _, rfl, _, _, rfl, rfl, p, ?_, sf.po, fun v d H6 a6 hp6 hv hd => ?_⟩
        · have e9 : (4 : Int) - ((m + 1 : Nat) : Int) + 1 = 4 - m := by omega
          show [V.ref p, V.int (4 - ((m + 1 : Nat) : Int) + 1)] = _
          rw [e9]
        · obtain ⟨acc, h1, h2, h3⟩ := sf.more dne a6 hp6 hv hd
          refine ⟨acc, h1, by rw [h2, sizeLine_eq]; omega, fun b o e ne => ?_, h3⟩
          by_cases hb : b = D
          · rw [hb, hD] at e; cases e
          · exact (upd_ne hb).trans (a6 _ _ (a5 _ _ e ne) ne)
      · rintro H5 ⟨a5, sf⟩
        obtain ⟨vs, ds, h1, h2, h3, h4⟩ := sf.ls
        refine ⟨D, vs, rfl, .inl ⟨SqL.of h1, fun t nt => ?_⟩⟩
        have st := same_upd (o := .tup vs) nt
        have sm : Some m 3 ds := ⟨by omega, h4⟩
        have hb : Dp K (upd H5 t (.tup vs)) (.ref t) (.tuple ds) := .tup (SqT.of upd_same) (DpAll.same st h2)
        have hp5 := sf.po.same st
        have a6 := ((a1.trans a4).trans a5).same st
        generalize upd H5 t (.tup vs) = H6 at hb hp5 a6 ⊢
        walk_at "nx"
        refine ⟨_, rfl, p, 5, rfl, hp5, by decide, by decide, fun x H7 x0 x1 a7 hp7 => ⟨by show 2 ≤ sizeLine; decide, fun u1 n1 => ⟨by show 2 ≤ sizeLine; decide, fun u2 n2 => ⟨_, rfl, by show 2 ≤ sizeLine; decide, fun u3 n3 => ⟨by show 2 ≤ sizeLine; decide, fun u4 n4 => ?_⟩⟩⟩⟩⟩
        refine ⟨_, _, rfl, rfl, ⟨by decide, by decide, by decide⟩, by show 2 ≤ sizeLine; decide, fun u5 n5 => ⟨by show 5 ≤ sizeLine; decide, fun L nL => ?_⟩⟩
        have e30 : (10 : Int) ^ (Int.toNat 30) = 10 ^ 30 := by decide
        have g1 := same_upd (o := .tup [.int 0, .int x]) n1
        have g2 := same_upd (o := .tup [.int 1, .int 0]) n2
        have g3 := same_upd (o := .tup [.int 3, .int (-2)]) n3
        have g4 := same_upd (o := .tup [.int 2, .int 7]) n4
        have g5 := same_upd (o := .tup [.int 0, .int (10 ^ (Int.toNat 30))]) n5
        have g6 := same_upd (o := .lst [.ref u1, .ref u2, .ref u3, .ref u4, .ref u5]) nL
        have k1 := g6 _ _ (g5 _ _ (g4 _ _ (g3 _ _ (g2 _ _ (upd_same (H := H7) (a := u1) (o := .tup [.int 0, .int x]))))))
        have k2 := g6 _ _ (g5 _ _ (g4 _ _ (g3 _ _ (upd_same (H := upd H7 u1 (.tup [.int 0, .int x])) (a := u2) (o := .tup [.int 1, .int 0])))))
        have k3 := g6 _ _ (g5 _ _ (g4 _ _ (upd_same (H := upd (upd H7 u1 (.tup [.int 0, .int x])) u2 (.tup [.int 1, .int 0])) (a := u3) (o := .tup [.int 3, .int (-2)]))))
        have k4 := g6 _ _ (g5 _ _ (upd_same (H := upd (upd (upd H7 u1 (.tup [.int 0, .int x])) u2 (.tup [.int 1, .int 0])) u3 (.tup [.int 3, .int (-2)])) (a := u4) (o := .tup [.int 2, .int 7])))
        have k5 := g6 _ _ (upd_same (H := upd (upd (upd (upd H7 u1 (.tup [.int 0, .int x])) u2 (.tup [.int 1, .int 0])) u3 (.tup [.int 3, .int (-2)])) u4 (.tup [.int 2, .int 7])) (a := u5) (o := .tup [.int 0, .int (10 ^ (Int.toNat 30))]))
        have kL := upd_same (H := upd (upd (upd (upd (upd H7 u1 (.tup [.int 0, .int x])) u2 (.tup [.int 1, .int 0])) u3 (.tup [.int 3, .int (-2)])) u4 (.tup [.int 2, .int 7])) u5 (.tup [.int 0, .int (10 ^ (Int.toNat 30))])) (a := L) (o := .lst [.ref u1, .ref u2, .ref u3, .ref u4, .ref u5])
        have g := g1.trans (g2.trans (g3.trans (g4.trans (g5.trans g6))))
        generalize upd (upd (upd (upd (upd (upd H7 u1 (.tup [.int 0, .int x])) u2 (.tup [.int 1, .int 0])) u3 (.tup [.int 3, .int (-2)])) u4 (.tup [.int 2, .int 7])) u5 (.tup [.int 0, .int (10 ^ (Int.toNat 30))])) L (.lst [.ref u1, .ref u2, .ref u3, .ref u4, .ref u5]) = G at k1 k2 k3 k4 k5 kL g ⊢
        have hpG := hp7.same g
        have hbG : Dp K G (.ref t) (.tuple ds) := Dp.same g (Dp.kt (Adv.kt hp5 a7) hb (by simp only [noL]; exact sm.nol))
        have aG := (a6.trans a7).same g
        clear g1 g2 g3 g4 g5 g6 n1 n2 n3 n4 n5 nL g hb hp5 a6 hp7 a7
        refine ⟨_, rfl, p, 5, rfl, hpG, by decide, by decide, fun y H8 y0 y1 a8 hp8 => ?_⟩
        obtain ⟨u, a, b, hu, hG, hc, ha, hb⟩ : ∃ u a b, atI [V.ref u1, .ref u2, .ref u3, .ref u4, .ref u5] y = some (.ref u) ∧ G u = some (.tup [.int a, .int b]) ∧ countD (.tuple [.int a, .int b]) = true ∧ a.natAbs < 10 ^ 31 ∧ b.natAbs < 10 ^ 31 := by
          rw [e30] at k5
          have h5 : y = 0 ∨ y = 1 ∨ y = 2 ∨ y = 3 ∨ y = 4 := by omega
          rcases h5 with rfl | rfl | rfl | rfl | rfl
          · refine ⟨u1, _, _, rfl, k1, ?_, by decide, by omega⟩
            show ((decide ((0 : Int) ≤ 0) && decide ((0 : Int) ≤ 9)) && ((decide (-(10 ^ 30) ≤ x) && decide (x ≤ 10 ^ 30)) && (decide ((0 : Int) > 0) || decide (x ≥ 0)))) = true
            rw [decide_eq_true (p := -(10 ^ 30) ≤ x) (by omega), decide_eq_true (p := x ≤ 10 ^ 30) (by omega), decide_eq_true (p := x ≥ 0) x0]
            rfl
          · exact ⟨u2, _, _, rfl, k2, by decide +kernel, by decide, by decide⟩
          · exact ⟨u3, _, _, rfl, k3, by decide +kernel, by decide, by decide⟩
          · exact ⟨u4, _, _, rfl, k4, by decide +kernel, by decide, by decide⟩
          · exact ⟨u5, _, _, rfl, k5, by decide +kernel, by decide, by decide⟩
        have kk : Kt G H8 := Adv.kt hpG a8
        have lne : L ≠ p := fun z => by
          obtain ⟨c, s', e', _⟩ := hpG
          rw [z, e'] at kL
          injection kL with kL
          injection kL with kL
          cases kL
        refine ⟨L, _, y, _, rfl, rfl, SqL.of (a8 _ _ kL lne), hu, ?_⟩
        refine ⟨_, rfl, by show 3 ≤ sizeLine; decide, fun tt nt => ?_⟩
        have st2 := same_upd (o := .tup [.str "loop", .ref u, .ref t]) nt
        refine q _ _ _ ((aG.trans a8).same st2) (hp8.same st2) (.tup (SqT.of upd_same) (.cons (.str _) (.cons (.tup (SqT.of (st2 _ _ (kk _ _ hG fun _ z => by cases z))) (.cons (.int _) (.cons (.int _) .nil))) (.cons (Dp.same st2 (Dp.kt kk hbG ?_)) .nil)))) (drawn_loop hc ha hb sm)
        simp only [noL]
        exact sm.nol
end
end L2.L02

set_option maxHeartbeats 1000000
namespace L2.L02
open PySem PySem.Spec PyProof.Rows LR L2.Lr
local macro_rules | `(tactic| walk_at "nx") => `(tactic| dsimp only [gName, tNext, tSeq, tAsg, List.set_cons_zero, List.set_cons_succ])
abbrev sBent : Stmt := top 52
abbrev NB : List Str := ["_law_pool_here", "_law_parts_here", "_law_at", "_law_odd_here", "_law_inner"]
theorem scbe : FnScope NB ["_law_pool_here", "_law_parts_here"] (defScope sBent) := ⟨rfl, rfl, rfl, by decide +kernel, rfl, by decide +kernel, by decide +kernel⟩
/-! ### data away from an address -/
def Off (D : Addr) (H : Hp) : Hp := fun b => if b = D then none else H b
theorem off_at {D t : Addr} {H : Hp} {o : HO} (n : t ≠ D) (h : H t = some o) : Off D H t = some o := (if_neg n).trans h
theorem off_le {D : Addr} {H : Hp} : Same (Off D H) H := fun b o e => by
  unfold Off at e
  split at e
  · cases e
  · exact e
theorem Off.same {D : Addr} {H H' : Hp} (s : Same H H') : Same (Off D H) (Off D H') := fun b o e => by
  unfold Off at e ⊢
  split at e
  · cases e
  · rename_i n
    rw [if_neg n]
    exact s _ _ e
theorem Off.adv {D p : Addr} {H H' : Hp} (s : Adv p H H') : Adv p (Off D H) (Off D H') := fun b o e ne => by
  unfold Off at e ⊢
  split at e
  · cases e
  · rename_i n
    rw [if_neg n]
    exact s _ _ e ne
theorem PoolAt.off {D p : Addr} {H : Hp} (h : PoolAt H p) (n : D ≠ p) : PoolAt (Off D H) p := by
  obtain ⟨c, s, hp, q⟩ := h
  exact ⟨c, s, off_at n.symm hp, q⟩
theorem Off.kt {D p : Addr} {H H' : Hp} (h : PoolAt H p) (n : D ≠ p) (s : Adv p H H') : Kt (Off D H) (Off D H') := Adv.kt (PoolAt.off h n) (Off.adv s)
theorem there {D : Addr} {H H' : Hp} (s : Same H H') (h : H D ≠ none) : H' D ≠ none := by
  cases e : H D with
  | none => exact absurd e h
  | some o => rw [s _ _ e]; exact fun z => nomatch z
theorem thereA {D p : Addr} {H H' : Hp} (s : Adv p H H') (n : D ≠ p) (h : H D ≠ none) : H' D ≠ none := by
  cases e : H D with
  | none => exact absurd e h
  | some o => rw [s _ _ e n]; exact fun z => nomatch z
theorem fresh_ne {D t : Addr} {H : Hp} (h : H D ≠ none) (n : H t = none) : t ≠ D := fun z => h (by rw [← z]; exact n)
theorem DpAll.take {K : PySem.W.Frag} {H : Hp} : ∀ {vs : List V} {ds : List PyData} (n : Nat), DpAll K H vs ds → DpAll K H (vs.take n) (ds.take n)
  | _, _, 0, _ => by simpa using DpAll.nil
  | _, _, n + 1, .nil => by simpa using DpAll.nil
  | _, _, n + 1, .cons h a => by simpa using DpAll.cons h (DpAll.take n a)
theorem DpAll.drop {K : PySem.W.Frag} {H : Hp} : ∀ {vs : List V} {ds : List PyData} (n : Nat), DpAll K H vs ds → DpAll K H (vs.drop n) (ds.drop n)
  | _, _, 0, h => by simpa using h
  | _, _, n + 1, .nil => by simpa using DpAll.nil
  | _, _, n + 1, .cons h a => by simpa using DpAll.drop n a
theorem catE {K : PySem.W.Frag} {H : Hp} {D : Addr} {x y : V} {ds es : List PyData} {Q : VK} (hD : H D ≠ none) (hx : Dp K (Off D H) x (.tuple ds)) (hy : Dp K (Off D H) y (.tuple es)) (hz : ds.length + es.length ≤ sizeLine) (q : ∀ v H', Same H H' → Dp K (Off D H') v (.tuple (ds ++ es)) → Q v H') : rCatA K x y H Q := by
  cases hx with
  | @tup a xs _ hS ha =>
    cases hy with
    | @tup b ys _ hS' ha' =>
      refine ⟨a, b, xs, ys, rfl, rfl, seqT off_le hS, seqT off_le hS', by rw [DpAll.length ha, DpAll.length ha']; exact hz, fun e => ?_, fun _ e => ?_, fun _ _ t nt => ?_⟩
      · subst e
        cases ha
        exact q _ _ (Same.refl H) (.tup hS' ha')
      · subst e
        cases ha'
        refine q _ _ (Same.refl H) ?_
        rw [List.append_nil]
        exact .tup hS ha
      · have st := same_upd (o := .tup (xs ++ ys)) nt
        exact q _ _ st (.tup (SqT.of (off_at (fresh_ne hD nt) upd_same)) (DpAll.same (Off.same st) (DpAll.append ha ha')))
def cutD (ds : List PyData) (lo hi : Option Int) : List PyData := (ds.drop (HT.sIx ds.length 0 lo)).take (HT.sIx ds.length ds.length hi - HT.sIx ds.length 0 lo)
theorem slE {K : PySem.W.Frag} {H : Hp} {D : Addr} {x : V} {ds : List PyData} {lo hi : Option Int} {Q : VK} (hD : H D ≠ none) (hx : Dp K (Off D H) x (.tuple ds)) (q : ∀ v H', Same H H' → Dp K (Off D H') v (.tuple (cutD ds lo hi)) → Q v H') : rSlA K x lo hi H Q := by
  cases hx with
  | @tup a xs _ hS ha =>
    have hl := DpAll.length ha
    refine ⟨a, xs, rfl, seqT off_le hS, fun e => ?_, fun _ t nt => ?_⟩
    · refine q _ _ (Same.refl H) ?_
      rw [hl] at e
      have : cutD ds lo hi = ds := by
        unfold cutD
        rw [e.1, e.2]
        simp
      rw [this]
      exact .tup hS ha
    · have st := same_upd (o := .tup (cutV xs lo hi)) nt
      refine q _ _ st (.tup (SqT.of (off_at (fresh_ne hD nt) upd_same)) ?_)
      have e1 : cutV xs lo hi = (xs.drop (HT.sIx ds.length 0 lo)).take (HT.sIx ds.length ds.length hi - HT.sIx ds.length 0 lo) := by
        unfold cutV
        rw [hl]
      generalize upd H t (.tup (cutV xs lo hi)) = G at st ⊢
      rw [e1]
      unfold cutD
      exact DpAll.same (Off.same st) (DpAll.take _ (DpAll.drop _ ha))
theorem cut_to {ds : List PyData} {k : Nat} (h : k ≤ ds.length) : cutD ds none (some (k : Int)) = ds.take k := by
  unfold cutD
  rw [HT.sIx_nat, HT.sIx_none, Nat.min_eq_left h]
  simp
theorem cut_from {ds : List PyData} {k : Nat} : cutD ds (some (k : Int)) none = ds.drop k := by
  unfold cutD
  rw [HT.sIx_nat, HT.sIx_none]
  by_cases h : k ≤ ds.length
  · rw [Nat.min_eq_left h, List.take_of_length_le (by rw [List.length_drop]; omega)]
  · rw [Nat.min_eq_right (by omega), List.drop_of_length_le (l := ds) (Nat.le_refl _), List.drop_of_length_le (l := ds) (i := k) (by omega)]
    simp
theorem cut_init {ds : List PyData} (h : ds ≠ []) : cutD ds none (some (-1)) = ds.dropLast := by
  have hl : 0 < ds.length := List.length_pos_iff.mpr h
  unfold cutD
  have e : HT.sIx ds.length ds.length (some (-1)) = ds.length - 1 := by
    show (if (-1 : Int) < 0 then ((-1 : Int) + (ds.length : Int)).toNat else min (-1 : Int).toNat ds.length) = ds.length - 1
    rw [if_pos (by decide)]
    omega
  rw [e, HT.sIx_none, List.dropLast_eq_take]
  simp
/-! ### displays of constants, away from an address -/
def tDatE (K : PySem.W.Frag) (D : Addr) (d : PyData) : TE := fun _ H Q => H D ≠ none ∧ ∀ v H', Same H H' → Dp K (Off D H') v d → Q v H'
def tDatsE (K : PySem.W.Frag) (D : Addr) (ds : List PyData) : TA := fun _ H Q => H D ≠ none ∧ ∀ vs H', Same H H' → DpAll K (Off D H') vs ds → Q vs H'
def tDatLE (K : PySem.W.Frag) (D : Addr) (ds : List PyData) : TE := fun _ H Q => H D ≠ none ∧ ∀ p vs H', Same H H' → H p = none → H' p = some (.lst vs) → DpAll K (Off D H') vs ds → Q (.ref p) H'
section
variable {X : Cx} {D : Addr} {e : Expr} {es : List Expr} {d : PyData} {ds : List PyData} {p pos : Pos}
theorem pf_int {i : Int} {k} : PE X (.Constant (.int i) k p) (tDatE X.K D (.int i)) := pe_weak pe_int fun σ H Q q => q.2 _ _ (Same.refl H) (.int i)
theorem pf_str {x : Str} {k} : PE X (.Constant (.str x) k p) (tDatE X.K D (.str x)) := pe_weak pe_str fun σ H Q q => q.2 _ _ (Same.refl H) (.str x)
theorem pf_bl {b : Bool} {k} : PE X (.Constant (.bool b) k p) (tDatE X.K D (.bool b)) := pe_weak pe_bl fun σ H Q q => q.2 _ _ (Same.refl H) (.bl b)
theorem pf_non {k} : PE X (.Constant .none k p) (tDatE X.K D .none) := pe_weak pe_non fun σ H Q q => q.2 _ _ (Same.refl H) .non
theorem pf_neg {i : Int} {k} : PE X (.UnaryOp .USub (.Constant (.int i) k p) pos) (tDatE X.K D (.int (-i))) := pe_weak (pe_un un_neg pe_int) fun σ H Q q => ⟨i, rfl, q.2 _ _ (Same.refl H) (.int (-i))⟩
theorem pf_nil : PA X [] (tDatsE X.K D []) := pa_weak pa_nil fun σ H Q q => q.2 [] H (Same.refl H) .nil
theorem pf_cons (h1 : PE X e (tDatE X.K D d)) (h2 : PA X es (tDatsE X.K D ds)) (hs : starEach (e :: es) X.env = (false, eval e X.env) :: starEach es X.env := by rfl) : PA X (e :: es) (tDatsE X.K D (d :: ds)) :=
  pa_weak (pa_cons h1 h2 hs) fun σ H Q q => ⟨q.1, fun v H1 s1 h1 => ⟨there s1 q.1, fun vs H2 s2 h2 => q.2 (v :: vs) H2 (s1.trans s2) (.cons (Dp.same (Off.same s2) h1) h2)⟩⟩
theorem pf_tup {x1} (h : PA X es (tDatsE X.K D ds)) (hz : ds.length ≤ sizeLine := by show _ ≤ _; decide) : PE X (.Tuple es x1 pos) (tDatE X.K D (.tuple ds)) :=
  pe_weak (pe_tup h) fun σ H Q q => ⟨q.1, fun vs H1 s1 h1 => ⟨by rw [DpAll.length h1]; exact hz, fun p np => q.2 _ _ (s1.trans (same_upd np)) (.tup (SqT.of (off_at (fresh_ne (there s1 q.1) np) upd_same)) (DpAll.same (Off.same (same_upd np)) h1))⟩⟩
theorem pf_lst {x1} (h : PA X es (tDatsE X.K D ds)) (hz : ds.length ≤ sizeLine := by show _ ≤ _; decide) : PE X (.List es x1) (tDatE X.K D (.list ds)) :=
  pe_weak (pe_lst h) fun σ H Q q => ⟨q.1, fun vs H1 s1 h1 => ⟨by rw [DpAll.length h1]; exact hz, fun p np => q.2 _ _ (s1.trans (same_upd np)) (.lst (SqL.of (off_at (fresh_ne (there s1 q.1) np) upd_same)) (DpAll.same (Off.same (same_upd np)) h1))⟩⟩
theorem none_of {H H' : Hp} {t : Addr} (s : Same H H') (n : H' t = none) : H t = none := by
  cases e : H t with
  | none => rfl
  | some o => rw [s _ _ e] at n; cases n
theorem pf_lstL {x1} (h : PA X es (tDatsE X.K D ds)) (hz : ds.length ≤ sizeLine := by show _ ≤ _; decide) : PE X (.List es x1) (tDatLE X.K D ds) :=
  pe_weak (pe_lst h) fun σ H Q q => ⟨q.1, fun vs H1 s1 h1 => ⟨by rw [DpAll.length h1]; exact hz, fun p np => q.2 p vs _ (s1.trans (same_upd np)) (none_of s1 np) upd_same (DpAll.same (Off.same (same_upd np)) h1)⟩⟩
end
def spOddE (K : PySem.W.Frag) : Sp := fun vs H Q _ => ∃ p D : Addr, vs = [.ref p] ∧ PoolAt H p ∧ H D ≠ none ∧ D ≠ p ∧ ∀ (v : V) (d : PyData) (H' : Hp), Adv p H H' → PoolAt H' p → d ∈ oddL → Dp K (Off D H') v d → Q v H'
section
variable {P : Program} {w : World} {K : PySem.W.Frag} {mg : Str → Option Value} {base : Heap}
theorem ol_oddE {f fN : Addr} {fd dN : FuncData} (F : FnP K "_law_odd" sOdd f fd) (N : Def P w K mg base CX0 1 "_law_take" fN dN ["_law_pool_here", "_law_many_here"] spTake) : FnOk P w K mg base CX0 2 f fd ["_law_pool_here"] (spOddE K) := by
  refine F.ok scod (fun vs H Q E h => ?_) (fun cdv A outer s H vs Q E hr h => ?_)
  · obtain ⟨p, D, rfl, _⟩ := h
    rfl
  · obtain ⟨p, D, rfl, hp, hD, nD, q⟩ := h
    refine ⟨_, pss_cons (ps_set (i := 1) scod.nd rfl (Or.inl rfl) (pf_lstL (D := D) (pf_cons pf_non (pf_cons pf_int (pf_cons pf_str (pf_cons (pf_tup pf_nil) (pf_cons (pf_tup (pf_cons pf_str pf_nil)) (pf_cons (pf_tup (pf_cons pf_str (pf_cons pf_str pf_nil))) (pf_cons (pf_tup (pf_cons pf_str (pf_cons pf_str (pf_cons pf_int pf_nil)))) (pf_cons (pf_tup (pf_cons pf_str (pf_cons pf_str (pf_cons pf_int pf_nil)))) (pf_cons (pf_tup (pf_cons pf_str (pf_cons pf_str (pf_cons pf_int pf_nil)))) pf_nil)))))))))))
      (pss_cons (ps_set (i := 1) scod.nd rfl (Or.inl rfl) (pe_op op_cat (pv 1) (pf_lstL (D := D) (pf_cons (pf_tup (pf_cons pf_str (pf_cons pf_str (pf_cons pf_int pf_nil)))) (pf_cons (pf_tup (pf_cons pf_str (pf_cons pf_str (pf_cons pf_bl pf_nil)))) (pf_cons (pf_tup (pf_cons pf_str (pf_cons pf_int (pf_cons pf_int pf_nil)))) (pf_cons (pf_tup (pf_cons pf_str (pf_cons pf_int pf_nil))) (pf_cons (pf_tup (pf_cons pf_str (pf_cons pf_int pf_nil))) (pf_cons (pf_tup (pf_cons pf_str (pf_cons pf_str pf_nil))) pf_nil)))))))))
      (pss_cons (ps_set (i := 1) scod.nd rfl (Or.inl rfl) (pe_op op_cat (pv 1) (pf_lstL (D := D) (pf_cons (pf_tup (pf_cons pf_str (pf_cons pf_int (pf_cons (pf_tup pf_nil) pf_nil)))) (pf_cons (pf_tup (pf_cons pf_str (pf_cons (pf_tup (pf_cons pf_int (pf_cons pf_neg pf_nil))) (pf_cons (pf_tup pf_nil) pf_nil)))) (pf_cons (pf_tup (pf_cons pf_str (pf_cons (pf_tup (pf_cons pf_int (pf_cons pf_int pf_nil))) (pf_cons (pf_lst pf_nil) pf_nil)))) (pf_cons (pf_tup (pf_cons pf_str (pf_cons (pf_tup (pf_cons pf_int (pf_cons pf_int pf_nil))) pf_nil))) (pf_cons (pf_tup (pf_cons pf_str (pf_cons (pf_tup (pf_cons pf_int (pf_cons pf_int pf_nil))) (pf_cons (pf_tup pf_nil) pf_nil)))) pf_nil))))))))
      (pss_cons (ps_set (i := 1) scod.nd rfl (Or.inl rfl) (pe_op op_cat (pv 1) (pf_lstL (D := D) (pf_cons (pf_tup (pf_cons pf_str (pf_cons (pf_tup pf_nil) pf_nil))) (pf_cons (pf_tup (pf_cons pf_str (pf_cons pf_non pf_nil))) (pf_cons (pf_tup (pf_cons pf_str (pf_cons (pf_tup pf_nil) (pf_cons (pf_tup pf_nil) pf_nil)))) (pf_cons (pf_lst (pf_cons pf_str (pf_cons pf_str (pf_cons pf_int pf_nil)))) (pf_cons (pf_tup (pf_cons pf_str (pf_cons (pf_tup (pf_cons pf_int (pf_cons pf_int pf_nil))) (pf_cons (pf_tup (pf_cons pf_non pf_nil)) pf_nil)))) pf_nil))))))))
      (pss_one (ps_ret (pe_ix ix_list (pe_op op_cat (pv 1) (pf_lstL (D := D) (pf_cons (pf_tup (pf_cons pf_int (pf_cons pf_str (pf_cons pf_int pf_nil)))) (pf_cons (pf_tup (pf_cons (pf_lst (pf_cons pf_str pf_nil)) (pf_cons pf_str (pf_cons pf_int pf_nil)))) (pf_cons (pf_tup (pf_cons pf_str (pf_cons pf_str (pf_cons pf_int pf_nil)))) (pf_cons (pf_tup (pf_cons pf_str (pf_cons pf_str (pf_cons pf_int pf_nil)))) pf_nil)))))) (pe_call N.ok hr (by rfl) N.g N.k N.b .nil pass0 (pa_cons (pv 0) (pa_cons pe_int pa_nil))) (fun _ _ => rfl))))))), ?_⟩
    have e0 : start ["_law_pool_here", "_law_some"] [V.ref p] = [some (.ref p), none] := rfl
    rw [e0]
    refine ⟨hD, fun p1 v1 H1 s1 _ h1 d1 => ?_⟩
    have hD1 := there s1 hD
    walk_at "nx"
    refine ⟨_, rfl, hD1, fun p2 v2 H2 s2 _ h2 d2 => ⟨p1, p2, v1, v2, rfl, rfl, s2 _ _ h1, h2, by rw [DpAll.length d1, DpAll.length d2]; show 15 ≤ sizeLine; decide, fun r2 n2 => ?_⟩⟩
    have d12 := DpAll.append (DpAll.same (Off.same s2) d1) d2
    have t2 := same_upd (o := .lst (v1 ++ v2)) n2
    have g2 : (upd H2 r2 (.lst (v1 ++ v2))) r2 = some (.lst (v1 ++ v2)) := upd_same
    have d12 := DpAll.same (Off.same t2) d12
    have z2 := s1.trans (s2.trans t2)
    generalize upd H2 r2 (.lst (v1 ++ v2)) = G2 at d12 t2 g2 z2 ⊢
    walk_at "nx"
    refine ⟨_, rfl, there z2 hD, fun p3 v3 H3 s3 _ h3 d3 => ⟨r2, p3, v1 ++ v2, v3, rfl, rfl, s3 _ _ g2, h3, by rw [DpAll.length d12, DpAll.length d3]; show 20 ≤ sizeLine; decide, fun r3 n3 => ?_⟩⟩
    have d13 := DpAll.append (DpAll.same (Off.same s3) d12) d3
    have t3 := same_upd (o := .lst (v1 ++ v2 ++ v3)) n3
    have g3 : (upd H3 r3 (.lst (v1 ++ v2 ++ v3))) r3 = some (.lst (v1 ++ v2 ++ v3)) := upd_same
    have d13 := DpAll.same (Off.same t3) d13
    have z3 := z2.trans (s3.trans t3)
    generalize upd H3 r3 (.lst (v1 ++ v2 ++ v3)) = G3 at d13 t3 g3 z3 ⊢
    walk_at "nx"
    refine ⟨_, rfl, there z3 hD, fun p4 v4 H4 s4 _ h4 d4 => ⟨r3, p4, v1 ++ v2 ++ v3, v4, rfl, rfl, s4 _ _ g3, h4, by rw [DpAll.length d13, DpAll.length d4]; show 25 ≤ sizeLine; decide, fun r4 n4 => ?_⟩⟩
    have d14 := DpAll.append (DpAll.same (Off.same s4) d13) d4
    have t4 := same_upd (o := .lst (v1 ++ v2 ++ v3 ++ v4)) n4
    have g4 : (upd H4 r4 (.lst (v1 ++ v2 ++ v3 ++ v4))) r4 = some (.lst (v1 ++ v2 ++ v3 ++ v4)) := upd_same
    have d14 := DpAll.same (Off.same t4) d14
    have z4 := z3.trans (s4.trans t4)
    generalize upd H4 r4 (.lst (v1 ++ v2 ++ v3 ++ v4)) = G4 at d14 t4 g4 z4 ⊢
    walk_at "nx"
    refine ⟨_, rfl, there z4 hD, fun p5 v5 H5 s5 _ h5 d5 => ⟨r4, p5, v1 ++ v2 ++ v3 ++ v4, v5, rfl, rfl, s5 _ _ g4, h5, by rw [DpAll.length d14, DpAll.length d5]; show 29 ≤ sizeLine; decide, fun r5 n5 => ?_⟩⟩
    have d15 := DpAll.append (DpAll.same (Off.same s5) d14) d5
    have t5 := same_upd (o := .lst (v1 ++ v2 ++ v3 ++ v4 ++ v5)) n5
    have g5 : (upd H5 r5 (.lst (v1 ++ v2 ++ v3 ++ v4 ++ v5))) r5 = some (.lst (v1 ++ v2 ++ v3 ++ v4 ++ v5)) := upd_same
    have d15 := DpAll.same (Off.same t5) d15
    have z5 := z4.trans (s5.trans t5)
    generalize upd H5 r5 (.lst (v1 ++ v2 ++ v3 ++ v4 ++ v5)) = G5 at d15 t5 g5 z5 ⊢
    refine ⟨_, rfl, p, 29, rfl, hp.same z5, by decide, by decide, fun r H6 l6 u6 a6 hp6 => ?_⟩
    have hlen := DpAll.length d15
    obtain ⟨v, hv⟩ : ∃ v, (v1 ++ v2 ++ v3 ++ v4 ++ v5)[r.toNat]? = some v := ⟨_, List.getElem?_eq_getElem (by rw [hlen]; show r.toNat < 29; omega)⟩
    obtain ⟨d, hd, hDv⟩ := DpAll.at d15 hv
    have hmem : d ∈ oddL := List.mem_of_getElem? hd
    have ne5 : r5 ≠ p := fun z => by
      obtain ⟨c, s', e, _⟩ := hp.same z5
      rw [z, e] at g5
      have z2 := Option.some.inj g5
      have z3 : [V.int c, V.int s'] = v1 ++ v2 ++ v3 ++ v4 ++ v5 := by injection z2
      have z4 := congrArg List.length z3
      rw [hlen] at z4
      exact absurd z4 (by show ¬ 2 = 29; decide)
    refine ⟨r5, _, r, v, rfl, rfl, SqL.of (a6 _ _ g5 ne5), ?_, q v d H6 (Same.adv z5 a6) hp6 hmem (Dp.adv (PoolAt.off (hp.same z5) nD) (Off.adv a6) hDv ?_)⟩
    · rw [show r = ((r.toNat : Nat) : Int) by omega]
      exact atI_nat hv
    · have np : (oddL.all npD) = true := by decide +kernel
      exact List.all_eq_true.mp np d hmem
end
end L2.L02

set_option maxHeartbeats 1000000
namespace L2.L02
open PySem PySem.Spec PyProof.Rows LR L2.Lr
local macro_rules | `(tactic| walk_at "nx") => `(tactic| dsimp only [gName, tNext, tSeq, tAsg, List.set_cons_zero, List.set_cons_succ])
theorem off_kt {D : Addr} {H : Hp} {xs : List V} (h : H D = some (.lst xs)) : Kt H (Off D H) := fun b o e n => off_at (fun z => by rw [z, h] at e; exact n _ (Option.some.inj e).symm) e
/-- a row's parts as the law draws them -/
structure Parts (ds : List PyData) : Prop where
  ok : partsF (partL 4) true (.tuple ds) = true
  nice : NiceAll 140000 10 ds
  nol : noLAll ds = true
  len : ds.length ≤ 5
theorem Parts.many {ds : List PyData} (h : Parts ds) : ∀ e ∈ ds, okM 4 e := fun e he => by
  obtain ⟨j, hj⟩ := List.mem_iff_getElem?.mp he
  exact ⟨_, allAt_iff.mp h.ok j e hj⟩
theorem parts_plain {ds : List PyData} (h : Some 4 4 ds) : Parts ds := ⟨h.parts true, h.nice.mono (by decide) (by decide), h.nol, by have := h.len; omega⟩
def everD (es : List PyData) : PyData := .tuple [.str "forever", .tuple es]
theorem parts_ever {ds es : List PyData} (h : Some 4 4 ds) (g : Some 3 2 es) : Parts (ds ++ [everD es]) := by
  have hn : Nice 20000 10 (everD es) := ((NiceAll.cons (D := 9) ((nice_w (w := "forever") (by decide +kernel)).mono (Nat.le_refl _) (by decide)) (NiceAll.cons (g.nice.tup.mono (Nat.le_refl _) (by decide)) (NiceAll.nil 0 _))).tup).mono (by decide) (by decide)
  have hnl : noL (everD es) = true := by
    have := g.nol
    simp only [everD, noL, noLAll, this, Bool.and_true]
  refine ⟨allAt_iff.mpr fun j d e => ?_, (NiceAll.append (h.nice.mono (Nat.le_refl _) (by decide)) (NiceAll.cons hn (NiceAll.nil 0 10))).mono (by decide) (Nat.le_refl _), ?_, ?_⟩
  · by_cases hj : j < ds.length
    · rw [List.getElem?_append_left hj] at e
      exact (h.all d (List.mem_of_getElem? e)).ok _
    · rw [List.getElem?_append_right (by omega)] at e
      have hj0 : j - ds.length = 0 := by
        by_cases z : j - ds.length = 0
        · exact z
        · rw [List.getElem?_eq_none (by simp; omega)] at e; cases e
      rw [hj0] at e
      simp at e
      subst e
      have e1 : (true && decide (j + 1 = (ds ++ [everD es]).length)) = true := by
        rw [decide_eq_true (by simp; omega)]
        rfl
      rw [e1]
      show (if isW (.str "forever") "send" || isW (.str "forever") "take" then sendL [.tuple es] else if isW (.str "forever") "work" then workL [.tuple es] else if isW (.str "forever") "forever" then (true && partsF (partL 3) false (.tuple es)) else if isW (.str "forever") "loop" then loopL (some (partsF (partL 3) false)) [.tuple es] else false) = true
      rw [isW_eq, isW_eq, isW_eq, isW_eq, isW_eq, g.parts]
      rw [decide_eq_false (p := ("forever" : Str) = "send") (by decide +kernel), decide_eq_false (p := ("forever" : Str) = "take") (by decide +kernel), decide_eq_false (p := ("forever" : Str) = "work") (by decide +kernel), decide_eq_true (p := ("forever" : Str) = "forever") rfl]
      rfl
  · rw [noLAll_append, h.nol]
    simp only [noLAll, hnl, Bool.and_true]
  · have := h.len
    simp
    omega
def spParts (K : PySem.W.Frag) : Sp := fun vs H Q _ => ∃ (p : Addr) (m : Int), vs = [.ref p, .int m] ∧ PoolAt H p ∧ 1 ≤ m ∧ m ≤ 5 ∧ ∀ (v : V) (ds : List PyData) (H' : Hp), Adv p H H' → PoolAt H' p → Dp K H' v (.tuple ds) → Parts ds → Q v H'
section
variable {P : Program} {w : World} {K : PySem.W.Frag} {mg : Str → Option Value} {base : Heap}
theorem ol_parts0 {f fT fG fG' : Addr} {fd dT dG dG' : FuncData} (F : FnP K "_law_parts" sParts f fd) (T : Prg mg) (hrange : mg "range" = none) {k : Nat} (h1 : 1 ≤ k) (N : Def P w K mg base CX0 1 "_law_take" fT dT ["_law_pool_here", "_law_many_here"] spTake)
    (G : Def P w K mg base CX0 k "_law_part" fG dG ["_law_pool_here", "_law_deep_here"] (spPart K 4)) (G' : Def P w K mg base CX0 k "_law_part" fG' dG' ["_law_pool_here", "_law_deep_here"] (spPart K 3)) : FnOk P w K mg base CX0 (k + 1) f fd ["_law_pool_here", "_law_many_here"] (spParts K) := by
  refine F.ok scps (fun vs H Q E h => ?_) (fun cdv A outer s H vs Q E hr h => ?_)
  · obtain ⟨p, m, rfl, _⟩ := h
    rfl
  · obtain ⟨p, m, rfl, hp, m1, m5, q⟩ := h
    have hr1 : Room 1 _ := hr.mono h1
    refine ⟨_, PSs.nox (C8.pss_cut (ps_set (i := 2) scps.nd rfl (Or.inl rfl) (pe_callTy call_tuple_of (by rfl) T.tuple bbT (pa_cons (pe_lc (own := [("_law_turn", 4)]) (g := gName 4) (tt := tYes) rfl scps.nd (pi_range1 (by rfl) hrange (pa_cons (pe_call N.ok hr1 (by rfl) N.g N.k N.b .nil pass0 (pa_cons (pv 0) (pa_cons (pv 1) pa_nil))) pa_nil)) (blkOk_by (N := NPs) (sc := defScope sParts) (by decide +kernel)) (fun _ _ _ _ _ => pg_name (i := 4) scps.nd rfl (Or.inl rfl)) (fun _ _ _ _ _ => pts_nil) (fun _ _ _ _ _ => pe_call G.ok hr (by rfl) G.g G.k G.b .nil pass0 (pa_cons (pv 0) (pa_cons pe_int pa_nil)))) pa_nil)))
      (pss_cons (ps_if (pt_cmpR op_eq (pe_call N.ok hr1 (by rfl) N.g N.k N.b .nil pass0 (pa_cons (pv 0) (pa_cons pe_int pa_nil))) pe_int (nomark _))
        (C8.pss_cut (ps_set (i := 3) scps.nd rfl (Or.inl rfl) (pe_callTy call_tuple_of (by rfl) T.tuple bbT (pa_cons (pe_lc (own := [("_law_turn", 4)]) (g := gName 4) (tt := tYes) rfl scps.nd (pi_range1 (by rfl) hrange (pa_cons (pe_call N.ok hr1 (by rfl) N.g N.k N.b .nil pass0 (pa_cons (pv 0) (pa_cons pe_int pa_nil))) pa_nil)) (blkOk_by (N := NPs) (sc := defScope sParts) (by decide +kernel)) (fun _ _ _ _ _ => pg_name (i := 4) scps.nd rfl (Or.inl rfl)) (fun _ _ _ _ _ => pts_nil) (fun _ _ _ _ _ => pe_call G'.ok hr (by rfl) G'.g G'.k G'.b .nil pass0 (pa_cons (pv 0) (pa_cons pe_int pa_nil)))) pa_nil)))
        (pss_one (ps_set (i := 2) scps.nd rfl (Or.inl rfl) (pe_op op_catA (pv 2) (pe_tup (pa_cons (pe_tup (pa_cons pe_str (pa_cons (pv 3) pa_nil))) pa_nil)))))) pss_nil)
      (pss_one (ps_ret (pv 2))))), ?_⟩
    have e0 : start NPs [V.ref p, .int m] = [some (.ref p), some (.int m), none, none, none] := rfl
    rw [e0]
    refine ⟨fun σ' H' => ∃ v ds, σ' = [some (.ref p), some (.int m), some v, none, none] ∧ Adv p H H' ∧ PoolAt H' p ∧ Dp K H' v (.tuple ds) ∧ Some 4 4 ds, ?_, ?_⟩
    · refine ⟨_, rfl, _, rfl, p, m, rfl, hp, by omega, by omega, fun r H4 r0 r1 a4 hp4 => ⟨r, rfl, by omega, by omega, fun D hD => ?_⟩⟩
      have dne : D ≠ p := fun x => by
        obtain ⟨c, s', e', _⟩ := hp4
        rw [x, e'] at hD; cases hD
      have sD := same_upd (o := .lst []) hD
      refine lc_range (n := r.toNat) (lo := 0) (fun i H' => Adv p H4 H' ∧ SoFar K H' p D 4 i) ⟨Same.adv sD Adv.refl, hp4.same sD, [], [], upd_same, .nil, rfl, fun d z => nomatch z⟩ ?_ ?_
      · rintro i H5 hi ⟨a5, sf⟩
        refine ⟨rfl, _, rfl, p, rfl, sf.po, fun v d H6 a6 hp6 hv hd => ?_⟩
        obtain ⟨acc, h1, h2, h3⟩ := sf.more dne a6 hp6 hv hd
        refine ⟨acc, h1, by rw [h2, sizeLine_eq]; omega, fun b o e ne => ?_, h3⟩
        by_cases hb : b = D
        · rw [hb, hD] at e; cases e
        · exact (upd_ne hb).trans (a6 _ _ (a5 _ _ e ne) ne)
      · rintro H5 ⟨a5, sf⟩
        obtain ⟨vs, ds, h1, h2, h3, h4⟩ := sf.ls
        refine ⟨D, vs, rfl, .inl ⟨SqL.of h1, fun t nt => ?_⟩⟩
        have st := same_upd (o := .tup vs) nt
        exact ⟨_, ds, rfl, (a4.trans a5).same st, sf.po.same st, .tup (SqT.of upd_same) (DpAll.same st h2), by omega, h4⟩
    rintro σ1 H1 ⟨v, ds, rfl, a1, hp1, hv, hds⟩
    have hv1 : ∀ {H'}, Adv p H1 H' → Dp K H' v (.tuple ds) := fun a => Dp.kt (Adv.kt hp1 a) hv (by simp only [noL]; exact hds.nol)
    refine ⟨_, rfl, p, 3, rfl, hp1, by decide, by decide, fun r H2 r0 r1 a2 hp2 => ⟨rfl, _, rfl, ?_⟩⟩
    generalize decide (V.int r = V.int 0) = b0
    cases b0 with
    | false => exact ⟨_, rfl, q _ ds H2 (a1.trans a2) hp2 (hv1 a2) (parts_plain hds)⟩
    | true =>
      refine ⟨fun σ' H' => ∃ u es, σ' = [some (.ref p), some (.int m), some v, some u, none] ∧ Adv p H2 H' ∧ PoolAt H' p ∧ Dp K H' u (.tuple es) ∧ Some 3 2 es, ?_, ?_⟩
      · refine ⟨_, rfl, p, 3, rfl, hp2, by decide, by decide, fun r H4 r0 r1 a4 hp4 => ⟨r, rfl, by omega, by omega, fun D hD => ?_⟩⟩
        have dne : D ≠ p := fun x => by
          obtain ⟨c, s', e', _⟩ := hp4
          rw [x, e'] at hD; cases hD
        have sD := same_upd (o := .lst []) hD
        refine lc_range (n := r.toNat) (lo := 0) (fun i H' => Adv p H4 H' ∧ SoFar K H' p D 3 i) ⟨Same.adv sD Adv.refl, hp4.same sD, [], [], upd_same, .nil, rfl, fun d z => nomatch z⟩ ?_ ?_
        · rintro i H5 hi ⟨a5, sf⟩
          refine ⟨rfl, _, rfl, p, rfl, sf.po, fun v d H6 a6 hp6 hv hd => ?_⟩
          obtain ⟨acc, h1, h2, h3⟩ := sf.more dne a6 hp6 hv hd
          refine ⟨acc, h1, by rw [h2, sizeLine_eq]; omega, fun b o e ne => ?_, h3⟩
          by_cases hb : b = D
          · rw [hb, hD] at e; cases e
          · exact (upd_ne hb).trans (a6 _ _ (a5 _ _ e ne) ne)
        · rintro H5 ⟨a5, sf⟩
          obtain ⟨vs, ds, h1, h2, h3, h4⟩ := sf.ls
          refine ⟨D, vs, rfl, .inl ⟨SqL.of h1, fun t nt => ?_⟩⟩
          have st := same_upd (o := .tup vs) nt
          exact ⟨_, ds, rfl, (a4.trans a5).same st, sf.po.same st, .tup (SqT.of upd_same) (DpAll.same st h2), by omega, h4⟩
      rintro σ3 H3 ⟨u, es, rfl, a3, hp3, hu, hes⟩
      have hv3 := hv1 (a2.trans a3)
      refine ⟨_, rfl, _, rfl, by show 2 ≤ sizeLine; decide, fun t1 n1 => ⟨by show 1 ≤ sizeLine; decide, fun t2 n2 => ?_⟩⟩
      have g1 := same_upd (o := .tup [.str "forever", u]) n1
      have g2 := same_upd (o := .tup [.ref t1]) n2
      have hx : Dp K (upd (upd H3 t1 (.tup [.str "forever", u])) t2 (.tup [.ref t1])) (.ref t2) (.tuple [everD es]) := .tup (SqT.of upd_same) (.cons (.tup (SqT.of (g2 _ _ upd_same)) (.cons (.str _) (.cons (Dp.same (g1.trans g2) hu) .nil))) .nil)
      have hv4 := Dp.same (g1.trans g2) hv3
      have hp4 := hp3.same (g1.trans g2)
      have a4 := ((a1.trans a2).trans a3).same (g1.trans g2)
      generalize upd (upd H3 t1 (.tup [.str "forever", u])) t2 (.tup [.ref t1]) = H4 at hx hv4 hp4 a4 ⊢
      obtain ⟨c, s', hpl, _⟩ := id hp4
      have P2 := parts_ever hds hes
      have nx : noL (.tuple [everD es]) = true := by
        have := hes.nol
        simp only [everD, noL, noLAll, this, Bool.and_true]
      refine catE (D := p) (by rw [hpl]; exact fun z => nomatch z) (Dp.kt (off_kt hpl) hv4 (by simp only [noL]; exact hds.nol)) (Dp.kt (off_kt hpl) hx nx) ?_ fun y H5 s5 hy => ?_
      · have := hds.len
        rw [sizeLine_eq]
        simp
        omega
      · exact ⟨_, rfl, q _ _ H5 (a4.same s5) (hp4.same s5) (Dp.same off_le hy) P2⟩
end
end L2.L02

set_option maxHeartbeats 1000000
namespace L2.L02
open PySem PySem.Spec PyProof.Rows LR L2.Lr
local macro_rules | `(tactic| walk_at "nx") => `(tactic| dsimp only [gName, tNext, tSeq, tAsg, List.set_cons_zero, List.set_cons_succ])
theorem npAll_append : ∀ (a b : List PyData), npAll (a ++ b) = (npAll a && npAll b)
  | [], b => by simp [npAll]
  | d :: a, b => by simp only [List.cons_append, npAll, npAll_append a b, Bool.and_assoc]
mutual
theorem np_of_noL : ∀ {d : PyData}, noL d = true → npD d = true
  | .tuple ds, h => by
    simp only [noL] at h
    simp only [npD]
    exact npAll_of_noL h
  | .list _, h => by simp [noL] at h
  | .none, _ => by simp [npD]
  | .bool _, _ => by simp [npD]
  | .int _, _ => by simp [npD]
  | .str _, _ => by simp [npD]
  | .dict _, _ => by simp [npD]
theorem npAll_of_noL : ∀ {ds : List PyData}, noLAll ds = true → npAll ds = true
  | [], _ => by simp [npAll]
  | d :: ds, h => by
    simp only [noLAll] at h
    obtain ⟨h1, h2⟩ := Bool.and_eq_true_iff.mp h
    simp only [npAll, np_of_noL h1, npAll_of_noL h2, Bool.and_self]
end
/-- ds, and es that is bent from it -/
structure Bent (ds es : List PyData) : Prop where
  f : fineAll es = true
  w : PyData.weightAll es ≤ PyData.weightAll ds + 100
  dp : PyData.depthAll es ≤ PyData.depthAll ds + 4
  np : npAll es = true
structure Plain (ds : List PyData) : Prop where
  f : fineAll ds = true
  nol : noLAll ds = true
theorem Plain.split {a b : List PyData} (h : Plain (a ++ b)) : Plain a ∧ Plain b := by
  obtain ⟨f, n⟩ := h
  rw [fineAll_append] at f
  rw [noLAll_append] at n
  obtain ⟨f1, f2⟩ := Bool.and_eq_true_iff.mp f
  obtain ⟨n1, n2⟩ := Bool.and_eq_true_iff.mp n
  exact ⟨⟨f1, n1⟩, ⟨f2, n2⟩⟩
theorem Plain.take {ds : List PyData} (k : Nat) (h : Plain ds) : Plain (ds.take k) := by
  rw [← List.take_append_drop k ds] at h
  exact h.split.1
theorem Plain.drop {ds : List PyData} (k : Nat) (h : Plain ds) : Plain (ds.drop k) := by
  rw [← List.take_append_drop k ds] at h
  exact h.split.2
theorem drop_at {ds : List PyData} {k : Nat} {d : PyData} (h : ds[k]? = some d) : ds.drop k = d :: ds.drop (k + 1) := by
  obtain ⟨hlt, e⟩ := List.getElem?_eq_some_iff.mp h
  rw [← e]
  exact List.drop_eq_getElem_cons hlt
theorem weight_at (ds : List PyData) (k : Nat) : PyData.weightAll ds = PyData.weightAll (ds.take k) + PyData.weightAll (ds.drop k) := by
  rw [← weightAll_append, List.take_append_drop]
theorem depth_at (ds : List PyData) (k : Nat) : PyData.depthAll ds = max (PyData.depthAll (ds.take k)) (PyData.depthAll (ds.drop k)) := by
  rw [← depthAll_append, List.take_append_drop]
def oddOk (d : PyData) : Bool := fine d && (decide (d.weight ≤ 60) && (decide (d.depth ≤ 3) && npD d))
theorem odds_ok : (oddL.all oddOk) = true := by decide +kernel
theorem bent_put {ds : List PyData} {d : PyData} {k j : Nat} (h : Plain ds) (hf : fine d = true) (hn : npD d = true) (hw : PyData.weightAll (ds.take k) + d.weight + 1 + PyData.weightAll (ds.drop j) ≤ PyData.weightAll ds + 100) (hd : d.depth ≤ PyData.depthAll ds + 4) (hj : k ≤ j) :
    Bent ds (ds.take k ++ [d] ++ ds.drop j) := by
  have p1 := h.take k
  have p2 := h.drop j
  refine ⟨?_, ?_, ?_, ?_⟩
  · rw [fineAll_append, fineAll_append, fineAll_cons, p1.f, p2.f, hf]; rfl
  · rw [weightAll_append, weightAll_append]
    simp only [PyData.weightAll]
    omega
  · rw [depthAll_append, depthAll_append]
    have := depth_at ds k
    have := depth_at ds j
    simp only [PyData.depthAll]
    omega
  · rw [npAll_append, npAll_append, npAll_of_noL p1.nol, npAll_of_noL p2.nol]
    simp only [npAll, hn, Bool.and_self]
theorem bent_odd {ds : List PyData} {d : PyData} {k j : Nat} (h : Plain ds) (ho : d ∈ oddL) (hj : j = k ∨ j = k + 1) : Bent ds (ds.take k ++ [d] ++ ds.drop j) := by
  have z := List.all_eq_true.mp odds_ok d ho
  obtain ⟨z1, z⟩ := Bool.and_eq_true_iff.mp z
  obtain ⟨z2, z⟩ := Bool.and_eq_true_iff.mp z
  obtain ⟨z3, z4⟩ := Bool.and_eq_true_iff.mp z
  have z2 := of_decide_eq_true z2
  have z3 := of_decide_eq_true z3
  refine bent_put h z1 z4 ?_ (by omega) (by omega)
  have e := weight_at ds k
  rcases hj with rfl | rfl
  · omega
  · have : PyData.weightAll (ds.drop (k + 1)) ≤ PyData.weightAll (ds.drop k) := by
      cases hk : ds[k]? with
      | none =>
        have := List.getElem?_eq_none_iff.mp hk
        rw [List.drop_eq_nil_of_le (by omega), List.drop_eq_nil_of_le (by omega)]
        exact Nat.le_refl _
      | some d =>
        rw [drop_at hk]
        simp only [PyData.weightAll]
        omega
    omega
theorem last_split {v : PyData} {rest : List PyData} (h : rest ≠ []) : v :: rest = (v :: rest).dropLast ++ [lastD rest] := by
  have e := List.dropLast_concat_getLast (l := v :: rest) (by simp)
  rw [List.getLast_cons h] at e
  unfold lastD
  rw [List.getLast?_eq_some_getLast h]
  exact e.symm
theorem bent_inner {ds es es' : List PyData} {w : Str} {rest : List PyData} {k : Nat} (h : Plain ds) (hk : ds[k]? = some (.tuple (.str w :: rest))) (hr : rest ≠ []) (hl : lastD rest = .tuple es) (b : Bent es es') :
    Bent ds (ds.take k ++ [.tuple ((PyData.str w :: rest).dropLast ++ [.tuple es'])] ++ ds.drop (k + 1)) := by
  have e := drop_at hk
  have pd := h.drop k
  rw [e] at pd
  obtain ⟨init, hi, hdl⟩ : ∃ init, PyData.str w :: rest = init ++ [.tuple es] ∧ (PyData.str w :: rest).dropLast = init := ⟨_, by rw [← hl]; exact last_split hr, rfl⟩
  rw [hdl]
  rw [hi] at e pd
  have f1 : fineAll init = true := by
    have := pd.f
    rw [fineAll_cons, fine_tup, fineAll_append] at this
    exact (Bool.and_eq_true_iff.mp (Bool.and_eq_true_iff.mp this).1).1
  have n1 : noLAll init = true := by
    have := pd.nol
    simp only [noLAll, noL, noLAll_append] at this
    exact (Bool.and_eq_true_iff.mp (Bool.and_eq_true_iff.mp this).1).1
  have ew := weight_at ds k
  have ed := depth_at ds k
  rw [e] at ew ed
  simp only [PyData.weightAll, PyData.weight, weightAll_append] at ew
  simp only [PyData.depthAll, PyData.depth, depthAll_append] at ed
  have bw := b.w
  have bd := b.dp
  refine bent_put h ?_ ?_ ?_ ?_ (by omega)
  · rw [fine_tup, fineAll_append, f1, fineAll_cons, fine_tup, b.f]
    rfl
  · simp only [npD, npAll_append, npAll_of_noL n1, npAll, b.np, Bool.and_self]
  · simp only [PyData.weightAll, PyData.weight, weightAll_append]
    omega
  · simp only [PyData.depthAll, PyData.depth, depthAll_append]
    omega
theorem plain_kid {ds es : List PyData} {w : Str} {rest : List PyData} {k : Nat} (h : Plain ds) (hk : ds[k]? = some (.tuple (.str w :: rest))) (hr : rest ≠ []) (hl : lastD rest = .tuple es) : Plain es ∧ Plain ((PyData.str w :: rest).dropLast) ∧ PyData.weightAll es ≤ PyData.weightAll ds := by
  have e := drop_at hk
  have pd := h.drop k
  rw [e] at pd
  obtain ⟨init, hi, hdl⟩ : ∃ init, PyData.str w :: rest = init ++ [.tuple es] ∧ (PyData.str w :: rest).dropLast = init := ⟨_, by rw [← hl]; exact last_split hr, rfl⟩
  rw [hdl]
  rw [hi] at e pd
  obtain ⟨f, n⟩ := pd
  rw [fineAll_cons, fine_tup, fineAll_append, fineAll_cons, fine_tup] at f
  simp only [noLAll, noL, noLAll_append] at n
  obtain ⟨f1, _⟩ := Bool.and_eq_true_iff.mp f
  obtain ⟨f1, f2⟩ := Bool.and_eq_true_iff.mp f1
  obtain ⟨f2, _⟩ := Bool.and_eq_true_iff.mp f2
  obtain ⟨n1, _⟩ := Bool.and_eq_true_iff.mp n
  obtain ⟨n1, n2⟩ := Bool.and_eq_true_iff.mp n1
  obtain ⟨n2, _⟩ := Bool.and_eq_true_iff.mp n2
  refine ⟨⟨f2, n2⟩, ⟨f1, n1⟩, ?_⟩
  have ew := weight_at ds k
  rw [e] at ew
  simp only [PyData.weightAll, PyData.weight, weightAll_append] at ew
  omega
theorem at_dp {K : PySem.W.Frag} {H : Hp} {xs : List V} {ds : List PyData} {k : Nat} {d : PyData} (ha : DpAll K H xs ds) (h : ds[k]? = some d) : ∃ v, xs[k]? = some v ∧ Dp K H v d := by
  have hl := DpAll.length ha
  obtain ⟨hlt, _⟩ := List.getElem?_eq_some_iff.mp h
  have hv := List.getElem?_eq_getElem (l := xs) (i := k) (by omega)
  obtain ⟨d', h1, h2⟩ := DpAll.at ha hv
  cases h.symm.trans h1
  exact ⟨_, hv, h2⟩
def spBent (K : PySem.W.Frag) (n : Nat) : Sp := fun vs H Q _ => ∃ (p D : Addr) (x : V) (ds : List PyData), vs = [.ref p, x] ∧ PoolAt H p ∧ H D ≠ none ∧ D ≠ p ∧ Dp K (Off D H) x (.tuple ds) ∧ Plain ds ∧ PyData.weightAll ds ≤ 300000 ∧ (∀ e ∈ ds, okM n e) ∧
  ∀ (v : V) (es : List PyData) (H' : Hp), Adv p H H' → PoolAt H' p → Dp K (Off D H') v (.tuple es) → Bent ds es → Q v H'
section
variable {P : Program} {w : World} {K : PySem.W.Frag} {mg : Str → Option Value} {base : Heap}
theorem ol_bent0 {f fT fO : Addr} {fd dT dO : FuncData} (F : FnP K "_law_bent" sBent f fd) (T : Prg mg) {k : Nat} (h2 : 2 ≤ k) (N : Def P w K mg base CX0 1 "_law_take" fT dT ["_law_pool_here", "_law_many_here"] spTake)
    (O : Def P w K mg base CX0 2 "_law_odd" fO dO ["_law_pool_here"] (spOddE K)) : FnOk P w K mg base CX0 (k + 1) f fd ["_law_pool_here", "_law_parts_here"] (spBent K 0) := by
  refine F.ok scbe (fun vs H Q E h => ?_) (fun cdv A outer s H vs Q E hr h => ?_)
  · obtain ⟨p, D, x, ds, rfl, _⟩ := h
    rfl
  · obtain ⟨p, D, x, ds, rfl, hp, hD, nD, hx, pl, hwt, hok, q⟩ := h
    have hlen : ds.length ≤ 300000 := Nat.le_trans (length_le_weight ds) hwt
    have hr1 : Room 1 _ := hr.mono (Nat.le_trans (by decide) h2)
    have hr2 : Room 2 _ := hr.mono h2
    refine ⟨_, PSs.nox (C8.pss_cut (ps_par (i := 2) (j := 3) (by rfl) scbe.nd rfl rfl (by decide) rfl rfl (pa_cons (pe_call N.ok hr1 (by rfl) N.g N.k N.b .nil pass0 (pa_cons (pv 0) (pa_cons (pe_op op_add (pe_callB call_len_seq (by rfl) T.len boot_len (pa_cons (pv 1) pa_nil)) pe_int) pa_nil))) (pa_cons (pe_call O.ok hr2 (by rfl) O.g O.k O.b .nil pass0 (pa_cons (pv 0) pa_nil)) pa_nil)) (by rfl))
      (pss_cons (ps_if (PW.pt (pw_and (pt_cmpR op_lt (pv 2) (pe_callB call_len_seq (by rfl) T.len boot_len (pa_cons (pv 1) pa_nil)) (nomark _)) (pw_and (pt_cmpR (r := rIn K false) (by exact op_in_seq) (pe_ix ix_tup (pe_ix ix_tup (pv 1) (pv 2) (fun _ _ => rfl)) pe_int (fun _ _ => rfl)) (pe_lst (pa_cons pe_str (pa_cons pe_str pa_nil))) (by rfl)) (pw_and1 (pt_cmpR op_gt (pe_call N.ok hr1 (by rfl) N.g N.k N.b .nil pass0 (pa_cons (pv 0) (pa_cons pe_int pa_nil))) pe_int (nomark _))))))
        (pss_cons (ps_set (i := 4) scbe.nd rfl (Or.inl rfl) pe_never) (pss_one (ps_ret pe_never))) pss_nil)
      (pss_one (ps_ret (pe_ix ix_list (pe_lst (pa_cons (pe_op op_catA (pe_op op_catA (pe_slice sl_tupA (pv 1) po_none (po_some (pv 2))) (pe_tup (pa_cons (pv 3) pa_nil))) (pe_slice sl_tupA (pv 1) (po_some (pv 2)) po_none))
          (pa_cons (pe_op op_catA (pe_op op_catA (pe_slice sl_tupA (pv 1) po_none (po_some (pv 2))) (pe_tup (pa_cons (pv 3) pa_nil))) (pe_slice sl_tupA (pv 1) (po_some (pe_op op_add (pv 2) pe_int)) po_none)) pa_nil))) (pe_call N.ok hr1 (by rfl) N.g N.k N.b .nil pass0 (pa_cons (pv 0) (pa_cons pe_int pa_nil))) (fun _ _ => rfl)))))), ?_⟩
    have e0 : start NB [V.ref p, x] = [some (.ref p), some x, none, none, none] := rfl
    rw [e0]
    refine ⟨fun σ' H' => ∃ (k : Nat) (u : V) (d : PyData), σ' = [some (.ref p), some x, some (.int k), some u, none] ∧ k ≤ ds.length ∧ Adv p H H' ∧ PoolAt H' p ∧ d ∈ oddL ∧ Dp K (Off D H') u d, ?_, ?_⟩
    · cases hx with
      | @tup t xs _ hS ha =>
        have hl := DpAll.length ha
        refine ⟨_, rfl, _, rfl, t, xs, rfl, .inr (seqT off_le hS), _, _, rfl, rfl, p, _, rfl, hp, by omega, by omega, fun r H1 r0 r1 a1 hp1 => ?_⟩
        refine ⟨_, rfl, p, D, rfl, hp1, thereA a1 nD hD, nD, fun u d H2 a2 hp2 hm hd => ?_⟩
        exact ⟨_, _, rfl, r.toNat, u, d, by rw [show r = ((r.toNat : Nat) : Int) by omega]; rfl, by omega, a1.trans a2, hp2, hm, hd⟩
    rintro σ1 H1 ⟨k, u, d, rfl, hk, a1, hp1, hm, hu⟩
    have hx1 : Dp K (Off D H1) x (.tuple ds) := Dp.kt (Off.kt hp nD a1) hx (by simp only [noL]; exact pl.nol)
    have hD1 := thereA a1 nD hD
    have fin : ∀ (D0 : Ends), D0.rt = Q → ∀ H2, Adv p H1 H2 → PoolAt H2 p → tRet (tOp (rIxL K) (tLst (tCons (tOp (rCatA K) (tOp (rCatA K) (tSl (rSlA K) (tVar 1) tNoPart (tPart (tVar 2))) (tTup (tCons (tVar 3) tNil))) (tSl (rSlA K) (tVar 1) (tPart (tVar 2)) tNoPart)) (tCons (tOp (rCatA K) (tOp (rCatA K) (tSl (rSlA K) (tVar 1) tNoPart (tPart (tVar 2))) (tTup (tCons (tVar 3) tNil))) (tSl (rSlA K) (tVar 1) (tPart (tOp (rI0 fun i j => .int (i + j)) (tVar 2) (tC (.int 1)))) tNoPart)) tNil))) (tCall spTake [] E0 (tCons (tVar 0) (tCons (tC (.int 2)) tNil)))) D0 [some (.ref p), some x, some (.int k), some u, none] H2 := fun D0 hD0 H2 a2 hp2 => by
      have hx2 : Dp K (Off D H2) x (.tuple ds) := Dp.kt (Off.kt hp1 nD a2) hx1 (by simp only [noL]; exact pl.nol)
      have hn : npD d = true := by
        have np : (oddL.all npD) = true := by decide +kernel
        exact List.all_eq_true.mp np d hm
      have hu2 : Dp K (Off D H2) u d := Dp.adv (PoolAt.off hp1 nD) (Off.adv a2) hu hn
      have hD2 := thereA a2 nD hD1
      have sz : sizeLine = 16777216 := sizeLine_eq
      refine ⟨_, rfl, _, rfl, _, rfl, slE hD2 hx2 fun v1 H3 s3 h3 => ?_⟩
      rw [cut_to hk] at h3
      refine ⟨_, rfl, by show 1 ≤ sizeLine; decide, fun t1 n1 => ?_⟩
      have g1 := same_upd (o := .tup [u]) n1
      refine catE (there (s3.trans g1) hD2) (Dp.same (Off.same g1) h3) (.tup (SqT.of (off_at (fresh_ne (there s3 hD2) n1) upd_same)) (.cons (Dp.same (Off.same (s3.trans g1)) hu2) .nil)) (by rw [List.length_take]; simp; omega) fun v4 H4 s4 h4 => ?_
      have z4 := s3.trans (g1.trans s4)
      refine ⟨_, rfl, _, rfl, _, rfl, ?_⟩
      dsimp only [tNoPart]
      refine slE (there z4 hD2) (Dp.same (Off.same z4) hx2) fun v5 H5 s5 h5 => ?_
      rw [cut_from] at h5
      refine catE (there (z4.trans s5) hD2) (Dp.same (Off.same s5) h4) h5 (by rw [List.length_append, List.length_take, List.length_drop]; simp; omega) fun vA H6 s6 hA => ?_
      have z6 := z4.trans (s5.trans s6)
      clear h3 h4 h5 s3 s4 s5 s6 z4 g1 n1
      refine ⟨_, rfl, _, rfl, _, rfl, slE (there z6 hD2) (Dp.same (Off.same z6) hx2) fun v1 H7 s7 h7 => ?_⟩
      rw [cut_to hk] at h7
      refine ⟨_, rfl, by show 1 ≤ sizeLine; decide, fun t1 n1 => ?_⟩
      have g1 := same_upd (o := .tup [u]) n1
      have z8 := z6.trans (s7.trans g1)
      refine catE (there z8 hD2) (Dp.same (Off.same g1) h7) (.tup (SqT.of (off_at (fresh_ne (there (z6.trans s7) hD2) n1) upd_same)) (.cons (Dp.same (Off.same z8) hu2) .nil)) (by rw [List.length_take]; simp; omega) fun v4 H9 s9 h9 => ?_
      have z9 := z8.trans s9
      refine ⟨_, rfl, _, rfl, _, _, rfl, rfl, _, rfl, ?_⟩
      have ek : ((k : Int) + 1) = ((k + 1 : Nat) : Int) := by omega
      rw [ek]
      dsimp only [tNoPart]
      refine slE (there z9 hD2) (Dp.same (Off.same z9) hx2) fun v5 H10 s10 h10 => ?_
      rw [cut_from] at h10
      refine catE (there (z9.trans s10) hD2) (Dp.same (Off.same s10) h9) h10 (by rw [List.length_append, List.length_take, List.length_drop]; simp; omega) fun vB H11 s11 hB => ⟨by show 2 ≤ sizeLine; decide, fun L nL => ?_⟩
      have zL := same_upd (o := .lst [vA, vB]) nL
      have z11 := z9.trans (s10.trans s11)
      have hA' := Dp.same (Off.same (s7.trans (g1.trans (s9.trans (s10.trans (s11.trans zL)))))) hA
      have hB' := Dp.same (Off.same zL) hB
      have hL := upd_same (H := H11) (a := L) (o := .lst [vA, vB])
      have z12 := z11.trans zL
      generalize upd H11 L (.lst [vA, vB]) = G at hA' hB' hL z12 ⊢
      have bA : Bent ds _ := bent_odd (j := k) pl hm (.inl rfl)
      have bB : Bent ds _ := bent_odd (k := k) (j := k + 1) pl hm (.inr rfl)
      have lne : L ≠ p := fun z => by
        obtain ⟨c, s', e', _⟩ := hp2.same z12
        rw [z, e'] at hL
        injection hL with hL
        injection hL with hL
        cases hL
        cases hA'
      refine ⟨_, rfl, p, 2, rfl, hp2.same z12, by decide, by decide, fun r H12 r0 r1 a12 hp12 => ?_⟩
      obtain ⟨v, es, hv, hes, hb⟩ : ∃ v es, atI [vA, vB] r = some v ∧ Dp K (Off D G) v (.tuple es) ∧ Bent ds es := by
        have h2 : r = 0 ∨ r = 1 := by omega
        rcases h2 with rfl | rfl
        · exact ⟨_, _, rfl, hA', bA⟩
        · exact ⟨_, _, rfl, hB', bB⟩
      refine ⟨L, _, r, v, rfl, rfl, SqL.of (a12 _ _ hL lne), hv, ?_⟩
      rw [hD0]
      refine q v es H12 (a1.trans (a2.trans (Same.adv z12 a12))) hp12 (Dp.adv (PoolAt.off (hp2.same z12) nD) (Off.adv a12) hes ?_) hb
      simp only [npD]
      exact hb.np
    have tn : noL (.tuple ds) = true := by simp only [noL]; exact pl.nol
    obtain ⟨t, xs, rfl, hS, ha⟩ : ∃ t xs, x = .ref t ∧ SqT K (Off D H1) t xs ∧ DpAll K (Off D H1) xs ds := by
      cases hx1 with
      | tup hS ha => exact ⟨_, _, rfl, hS, ha⟩
    have hl := DpAll.length ha
    refine ⟨_, rfl, _, rfl, t, xs, rfl, .inr (seqT off_le hS), _, _, rfl, rfl, _, rfl, ite_dec (fun hlt => ?_) fun _ => fin _ rfl H1 Adv.refl hp1⟩
    obtain ⟨d0, hd0⟩ : ∃ d0, ds[k]? = some d0 := ⟨_, List.getElem?_eq_getElem (by omega)⟩
    obtain ⟨w0, rest, rfl, hround⟩ := okM_zero (hok d0 (List.mem_of_getElem? hd0))
    obtain ⟨v0, hv0, hv0d⟩ := at_dp ha hd0
    obtain ⟨t0, vs0, rfl, hS0, ha0⟩ : ∃ t0 vs0, v0 = .ref t0 ∧ SqT K (Off D H1) t0 (.str w0 :: vs0) ∧ DpAll K (Off D H1) vs0 rest := by
      cases hv0d with
      | tup hS0 ha0 =>
        cases ha0 with
        | cons h0 ha0 =>
          cases h0
          exact ⟨_, _, rfl, hS0, ha0⟩
    refine ⟨_, rfl, _, rfl, t, xs, (k : Int), _, rfl, rfl, seqT off_le hS, atI_nat hv0, t0, _, 0, .str w0, rfl, rfl, seqT off_le hS0, at0, by show 2 ≤ sizeLine; decide, fun l nl => ⟨l, _, rfl, .inl (SqL.of upd_same), rfl, rfl, _, rfl, ?_⟩⟩
    have sl := same_upd (o := .lst [.str "loop", .str "forever"]) nl
    have hin : (if false = true then !inV (V.str w0) [V.str "loop", V.str "forever"] else inV (V.str w0) [V.str "loop", V.str "forever"]) = roundW w0 := inV_round
    rw [hin]
    rw [hround]
    exact iteF (fin _ rfl _ (Same.adv sl Adv.refl) (hp1.same sl))
theorem ol_bentS {m : Nat} {f fT fO fB : Addr} {fd dT dO dB : FuncData} (F : FnP K "_law_bent" sBent f fd) (T : Prg mg) {k : Nat} (h2 : 2 ≤ k) (N : Def P w K mg base CX0 1 "_law_take" fT dT ["_law_pool_here", "_law_many_here"] spTake)
    (O : Def P w K mg base CX0 2 "_law_odd" fO dO ["_law_pool_here"] (spOddE K)) (B : Def P w K mg base CX0 k "_law_bent" fB dB ["_law_pool_here", "_law_parts_here"] (spBent K m)) : FnOk P w K mg base CX0 (k + 1) f fd ["_law_pool_here", "_law_parts_here"] (spBent K (m + 1)) := by
  refine F.ok scbe (fun vs H Q E h => ?_) (fun cdv A outer s H vs Q E hr h => ?_)
  · obtain ⟨p, D, x, ds, rfl, _⟩ := h
    rfl
  · obtain ⟨p, D, x, ds, rfl, hp, hD, nD, hx, pl, hwt, hok, q⟩ := h
    have hlen : ds.length ≤ 300000 := Nat.le_trans (length_le_weight ds) hwt
    have hr1 : Room 1 _ := hr.mono (Nat.le_trans (by decide) h2)
    have hr2 : Room 2 _ := hr.mono h2
    refine ⟨_, PSs.nox (C8.pss_cut (ps_par (i := 2) (j := 3) (by rfl) scbe.nd rfl rfl (by decide) rfl rfl (pa_cons (pe_call N.ok hr1 (by rfl) N.g N.k N.b .nil pass0 (pa_cons (pv 0) (pa_cons (pe_op op_add (pe_callB call_len_seq (by rfl) T.len boot_len (pa_cons (pv 1) pa_nil)) pe_int) pa_nil))) (pa_cons (pe_call O.ok hr2 (by rfl) O.g O.k O.b .nil pass0 (pa_cons (pv 0) pa_nil)) pa_nil)) (by rfl))
      (pss_cons (ps_if (PW.pt (pw_and (pt_cmpR op_lt (pv 2) (pe_callB call_len_seq (by rfl) T.len boot_len (pa_cons (pv 1) pa_nil)) (nomark _)) (pw_and (pt_cmpR (r := rIn K false) (by exact op_in_seq) (pe_ix ix_tup (pe_ix ix_tup (pv 1) (pv 2) (fun _ _ => rfl)) pe_int (fun _ _ => rfl)) (pe_lst (pa_cons pe_str (pa_cons pe_str pa_nil))) (by rfl)) (pw_and1 (pt_cmpR op_gt (pe_call N.ok hr1 (by rfl) N.g N.k N.b .nil pass0 (pa_cons (pv 0) (pa_cons pe_int pa_nil))) pe_int (nomark _))))))
        (pss_cons (ps_set (i := 4) scbe.nd rfl (Or.inl rfl) (pe_op op_catA (pe_slice sl_tupA (pe_ix ix_tup (pv 1) (pv 2) (fun _ _ => rfl)) po_none (po_some (pe_un un_neg pe_int))) (pe_tup (pa_cons (pe_call B.ok hr (by rfl) B.g B.k B.b .nil pass0 (pa_cons (pv 0) (pa_cons (pe_ix ix_tup (pe_ix ix_tup (pv 1) (pv 2) (fun _ _ => rfl)) (pe_un un_neg pe_int) (fun _ _ => rfl)) pa_nil))) pa_nil))))
          (pss_one (ps_ret (pe_op op_catA (pe_op op_catA (pe_slice sl_tupA (pv 1) po_none (po_some (pv 2))) (pe_tup (pa_cons (pv 4) pa_nil))) (pe_slice sl_tupA (pv 1) (po_some (pe_op op_add (pv 2) pe_int)) po_none))))) pss_nil)
      (pss_one (ps_ret (pe_ix ix_list (pe_lst (pa_cons (pe_op op_catA (pe_op op_catA (pe_slice sl_tupA (pv 1) po_none (po_some (pv 2))) (pe_tup (pa_cons (pv 3) pa_nil))) (pe_slice sl_tupA (pv 1) (po_some (pv 2)) po_none))
          (pa_cons (pe_op op_catA (pe_op op_catA (pe_slice sl_tupA (pv 1) po_none (po_some (pv 2))) (pe_tup (pa_cons (pv 3) pa_nil))) (pe_slice sl_tupA (pv 1) (po_some (pe_op op_add (pv 2) pe_int)) po_none)) pa_nil))) (pe_call N.ok hr1 (by rfl) N.g N.k N.b .nil pass0 (pa_cons (pv 0) (pa_cons pe_int pa_nil))) (fun _ _ => rfl)))))), ?_⟩
    have e0 : start NB [V.ref p, x] = [some (.ref p), some x, none, none, none] := rfl
    rw [e0]
    refine ⟨fun σ' H' => ∃ (k : Nat) (u : V) (d : PyData), σ' = [some (.ref p), some x, some (.int k), some u, none] ∧ k ≤ ds.length ∧ Adv p H H' ∧ PoolAt H' p ∧ d ∈ oddL ∧ Dp K (Off D H') u d, ?_, ?_⟩
    · cases hx with
      | @tup t xs _ hS ha =>
        have hl := DpAll.length ha
        refine ⟨_, rfl, _, rfl, t, xs, rfl, .inr (seqT off_le hS), _, _, rfl, rfl, p, _, rfl, hp, by omega, by omega, fun r H1 r0 r1 a1 hp1 => ?_⟩
        refine ⟨_, rfl, p, D, rfl, hp1, thereA a1 nD hD, nD, fun u d H2 a2 hp2 hm hd => ?_⟩
        exact ⟨_, _, rfl, r.toNat, u, d, by rw [show r = ((r.toNat : Nat) : Int) by omega]; rfl, by omega, a1.trans a2, hp2, hm, hd⟩
    rintro σ1 H1 ⟨k, u, d, rfl, hk, a1, hp1, hm, hu⟩
    have hx1 : Dp K (Off D H1) x (.tuple ds) := Dp.kt (Off.kt hp nD a1) hx (by simp only [noL]; exact pl.nol)
    have hD1 := thereA a1 nD hD
    have fin : ∀ (D0 : Ends), D0.rt = Q → ∀ H2, Adv p H1 H2 → PoolAt H2 p → tRet (tOp (rIxL K) (tLst (tCons (tOp (rCatA K) (tOp (rCatA K) (tSl (rSlA K) (tVar 1) tNoPart (tPart (tVar 2))) (tTup (tCons (tVar 3) tNil))) (tSl (rSlA K) (tVar 1) (tPart (tVar 2)) tNoPart)) (tCons (tOp (rCatA K) (tOp (rCatA K) (tSl (rSlA K) (tVar 1) tNoPart (tPart (tVar 2))) (tTup (tCons (tVar 3) tNil))) (tSl (rSlA K) (tVar 1) (tPart (tOp (rI0 fun i j => .int (i + j)) (tVar 2) (tC (.int 1)))) tNoPart)) tNil))) (tCall spTake [] E0 (tCons (tVar 0) (tCons (tC (.int 2)) tNil)))) D0 [some (.ref p), some x, some (.int k), some u, none] H2 := fun D0 hD0 H2 a2 hp2 => by
      have hx2 : Dp K (Off D H2) x (.tuple ds) := Dp.kt (Off.kt hp1 nD a2) hx1 (by simp only [noL]; exact pl.nol)
      have hn : npD d = true := by
        have np : (oddL.all npD) = true := by decide +kernel
        exact List.all_eq_true.mp np d hm
      have hu2 : Dp K (Off D H2) u d := Dp.adv (PoolAt.off hp1 nD) (Off.adv a2) hu hn
      have hD2 := thereA a2 nD hD1
      have sz : sizeLine = 16777216 := sizeLine_eq
      refine ⟨_, rfl, _, rfl, _, rfl, slE hD2 hx2 fun v1 H3 s3 h3 => ?_⟩
      rw [cut_to hk] at h3
      refine ⟨_, rfl, by show 1 ≤ sizeLine; decide, fun t1 n1 => ?_⟩
      have g1 := same_upd (o := .tup [u]) n1
      refine catE (there (s3.trans g1) hD2) (Dp.same (Off.same g1) h3) (.tup (SqT.of (off_at (fresh_ne (there s3 hD2) n1) upd_same)) (.cons (Dp.same (Off.same (s3.trans g1)) hu2) .nil)) (by rw [List.length_take]; simp; omega) fun v4 H4 s4 h4 => ?_
      have z4 := s3.trans (g1.trans s4)
      refine ⟨_, rfl, _, rfl, _, rfl, ?_⟩
      dsimp only [tNoPart]
      refine slE (there z4 hD2) (Dp.same (Off.same z4) hx2) fun v5 H5 s5 h5 => ?_
      rw [cut_from] at h5
      refine catE (there (z4.trans s5) hD2) (Dp.same (Off.same s5) h4) h5 (by rw [List.length_append, List.length_take, List.length_drop]; simp; omega) fun vA H6 s6 hA => ?_
      have z6 := z4.trans (s5.trans s6)
      clear h3 h4 h5 s3 s4 s5 s6 z4 g1 n1
      refine ⟨_, rfl, _, rfl, _, rfl, slE (there z6 hD2) (Dp.same (Off.same z6) hx2) fun v1 H7 s7 h7 => ?_⟩
      rw [cut_to hk] at h7
      refine ⟨_, rfl, by show 1 ≤ sizeLine; decide, fun t1 n1 => ?_⟩
      have g1 := same_upd (o := .tup [u]) n1
      have z8 := z6.trans (s7.trans g1)
      refine catE (there z8 hD2) (Dp.same (Off.same g1) h7) (.tup (SqT.of (off_at (fresh_ne (there (z6.trans s7) hD2) n1) upd_same)) (.cons (Dp.same (Off.same z8) hu2) .nil)) (by rw [List.length_take]; simp; omega) fun v4 H9 s9 h9 => ?_
      have z9 := z8.trans s9
      refine ⟨_, rfl, _, rfl, _, _, rfl, rfl, _, rfl, ?_⟩
      have ek : ((k : Int) + 1) = ((k + 1 : Nat) : Int) := by omega
      rw [ek]
      dsimp only [tNoPart]
      refine slE (there z9 hD2) (Dp.same (Off.same z9) hx2) fun v5 H10 s10 h10 => ?_
      rw [cut_from] at h10
      refine catE (there (z9.trans s10) hD2) (Dp.same (Off.same s10) h9) h10 (by rw [List.length_append, List.length_take, List.length_drop]; simp; omega) fun vB H11 s11 hB => ⟨by show 2 ≤ sizeLine; decide, fun L nL => ?_⟩
      have zL := same_upd (o := .lst [vA, vB]) nL
      have z11 := z9.trans (s10.trans s11)
      have hA' := Dp.same (Off.same (s7.trans (g1.trans (s9.trans (s10.trans (s11.trans zL)))))) hA
      have hB' := Dp.same (Off.same zL) hB
      have hL := upd_same (H := H11) (a := L) (o := .lst [vA, vB])
      have z12 := z11.trans zL
      generalize upd H11 L (.lst [vA, vB]) = G at hA' hB' hL z12 ⊢
      have bA : Bent ds _ := bent_odd (j := k) pl hm (.inl rfl)
      have bB : Bent ds _ := bent_odd (k := k) (j := k + 1) pl hm (.inr rfl)
      have lne : L ≠ p := fun z => by
        obtain ⟨c, s', e', _⟩ := hp2.same z12
        rw [z, e'] at hL
        injection hL with hL
        injection hL with hL
        cases hL
        cases hA'
      refine ⟨_, rfl, p, 2, rfl, hp2.same z12, by decide, by decide, fun r H12 r0 r1 a12 hp12 => ?_⟩
      obtain ⟨v, es, hv, hes, hb⟩ : ∃ v es, atI [vA, vB] r = some v ∧ Dp K (Off D G) v (.tuple es) ∧ Bent ds es := by
        have h2 : r = 0 ∨ r = 1 := by omega
        rcases h2 with rfl | rfl
        · exact ⟨_, _, rfl, hA', bA⟩
        · exact ⟨_, _, rfl, hB', bB⟩
      refine ⟨L, _, r, v, rfl, rfl, SqL.of (a12 _ _ hL lne), hv, ?_⟩
      rw [hD0]
      refine q v es H12 (a1.trans (a2.trans (Same.adv z12 a12))) hp12 (Dp.adv (PoolAt.off (hp2.same z12) nD) (Off.adv a12) hes ?_) hb
      simp only [npD]
      exact hb.np
    have tn : noL (.tuple ds) = true := by simp only [noL]; exact pl.nol
    obtain ⟨t, xs, rfl, hS, ha⟩ : ∃ t xs, x = .ref t ∧ SqT K (Off D H1) t xs ∧ DpAll K (Off D H1) xs ds := by
      cases hx1 with
      | tup hS ha => exact ⟨_, _, rfl, hS, ha⟩
    have hl := DpAll.length ha
    refine ⟨_, rfl, _, rfl, t, xs, rfl, .inr (seqT off_le hS), _, _, rfl, rfl, _, rfl, ite_dec (fun hlt => ?_) fun _ => fin _ rfl H1 Adv.refl hp1⟩
    obtain ⟨d0, hd0⟩ : ∃ d0, ds[k]? = some d0 := ⟨_, List.getElem?_eq_getElem (by omega)⟩
    obtain ⟨w0, rest, rfl, hround⟩ := okM_succ (hok d0 (List.mem_of_getElem? hd0))
    obtain ⟨v0, hv0, hv0d⟩ := at_dp ha hd0
    obtain ⟨t0, vs0, rfl, hS0, ha0⟩ : ∃ t0 vs0, v0 = .ref t0 ∧ SqT K (Off D H1) t0 (.str w0 :: vs0) ∧ DpAll K (Off D H1) vs0 rest := by
      cases hv0d with
      | tup hS0 ha0 =>
        cases ha0 with
        | cons h0 ha0 =>
          cases h0
          exact ⟨_, _, rfl, hS0, ha0⟩
    refine ⟨_, rfl, _, rfl, t, xs, (k : Int), _, rfl, rfl, seqT off_le hS, atI_nat hv0, t0, _, 0, .str w0, rfl, rfl, seqT off_le hS0, at0, by show 2 ≤ sizeLine; decide, fun l nl => ⟨l, _, rfl, .inl (SqL.of upd_same), rfl, rfl, _, rfl, ?_⟩⟩
    have sl := same_upd (o := .lst [.str "loop", .str "forever"]) nl
    have hin : (if false = true then !inV (V.str w0) [V.str "loop", V.str "forever"] else inV (V.str w0) [V.str "loop", V.str "forever"]) = roundW w0 := inV_round
    rw [hin]
    cases hw : roundW w0 with
    | false => exact iteF (fin _ rfl _ (Same.adv sl Adv.refl) (hp1.same sl))
    | true =>
      obtain ⟨hr0, es, hles, hkid⟩ := hround hw
      obtain ⟨ples, plinit, hwes⟩ := plain_kid pl hd0 hr0 hles
      refine iteT ?_
      refine ⟨_, rfl, p, 3, rfl, hp1.same sl, by decide, by decide, fun r H3 r0 r1 a3 hp3 => ⟨_, _, rfl, rfl, _, rfl, ite_dec (fun _ => ?_) fun _ => fin _ rfl H3 (Same.adv sl a3) hp3⟩⟩
      have a13 : Adv p H1 H3 := Same.adv sl a3
      have hD3 := thereA a13 nD hD1
      have hx3 : Dp K (Off D H3) (.ref t) (.tuple ds) := Dp.kt (Off.kt hp1 nD a13) hx1 tn
      clear hS ha hv0d hS0 ha0
      obtain ⟨xs3, hS, ha⟩ : ∃ xs, SqT K (Off D H3) t xs ∧ DpAll K (Off D H3) xs ds := by
        cases hx3 with
        | tup hS ha => exact ⟨_, hS, ha⟩
      obtain ⟨v1, hv1, hv1d⟩ := at_dp ha hd0
      obtain ⟨t1, vs1, rfl, hS1, ha1⟩ : ∃ t0 vs0, v1 = .ref t0 ∧ SqT K (Off D H3) t0 (.str w0 :: vs0) ∧ DpAll K (Off D H3) vs0 rest := by
        cases id hv1d with
        | tup hS0 ha0 =>
          cases ha0 with
          | cons h0 ha0 =>
            cases h0
            exact ⟨_, _, rfl, hS0, ha0⟩
      obtain ⟨ul, hul, huld⟩ := last_of (v := .str w0) ha1 hr0
      rw [hles] at huld
      walk_at "nx"
      refine ⟨_, rfl, _, rfl, t, xs3, (k : Int), _, rfl, rfl, seqT off_le hS, atI_nat hv1, _, rfl, _, rfl, slE hD3 hv1d fun y1 H4 s4 h4 => ?_⟩
      rw [cut_init (by simp)] at h4
      refine ⟨_, rfl, _, rfl, _, rfl, t, xs3, (k : Int), _, rfl, rfl, seqT s4 (seqT off_le hS), atI_nat hv1, 1, rfl, t1, _, -1, ul, rfl, rfl, seqT s4 (seqT off_le hS1), hul, p, D, ul, es, rfl, hp3.same s4, there s4 hD3, nD, Dp.same (Off.same s4) huld, ples, Nat.le_trans hwes hwt, hkid, fun vB es' H5 a5 hp5 hB b => ⟨by show 1 ≤ sizeLine; decide, fun t2 n2 => ?_⟩⟩
      have hD5 := thereA a5 nD (there s4 hD3)
      have g2 := same_upd (o := .tup [vB]) n2
      have ni : noL (.tuple ((PyData.str w0 :: rest).dropLast)) = true := by simp only [noL]; exact plinit.nol
      have hwl := length_le_weight ((PyData.str w0 :: rest).dropLast)
      have szl : ((PyData.str w0 :: rest).dropLast).length ≤ 300000 := by
        have e := weight_at ds k
        rw [drop_at hd0] at e
        simp only [PyData.weightAll, PyData.weight] at e
        have e2 : PyData.weightAll (.str w0 :: rest) = PyData.weightAll ((PyData.str w0 :: rest).dropLast) + PyData.weightAll [lastD rest] := by
          rw [← weightAll_append, ← last_split hr0]
        simp only [PyData.weightAll, PyData.weight] at e2
        omega
      have h4' : Dp K (Off D (upd H5 t2 (.tup [vB]))) y1 (.tuple ((PyData.str w0 :: rest).dropLast)) := Dp.same (Off.same g2) (Dp.kt (Off.kt (hp3.same s4) nD a5) h4 ni)
      have sz : sizeLine = 16777216 := sizeLine_eq
      refine catE (there g2 hD5) h4' (.tup (SqT.of (off_at (fresh_ne hD5 n2) upd_same)) (.cons (Dp.same (Off.same g2) hB) .nil)) (by simp only [List.length_cons, List.length_nil]; omega) fun vI H6 s6 hI => ?_
      have s56 := g2.trans s6
      have a16 : Adv p H1 H6 := (a13.trans (Same.adv s4 a5)).same s56
      have hp6 := hp5.same s56
      have hD6 := there s56 hD5
      have hx6 : Dp K (Off D H6) (.ref t) (.tuple ds) := Dp.kt (Off.kt hp1 nD a16) hx1 tn
      refine ⟨_, rfl, _, rfl, _, rfl, slE hD6 hx6 fun y2 H7 s7 h7 => ?_⟩
      rw [cut_to hk] at h7
      refine ⟨_, rfl, by show 1 ≤ sizeLine; decide, fun t3 n3 => ?_⟩
      have g3 := same_upd (o := .tup [vI]) n3
      have z8 := s7.trans g3
      refine catE (there z8 hD6) (Dp.same (Off.same g3) h7) (.tup (SqT.of (off_at (fresh_ne (there s7 hD6) n3) upd_same)) (.cons (Dp.same (Off.same z8) hI) .nil)) (by rw [List.length_take]; simp only [List.length_cons, List.length_nil]; omega) fun y4 H9 s9 h9 => ?_
      have z9 := z8.trans s9
      refine ⟨_, rfl, _, rfl, _, _, rfl, rfl, _, rfl, ?_⟩
      have ek : ((k : Int) + 1) = ((k + 1 : Nat) : Int) := by omega
      rw [ek]
      dsimp only [tNoPart]
      refine slE (there z9 hD6) (Dp.same (Off.same z9) hx6) fun y5 H10 s10 h10 => ?_
      rw [cut_from] at h10
      refine catE (there (z9.trans s10) hD6) (Dp.same (Off.same s10) h9) h10 (by rw [List.length_append, List.length_take, List.length_drop]; simp only [List.length_cons, List.length_nil]; omega) fun vR H11 s11 hR => ?_
      have z11 := z9.trans (s10.trans s11)
      exact q vR _ H11 (a1.trans (a16.same z11)) (hp6.same z11) hR (bent_inner pl hd0 hr0 hles b)
end
end L2.L02

set_option maxHeartbeats 1000000
namespace L2.L02
open PySem PySem.Spec PyProof.Rows LR L2.Lr
local macro_rules | `(tactic| walk_at "nx") => `(tactic| dsimp only [gName, tNext, tSeq, tAsg, List.set_cons_zero, List.set_cons_succ])
/-! ### data, or an empty dict -/
def DpE (K : PySem.W.Frag) (H : Hp) (x : V) (d : PyData) : Prop := Dp K H x d ∨ (d = .dict [] ∧ ∃ a, x = .ref a ∧ H a = some (.dK []))
theorem DpE.same {K : PySem.W.Frag} {H H' : Hp} {x : V} {d : PyData} (h : DpE K H x d) (s : Same H H') : DpE K H' x d := by
  rcases h with h | ⟨e, a, ex, h⟩
  · exact .inl (Dp.same s h)
  · exact .inr ⟨e, a, ex, s _ _ h⟩
theorem tyE {K : PySem.W.Frag} {H : Hp} {x : V} {d : PyData} (h : DpE K H x d) : TyX K H x (.type (tyN d)) := by
  rcases h with h | ⟨rfl, a, rfl, h⟩
  · exact tyD h
  · exact .base (.dK h)
def rReprE (K : PySem.W.Frag) : List V → Hp → VK → Prop := fun xs H Q => ∃ x d, xs = [x] ∧ DpE K H x d ∧ (Dp K H x d → d.showable = true ∧ d.shown.length ≤ sizeLine ∧ d.depth ≤ 60) ∧ Q (.str d.shown) H
theorem call_reprE {X : Cx} (K : PySem.W.Frag) (hK : X.K = K) (qA : Quiet X.A) (hu : X.A.units + 64 < cLine) : CallR X (.builtin "repr") (rReprE K) := by
  subst hK
  intro pins s σ H xs us Q I r h
  obtain ⟨x, d, rfl, hd, hs, q⟩ := h
  rcases hd with hd | ⟨rfl, a, rfl, ha⟩
  · obtain ⟨h1, h2, h3⟩ := hs hd
    exact call_repr qA hu pins s σ H _ _ Q I r ⟨x, d, rfl, hd, h1, h2, h3, q⟩
  · obtain ⟨u, rfl, ru⟩ := vals1 r
    cases ru
    obtain ⟨_, hne, vs, kv, o, es, ep, ho, hx, hdt, _, hes, _⟩ := I.hok a _ ha
    have hv : vs = [] := by
      cases kv
      rfl
    subst hv
    have he : es.toList = [] := by
      cases hl : es.toList with
      | nil => rfl
      | cons e r => rw [hl] at hes; cases hes
    have rd : Reads s.heap (.ref a) (.dict []) (a :: [] ++ []) := Reads.dict ho hx.1 hdt (by rw [he]; exact .nil) (by rw [he]; exact .nil)
    refine repr_of_reads' rd rfl (fun _ m => ?_) qA (by show X.A.units + (1 + 1) < cLine; omega) (fun _ _ e => e) (fun h' u tk k => ⟨.str (PyData.dict []).shown, H, I.kept (t' := tk) k, ⟨_, rfl⟩, q⟩) (by decide +kernel)
    simp at m
    rw [← m] at hne
    simp at hne
/-! ### isinstance(x, (list, tuple)) -/
def seqD : PyData → Bool
  | .list _ => true
  | .tuple _ => true
  | _ => false
theorem any_f {K : PySem.W.Frag} {n : String} (h1 : kitB n "list" = some false) (h2 : kitB n "tuple" = some false) : PySem.W.kitAny K (.type n) [.type "list", .type "tuple"] = some false :=
  kitAny_cons (kit_ty h1) (fun _ => kitAny_cons (kit_ty h2) (fun _ => rfl) fun z => nomatch z) fun z => nomatch z
theorem seq_any {K : PySem.W.Frag} (d : PyData) : PySem.W.kitAny K (.type (tyN d)) [.type "list", .type "tuple"] = some (seqD d) := by
  cases d with
  | none => exact any_f (n := "NoneType") (by decide +kernel) (by decide +kernel)
  | bool _ => exact any_f (n := "bool") (by decide +kernel) (by decide +kernel)
  | int _ => exact any_f (n := "int") (by decide +kernel) (by decide +kernel)
  | str _ => exact any_f (n := "str") (by decide +kernel) (by decide +kernel)
  | dict _ => exact any_f (n := "dict") (by decide +kernel) (by decide +kernel)
  | list _ => exact kitAny_cons (kit_ty (by decide +kernel : kitB "list" "list" = some true)) (fun z => nomatch z) fun _ => rfl
  | tuple _ => exact kitAny_cons (kit_ty (by decide +kernel : kitB "tuple" "list" = some false)) (fun _ => kitAny_cons (kit_ty (by decide +kernel : kitB "tuple" "tuple" = some true)) (fun z => nomatch z) fun _ => rfl) fun z => nomatch z
/-! ### what makes a row -/
def foreverD : PyData → Bool
  | .tuple (.str w :: _) => decide (w = "forever")
  | _ => false
def goesD (ds : List PyData) : Bool := ds.dropLast.all fun d => !foreverD d
def rowL (ds : List PyData) : Bool := partsF (partL 4) true (.tuple ds) && decide (manyS (manyP 4) (.tuple ds) ≤ 60)
theorem may_iff {inner : Option (PyData → Bool)} {d : PyData} : partF inner false d = true ↔ partF inner true d = true ∧ foreverD d = false := by
  have key : ∀ (w : Str) (es : List PyData), (partF inner false (.tuple (.str w :: es)) = true ↔ partF inner true (.tuple (.str w :: es)) = true ∧ foreverD (.tuple (.str w :: es)) = false) := fun w es => by
    show (if isW (.str w) "send" || isW (.str w) "take" then sendL es else if isW (.str w) "work" then workL es else if isW (.str w) "forever" then everL inner false es else if isW (.str w) "loop" then loopL inner es else false) = true ↔ (if isW (.str w) "send" || isW (.str w) "take" then sendL es else if isW (.str w) "work" then workL es else if isW (.str w) "forever" then everL inner true es else if isW (.str w) "loop" then loopL inner es else false) = true ∧ decide (w = "forever") = false
    rw [isW_eq, isW_eq, isW_eq, isW_eq, isW_eq]
    by_cases hf : w = "forever"
    · subst hf
      rw [decide_eq_false (p := ("forever" : Str) = "send") (by decide +kernel), decide_eq_false (p := ("forever" : Str) = "take") (by decide +kernel), decide_eq_false (p := ("forever" : Str) = "work") (by decide +kernel), decide_eq_true (p := ("forever" : Str) = "forever") rfl]
      have e : everL inner false es = false := by
        unfold everL
        split <;> rfl
      simp [e]
    · rw [decide_eq_false hf]
      simp
  constructor
  · intro h
    obtain ⟨w, es, rfl, _⟩ := partF_str h
    exact (key w es).mp h
  · intro h
    obtain ⟨w, es, rfl, _⟩ := partF_str h.1
    exact (key w es).mpr h
theorem parts_iff {ds : List PyData} : partsF (partL 4) true (.tuple ds) = true ↔ (∀ d, d ∈ ds → partL 4 true d = true) ∧ goesD ds = true := by
  show allAt (partL 4) true ds = true ↔ _
  rw [allAt_iff]
  constructor
  · intro h
    refine ⟨fun d hd => ?_, List.all_eq_true.mpr fun d hd => ?_⟩
    · obtain ⟨j, hj⟩ := List.mem_iff_getElem?.mp hd
      have z := h j d hj
      cases hb : (true && decide (j + 1 = ds.length)) with
      | true => rw [hb] at z; exact z
      | false => rw [hb] at z; exact (may_iff.mp z).1
    · obtain ⟨j, hj⟩ := List.mem_iff_getElem?.mp hd
      have hlt : j < ds.dropLast.length := (List.getElem?_eq_some_iff.mp hj).1
      rw [List.length_dropLast] at hlt
      have hj2 : ds[j]? = some d := by
        rw [List.dropLast_eq_take, List.getElem?_take, if_pos hlt] at hj
        exact hj
      have z := h j d hj2
      have hb : (true && decide (j + 1 = ds.length)) = false := by rw [decide_eq_false (by omega)]; rfl
      rw [hb] at z
      rw [(may_iff.mp z).2]
      rfl
  · rintro ⟨h1, h2⟩ j d hj
    have hd := h1 d (List.mem_of_getElem? hj)
    have hlt : j < ds.length := (List.getElem?_eq_some_iff.mp hj).1
    by_cases hl : j + 1 = ds.length
    · rw [decide_eq_true hl]
      exact hd
    · rw [decide_eq_false hl]
      have hm : d ∈ ds.dropLast := by
        rw [List.dropLast_eq_take]
        refine List.mem_of_getElem? (i := j) ?_
        rw [List.getElem?_take, if_pos (by omega)]
        exact hj
      have z := List.all_eq_true.mp h2 d hm
      exact may_iff.mpr ⟨hd, by simpa using z⟩
theorem how_row {ds : List PyData} : (rowL ds = true → howF (sizeD 4) (.tuple ds) = manyS (manyP 4) (.tuple ds) ∧ howF (sizeD 4) (.tuple ds) ≤ 60 ∧ goesD ds = true) ∧ (rowL ds = false → 60 < howF (sizeD 4) (.tuple ds) ∨ goesD ds = false) ∧
    (howF (sizeD 4) (.tuple ds) ≤ 60 → ∀ d, d ∈ ds → ∃ w es, d = .tuple (.str w :: es)) := by
  have k := goL_ok (sz := sizeD 4) (mp := manyP 4) (good := partL 4 true) (ds := ds) (m := 0) (Int.le_refl 0) fun d _ => ⟨manyP_pos 4 d, (size_ok 4 (Nat.le_refl 4) d).1, (size_ok 4 (Nat.le_refl 4) d).2⟩
  obtain ⟨k1, k2⟩ := k
  have es : manyS (manyP 4) (.tuple ds) = (ds.map (manyP 4)).sum := rfl
  have eh : howF (sizeD 4) (.tuple ds) = goL (sizeD 4) 0 ds := rfl
  refine ⟨fun h => ?_, fun h => ?_, fun h d hd => ?_⟩
  · obtain ⟨h1, h2⟩ := Bool.and_eq_true_iff.mp h
    obtain ⟨g1, g2⟩ := parts_iff.mp h1
    have h2 := of_decide_eq_true h2
    have z := k1 ⟨g1, by omega⟩
    refine ⟨by omega, by omega, g2⟩
  · by_cases hg : goesD ds = true
    · refine .inl ?_
      rw [eh]
      refine k2 fun ⟨g1, g2⟩ => ?_
      have h1 := parts_iff.mpr ⟨g1, hg⟩
      unfold rowL at h
      rw [h1, decide_eq_true (by omega)] at h
      cases h
    · exact .inr (by simpa using hg)
  · have : ∀ d, d ∈ ds → partL 4 true d = true := by
      by_cases c : (∀ d, d ∈ ds → partL 4 true d = true) ∧ 0 + (ds.map (manyP 4)).sum ≤ 60
      · exact c.1
      · have := k2 c
        omega
    obtain ⟨w, es, e, _⟩ := partF_str (inner := some (partsF (partL 3) false)) (this d hd)
    exact ⟨w, es, e⟩
end L2.L02

set_option maxHeartbeats 1000000
namespace L2.Lr
open PySem PySem.Spec PyProof.Rows LR StX
/-- a == b, two lists of the very same things -/
theorem op_eqS {X : Cx} (hu : X.A.units + 64 < cLine) : OpR X (compareOp .Eq) (fun x y H Q => ∃ a b xs, x = .ref a ∧ y = .ref b ∧ SqL X.K H a xs ∧ SqL X.K H b xs ∧ (∀ v ∈ xs, flatB v = true ∨ ∃ r, v = .ref r) ∧ Q (.bl true) H) := by
  intro pins s σ H x y v u Q I rx ry h
  obtain ⟨a, b, xs, rfl, rfl, ha, hb, hi, q⟩ := h
  cases rx
  cases ry
  obtain ⟨us, r1, p1, _⟩ := I.list ha
  obtain ⟨ws, r2, p2, _⟩ := I.list hb
  have hsz : us.toArray.size = ws.toArray.size := by rw [List.size_toArray, List.size_toArray, ← r1.length, ← r2.length]
  have he : ∀ j (h1 : j < us.toArray.size) (h2 : j < ws.toArray.size), SeqAt.EqAt X.A.in1 s us.toArray[j] ws.toArray[j] true := by
    intro j h1 h2
    have l1 : j < us.length := by simpa using h1
    have l2 : j < ws.length := by simpa using h2
    have hj : j < xs.length := by rw [r1.length]; exact l1
    obtain ⟨u1, e1, q1⟩ := r1.get (List.getElem?_eq_getElem hj)
    obtain ⟨u2, e2, q2⟩ := r2.get (List.getElem?_eq_getElem hj)
    have z1 : us.toArray[j] = u1 := by
      have := List.getElem?_eq_getElem l1
      rw [e1] at this
      simpa using (Option.some.inj this).symm
    have z2 : ws.toArray[j] = u2 := by
      have := List.getElem?_eq_getElem l2
      rw [e2] at this
      simpa using (Option.some.inj this).symm
    rw [z1, z2]
    rcases hi xs[j] (List.getElem_mem hj) with f | ⟨r, er⟩
    · exact eqAt_same q1 q2 f
    · rw [er] at q1 q2
      cases q1
      cases q2
      exact SeqAt.EqAt.same _
  have z := SeqAt.RcAt.lists (e := fun _ => true) p1.isList p2.isList hsz (show X.A.units < cLine by omega) he X.prog X.w X.xe (EP X pins σ Q)
  refine z ?_
  rw [show (List.range us.toArray.size).all (fun _ => true) = true from List.all_eq_true.mpr fun _ _ => rfl]
  exact ⟨.bl true, H, I, rfl, q⟩
end L2.Lr
namespace L2.L02
open PySem PySem.Spec PyProof.Rows LR L2.Lr
local macro_rules | `(tactic| walk_at "nx") => `(tactic| dsimp only [gName, tNext, tSeq, tAsg, List.set_cons_zero, List.set_cons_succ])
abbrev sRoom : Stmt := inClass (top 1) 0
abbrev sGoes : Stmt := top 38
abbrev sIni : Stmt := inClass (top 28) 0
abbrev sRef : Stmt := top 54
abbrev sRight : Stmt := top 55
abbrev sLaw : Stmt := top 56
abbrev FnM (K : PySem.W.Frag) (x q : Str) (st : Stmt) (f : Addr) (fd : FuncData) : Prop := FunD K x q (defArgs st) (defBody st) (defScope st) [] [] f fd
theorem scgo : FnScope ["parts", "part"] ["parts"] (defScope sGoes) := ⟨rfl, rfl, rfl, by decide +kernel, rfl, by decide +kernel, by decide +kernel⟩
theorem scro : FnScope ["self", "value"] ["self", "value"] (defScope sRoom) := ⟨rfl, rfl, rfl, by decide +kernel, rfl, by decide +kernel, by decide +kernel⟩
abbrev sApr : Stmt := top 30
theorem scap : FnScope ["thing"] ["thing"] (defScope sApr) := ⟨rfl, rfl, rfl, by decide +kernel, rfl, by decide +kernel, by decide +kernel⟩
theorem scin : FnScope ["self", "parts", "kept"] ["self", "parts"] (defScope sIni) := ⟨rfl, rfl, rfl, by decide +kernel, rfl, by decide +kernel, by decide +kernel⟩
theorem scre : FnScope ["_law_thing", "_law_kept", "e"] ["_law_thing"] (defScope sRef) := ⟨rfl, rfl, rfl, by decide +kernel, rfl, by decide +kernel, by decide +kernel⟩
theorem scri : FnScope ["_law_thing", "_law_found", "_law_is_row"] ["_law_thing"] (defScope sRight) := ⟨rfl, rfl, rfl, by decide +kernel, rfl, by decide +kernel, by decide +kernel⟩
def CR (K : PySem.W.Frag) : Addr := He.ga K "Row"
def CB (K : PySem.W.Frag) : Addr := He.ga K "BadRow"
def fV (K : PySem.W.Frag) : Addr := He.ma K (He.ga K "RoomError") "__init__"
structure Txt (K : PySem.W.Frag) (mg : Str → Option Value) : Prop where
  p : Prg mg
  gB : mg "BadRow" = some (.ref (CB K))
  x : XC K xV (CB K)
  nv : PySem.W.findIn K (.ref (CB K)) "value" = some none
  iC : PySem.W.findIn K (.ref (CB K)) "__init__" = some (some (.ref (fV K)))
  tI : PySem.W.typeIn K (.ref (fV K)) = some (.type "function")
  e : PySem.W.exmOne K (.ref (CB K)) (.ref (CB K)) = some true
  kB : PySem.W.kitOne K (.ref (CB K)) (.type "ValueError") = some true
  gR : mg "Row" = some (.ref (CR K))
  cl : Cls K (CR K)
  nP : NoAttr K (CR K) "parts"
  nS : NoAttr K (CR K) "size"
  ic : C8.InsC K (CR K)
  all : mg "all" = none
  list : mg "list" = none
  vE : mg "ValueError" = none
  repr : mg "repr" = none
  range : mg "range" = none
  sum : mg "sum" = none
  max : mg "max" = none
  min : mg "min" = none
structure Rm (P : Program) (w : World) (K : PySem.W.Frag) (mg : Str → Option Value) (base : Heap) (dV : FuncData) : Prop where
  ok : FnOk P w K mg base CX0 1 (fV K) dV ["self", "value"] (L2.Lr.spIni K)
  b : Binds K dV ["self", "value"] []
def Bad (C : Addr) (z : V) (H : Hp) (E : XK) : Prop := ∀ (d : Addr) (H' : Hp), Same H H' → H' d = some (.xd [("value", z)]) → E (.ref C) (some d) H'
def flds (y : V) (m : Int) : List (Str × V) := putF "size" (.int m) (putF "parts" y [])
theorem kps : ¬ (("parts" : Str) = "size") := by decide +kernel
theorem flds_p (y : V) (m : Int) : (flds y m).lookup ("parts" : Str) = some y := by
  unfold flds
  rw [lookup_putF, if_neg kps, lookup_putF, if_pos rfl]
theorem flds_s (y : V) (m : Int) : (flds y m).lookup ("size" : Str) = some (.int m) := by
  unfold flds
  rw [lookup_putF, if_pos rfl]
def RowAt (K : PySem.W.Frag) (H : Hp) (p : Addr) (y : V) (m : Int) : Prop := ∃ dx, H p = some (.ins (CR K) dx (flds y m))
def rowE : PyData → Bool
  | .tuple ds => rowL ds
  | .list ds => rowL ds
  | _ => false
def NiceE (d : PyData) : Prop := d = .dict [] ∨ Nice 390000 60 d
mutual
theorem sOk_of : ∀ {d : PyData}, d.canLay0 = true → d.weight ≤ sizeLine → sOk d
  | .none, _, _ => by simp [sOk]
  | .bool _, _, _ => by simp [sOk]
  | .int _, _, _ => by simp [sOk]
  | .list _, _, _ => by simp [sOk]
  | .dict _, _, _ => by simp [sOk]
  | .str x, h, hw => by
    simp only [sOk]
    simp only [PyData.canLay0] at h
    simp only [PyData.weight] at hw
    exact ⟨hw, h⟩
  | .tuple ds, h, hw => by
    simp only [sOk]
    simp only [PyData.canLay0] at h
    simp only [PyData.weight] at hw
    exact ⟨Nat.le_trans (length_le_weight ds) hw, sOkAll_of h hw⟩
theorem sOkAll_of : ∀ {ds : List PyData}, PyData.canLayAll0 ds = true → PyData.weightAll ds ≤ sizeLine → sOkAll ds
  | [], _, _ => by simp [sOkAll]
  | d :: ds, h, hw => by
    simp only [PyData.canLayAll0] at h
    obtain ⟨h1, h2⟩ := Bool.and_eq_true_iff.mp h
    simp only [PyData.weightAll] at hw
    simp only [sOkAll]
    exact ⟨sOk_of h1 (by omega), sOkAll_of h2 (by omega)⟩
end
theorem nice_fit {W D : Nat} {d : PyData} (h : Nice W D d) (hW : W ≤ 390000) (hD : D ≤ 64) : Fit d :=
  ⟨sOk_of (Bool.and_eq_true_iff.mp h.f).1 (by have := h.w; rw [sizeLine_eq]; omega), h.shaped hD⟩
/-- all but instances stays -/
def Ki (H H' : Hp) : Prop := ∀ b o, H b = some o → (∀ C dx fs, o ≠ .ins C dx fs) → H' b = some o
mutual
theorem Dp.ki {K : PySem.W.Frag} {H H' : Hp} (s : Ki H H') : ∀ {v : V} {d : PyData}, Dp K H v d → Dp K H' v d
  | _, _, .non => .non
  | _, _, .bl b => .bl b
  | _, _, .int i => .int i
  | _, _, .str x => .str x
  | _, _, .lst h a => .lst (by
      rcases h with (h | ⟨o, h⟩) | h
      · exact .inl (.inl (s _ _ h fun _ _ _ z => by cases z))
      · exact .inl (.inr ⟨o, s _ _ h fun _ _ _ z => by cases z⟩)
      · exact .inr h) (DpAll.ki s a)
  | _, _, .tup h a => .tup (by
      rcases h with (h | ⟨o, h⟩) | h
      · exact .inl (.inl (s _ _ h fun _ _ _ z => by cases z))
      · exact .inl (.inr ⟨o, s _ _ h fun _ _ _ z => by cases z⟩)
      · exact .inr h) (DpAll.ki s a)
theorem DpAll.ki {K : PySem.W.Frag} {H H' : Hp} (s : Ki H H') : ∀ {vs : List V} {ds : List PyData}, DpAll K H vs ds → DpAll K H' vs ds
  | _, _, .nil => .nil
  | _, _, .cons h a => .cons (Dp.ki s h) (DpAll.ki s a)
end
theorem slP {K : PySem.W.Frag} {H : Hp} {x : V} {ds : List PyData} {lo hi : Option Int} {Q : VK} (hx : Dp K H x (.tuple ds)) (q : ∀ v H', Same H H' → Dp K H' v (.tuple (cutD ds lo hi)) → Q v H') : rSlA K x lo hi H Q := by
  cases hx with
  | @tup a xs _ hS ha =>
    have hl := DpAll.length ha
    refine ⟨a, xs, rfl, hS, fun e => ?_, fun _ t nt => ?_⟩
    · refine q _ _ (Same.refl H) ?_
      rw [hl] at e
      have : cutD ds lo hi = ds := by
        unfold cutD
        rw [e.1, e.2]
        simp
      rw [this]
      exact .tup hS ha
    · have st := same_upd (o := .tup (cutV xs lo hi)) nt
      refine q _ _ st (.tup (SqT.of upd_same) ?_)
      have e1 : cutV xs lo hi = (xs.drop (HT.sIx ds.length 0 lo)).take (HT.sIx ds.length ds.length hi - HT.sIx ds.length 0 lo) := by
        unfold cutV
        rw [hl]
      generalize upd H t (.tup (cutV xs lo hi)) = G at st ⊢
      rw [e1]
      unfold cutD
      exact DpAll.same st (DpAll.take _ (DpAll.drop _ ha))
def spGoes (K : PySem.W.Frag) : Sp := fun vs H Q _ => ∃ x ds, vs = [x] ∧ Dp K H x (.tuple ds) ∧ ds.length ≤ 390000 ∧ (∀ d, d ∈ ds → ∃ w es, d = .tuple (.str w :: es)) ∧ ∀ H', Same H H' → Q (.bl (goesD ds)) H'
def spRow (K : PySem.W.Frag) : Sp := fun vs H Q E => ∃ (p dx : Addr) (x : V) (d : PyData), vs = [.ref p, x] ∧ H p = some (.ins (CR K) dx []) ∧ DpE K H x d ∧ NiceE d ∧
  ((rowE d = false ∧ Bad (CB K) x H E) ∨ (rowE d = true ∧ ∀ (H' : Hp) (y : V) (ds : List PyData), (∀ b o, H b = some o → b ≠ p → H' b = some o) → (d = .tuple ds ∨ d = .list ds) → RowAt K H' p y (manyS (manyP 4) (.tuple ds)) → Dp K H' y (.tuple ds) → Q .non H'))
section
variable {P : Program} {w : World} {K : PySem.W.Frag} {mg : Str → Option Value} {base : Heap}
theorem bbL : bootBuiltins "list" = some (.type "list") := by decide +kernel
theorem bbV : bootBuiltins "ValueError" = some (.type "ValueError") := by decide +kernel
theorem ok_room {f : Addr} {fd : FuncData} (F : FnM K "__init__" "RoomError.__init__" sRoom f fd) : FnOk P w K mg base CX0 1 f fd ["self", "value"] (L2.Lr.spIni K) := by
  refine F.ok scro (fun vs H Q E h => ?_) (fun cdv A outer s H vs Q E hr h => ?_)
  · obtain ⟨a, C, k, y, rfl, _⟩ := h
    rfl
  · obtain ⟨a, C, k, y, rfl, Sf, T, nv, ha, go⟩ := h
    refine ⟨_, pss_one (ps_stX (pv 0) (pv 1)), _, rfl, _, rfl, a, C, k, rfl, Sf, T, nv, .inl ⟨ha, fun dx hd ne => go _ dx hd ne (fun b o z nb => ?_) upd_same ((upd_ne ne).trans upd_same)⟩⟩
    exact (upd_ne nb).trans ((upd_ne (ne_of_none z hd)).trans z)
theorem ok_goes {f : Addr} {fd : FuncData} (F : FnP K "_goes_on_last" sGoes f fd) (T : Txt K mg) : FnOk P w K mg base CX0 1 f fd ["parts"] (spGoes K) := by
  refine F.ok scgo (fun vs H Q E h => ?_) (fun cdv A outer s H vs Q E hr h => ?_)
  · obtain ⟨x, ds, rfl, _⟩ := h
    rfl
  · obtain ⟨x, ds, rfl, hd, hl, hs, q⟩ := h
    refine ⟨_, PSs.nox (pss_one (ps_ret (pe_callB (cr_all rfl) (by rfl) T.all boot_all (pa_cons (pe_lc (own := [("part", 1)]) (g := gName 1) (tt := tYes) rfl scgo.nd (pi_tup (pe_slice sl_tupA (pv 0) po_none (po_some (pe_un un_neg pe_int)))) (blkOk_by (N := ["parts", "part"]) (sc := defScope sGoes) (by decide +kernel)) (fun _ _ _ _ _ => pg_name (i := 1) scgo.nd rfl (Or.inl rfl)) (fun _ _ _ _ _ => pts_nil) (fun _ _ _ _ _ => pe_cmpR op_ne (pe_ix (r := rIxT K) (by exact ix_tup) (pv 1) pe_int (fun _ _ => rfl)) pe_str (nomark _))) pa_nil)))), ?_⟩
    have e0 : start ["parts", "part"] [x] = [some x, none] := rfl
    rw [e0]
    have sz : sizeLine = 16777216 := sizeLine_eq
    refine ⟨_, rfl, 1, rfl, _, rfl, ?_⟩
    refine slP hd fun v H1 s1 h1 => ?_
    have ec : cutD ds none (some (-1)) = ds.dropLast := by
      by_cases hn : ds = []
      · subst hn; rfl
      · exact cut_init hn
    rw [ec] at h1
    cases h1 with
    | @tup t xs _ hS ha =>
      have hlx := DpAll.length ha
      have hle : ds.dropLast.length ≤ 390000 := by rw [List.length_dropLast]; omega
      refine ⟨t, rfl, ⟨_, hS⟩, fun D hD => ?_⟩
      have hSD := seqT (same_upd (o := .lst []) hD) hS
      refine lc_tup (K := K) (a := t) (xs := xs) (fun i H' => Same H1 H' ∧ H' D = some (.lst (((ds.dropLast.take i).map fun d => !foreverD d).map V.bl))) ⟨same_upd hD, upd_same⟩ (fun i H' _ q => seqT q.1 hS) ?_ ?_
      · rintro i x' H2 hx' ⟨s2, hD2⟩
        obtain ⟨dv, hdv, hDv⟩ := DpAll.at ha hx'
        have hm : dv ∈ ds := List.dropLast_subset _ (List.mem_of_getElem? hdv)
        obtain ⟨w0, es, rfl⟩ := hs dv hm
        obtain ⟨t0, v0, vs0, rfl, hS0, h0, _⟩ := tupD (Dp.same s2 hDv)
        cases strD h0
        refine ⟨rfl, _, rfl, t0, _, 0, _, rfl, rfl, hS0, at0, rfl, _, hD2, ?_, fun b o e => ?_, ?_⟩
        · rw [List.length_map, List.length_map, List.length_take]
          omega
        · by_cases hb : b = D
          · rw [hb, hD] at e; cases e
          · exact (upd_ne hb).trans (s2 _ _ e)
        · rw [upd_same, List.take_add_one, hdv, List.map_append, List.map_append]
          have ed : (!decide (V.str w0 = V.str "forever")) = !foreverD (.tuple (.str w0 :: es)) := by
            show _ = !decide (w0 = "forever")
            by_cases h : w0 = "forever"
            · rw [decide_eq_true h, h, decide_eq_true rfl]
            · rw [decide_eq_false h, decide_eq_false fun z => h (V.str.inj z)]
          rw [ed]
          rfl
      · rintro H2 ⟨s2, hD2⟩
        rw [hlx, List.take_length] at hD2
        refine ⟨D, _, rfl, SqL.of hD2, ?_⟩
        have ea : (List.map (fun d => !foreverD d) ds.dropLast).all id = goesD ds := by
          unfold goesD
          rw [List.all_map]
          rfl
        rw [ea]
        exact q H2 (s1.trans s2)
def spApr (K : PySem.W.Frag) : Sp := fun vs H Q _ => ∃ x ds, vs = [x] ∧ Dp K H x (.tuple ds) ∧ NiceAll 390000 59 ds ∧ ∀ H', Same H H' → Q (.bl (decide (howF (sizeD 4) (.tuple ds) ≤ 60) && goesD ds)) H'
theorem ok_apr {f fH fG : Addr} {fd dH dG : FuncData} (F : FnP K "are_parts_of_row" sApr f fd) (T : Txt K mg) {k : Nat} (h2 : 2 ≤ k) (Hw : Def P w K mg base CX0 k "_how_many" fH dH ["parts", "depth"] (spHow K 4)) (G : Def P w K mg base CX0 1 "_goes_on_last" fG dG ["parts"] (spGoes K)) :
    FnOk P w K mg base CX0 (k + 1) f fd ["thing"] (spApr K) := by
  refine F.ok scap (fun vs H Q E h => ?_) (fun cdv A outer s H vs Q E hr h => ?_)
  · obtain ⟨x, ds, rfl, _⟩ := h
    rfl
  · obtain ⟨x, ds, rfl, hd, hna, q⟩ := h
    obtain ⟨tm, hm⟩ := T.p.most
    have hr1 : Room 1 _ := (hr.mono h2).mono (by decide)
    refine ⟨_, pss_one (ps_ret (pe_and (pe_isD T.p.isn (pv 0) (pe_bltn (by rfl) T.p.tuple bbT (by rfl)) (by rfl)) (pe_and (pe_cmpR op_le (pe_call Hw.ok hr (by rfl) Hw.g Hw.k Hw.b .nil pass0 (pa_cons (pv 0) (pa_cons pe_int pa_nil))) (pe_gI hm (by rfl)) (nomark _)) (pe_one (pe_call G.ok hr1 (by rfl) G.g G.k G.b .nil pass0 (pa_cons (pv 0) pa_nil)))))), ?_⟩
    have e0 : start ["thing"] [x] = [some x] := rfl
    rw [e0]
    obtain ⟨_, _, hr3'⟩ := how_row (ds := ds)
    refine ⟨_, rfl, _, _, hd, (by decide +kernel : kitB "tuple" "tuple" = some true), _, rfl, iteT ?_⟩
    refine ⟨_, rfl, x, .tuple ds, rfl, hd, (nice_fit hna.tup (Nat.le_refl _) (by decide)).1, fun H3 s3 => ?_⟩
    refine ⟨_, _, rfl, rfl, _, rfl, ?_⟩
    by_cases g : howF (sizeD 4) (.tuple ds) ≤ 60
    · rw [decide_eq_true g]
      rw [decide_eq_true g, Bool.true_and] at q
      refine iteT ⟨_, rfl, x, ds, rfl, Dp.same s3 hd, Nat.le_trans (length_le_weight ds) hna.w, hr3' g, fun H4 s4 => q H4 (s3.trans s4)⟩
    · rw [decide_eq_false g]
      rw [decide_eq_false g, Bool.false_and] at q
      exact iteF (q H3 s3)
theorem ok_row {f fH fA DFL : Addr} {fd dH dA dV : FuncData} (F : FunD K "__init__" "Row.__init__" (defArgs sIni) (defBody sIni) (defScope sIni) [.ref DFL] [] f fd) (T : Txt K mg) {k : Nat} (h2 : 2 ≤ k) (Hw : Def P w K mg base CX0 k "_how_many" fH dH ["parts", "depth"] (spHow K 4)) (Ap : Def P w K mg base CX0 (k + 1) "are_parts_of_row" fA dA ["thing"] (spApr K)) (Z : Rm P w K mg base dV) :
    FnOk P w K mg base (L2.CX P w) (k + 2) f fd ["self", "parts"] (spRow K) := by
  refine F.ok scin (fun vs H Q E h => ?_) (fun cdv A outer s H vs Q E hr h => ?_)
  · obtain ⟨p, dx, x, d, rfl, _⟩ := h
    rfl
  · obtain ⟨p, dx, x, d, rfl, hp, hx, hn, h⟩ := h
    have hr1 : Room (k + 1) _ := hr
    have hrk : Room k _ := hr1.mono (by omega)
    have hr2 : Room 2 _ := hrk.mono h2
    refine ⟨_, pss_cons (ps_if (pt_not (pt_val (pe_callB call_isiT (by rfl) T.p.isn boot_isinstance (pa_cons (pv 1) (pa_cons (pe_tup (pa_cons (pe_bltn (v := .ty "list") (by rfl) T.list bbL (by rfl)) (pa_cons (pe_bltn (v := .ty "tuple") (by rfl) T.p.tuple bbT (by rfl)) pa_nil))) pa_nil))))) (pss_one (ps_raise rfl (takes_of rfl rfl rfl rfl) (pmk_new sV T.x T.nv T.iC T.tI Z.ok hr2 Z.b T.gB (pv 1) (by rfl)))) pss_nil)
      (C8.pss_cut (ps_set (i := 2) scin.nd rfl (Or.inl rfl) (pe_callTy call_tuple_of (by rfl) T.p.tuple bbT (pa_cons (pv 1) pa_nil)))
      (pss_cons (ps_if (pt_not (pt_val (pe_call Ap.ok hr1 (by rfl) Ap.g Ap.k Ap.b .nil pass0 (pa_cons (pv 2) pa_nil)))) (pss_one (ps_raise rfl (takes_of rfl rfl rfl rfl) (pmk_new sV T.x T.nv T.iC T.tI Z.ok hr2 Z.b T.gB (pv 1) (by rfl)))) pss_nil)
      (pss_cons (ps_fld (pv 0) (pv 2) rfl) (pss_one (ps_fld (pv 0) (pe_call Hw.ok hrk (by rfl) Hw.g Hw.k Hw.b .nil pass0 (pa_cons (pv 2) (pa_cons pe_int pa_nil))) rfl))))), ?_⟩
    have e0 : start ["self", "parts", "kept"] [V.ref p, x] = [some (.ref p), some x, none] := rfl
    rw [e0]
    have bad : rowE d = false → Bad (CB K) x H E := fun e => by
      rcases h with ⟨_, b⟩ | ⟨z, _⟩
      · exact b
      · rw [e] at z; cases z
    refine go_seq ?_
    refine ⟨_, rfl, by show 2 ≤ sizeLine; decide, fun tp ntp => ⟨x, tp, [.ty "list", .ty "tuple"], .type (tyN d), [.type "list", .type "tuple"], seqD d, rfl, upd_same, .cons (.ty _) (.cons (.ty _) .nil), tyE (hx.same (same_upd ntp)), seq_any d, _, rfl, ?_⟩⟩
    have s1 := same_upd (o := .tup [.ty "list", .ty "tuple"]) ntp
    generalize upd H tp (.tup [.ty "list", .ty "tuple"]) = H1 at s1 ⊢
    cases hsq : seqD d with
    | false =>
      have hb := bad (by cases d <;> first | rfl | cases hsq)
      exact iteT ⟨_, rfl, fun dd H' s' n hx => hb dd H' (s1.trans s') hx⟩
    | true =>
      refine iteF (go_next ?_)
      refine ⟨fun σ' H' => ∃ y ds, σ' = [some (.ref p), some x, some y] ∧ Same H H' ∧ Dp K H' y (.tuple ds) ∧ (d = .tuple ds ∨ d = .list ds), ?_, ?_⟩
      · rcases hx with hx | ⟨rfl, _⟩
        · have hx1 := Dp.same s1 hx
          cases hx1 with
          | @lst a xs ds hS ha => exact ⟨_, rfl, a, xs, rfl, .inl ⟨hS, fun l nl => ⟨_, ds, rfl, s1.trans (same_upd nl), .tup (SqT.of upd_same) (DpAll.same (same_upd nl) ha), .inr rfl⟩⟩⟩
          | @tup a xs ds hS ha => exact ⟨_, rfl, a, xs, rfl, .inr ⟨hS, _, ds, rfl, s1, .tup hS ha, .inl rfl⟩⟩
          | _ => cases hsq
        · cases hsq
      rintro σ2 H2 ⟨y, ds, rfl, s2, hy, hd⟩
      have hna : NiceAll 390000 59 ds := by
        rcases hn with rfl | hn
        · cases hsq
        · rcases hd with rfl | rfl
          · exact Nice.untup (D := 59) hn
          · exact Nice.unlst (D := 59) hn
      have er : rowE d = rowL ds := by rcases hd with rfl | rfl <;> rfl
      rw [er] at bad h
      obtain ⟨hr1', hr2', hr3'⟩ := how_row (ds := ds)
      walk_at "nx"
      refine ⟨_, rfl, y, ds, rfl, hy, hna, fun H3 s3 => ⟨_, rfl, ?_⟩⟩
      cases hg : (decide (howF (sizeD 4) (.tuple ds) ≤ 60) && goesD ds) with
      | false =>
        have hb := bad (by
          cases hq : rowL ds with
          | false => rfl
          | true =>
            obtain ⟨_, z2, z3⟩ := hr1' hq
            rw [decide_eq_true (by omega), z3] at hg
            cases hg)
        exact iteT ⟨_, rfl, fun dd H' s' n hx => hb dd H' (s2.trans (s3.trans s')) hx⟩
      | true =>
        obtain ⟨g1, g2⟩ := Bool.and_eq_true_iff.mp hg
        have g1 := of_decide_eq_true g1
        have hrow : rowL ds = true := by
          cases hq : rowL ds with
          | true => rfl
          | false =>
            rcases hr2' hq with z | z
            · omega
            · rw [g2] at z; cases z
        rw [hrow] at h
        rcases h with ⟨z, _⟩ | ⟨_, q⟩
        · cases z
        have s23 := s2.trans s3
        have hy3 := Dp.same s3 hy
        have hp3 := s23 _ _ hp
        refine iteF ?_
        refine ⟨_, rfl, _, rfl, p, CR K, dx, [], rfl, hp3, T.cl, T.nP, by show 0 < 1000; decide, ?_⟩
        have k1 : Ki H3 (upd H3 p (.ins (CR K) dx (putF "parts" y []))) := fun b o e ne => by
          have hb : b ≠ p := fun z => by rw [z, hp3] at e; exact ne _ _ _ (Option.some.inj e).symm
          exact (upd_ne hb).trans e
        refine ⟨_, rfl, y, .tuple ds, rfl, Dp.ki k1 hy3, (nice_fit hna.tup (Nat.le_refl _) (by decide)).1, fun H4 s4 => ?_⟩
        have hp4 := s4 _ _ (upd_same (H := H3) (a := p) (o := .ins (CR K) dx (putF "parts" y [])))
        refine ⟨_, rfl, p, CR K, dx, _, rfl, hp4, T.cl, T.nS, by show 1 < 1000; decide, ?_⟩
        have k2 : Ki H4 (upd H4 p (.ins (CR K) dx (putF "size" (.int (howF (sizeD 4) (.tuple ds))) (putF "parts" y [])))) := fun b o e ne => by
          have hb : b ≠ p := fun z => by rw [z, hp4] at e; exact ne _ _ _ (Option.some.inj e).symm
          exact (upd_ne hb).trans e
        refine q _ y ds (fun b o e hb => ?_) hd ⟨dx, ?_⟩ (Dp.ki k2 (Dp.same s4 (Dp.ki k1 hy3)))
        · exact (upd_ne hb).trans (s4 _ _ ((upd_ne hb).trans (s23 _ _ e)))
        · rw [← (hr1' hrow).1]
          exact upd_same
end
end L2.L02

set_option maxHeartbeats 1000000
namespace L2.L02
open PySem PySem.Spec PyProof.Rows LR L2.Lr
local macro_rules | `(tactic| walk_at "nx") => `(tactic| dsimp only [gName, tNext, tSeq, tAsg, List.set_cons_zero, List.set_cons_succ])
/-- how a row is made -/
structure MkR (P : Program) (w : World) (K : PySem.W.Frag) (mg : Str → Option Value) (base : Heap) (k : Nat) (fI : Addr) (dI : FuncData) : Prop where
  m : Mk K (CR K) fI
  ok : FnOk P w K mg base (L2.CX P w) k fI dI ["self", "parts"] (spRow K)
  b : Binds K dI ["self", "parts"] []
theorem make_same {H H' : Hp} {x dx : Addr} {u1 u2 : HO} (hx : H x = none) (hdx : H dx = none) (keep : ∀ b o, upd (upd H dx u1) x u2 b = some o → b ≠ x → H' b = some o) : Same H H' := fun b o hb =>
  have n1 : b ≠ x := ne_of_none hb hx
  have n2 : b ≠ dx := ne_of_none hb hdx
  keep b o ((upd_ne n1).trans ((upd_ne n2).trans hb)) n1
theorem laid_same {H : Hp} {x dx : Addr} {u1 u2 : HO} (hx : H x = none) (hdx : H dx = none) : Same H (upd (upd H dx u1) x u2) := fun b o hb => (upd_ne (ne_of_none hb hx)).trans ((upd_ne (ne_of_none hb hdx)).trans hb)
def IsRow (K : PySem.W.Frag) (H : Hp) (v : V) (d : PyData) : Prop := ∃ p y ds, v = .ref p ∧ (d = .tuple ds ∨ d = .list ds) ∧ RowAt K H p y (manyS (manyP 4) (.tuple ds)) ∧ Dp K H y (.tuple ds)
def IsRef (K : PySem.W.Frag) (H : Hp) (v : V) (d : PyData) : Prop := (rowE d = false ∧ ∃ l, v = .ref l ∧ H l = some (.lst [.str d.shown, .bl true])) ∨ (rowE d = true ∧ IsRow K H v d)
def spRef (K : PySem.W.Frag) : Sp := fun vs H Q _ => ∃ x d, vs = [x] ∧ DpE K H x d ∧ NiceE d ∧ ∀ v H', Same H H' → IsRef K H' v d → Q v H'
theorem passQ {X : Cx} {σ : St} {E : XK} : PassesAt CX0 X σ E := fun _ _ _ _ _ _ h => h.elim
theorem shown_ok {K : PySem.W.Frag} {H : Hp} {x : V} {d : PyData} (hn : NiceE d) (h : Dp K H x d) : d.showable = true ∧ d.shown.length ≤ sizeLine ∧ d.depth ≤ 60 := by
  rcases hn with rfl | hn
  · cases h
  · obtain ⟨h1, h2⟩ := hn.shown (Nat.le_refl _)
    exact ⟨h1, h2, hn.dp⟩
section
variable {P : Program} {w : World} {K : PySem.W.Frag} {mg : Str → Option Value} {base : Heap}
theorem ol_ref {k : Nat} {f fI : Addr} {fd dI : FuncData} (F : FnP K "_law_refused" sRef f fd) (T : Txt K mg) (M : MkR P w K mg base k fI dI) : FnQ P w K mg base CX0 (k + 2) f fd ["_law_thing"] (spRef K) := by
  refine FnQ.of F scre (fun vs H Q E h => ?_) (fun cdv A outer s H vs Q E qA hr h => ?_)
  · obtain ⟨x, d, rfl, _⟩ := h
    rfl
  · obtain ⟨x, d, rfl, hx, hn, q⟩ := h
    have hu := hr.units
    refine ⟨_, pss_cons (ps_set (i := 1) scre.nd rfl (Or.inl rfl) pe_non)
      (pss_cons (ps_try_as (i := 2) rfl rfl scre.nd rfl rfl ⟨rfl, by decide, .inl T.gB⟩ takes0 (fun W pn xe tk _ => pss_one (ps_set (i := 1) scre.nd rfl (Or.inl rfl) (pe_makeS M.m M.ok hr (by rfl) T.gR M.b (fun σ => passAt tk σ) (pa_cons (pv 0) pa_nil))))
        (fun a oe cls d pn hz hf => pss_one (ps_set (i := 1) scre.nd rfl (Or.inl rfl) (pe_lst (pa_cons (pe_callB (call_reprE K rfl qA hu) (by rfl) T.repr boot_repr (pa_cons (pe_xv hz hf (pv 2)) pa_nil)) (pa_cons (pe_isS (c := .ty "ValueError") (cv := .type "ValueError") hz hf (pe_bltn (by rfl) T.vE bbV (by rfl)) (fun u h => h) T.p.isn (pv 2) (by rfl)) pa_nil))))))
      (pss_one (ps_ret (pv 1)))), ?_⟩
    have e0 : start ["_law_thing", "_law_kept", "e"] [x] = [some x, none, none] := rfl
    rw [e0]
    refine go_seq (go_asg ?_)
    refine go_next ?_
    refine ⟨_, rfl, fun p dx hp hdx hne => ?_⟩
    have sl : Same H (upd (upd H dx (.own p)) p (.ins (CR K) dx [])) := laid_same hp hdx
    refine ⟨p, dx, x, d, rfl, upd_same, hx.same sl, hn, ?_⟩
    cases hq : rowE d with
    | false =>
      refine .inl ⟨rfl, fun dd H' s' hd => ⟨true, T.e, fun _ a na => ?_, fun z => nomatch z⟩⟩
      have s2 := sl.trans s'
      refine ⟨_, rfl, rfl, CB K, dd, _, _, xV, rfl, rfl, T.x, T.nv, hd, rfl, x, d, rfl, hx.same s2, fun h => shown_ok hn h, ?_⟩
      refine ⟨_, rfl, rfl, CB K, xV, true, rfl, fun dx u => by cases u; exact ⟨_, hd⟩, T.x, T.kB, by show 2 ≤ sizeLine; decide, fun l nl => ?_⟩
      exact ⟨_, rfl, q _ _ (s2.trans (same_upd nl)) (.inl ⟨hq, l, rfl, upd_same⟩)⟩
    | true =>
      refine .inr ⟨rfl, fun H' y ds keep hd hR hy => ⟨rfl, ?_⟩⟩
      exact ⟨_, rfl, q _ H' (make_same hp hdx keep) (.inr ⟨hq, p, y, ds, rfl, hd, hR, hy⟩)⟩
end
def tTupOf (K : PySem.W.Frag) (te : TE) : TE := fun σ H Q => te σ H fun x H1 => ∃ d ds, Dp K H1 x d ∧ (d = .tuple ds ∨ d = .list ds) ∧ ∀ y H2, Same H1 H2 → Dp K H2 y (.tuple ds) → Q y H2
theorem pe_tupOf {X : Cx} {e : Expr} {te : TE} {p pos : Pos} (hm : X.mg "tuple" = none) (ha : PE X e te) (hg : Gl X "tuple" := by rfl) (he : starEach (e :: []) X.env = (false, eval e X.env) :: starEach [] X.env := by rfl) (hpl : (backTo pos (starEach [] X.env)).any (·.1) = false := by rfl) : PE X (.Call (.Name "tuple" p) [e] [] pos) (tTupOf X.K te) :=
  pe_weak (pe_callTy (e := e) (es := []) call_tuple_of hg hm bbT (pa_cons (pe_up ha) pa_nil he) (by decide) (by decide) he hpl) fun σ H Q q => ⟨_, q, fun x H1 ⟨d, ds, hx, hd, q1⟩ => by
    rcases hd with rfl | rfl
    · cases hx with
      | @tup a xs _ hS ha => exact ⟨a, xs, rfl, .inr ⟨hS, q1 _ _ (Same.refl _) (.tup hS ha)⟩⟩
    · cases hx with
      | @lst a xs _ hS ha => exact ⟨a, xs, rfl, .inl ⟨hS, fun l nl => q1 _ _ (same_upd nl) (.tup (SqT.of upd_same) (DpAll.same (same_upd nl) ha))⟩⟩⟩
section
variable {P : Program} {w : World} {K : PySem.W.Frag} {mg : Str → Option Value} {base : Heap}
def spRight (K : PySem.W.Frag) : Sp := fun vs H Q _ => ∃ x d, vs = [x] ∧ DpE K H x d ∧ NiceE d ∧ ∀ H', Same H H' → Q (.bl true) H'
theorem ol_right {k : Nat} {f fR fG fM : Addr} {fd dR dG dM : FuncData} (F : FnP K "_law_right" sRight f fd) (T : Txt K mg) (h13 : 13 ≤ k) (R : FnQ P w K mg base CX0 k fR dR ["_law_thing"] (spRef K)) (gR : mg "_law_refused" = some (.ref fR)) (kR : PySem.W.keepIn K (.ref fR) = true) (bR : Binds K dR ["_law_thing"] [])
    (G : Def P w K mg base CX0 13 "_law_are_parts" fG dG ["_law_parts_here", "_law_deep_here", "_law_is_outer"] (spLParts K 4)) (M : Def P w K mg base CX0 13 "_law_many" fM dM ["_law_parts_here"] (spMany K 4)) : FnQ P w K mg base CX0 (k + 1) f fd ["_law_thing"] (spRight K) := by
  refine FnQ.of F scri (fun vs H Q E h => ?_) (fun cdv A outer s H vs Q E qA hr h => ?_)
  · obtain ⟨x, d, rfl, _⟩ := h
    rfl
  · obtain ⟨x, d, rfl, hx, hn, q⟩ := h
    have hu := hr.units
    have hr13 : Room 13 _ := hr.mono h13
    refine ⟨_, PSs.nox (C8.pss_cut (ps_set (i := 1) scri.nd rfl (Or.inl rfl) (pe_callQ (E := fun _ => E0) R qA hr (by rfl) gR kR bR .nil (fun σ => passQ) (pa_cons (pv 0) pa_nil)))
      (C8.pss_cut (ps_set (i := 2) scri.nd rfl (Or.inl rfl) (pe_and (pe_callB call_isiT (by rfl) T.p.isn boot_isinstance (pa_cons (pv 0) (pa_cons (pe_tup (pa_cons (pe_bltn (v := .ty "list") (by rfl) T.list bbL (by rfl)) (pa_cons (pe_bltn (v := .ty "tuple") (by rfl) T.p.tuple bbT (by rfl)) pa_nil))) pa_nil)))
          (pe_and (pe_call G.ok hr13 (by rfl) G.g G.k G.b .nil pass0 (pa_cons (pe_tupOf T.p.tuple (pv 0) (by rfl)) (pa_cons pe_int (pa_cons pe_bl pa_nil))))
          (pe_one (pe_cmpR op_le (pe_call M.ok hr13 (by rfl) M.g M.k M.b .nil pass0 (pa_cons (pv 0) pa_nil)) pe_int (nomark _))))))
      (pss_cons (ps_if (pt_not (pt_val (pv 2))) (pss_one (ps_ret (pe_cmpR (op_eqS hu) (pv 1) (pe_lst (pa_cons (pe_callB (call_reprE K rfl qA hu) (by rfl) T.repr boot_repr (pa_cons (pv 0) pa_nil)) (pa_cons pe_bl pa_nil))) (nomark _)))) pss_nil)
      (pss_one (ps_ret (pe_and (pe_callB (C8.call_isC T.ic) (by rfl) T.p.isn boot_isinstance (pa_cons (pv 1) (pa_cons (pe_glob (v := .ref (CR K)) (by rfl) T.gR rfl) pa_nil))) (pe_and (pe_cmpR (op_eqD hu) (pe_fld (pv 1) rfl) (pe_tupOf T.p.tuple (pv 0) (by rfl)) (nomark _)) (pe_one (pe_cmpR op_eq (pe_fld (pv 1) rfl) (pe_call M.ok hr13 (by rfl) M.g M.k M.b .nil pass0 (pa_cons (pv 0) pa_nil)) (nomark _)))))))))), ?_⟩
    have e0 : start ["_law_thing", "_law_found", "_law_is_row"] [x] = [some x, none, none] := rfl
    rw [e0]
    refine ⟨fun σ' H' => ∃ v, σ' = [some x, some v, none] ∧ Same H H' ∧ IsRef K H' v d, ?_, ?_⟩
    · exact ⟨_, rfl, x, d, rfl, hx, hn, fun v H' s' hv => ⟨v, rfl, s', hv⟩⟩
    rintro σ1 H1 ⟨v, rfl, s1, hv⟩
    have isDp : ∀ {H2 : Hp} {ds : List PyData}, Same H H2 → (d = .tuple ds ∨ d = .list ds) → Dp K H2 x d := fun {H2 ds} s2 hd => by
      rcases hx with hx | ⟨rfl, _⟩
      · exact Dp.same s2 hx
      · rcases hd with z | z <;> cases z
    have nice : ∀ {ds : List PyData}, (d = .tuple ds ∨ d = .list ds) → NiceAll 390000 59 ds := fun {ds} hd => by
      rcases hn with rfl | hn
      · rcases hd with z | z <;> cases z
      · rcases hd with rfl | rfl
        · exact Nice.untup (D := 59) hn
        · exact Nice.unlst (D := 59) hn
    have many : ∀ {ds : List PyData}, (d = .tuple ds ∨ d = .list ds) → partsF (partL 4) true (.tuple ds) = true → ds.length ≤ sizeLine ∧ sOkAll ds ∧ (∀ e, e ∈ ds → okM 4 e) ∧ manyS (manyP 4) d = manyS (manyP 4) (.tuple ds) := fun {ds} hd hp => by
      have hna := nice hd
      refine ⟨by have := hna.w; have := length_le_weight ds; rw [sizeLine_eq]; omega, sOkAll_of (Bool.and_eq_true_iff.mp hna.f).1 (by have := hna.w; rw [sizeLine_eq]; omega), fun e he => ?_, ?_⟩
      · obtain ⟨j, hj⟩ := List.mem_iff_getElem?.mp he
        exact ⟨_, allAt_iff.mp hp j e hj⟩
      · rcases hd with rfl | rfl <;> rfl
    refine ⟨fun σ' H' => σ' = [some x, some v, some (.bl (rowE d))] ∧ Same H1 H', ?_, ?_⟩
    · refine ⟨_, rfl, by show 2 ≤ sizeLine; decide, fun tp ntp => ⟨x, tp, [.ty "list", .ty "tuple"], .type (tyN d), [.type "list", .type "tuple"], seqD d, rfl, upd_same, .cons (.ty _) (.cons (.ty _) .nil), tyE (hx.same (s1.trans (same_upd ntp))), seq_any d, _, rfl, ?_⟩⟩
      have s2 := same_upd (o := .tup [.ty "list", .ty "tuple"]) ntp
      generalize upd H1 tp (.tup [.ty "list", .ty "tuple"]) = H2 at s2 ⊢
      cases hsq : seqD d with
      | false =>
        have hb : rowE d = false := by cases d <;> first | rfl | cases hsq
        refine iteF ?_
        rw [hb]
        exact ⟨rfl, s2⟩
      | true =>
        obtain ⟨ds, hd⟩ : ∃ ds, d = .tuple ds ∨ d = .list ds := by
          cases d with
          | tuple ds => exact ⟨ds, .inl rfl⟩
          | list ds => exact ⟨ds, .inr rfl⟩
          | _ => cases hsq
        have er : rowE d = rowL ds := by rcases hd with rfl | rfl <;> rfl
        refine iteT ?_
        refine ⟨_, rfl, d, ds, isDp (s1.trans s2) hd, hd, fun y H3 s3 hy => ?_⟩
        refine ⟨y, .tuple ds, true, rfl, hy, nice_fit (nice hd).tup (Nat.le_refl _) (by decide), fun H4 s4 => ⟨_, rfl, ?_⟩⟩
        rw [er]
        unfold rowL
        cases hp : partsF (partL 4) true (.tuple ds) with
        | false => exact iteF ⟨rfl, s2.trans (s3.trans s4)⟩
        | true =>
          refine iteT ?_
          obtain ⟨m1, m2, m3, m4⟩ := many hd hp
          refine ⟨_, rfl, x, d, ds, rfl, hd, isDp (s1.trans (s2.trans (s3.trans s4))) hd, m1, m2, m3, fun H5 s5 => ⟨_, _, rfl, rfl, ?_⟩⟩
          rw [m4]
          exact ⟨rfl, s2.trans (s3.trans (s4.trans s5))⟩
    rintro σ2 H2 ⟨rfl, s2⟩
    have s12 := s1.trans s2
    rcases hv with ⟨hr, l, rfl, hl⟩ | ⟨hr, p, y, ds, rfl, hd, ⟨dx, hR⟩, hy⟩
    · rw [hr]
      refine ⟨_, rfl, _, rfl, iteT ?_⟩
      refine ⟨_, rfl, _, rfl, x, d, rfl, hx.same s12, fun h => shown_ok hn h, by show 2 ≤ sizeLine; decide, fun l2 n2 => ?_⟩
      have s3 := same_upd (o := .lst [.str d.shown, .bl true]) n2
      exact ⟨l, l2, _, rfl, rfl, SqL.of (s3 _ _ (s2 _ _ hl)), SqL.of upd_same, fun v hv => by
        rcases List.mem_cons.mp hv with rfl | hv
        · exact .inl rfl
        · rw [List.mem_singleton.mp hv]; exact .inl rfl, q _ (s12.trans s3)⟩
    · have er : rowE d = rowL ds := by rcases hd with rfl | rfl <;> rfl
      have hp : partsF (partL 4) true (.tuple ds) = true := by
        rw [er] at hr
        exact (Bool.and_eq_true_iff.mp hr).1
      rw [hr]
      refine ⟨_, rfl, _, rfl, iteF (go_next ?_)⟩
      have hR2 := s2 _ _ hR
      refine ⟨_, rfl, p, dx, _, rfl, hR2, _, rfl, iteT ?_⟩
      refine ⟨_, rfl, p, CR K, dx, _, _, rfl, hR2, T.cl, T.nP, flds_p _ _, _, rfl, d, ds, isDp s12 hd, hd, fun y2 H3 s3 hy2 => ?_⟩
      have hsh := (nice hd).tup.shaped (by decide)
      refine ⟨_, _, Dp.same (s2.trans s3) hy, hy2, hsh, hsh, _, rfl, ?_⟩
      rw [SeqAt.eqv_refl _ (SeqAt.canLay_of_shaped hsh)]
      refine iteT ?_
      have hR3 := s3 _ _ hR2
      refine ⟨_, rfl, p, CR K, dx, _, _, rfl, hR3, T.cl, T.nS, flds_s _ _, _, rfl, x, d, ds, rfl, hd, isDp (s12.trans s3) hd, (many hd hp).1, (many hd hp).2.1, (many hd hp).2.2.1, fun H4 s4 => ⟨rfl, ?_⟩⟩
      rw [(many hd hp).2.2.2]
      show Q (.bl (decide (V.int _ = V.int _))) H4
      rw [decide_eq_true rfl]
      exact q _ (s12.trans (s3.trans s4))
end
end L2.L02

set_option maxHeartbeats 2000000
namespace L2.L02
open PySem PySem.Spec PyProof.Rows LR L2.Lr
local macro_rules | `(tactic| walk_at "nx") => `(tactic| dsimp only [gName, tNext, tSeq, tAsg, List.set_cons_zero, List.set_cons_succ])
abbrev NL : List Str := ["_law_script", "_law_fixed", "_law_thing", "_law_k", "_law_pool_here", "_law_parts_here", "_law_given", "_law_row", "_law_turn"]
theorem scla : FnScope NL ["_law_script"] (defScope sLaw) := ⟨rfl, rfl, rfl, by decide +kernel, rfl, by decide +kernel, by decide +kernel⟩
/-! ### displays with an empty dict among them -/
inductive EAll (K : PySem.W.Frag) (H : Hp) : List V → List PyData → Prop where
  | nil : EAll K H [] []
  | cons {v : V} {vs : List V} {d : PyData} {ds : List PyData} : DpE K H v d → EAll K H vs ds → EAll K H (v :: vs) (d :: ds)
theorem EAll.same {K : PySem.W.Frag} {H H' : Hp} (s : Same H H') : ∀ {vs : List V} {ds : List PyData}, EAll K H vs ds → EAll K H' vs ds
  | _, _, .nil => .nil
  | _, _, .cons h a => .cons (h.same s) (EAll.same s a)
theorem EAll.length {K : PySem.W.Frag} {H : Hp} : ∀ {vs : List V} {ds : List PyData}, EAll K H vs ds → vs.length = ds.length
  | _, _, .nil => rfl
  | _, _, .cons _ a => by simp [EAll.length a]
theorem EAll.append {K : PySem.W.Frag} {H : Hp} : ∀ {vs us : List V} {ds es : List PyData}, EAll K H vs ds → EAll K H us es → EAll K H (vs ++ us) (ds ++ es)
  | _, _, _, _, .nil, b => b
  | _, _, _, _, .cons h a, b => .cons h (EAll.append a b)
theorem EAll.at {K : PySem.W.Frag} {H : Hp} : ∀ {vs : List V} {ds : List PyData} {i : Nat} {v : V}, EAll K H vs ds → vs[i]? = some v → ∃ d, ds[i]? = some d ∧ DpE K H v d
  | _, _, _, _, .nil, e => by simp at e
  | _, _, 0, _, .cons h a, e => by simp at e; subst e; exact ⟨_, rfl, h⟩
  | _ :: vs, _ :: ds, i + 1, v, .cons h a, e => EAll.at (vs := vs) (ds := ds) (i := i) a (by simpa using e)
def tE (K : PySem.W.Frag) (d : PyData) : TE := fun _ H Q => ∀ v H', Same H H' → DpE K H' v d → Q v H'
def tEs (K : PySem.W.Frag) (ds : List PyData) : TA := fun _ H Q => ∀ vs H', Same H H' → EAll K H' vs ds → Q vs H'
def tEL (K : PySem.W.Frag) (ds : List PyData) : TE := fun _ H Q => ∀ p vs H', Same H H' → H' p = some (.lst vs) → EAll K H' vs ds → Q (.ref p) H'
theorem DpAll.rep {K : PySem.W.Frag} {H : Hp} {xs : List V} {ds : List PyData} (h : DpAll K H xs ds) : ∀ n : Nat, DpAll K H (List.replicate n xs).flatten (List.replicate n ds).flatten
  | 0 => .nil
  | n + 1 => by
    rw [List.replicate_succ, List.replicate_succ, List.flatten_cons, List.flatten_cons]
    exact DpAll.append h (DpAll.rep h n)
section
variable {X : Cx} {e : Expr} {es : List Expr} {d : PyData} {ds : List PyData} {p pos : Pos}
theorem pe_ofD (h : PE X e (tDat X.K d)) : PE X e (tE X.K d) := pe_weak h fun σ H Q q v H' s hd => q v H' s (.inl hd)
theorem pe_emptyD : PE X (.Dict [] [] pos) (tE X.K (.dict [])) := pe_weak pe_dnewK fun σ H Q q p np => q _ _ (same_upd np) (.inr ⟨rfl, p, rfl, upd_same⟩)
theorem pE_nil : PA X [] (tEs X.K []) := pa_weak pa_nil fun σ H Q q => q [] H (Same.refl H) .nil
theorem pE_cons (h1 : PE X e (tE X.K d)) (h2 : PA X es (tEs X.K ds)) (hs : starEach (e :: es) X.env = (false, eval e X.env) :: starEach es X.env := by rfl) : PA X (e :: es) (tEs X.K (d :: ds)) :=
  pa_weak (pa_cons h1 h2 hs) fun σ H Q q v H1 s1 h1 vs H2 s2 h2 => q (v :: vs) H2 (s1.trans s2) (.cons (h1.same s2) h2)
theorem pE_lst {x1} (h : PA X es (tEs X.K ds)) (hz : ds.length ≤ sizeLine := by show _ ≤ _; decide) : PE X (.List es x1) (tEL X.K ds) :=
  pe_weak (pe_lst h) fun σ H Q q vs H1 s1 h1 => ⟨by rw [EAll.length h1]; exact hz, fun p np => q p vs _ (s1.trans (same_upd np)) upd_same (h1.same (same_upd np))⟩
theorem pd_rep {n : Int} {k} (h : PE X e (tDat X.K (.tuple ds))) (hd : ds ≠ []) (h2 : 2 ≤ n) (h3 : n ≤ 1000) (hl : ds.length ≤ 1000) : PE X (.BinOp e .Mult (.Constant (.int n) k p) pos) (tDat X.K (.tuple (List.replicate n.toNat ds).flatten)) :=
  pe_weak (pe_op op_repT h pe_int) fun σ H Q q v H1 s1 hv => by
    cases hv with
    | @tup a xs _ hS ha =>
      have hlx := DpAll.length ha
      exact ⟨a, n, xs, rfl, rfl, hS, fun z => hd (by rw [z] at hlx; exact List.length_eq_zero_iff.mp hlx.symm), h2, h3, by rw [hlx]; exact hl, fun t nt => q _ _ (s1.trans (same_upd nt)) (.tup (SqT.of upd_same) (DpAll.same (same_upd nt) (DpAll.rep ha _)))⟩
end
def w1 : PyData := .tuple [.str "work", .int 1]
def rep1 (n : Int) : PyData := .tuple (List.replicate n.toNat [w1]).flatten
def fix1 : List PyData := [.none, .int 5, .str "row", .dict [], .list [], .tuple [], .tuple [deepD 4], .tuple [deepD 5], rep1 60, rep1 61]
def fix2 : List PyData := [.tuple [.tuple [.str "loop", .tuple [.int 0, .int 2], rep1 59]], .tuple [.tuple [.str "loop", .tuple [.int 0, .int 2], rep1 60]]]
def fix3 : List PyData := [.tuple [.tuple [.str "forever", .tuple [deepD 3]]], .tuple [.tuple [.str "forever", .tuple [deepD 4]]], .list [.tuple [.str "work", .int 5]]]
def fix4 : List PyData := [.tuple [.tuple [.str "forever", .tuple []], .tuple [.str "work", .int 1]], .tuple [.tuple [.str "loop", .tuple [.int 0, .int 1], .tuple [.tuple [.str "forever", .tuple []]]]]]
def niceB (d : PyData) : Bool := match d with
  | .dict [] => true
  | d => fine d && (decide (d.weight ≤ 390000) && decide (d.depth ≤ 60))
theorem fix_ok : ((fix1 ++ fix2 ++ fix3 ++ fix4).all niceB) = true := by decide +kernel
theorem niceB_ok {d : PyData} (h : niceB d = true) : NiceE d := by
  unfold niceB at h
  split at h
  · exact .inl rfl
  · obtain ⟨h1, h⟩ := Bool.and_eq_true_iff.mp h
    obtain ⟨h2, h3⟩ := Bool.and_eq_true_iff.mp h
    exact .inr ⟨h1, of_decide_eq_true h2, of_decide_eq_true h3⟩
end L2.L02

set_option maxHeartbeats 2000000
namespace L2.L02
open PySem PySem.Spec PyProof.Rows LR L2.Lr
local macro_rules | `(tactic| walk_at "nx") => `(tactic| dsimp only [gName, tNext, tSeq, tAsg, List.set_cons_zero, List.set_cons_succ])
/-- what the law calls -/
structure Defs (P : Program) (w : World) (K : PySem.W.Frag) (mg : Str → Option Value) (base : Heap) (fP fG fM fB fD fR fT fI DFL : Addr) (xP xG xM xB xD xR xT xI : FuncData) : Prop where
  dP : Def P w K mg base CX0 1 "_law_pool" fP xP ["_law_script", "_law_k"] (spPool K)
  dG : Def P w K mg base CX0 7 "_law_parts" fG xG ["_law_pool_here", "_law_many_here"] (spParts K)
  dM : Def P w K mg base CX0 13 "_law_many" fM xM ["_law_parts_here"] (spMany K 4)
  dB : Def P w K mg base CX0 7 "_law_bent" fB xB ["_law_pool_here", "_law_parts_here"] (spBent K 4)
  dD : Def P w K mg base CX0 1 "_law_deep" fD xD ["_law_many_here"] (spDeep K)
  R : FnQ P w K mg base CX0 18 fR xR ["_law_thing"] (spRef K)
  gR : mg "_law_refused" = some (.ref fR)
  kR : PySem.W.keepIn K (.ref fR) = true
  bR : Binds K xR ["_law_thing"] []
  T : FnQ P w K mg base CX0 19 fT xT ["_law_thing"] (spRight K)
  gT : mg "_law_right" = some (.ref fT)
  kT : PySem.W.keepIn K (.ref fT) = true
  bT : Binds K xT ["_law_thing"] []
  m : MkR P w K mg base 16 fI xI
  b0 : ∃ ds, Vals [.ref DFL] ds ∧ Binds K xI ["self", "parts"] ds
  dfl : ∀ H : Hp, Dp K H (.ref DFL) (.tuple [])
def spLaw (K : PySem.W.Frag) : Sp := fun vs H Q _ => ∃ (a : Addr) (ns : List Int), vs = [.ref a] ∧ SqL K H a (ns.map V.int) ∧ ns.length ≤ 63 ∧ ∀ H', Q (.bl true) H'
theorem pd_deep {X : Cx} {f : Addr} {fd : FuncData} {i : Int} {k} {p p2 pos : Pos} {n : Nat} (F : FnOk X.prog X.w X.K X.mg X.base CX0 1 f fd ["_law_many_here"] (spDeep X.K)) (hr : Room 1 X.A) (hm : X.mg "_law_deep" = some (.ref f)) (hk : PySem.W.keepIn X.K (.ref f) = true) (hb : Binds X.K fd ["_law_many_here"] []) (hi : i = n) (hn : n ≤ 1000) (hg : Gl X "_law_deep" := by rfl)
    (he : starEach (.Constant (.int i) k p2 :: []) X.env = (false, eval (.Constant (.int i) k p2) X.env) :: starEach [] X.env := by rfl) (hpl : (backTo pos (starEach [] X.env)).any (·.1) = false := by rfl) : PE X (.Call (.Name "_law_deep" p) [.Constant (.int i) k p2] [] pos) (tDat X.K (deepD n)) :=
  pe_weak (pe_call F hr hg hm hk hb .nil pass0 (pa_cons pe_int pa_nil he) (by decide) he hpl) fun σ H Q q => ⟨i, rfl, by omega, by omega, fun v H' s hv => q v H' s (by rw [hi] at hv; exact hv)⟩
theorem pool_ne {H : Hp} {p t : Addr} (h : PoolAt H p) (n : H t = none) : t ≠ p := fun z => by
  obtain ⟨c, s, hp, _⟩ := h
  rw [z, hp] at n
  cases n
/-- the comprehension of bent parts so far -/
structure Bents (K : PySem.W.Frag) (H : Hp) (p D : Addr) (ds : List PyData) (i : Nat) : Prop where
  po : PoolAt H p
  ls : ∃ vs es, H D = some (.lst vs) ∧ DpAll K (Off D H) vs es ∧ es.length = i ∧ npAll es = true ∧ ∀ e ∈ es, ∃ cs, e = .tuple cs ∧ Bent ds cs
theorem off_upd {D : Addr} {H : Hp} {o : HO} : Off D (upd H D o) = Off D H := by
  funext b
  unfold Off
  by_cases h : b = D
  · rw [if_pos h, if_pos h]
  · rw [if_neg h, if_neg h]
    exact upd_ne h
theorem Bents.more {K : PySem.W.Frag} {H H1 : Hp} {p D : Addr} {ds cs : List PyData} {i : Nat} {v : V} (h : Bents K H p D ds i) (ne : D ≠ p) (a : Adv p H H1) (hp1 : PoolAt H1 p) (hv : Dp K (Off D H1) v (.tuple cs)) (hb : Bent ds cs) :
    ∃ acc, H1 D = some (.lst acc) ∧ acc.length = i ∧ Bents K (upd H1 D (.lst (acc ++ [v]))) p D ds (i + 1) := by
  obtain ⟨vs, es, hD, hes, hl, hnp, hg⟩ := h.ls
  refine ⟨vs, a _ _ hD ne, by rw [DpAll.length hes, hl], ?_, vs ++ [v], es ++ [.tuple cs], upd_same, ?_, by rw [List.length_append, hl]; rfl, ?_, fun e he => ?_⟩
  · obtain ⟨c, s, hp, q⟩ := hp1
    exact ⟨c, s, (upd_ne ne.symm).trans hp, q⟩
  · rw [off_upd]
    exact DpAll.append (DpAll.adv (PoolAt.off h.po ne) (Off.adv a) hes hnp) (.cons hv .nil)
  · rw [npAll_append, hnp]
    simp only [npAll, npD, hb.np, Bool.and_self]
  · rcases List.mem_append.mp he with h | h
    · exact hg e h
    · rw [List.mem_singleton.mp h]; exact ⟨cs, rfl, hb⟩
section
variable {P : Program} {w : World} {K : PySem.W.Frag} {mg : Str → Option Value} {base : Heap}
theorem ok_law {f : Addr} {fd : FuncData} {fP fG fM fB fD fR fT fI DFL : Addr} {xP xG xM xB xD xR xT xI : FuncData} (F : FnP K "law" sLaw f fd) (T : Txt K mg) (D : Defs P w K mg base fP fG fM fB fD fR fT fI DFL xP xG xM xB xD xR xT xI) : FnQ P w K mg base CX0 20 f fd ["_law_script"] (spLaw K) := by
  refine FnQ.of F scla (fun vs H Q E h => ?_) (fun cdv A outer s H vs Q E qA hr h => ?_)
  · obtain ⟨a, ns, rfl, _⟩ := h
    rfl
  · obtain ⟨a, ns, rfl, hS, hlen, q⟩ := h
    have hr1 : Room 1 _ := hr.mono (by decide)
    have hr7 : Room 7 _ := hr.mono (by decide)
    have hr13 : Room 13 _ := hr.mono (by decide)
    have hr16 : Room 17 _ := hr.mono (by decide)
    have hr17 : Room 18 _ := hr.mono (by decide)
    have hu := hr.units
    obtain ⟨dv0, vd0, bd0⟩ := D.b0
    refine ⟨_, PSs.nox (pss_cons (ps_set (i := 1) scla.nd rfl (Or.inl rfl) (pE_lst (pE_cons (pe_ofD pd_non) (pE_cons (pe_ofD pd_int) (pE_cons (pe_ofD pd_str) (pE_cons pe_emptyD (pE_cons (pe_ofD (pd_lst pd_nil)) (pE_cons (pe_ofD (pd_tup pd_nil)) (pE_cons (pe_ofD (pd_tup (pd_cons (pd_deep (n := 4) D.dD.ok hr1 D.dD.g D.dD.k D.dD.b rfl (by decide) (by rfl)) pd_nil))) (pE_cons (pe_ofD (pd_tup (pd_cons (pd_deep (n := 5) D.dD.ok hr1 D.dD.g D.dD.k D.dD.b rfl (by decide) (by rfl)) pd_nil)))
          (pE_cons (pe_ofD (pd_rep (ds := [w1]) (pd_tup (pd_cons (pd_tup (pd_cons pd_str (pd_cons pd_int pd_nil))) pd_nil)) (by simp) (by decide) (by decide) (by decide))) (pE_cons (pe_ofD (pd_rep (ds := [w1]) (pd_tup (pd_cons (pd_tup (pd_cons pd_str (pd_cons pd_int pd_nil))) pd_nil)) (by simp) (by decide) (by decide) (by decide))) pE_nil))))))))))))
      (pss_cons (ps_set (i := 1) scla.nd rfl (Or.inl rfl) (pe_op op_cat (pv 1) (pE_lst (pE_cons (pe_ofD (pd_tup (pd_cons (pd_tup (pd_cons pd_str (pd_cons (pd_tup (pd_cons pd_int (pd_cons pd_int pd_nil))) (pd_cons (pd_rep (ds := [w1]) (pd_tup (pd_cons (pd_tup (pd_cons pd_str (pd_cons pd_int pd_nil))) pd_nil)) (by simp) (by decide) (by decide) (by decide)) pd_nil)))) pd_nil))) (pE_cons (pe_ofD (pd_tup (pd_cons (pd_tup (pd_cons pd_str (pd_cons (pd_tup (pd_cons pd_int (pd_cons pd_int pd_nil))) (pd_cons (pd_rep (ds := [w1]) (pd_tup (pd_cons (pd_tup (pd_cons pd_str (pd_cons pd_int pd_nil))) pd_nil)) (by simp) (by decide) (by decide) (by decide)) pd_nil)))) pd_nil))) pE_nil)))))
      (pss_cons (ps_set (i := 1) scla.nd rfl (Or.inl rfl) (pe_op op_cat (pv 1) (pE_lst (pE_cons (pe_ofD (pd_tup (pd_cons (pd_tup (pd_cons pd_str (pd_cons (pd_tup (pd_cons (pd_deep (n := 3) D.dD.ok hr1 D.dD.g D.dD.k D.dD.b rfl (by decide) (by rfl)) pd_nil)) pd_nil))) pd_nil))) (pE_cons (pe_ofD (pd_tup (pd_cons (pd_tup (pd_cons pd_str (pd_cons (pd_tup (pd_cons (pd_deep (n := 4) D.dD.ok hr1 D.dD.g D.dD.k D.dD.b rfl (by decide) (by rfl)) pd_nil)) pd_nil))) pd_nil))) (pE_cons (pe_ofD (pd_lst (pd_cons (pd_tup (pd_cons pd_str (pd_cons pd_int pd_nil))) pd_nil))) pE_nil))))))
      (pss_cons (ps_set (i := 1) scla.nd rfl (Or.inl rfl) (pe_op op_cat (pv 1) (pE_lst (pE_cons (pe_ofD (pd_tup (pd_cons (pd_tup (pd_cons pd_str (pd_cons (pd_tup pd_nil) pd_nil))) (pd_cons (pd_tup (pd_cons pd_str (pd_cons pd_int pd_nil))) pd_nil)))) (pE_cons (pe_ofD (pd_tup (pd_cons (pd_tup (pd_cons pd_str (pd_cons (pd_tup (pd_cons pd_int (pd_cons pd_int pd_nil))) (pd_cons (pd_tup (pd_cons (pd_tup (pd_cons pd_str (pd_cons (pd_tup pd_nil) pd_nil))) pd_nil)) pd_nil)))) pd_nil))) pE_nil)))))
      (C8.pss_cut (ps_for PassesOwn.never rfl (pi_list (pv 1)) (pg_name (i := 2) scla.nd rfl (Or.inl rfl)) (pss_one (ps_if (pt_not (pt_val (pe_callQ (E := fun _ => E0) D.T qA hr (by rfl) D.gT D.kT D.bT .nil (fun σ => passQ) (pa_cons (pv 2) pa_nil)))) (pss_one (ps_ret pe_bl)) pss_nil)))
      (pss_cons (ps_for PassesOwn.never rfl (pi_range1 (by rfl) T.range (pa_cons (pe_callB (call_max2 rfl) (by rfl) T.max boot_max (pa_cons pe_int (pa_cons (pe_callB (call_min2 rfl) (by rfl) T.min boot_min (pa_cons (pe_callB call_len (by rfl) T.p.len boot_len (pa_cons (pv 0) pa_nil)) (pa_cons pe_int pa_nil))) pa_nil))) pa_nil)) (pg_name (i := 3) scla.nd rfl (Or.inl rfl))
        (pss_cons (ps_set (i := 4) scla.nd rfl (Or.inr rfl) (pe_call D.dP.ok hr1 (by rfl) D.dP.g D.dP.k D.dP.b .nil pass0 (pa_cons (pv 0) (pa_cons (pv 3) pa_nil))))
        (pss_cons (ps_set (i := 5) scla.nd rfl (Or.inr rfl) (pe_call D.dG.ok hr7 (by rfl) D.dG.g D.dG.k D.dG.b .nil pass0 (pa_cons (pv 4) (pa_cons pe_int pa_nil))))
        (C8.pss_cut (ps_set (i := 6) scla.nd rfl (Or.inl rfl) (pe_callTy call_list_of (by rfl) T.list bbL (pa_cons (pv 5) pa_nil)))
        (C8.pss_cut (ps_set (i := 7) scla.nd rfl (Or.inl rfl) (pe_ifExp (pt_cmpR op_le (pe_call D.dM.ok hr13 (by rfl) D.dM.g D.dM.k D.dM.b .nil pass0 (pa_cons (pv 5) pa_nil)) pe_int (nomark _)) (pe_callQ (E := fun _ => E0) D.R qA hr17 (by rfl) D.gR D.kR D.bR .nil (fun σ => passQ) (pa_cons (pv 6) pa_nil)) (pe_make0 D.m.m D.m.ok hr16 (by rfl) T.gR bd0 vd0 passL)))
        (C8.pss_cut (ps_expr (pe_bm PySem.F.plainAttrs_list PySem.F.slot_list_append PySem.F.type_list_append mt_append (pv 6) (pa_cons pe_non pa_nil)))
        (C8.pss_cut (ps_if (PW.pt (pw_and (pt_cmpR op_le (pe_call D.dM.ok hr13 (by rfl) D.dM.g D.dM.k D.dM.b .nil pass0 (pa_cons (pv 5) pa_nil)) pe_int (nomark _)) (pw_and1 (pt_cmpR (op_neD hu) (pe_fld (pv 7) rfl) (pv 5) (nomark _))))) (pss_one (ps_ret pe_bl)) pss_nil)
        (pss_one (ps_for PassesOwn.never rfl (pi_list (pe_op op_cat (pe_lst (pa_cons (pv 5) (pa_cons (pe_callTy call_list_of (by rfl) T.list bbL (pa_cons (pv 5) pa_nil)) pa_nil))) (pe_lc (own := [("_law_turn", 8)]) (g := gName 8) (tt := tYes) rfl scla.nd (pi_range1 (by rfl) T.range (pa_cons pe_int pa_nil)) (blkOk_by (N := NL) (sc := defScope sLaw) (by decide +kernel)) (fun _ _ _ _ _ => pg_name (i := 8) scla.nd rfl (Or.inl rfl)) (fun _ _ _ _ _ => pts_nil) (fun _ _ _ _ _ => pe_call D.dB.ok hr7 (by rfl) D.dB.g D.dB.k D.dB.b .nil pass0 (pa_cons (pv 4) (pa_cons (pv 5) pa_nil)))))) (pg_name (i := 2) scla.nd rfl (Or.inl rfl))
          (pss_one (ps_if (pt_not (pt_val (pe_callQ (E := fun _ => E0) D.T qA hr (by rfl) D.gT D.kT D.bT .nil (fun σ => passQ) (pa_cons (pv 2) pa_nil)))) (pss_one (ps_ret pe_bl)) pss_nil)))))))))))
      (pss_one (ps_ret pe_bl)))))))), ?_⟩
    have e0 : start NL [V.ref a] = [some (.ref a), none, none, none, none, none, none, none, none] := rfl
    rw [e0]
    have sz : sizeLine = 16777216 := sizeLine_eq
    have hrd : ∀ H', Same H H' → SqL K H' a (ns.map V.int) := fun H' s => s.seq hS
    -- the fixed ones
    intro p1 v1 H1 s1 h1 d1
    walk_at "nx"
    refine ⟨_, rfl, fun p2 v2 H2 s2 h2 d2 => ⟨p1, p2, v1, v2, rfl, rfl, s2 _ _ h1, h2, by rw [EAll.length d1, EAll.length d2]; show 12 ≤ sizeLine; decide, fun r2 n2 => ?_⟩⟩
    have t2 := same_upd (o := .lst (v1 ++ v2)) n2
    have d12 := EAll.same t2 (EAll.append (EAll.same s2 d1) d2)
    have g2 : (upd H2 r2 (.lst (v1 ++ v2))) r2 = some (.lst (v1 ++ v2)) := upd_same
    have z2 := s1.trans (s2.trans t2)
    generalize upd H2 r2 (.lst (v1 ++ v2)) = G2 at d12 t2 g2 z2 ⊢
    walk_at "nx"
    refine ⟨_, rfl, fun p3 v3 H3 s3 h3 d3 => ⟨r2, p3, v1 ++ v2, v3, rfl, rfl, s3 _ _ g2, h3, by rw [EAll.length d12, EAll.length d3]; show 15 ≤ sizeLine; decide, fun r3 n3 => ?_⟩⟩
    have t3 := same_upd (o := .lst (v1 ++ v2 ++ v3)) n3
    have d13 := EAll.same t3 (EAll.append (EAll.same s3 d12) d3)
    have g3 : (upd H3 r3 (.lst (v1 ++ v2 ++ v3))) r3 = some (.lst (v1 ++ v2 ++ v3)) := upd_same
    have z3 := z2.trans (s3.trans t3)
    generalize upd H3 r3 (.lst (v1 ++ v2 ++ v3)) = G3 at d13 t3 g3 z3 ⊢
    walk_at "nx"
    refine ⟨_, rfl, fun p4 v4 H4 s4 h4 d4 => ⟨r3, p4, v1 ++ v2 ++ v3, v4, rfl, rfl, s4 _ _ g3, h4, by rw [EAll.length d13, EAll.length d4]; show 17 ≤ sizeLine; decide, fun r4 n4 => ?_⟩⟩
    have t4 := same_upd (o := .lst (v1 ++ v2 ++ v3 ++ v4)) n4
    have d14 := EAll.same t4 (EAll.append (EAll.same s4 d13) d4)
    have g4 : (upd H4 r4 (.lst (v1 ++ v2 ++ v3 ++ v4))) r4 = some (.lst (v1 ++ v2 ++ v3 ++ v4)) := upd_same
    have z4 := z3.trans (s4.trans t4)
    generalize upd H4 r4 (.lst (v1 ++ v2 ++ v3 ++ v4)) = G at d14 t4 g4 z4 ⊢
    clear d1 d2 d3 d4 d12 d13 s1 s2 s3 s4 t2 t3 t4 z2 z3 h1 h2 h3 h4 g2 g3 n2 n3 n4
    walk_at "nx"
    refine ⟨fun σ' H' => (∃ o1 o2, σ' = [some (.ref a), o1, o2, none, none, none, none, none, none]) ∧ Same H H', ?_, ?_⟩
    · refine ⟨_, rfl, r4, rfl, ⟨_, SqL.of g4⟩, for_listD (K := K) (a := r4) (xs := v1 ++ v2 ++ v3 ++ v4) (fun i σ H' => Same G H' ∧ ∃ o2, σ = [some (.ref a), some (.ref r4), o2, none, none, none, none, none, none]) ⟨Same.refl G, _, rfl⟩ (fun i σ H' _ h => SqL.of (h.1 _ _ g4)) ?_ ?_⟩
      · rintro D1 i v σ H5 hrt hD1 - - hi ⟨s5, o2, rfl⟩
        obtain ⟨d, hd, hv⟩ := EAll.at d14 hi
        have hne := niceB_ok (List.all_eq_true.mp fix_ok d (List.mem_of_getElem? hd))
        walk_at "nx"
        refine ⟨_, rfl, v, d, rfl, hv.same s5, hne, fun H6 s6 => ⟨_, rfl, ?_⟩⟩
        exact iteF (hD1 _ _ ⟨s5.trans s6, _, rfl⟩)
      · rintro σ H5 ⟨s5, o2, rfl⟩
        exact ⟨⟨_, _, rfl⟩, z4.trans s5⟩
    clear d14 g4 z4
    rintro σ0 H0 ⟨⟨o1, o2, rfl⟩, s0⟩
    refine ⟨_, rfl, _, (ns.map V.int).length, rfl, Or.inl ⟨_, hrd H0 s0, rfl⟩, _, _, rfl, _, _, rfl, _, rfl, ?_, ?_, ?_⟩
    · split <;> split <;> omega
    · split <;> split <;> omega
    refine for_rangeD (lo := 0) (fun i σ H' => Same H0 H' ∧ ∃ o1 o2 o3 o4 o5 o6 o7 o8, σ = [some (.ref a), o1, o2, o3, o4, o5, o6, o7, o8]) ⟨Same.refl H0, _, _, none, none, none, none, none, none, rfl⟩ ?_ (fun σ H' _ => q H')
    rintro D1 k σ H1 - hD1 - - hk ⟨s1, o1, o2, o3, o4, o5, o6, o7, o8, rfl⟩
    have hk6 : k < 6 := by
      revert hk
      split <;> split <;> omega
    -- the pool, the parts
    refine ⟨_, rfl, _, rfl, a, ns, 0 + (k : Int), rfl, hrd H1 (s0.trans s1), by omega, by omega, by omega, fun pp H2 np s2 hp2 => ?_⟩
    walk_at "nx"
    refine ⟨_, rfl, pp, 5, rfl, hp2, by decide, by decide, fun v5 ds H3 a3 hp3 hv5 PT => ?_⟩
    walk_at "nx"
    have s3 : Same H1 H3 := fun b o e => a3 _ _ (s2 _ _ e) (ne_of_none e np)
    have nds : noL (.tuple ds) = true := by simp only [noL]; exact PT.nol
    have n1 : Nice 390000 60 (.tuple ds) := PT.nice.tup.mono (by decide) (by decide)
    have n2 : Nice 390000 60 (.list ds) := PT.nice.lst.mono (by decide) (by decide)
    have hlds := PT.len
    have hwds : PyData.weightAll ds ≤ 140000 := PT.nice.w
    have hsO : sOkAll ds := sOkAll_of (Bool.and_eq_true_iff.mp PT.nice.f).1 (by omega)
    have hlds2 : ds.length ≤ sizeLine := by omega
    clear a3 s2 hp2
    -- the list of them
    refine ⟨fun σ' H' => ∃ lg xs, σ' = [some (.ref a), o1, o2, some (.int (0 + (k : Int))), some (.ref pp), some v5, some (.ref lg), o7, o8] ∧ Same H1 H' ∧ PoolAt H' pp ∧ Dp K H' v5 (.tuple ds) ∧ Dp K H' (.ref lg) (.list ds) ∧ H1 lg = none ∧ H' lg = some (.lst xs) ∧ xs.length ≤ 5 ∧ lg ≠ pp, ?_, ?_⟩
    · cases id hv5 with
      | @tup p5 ys _ h5 ha5 =>
        refine ⟨_, rfl, p5, ys, rfl, .inr h5, fun l nl => ?_⟩
        have sl := same_upd (o := .lst ys) nl
        exact ⟨l, ys, rfl, s3.trans sl, hp3.same sl, Dp.same sl hv5, .lst (SqL.of upd_same) (DpAll.same sl ha5), none_of s3 nl, upd_same, by rw [DpAll.length ha5]; exact hlds, pool_ne hp3 nl⟩
    clear hp3 hv5 s3
    rintro σ1 H4 ⟨lg, xs, rfl, s4, hp4, hv4, hlg, nlg, hxs, hlx, lne⟩
    -- the row
    refine ⟨fun σ' H' => ∃ pr y m ds', σ' = [some (.ref a), o1, o2, some (.int (0 + (k : Int))), some (.ref pp), some v5, some (.ref lg), some (.ref pr), o8] ∧ Same H4 H' ∧ RowAt K H' pr y m ∧ Dp K H' y (.tuple ds') ∧ noLAll ds' = true ∧ (manyS (manyP 4) (.tuple ds) ≤ 60 → ds' = ds), ?_, ?_⟩
    · refine ⟨_, rfl, v5, .tuple ds, ds, rfl, .inl rfl, hv4, hlds2, hsO, PT.many, fun H5 s5 => ⟨_, _, rfl, rfl, _, rfl, ite_dec (fun hle => ?_) fun hgt => ?_⟩⟩
      · have hrow : rowE (.list ds) = true := by
          show (partsF (partL 4) true (.tuple ds) && decide (manyS (manyP 4) (.tuple ds) ≤ 60)) = true
          rw [PT.ok, decide_eq_true hle]
          rfl
        refine ⟨_, rfl, .ref lg, .list ds, rfl, .inl (Dp.same s5 hlg), .inr n2, fun v H6 s6 hv => ?_⟩
        rcases hv with ⟨z, _⟩ | ⟨_, pr, y, ds', rfl, hd, hR, hy⟩
        · rw [hrow] at z; cases z
        · have e : ds' = ds := by
            rcases hd with z | z
            · cases z
            · exact (PyData.list.inj z).symm
          subst e
          exact ⟨pr, y, _, ds', rfl, s5.trans s6, hR, hy, PT.nol, fun _ => rfl⟩
      · intro x dx hx hdx hne
        refine ⟨x, dx, .ref DFL, .tuple [], rfl, upd_same, .inl (D.dfl _), .inr ⟨by decide +kernel, by decide +kernel, by decide +kernel⟩, .inr ⟨by decide +kernel, fun H' y ds' keep hd hR hy => ⟨rfl, ?_⟩⟩⟩
        have e : ds' = [] := by
          rcases hd with z | z
          · exact (PyData.tuple.inj z).symm
          · cases z
        subst e
        exact ⟨x, y, _, [], rfl, s5.trans (make_same hx hdx keep), hR, hy, rfl, fun h => absurd h hgt⟩
    rintro σ2 H5 ⟨pr, y, m, ds', rfl, s5, hR, hy, nl', hds'⟩
    have hp5 := hp4.same s5
    have hv5 := Dp.same s5 hv4
    have hxs5 := s5 _ _ hxs
    -- the list handed in is changed
    refine ⟨fun σ' H' => σ' = [some (.ref a), o1, o2, some (.int (0 + (k : Int))), some (.ref pp), some v5, some (.ref lg), some (.ref pr), o8] ∧ Same H1 H' ∧ PoolAt H' pp ∧ Dp K H' v5 (.tuple ds) ∧ RowAt K H' pr y m ∧ Dp K H' y (.tuple ds'), ?_, ?_⟩
    · refine ⟨_, rfl, .inl ⟨rfl, xs, SqL.of hxs5⟩, lg, xs, .non, rfl, rfl, hxs5, by omega, ?_⟩
      have kt : Kt H5 (upd H5 lg (.lst (xs ++ [.non]))) := Kt.upd hxs5
      obtain ⟨c, s', hpl, hq⟩ := hp5
      obtain ⟨dx, hR5⟩ := hR
      refine ⟨rfl, fun b o e => (upd_ne fun z => ?_).trans (s5 _ _ (s4 _ _ e)), ⟨c, s', (upd_ne lne.symm).trans hpl, hq⟩, Dp.kt kt hv5 nds, ⟨dx, kt _ _ hR5 fun _ z => by cases z⟩, Dp.kt kt hy (by simp only [noL]; exact nl')⟩
      rw [z, nlg] at e
      cases e
    clear hp4 hv4 hlg hxs s4 s5 hp5 hv5 hxs5 hR hy
    rintro σ3 H6 ⟨rfl, s6, hp6, hv6, ⟨dx, hR⟩, hy⟩
    -- the row keeps its parts
    refine ⟨fun σ' H' => σ' = [some (.ref a), o1, o2, some (.int (0 + (k : Int))), some (.ref pp), some v5, some (.ref lg), some (.ref pr), o8] ∧ Same H6 H', ?_, ?_⟩
    · refine ⟨_, rfl, v5, .tuple ds, ds, rfl, .inl rfl, hv6, hlds2, hsO, PT.many, fun H7 s7 => ⟨_, _, rfl, rfl, _, rfl, ite_dec (fun hle => ?_) fun _ => ⟨rfl, s7⟩⟩⟩
      have e := hds' hle
      subst e
      have hsh := Nice.shaped n1 (by decide)
      refine ⟨_, rfl, pr, CR K, dx, _, _, rfl, s7 _ _ hR, T.cl, T.nP, flds_p _ _, _, rfl, _, _, Dp.same s7 hy, Dp.same s7 hv6, hsh, hsh, _, rfl, ?_⟩
      rw [SeqAt.eqv_refl _ (SeqAt.canLay_of_shaped hsh)]
      exact iteF ⟨rfl, s7⟩
    rintro σ4 H7 ⟨rfl, s7⟩
    have s17 := s6.trans s7
    have hp7 := hp6.same s7
    have hv7 := Dp.same s7 hv6
    clear s6 s7 hp6 hv6 hR hy
    -- the bent ones
    cases id hv7 with
    | @tup p5 ys _ h5 ha5 =>
      refine ⟨_, rfl, _, rfl, p5, ys, rfl, .inr h5, fun l0 n0 => ⟨by show 2 ≤ sizeLine; decide, fun L1 nL1 => ?_⟩⟩
      have t0 := same_upd (o := .lst ys) n0
      have t1 := same_upd (o := .lst [.ref p5, .ref l0]) nL1
      have hl0 : (upd (upd H7 l0 (.lst ys)) L1 (.lst [.ref p5, .ref l0])) l0 = some (.lst ys) := t1 _ _ upd_same
      have hL1 : (upd (upd H7 l0 (.lst ys)) L1 (.lst [.ref p5, .ref l0])) L1 = some (.lst [.ref p5, .ref l0]) := upd_same
      have ne0 : l0 ≠ pp := pool_ne hp7 n0
      have ne1 : L1 ≠ pp := pool_ne (hp7.same t0) nL1
      have sG := s17.trans (t0.trans t1)
      have hpG := hp7.same (t0.trans t1)
      have hvG := Dp.same (t0.trans t1) hv7
      have haG := DpAll.same (t0.trans t1) ha5
      generalize upd (upd H7 l0 (.lst ys)) L1 (.lst [.ref p5, .ref l0]) = G7 at hl0 hL1 sG hpG hvG haG ⊢
      clear t0 t1 n0 nL1 hp7 hv7 h5 ha5 s17
      refine ⟨8, rfl, by decide, by decide, fun Dc hDc => ?_⟩
      have dne : Dc ≠ pp := pool_ne hpG hDc
      have sD := same_upd (o := .lst []) hDc
      refine lc_range (n := 8) (lo := 0) (fun i H' => Adv pp G7 H' ∧ Bents K H' pp Dc ds i) ⟨Same.adv sD Adv.refl, hpG.same sD, [], [], upd_same, .nil, rfl, rfl, fun e z => nomatch z⟩ ?_ ?_
      · rintro i H8 hi ⟨a8, bs⟩
        obtain ⟨vs8, es8, hD8, _⟩ := id bs.ls
        have hv8 : Dp K H8 (.ref p5) (.tuple ds) := Dp.kt (Adv.kt hpG a8) hvG nds
        refine ⟨rfl, _, rfl, _, rfl, pp, Dc, .ref p5, ds, rfl, bs.po, by rw [hD8]; exact (fun z => nomatch z), dne, Dp.kt (off_kt hD8) hv8 nds, ⟨PT.nice.f, PT.nol⟩, by omega, PT.many, fun v cs H9 a9 hp9 hv hb => ?_⟩
        obtain ⟨acc, b1, b2, b3⟩ := bs.more dne a9 hp9 hv hb
        refine ⟨acc, b1, by rw [b2, sz]; omega, fun b o e ne => ?_, b3⟩
        by_cases hb' : b = Dc
        · rw [hb', hDc] at e; cases e
        · exact (upd_ne hb').trans (a9 _ _ (a8 _ _ e ne) ne)
      · rintro H8 ⟨a8, bs⟩
        obtain ⟨vs8, es8, hD8, he8, hl8, _, hg8⟩ := bs.ls
        have hlv := DpAll.length he8
        refine ⟨L1, Dc, _, vs8, rfl, rfl, a8 _ _ hL1 ne1, hD8, by rw [hlv, hl8, sz]; show 2 + 8 ≤ 16777216; decide, fun L nL => ⟨L, rfl, ⟨_, SqL.of upd_same⟩, ?_⟩⟩
        have tL := same_upd (o := .lst ([V.ref p5, .ref l0] ++ vs8)) nL
        have hL := upd_same (H := H8) (a := L) (o := .lst ([V.ref p5, .ref l0] ++ vs8))
        have k8 := Adv.kt hpG a8
        have dAll : DpAll K (upd H8 L (.lst ([V.ref p5, .ref l0] ++ vs8))) ([V.ref p5, .ref l0] ++ vs8) ([.tuple ds, .list ds] ++ es8) :=
          DpAll.append (.cons (Dp.same tL (Dp.kt k8 hvG nds)) (.cons (.lst (SqL.of (tL _ _ (a8 _ _ hl0 ne0))) (DpAll.same tL (DpAll.kt k8 haG PT.nol))) .nil)) (DpAll.same tL (DpAll.same off_le he8))
        have sL : Same H1 (upd H8 L (.lst ([V.ref p5, .ref l0] ++ vs8))) := fun b o e => tL _ _ (a8 _ _ (sG _ _ e) (ne_of_none e np))
        generalize upd H8 L (.lst ([V.ref p5, .ref l0] ++ vs8)) = G9 at hL dAll sL ⊢
        refine for_listD (K := K) (a := L) (xs := [V.ref p5, .ref l0] ++ vs8) (fun i σ H' => Same G9 H' ∧ ∃ o2 o8, σ = [some (.ref a), o1, o2, some (.int (0 + (k : Int))), some (.ref pp), some (.ref p5), some (.ref lg), some (.ref pr), o8]) ⟨Same.refl G9, _, _, rfl⟩ (fun i σ H' _ h => SqL.of (h.1 _ _ hL)) ?_ ?_
        · rintro D2 i v σ H10 hrt hD2 - - hi ⟨s10, o2, o8, rfl⟩
          obtain ⟨d, hd, hv⟩ := DpAll.at dAll hi
          have hne : NiceE d := by
            refine .inr ?_
            rcases List.mem_append.mp (List.mem_of_getElem? hd) with h | h
            · rcases List.mem_cons.mp h with rfl | h
              · exact n1
              · rw [List.mem_singleton.mp h]; exact n2
            · obtain ⟨cs, rfl, b⟩ := hg8 d h
              have bw := b.w
              have bd := b.dp
              have := PT.nice.dp
              exact (NiceAll.mk (W := 390000) (D := 59) b.f (by omega) (by omega)).tup
          walk_at "nx"
          refine ⟨_, rfl, v, d, rfl, .inl (Dp.same s10 hv), hne, fun H11 s11 => ⟨_, rfl, ?_⟩⟩
          exact iteF (hD2 _ _ ⟨s10.trans s11, _, _, rfl⟩)
        · rintro σ H10 ⟨s10, o2, o8, rfl⟩
          exact hD1 _ _ ⟨s1.trans (sL.trans s10), _, _, _, _, _, _, _, _, rfl⟩
end
end L2.L02

set_option maxHeartbeats 0
namespace L2.L02
open PySem PySem.Spec PyProof.Rows LR L2.Lr
def insB (K : PySem.W.Frag) : Bool := He.eqO (PySem.W.findIn K (.ref (CR K)) "__class__") (some (some (.builtin "object.__class__"))) && (He.eqO (PySem.W.specialIn K (.builtin "object.__class__") "__get__") (some (some (.builtin "getset_descriptor.__get__"))) &&
  (decide (PySem.W.takesIn K (.builtin "object.__class__") = some true) && (decide (PySem.W.mroIn K (CR K) (.type "object") = some true) && decide (PySem.W.kitOne K (.ref (CR K)) (.ref (CR K)) = some true))))
def xtB (K : PySem.W.Frag) : Bool := He.eqO (PySem.W.nsIn K mainGlobals "BadRow") (some (some (.ref (CB K)))) && (xcB K xV (CB K) && (He.eqO (PySem.W.findIn K (.ref (CB K)) "value") (some none) && (He.eqO (PySem.W.findIn K (.ref (CB K)) "__init__") (some (some (.ref (fV K)))) &&
  (decide (PySem.W.typeIn K (.ref (fV K)) = some (.type "function")) && (decide (PySem.W.exmOne K (.ref (CB K)) (.ref (CB K)) = some true) && decide (PySem.W.kitOne K (.ref (CB K)) (.type "ValueError") = some true))))))
def dfA (K : PySem.W.Frag) : Addr := He.dflAt ("Row", some "__init__") 0 K
def emptyB (K : PySem.W.Frag) : Bool := match K.lookup (dfA K) with
  | some ⟨.type c, _, .seq its _, _⟩ => decide (c = "tuple") && decide (its.size = 0)
  | _ => false
def chk (K : PySem.W.Frag) : Bool := insB K && (xtB K && emptyB K)
def dF (x : Str) (st : Stmt) : He.DefD := ⟨(x, none), x, x, defArgs st, defBody st, defScope st, [], []⟩
def fn : List He.DefD := [⟨("RoomError", some "__init__"), "__init__", "RoomError.__init__", defArgs sRoom, defBody sRoom, defScope sRoom, [], []⟩, dF "is_word" sWord, dF "is_integer" sInt, dF "is_between" sBetw, dF "is_count" sCount, dF "is_round" sRound, dF "_how_many" sHow, dF "_size_of" sSize, dF "_is_head" sHead, dF "_is_single" sSing, dF "_goes_on_last" sGoes, dF "are_parts_of_row" sApr,
  ⟨("Row", some "__init__"), "__init__", "Row.__init__", defArgs sIni, defBody sIni, defScope sIni, [.adr dfA], []⟩, dF "_law_pool" sPool, dF "_law_take" sTake, dF "_law_part" sPart, dF "_law_parts" sParts, dF "_law_many" lMany, dF "_law_is_whole" lWhole, dF "_law_is_word" lWord, dF "_law_is_part" lPart, dF "_law_are_parts" lParts, dF "_law_odd" sOdd, dF "_law_bent" sBent, dF "_law_deep" lDeep, dF "_law_refused" sRef, dF "_law_right" sRight, dF "law" sLaw]
def fa : List He.Fa := [.glo "is_word", .glo "is_integer", .glo "is_between", .glo "is_count", .glo "is_round", .glo "_how_many", .glo "_size_of", .glo "_is_head", .glo "_is_single", .glo "_goes_on_last", .glo "_law_pool", .glo "_law_take", .glo "_law_part", .glo "_law_parts", .glo "_law_many", .glo "_law_is_whole", .glo "_law_is_word", .glo "_law_is_part", .glo "_law_are_parts", .glo "_law_odd", .glo "_law_bent", .glo "_law_deep", .glo "_law_refused", .glo "_law_right", .glo "law", .glo "Row",
  .cls "Row", .noat "Row" "parts", .noat "Row" "size", .mkr "Row", .int "LARGEST_NUMBER" (10 ^ 30), .int "MOST_PARTS" 60, .int "MOST_LOOPS" 4, .int "MOST_AT_ONCE" 9, .int "LONGEST_WORK" 99, .int "NO_ROW" 61, .int "LONGEST_WORD" 8, .glo "are_parts_of_row",
  .free "isinstance", .free "len", .free "int", .free "bool", .free "tuple", .free "str", .free "all", .free "list", .free "ValueError", .free "repr", .free "range", .free "sum", .free "max", .free "min"]
abbrev RR : PySem.W.OpenRow := PySem.W.OpenLaw.row PySem.Challenge.rw_leastrooms_k02_rows_judged
abbrev hk : PySem.W.Hook := hookE 5 chk fa fn
def ob (s : PySem.W.SharedT) : Bool × He.AlD := obsEG 5 chk fa fn (HandSHeadRun.getT s)
theorem ob_eq (s : PySem.W.SharedT) : ob s = hk.obs s.abs := obsEG_eq (HandSHeadRun.getT_eq s)
def looseS : List String := ["RoomError", "BadCount", "BadRow", "LONGEST_WORD", "LARGEST_NUMBER", "is_word", "is_integer", "is_between", "FIGURES", "LONGEST_TEXT", "is_count", "format_count", "count_of", "_check_count", "_written", "read_count", "figures_of", "_read_freely", "MOST_PARTS", "MOST_LOOPS", "MOST_AT_ONCE", "LONGEST_WORK", "NO_ROW", "Row", "loop", "are_parts_of_row", "check_row", "is_round", "_row_of", "_how_many", "_size_of", "_is_head", "_is_single", "_goes_on_last", "_text_of", "_text_of_part",
  "_law_pool", "_law_take", "_law_part", "_law_parts", "_law_many", "_law_is_whole", "_law_is_word", "_law_is_part", "_law_are_parts", "_law_odd", "_law_bent", "_law_deep", "_law_refused", "_law_right"]
def loose : List Str := looseS.map Str.ofString
theorem run (w : World) : HandSHeadRun.RunEq RR (PySem.W.view RR.prog [56]) hk ob 16000 loose w := by
  intro os
  kernel_rfl
end L2.L02

set_option maxHeartbeats 0
namespace L2.L02
open PySem PySem.Spec PyProof.Rows LR L2.Lr
theorem ini_binds {K : PySem.W.Frag} {f DFL : Addr} {fd : FuncData} (F : FunD K "__init__" "Row.__init__" (defArgs sIni) (defBody sIni) (defScope sIni) [.ref DFL] [] f fd) : Binds K fd ["self", "parts"] [] ∧ (∃ ds, Vals [.ref DFL] ds ∧ Binds K fd ["self", "parts"] ds) := by
  refine ⟨?_, ?_⟩
  · obtain ⟨ds, v, b⟩ := F.binds1 (ps := ["self", "parts"]) 2 1 (by simp) rfl fun T kV doc pm an cdv ct us its h1 h2 => match us, its, h1, h2 with
      | [a, b], [d], _, _ => ⟨_, rfl, rfl⟩
    cases v
    exact b
  · obtain ⟨ds, v, b⟩ := F.binds1 (ps := ["self", "parts"]) 1 0 (by simp) rfl fun T kV doc pm an cdv ct us its h1 h2 => match us, its, h1, h2 with
      | [a], [d], _, _ => ⟨_, rfl, rfl⟩
    exact ⟨ds, v, b⟩
theorem empty_ok {K : PySem.W.Frag} (c : emptyB K = true) (H : Hp) : Dp K H (.ref (dfA K)) (.tuple []) := by
  unfold emptyB at c
  cases q : K.lookup (dfA K) with
  | none => rw [q] at c; cases c
  | some o =>
    obtain ⟨oc, od, dt, osl⟩ := o
    rw [q] at c
    cases oc with
    | type nm =>
      cases dt with
      | seq its n =>
        obtain ⟨c1, c2⟩ := He.ba (show (decide (nm = "tuple") && decide (its.size = 0)) = true from c)
        have c2 := of_decide_eq_true c2
        have e : its.toList = [] := by
          apply List.eq_nil_of_length_eq_zero
          simpa using c2
        refine .tup (.inr ⟨_, its, n, q, congrArg Value.type (of_decide_eq_true c1), rfl, by rw [c2]; exact Nat.zero_le _, ?_⟩) .nil
        rw [e]
        exact .nil
      | _ => cases c
    | _ => cases dt <;> cases c
theorem facts {P : Program} {w : World} {K : PySem.W.Frag} {h : Heap} {mg : Str → Option Value} {f : Addr} (X : K.In h) (G : h.Ns mainGlobals mg) (hfa : mg ("law" : Str) = some (.ref f)) (c : chk K = true) (s : He.SaysD fa fn K) :
    ∃ fd : FuncData, (∀ (s : Shared) (v : Value), BindsTo s fd ⟨[v], []⟩ [("_law_script", v)]) ∧ ∀ base : Heap, K.In base → base.Ns mainGlobals mg → FnQ P w K mg base CX0 20 f fd ["_law_script"] (spLaw K) := by
  obtain ⟨c1, c⟩ := He.ba c
  obtain ⟨c2, c3⟩ := He.ba c
  obtain ⟨i1, i⟩ := He.ba c1
  obtain ⟨i2, i⟩ := He.ba i
  obtain ⟨i3, i⟩ := He.ba i
  obtain ⟨i4, i5⟩ := He.ba i
  obtain ⟨x1, x⟩ := He.ba c2
  obtain ⟨x2, x⟩ := He.ba x
  obtain ⟨x3, x⟩ := He.ba x
  obtain ⟨x4, x⟩ := He.ba x
  obtain ⟨x5, x⟩ := He.ba x
  obtain ⟨x6, x7⟩ := He.ba x
  have g : ∀ (i : Nat) (x : Str), fa[i]? = some (.glo x) → mg x = some (.ref (He.ga K x)) := fun i x e => He.glo_ok X G (s.fact i (f := .glo x) e)
  have cl : Cls K (CR K) := He.cls_ok (s.fact 26 (f := .cls "Row") rfl)
  have T0 : Prg mg := {
    isn := He.free_ok X G (s.fact 38)
    len := He.free_ok X G (s.fact 39)
    int := He.free_ok X G (s.fact 40)
    bool := He.free_ok X G (s.fact 41)
    tuple := He.free_ok X G (s.fact 42)
    str := He.free_ok X G (s.fact 43)
    far := He.int_ok X G (s.fact 30)
    most := He.int_ok X G (s.fact 31)
    deep := He.int_ok X G (s.fact 32)
    once := He.int_ok X G (s.fact 33)
    long := He.int_ok X G (s.fact 34)
    norow := He.int_ok X G (s.fact 35) }
  have T : Txt K mg := {
    p := T0
    gB := PySem.W.mg_of X G (He.eqO_ok x1)
    x := xcB_ok x2
    nv := He.eqO_ok x3
    iC := He.eqO_ok x4
    tI := of_decide_eq_true x5
    e := of_decide_eq_true x6
    kB := of_decide_eq_true x7
    gR := g 25 "Row" rfl
    cl := cl
    nP := He.noat_ok (s.fact 27 (f := .noat "Row" "parts") rfl)
    nS := He.noat_ok (s.fact 28 (f := .noat "Row" "size") rfl)
    ic := ⟨cl, He.eqO_ok i1, He.eqO_ok i2, of_decide_eq_true i3, of_decide_eq_true i4, of_decide_eq_true i5⟩
    all := He.free_ok X G (s.fact 44)
    list := He.free_ok X G (s.fact 45)
    vE := He.free_ok X G (s.fact 46)
    repr := He.free_ok X G (s.fact 47)
    range := He.free_ok X G (s.fact 48)
    sum := He.free_ok X G (s.fact 49)
    max := He.free_ok X G (s.fact 50)
    min := He.free_ok X G (s.fact 51) }
  have Mm : Mk K (CR K) (He.ma K (CR K) "__init__") := He.mkr_ok (s.fact 29 (f := .mkr "Row") rfl)
  obtain ⟨t2, hlw⟩ := He.int_ok X G (s.fact 36 (f := .int "LONGEST_WORD" 8) rfl)
  obtain ⟨dRoomI, FRoomI⟩ := s.def_ 0
  obtain ⟨dWord, FWord⟩ := s.def_ 1
  obtain ⟨dInt, FInt⟩ := s.def_ 2
  obtain ⟨dBetw, FBetw⟩ := s.def_ 3
  obtain ⟨dCount, FCount⟩ := s.def_ 4
  obtain ⟨dRound, FRound⟩ := s.def_ 5
  obtain ⟨dHow, FHow⟩ := s.def_ 6
  obtain ⟨dSize, FSize⟩ := s.def_ 7
  obtain ⟨dHead, FHead⟩ := s.def_ 8
  obtain ⟨dSing, FSing⟩ := s.def_ 9
  obtain ⟨dGoes, FGoes⟩ := s.def_ 10
  obtain ⟨dApr, FApr⟩ := s.def_ 11
  obtain ⟨dRowI, FRowI⟩ := s.def_ 12
  obtain ⟨dPool, FPool⟩ := s.def_ 13
  obtain ⟨dTake, FTake⟩ := s.def_ 14
  obtain ⟨dPart, FPart⟩ := s.def_ 15
  obtain ⟨dParts, FParts⟩ := s.def_ 16
  obtain ⟨dMany, FMany⟩ := s.def_ 17
  obtain ⟨dWhole, FWhole⟩ := s.def_ 18
  obtain ⟨dLWord, FLWord⟩ := s.def_ 19
  obtain ⟨dIsPart, FIsPart⟩ := s.def_ 20
  obtain ⟨dAreParts, FAreParts⟩ := s.def_ 21
  obtain ⟨dOdd, FOdd⟩ := s.def_ 22
  obtain ⟨dBent, FBent⟩ := s.def_ 23
  obtain ⟨dDeep, FDeep⟩ := s.def_ 24
  obtain ⟨dRef, FRef⟩ := s.def_ 25
  obtain ⟨dRight, FRight⟩ := s.def_ 26
  obtain ⟨fd, FLaw⟩ := s.def_ 27
  cases hfa.symm.trans (g 24 "law" rfl)
  have b := FunD.bindsA (ps := ["_law_script"]) FLaw fun _ _ _ _ _ _ us hl => match us, hl with | [_], _ => rfl
  refine ⟨fd, fun s v => b s [v] rfl, fun base _ _ => ?_⟩
  obtain ⟨bI, bI1⟩ := ini_binds (DFL := dfA K) FRowI
  have Z : Rm P w K mg base dRoomI := ⟨ok_room FRoomI, FRoomI.bindsN fun _ _ _ _ _ _ us hl => match us, hl with | [_, _], _ => rfl⟩
  have bWord : Binds K dWord ["thing"] [] := FWord.bindsN fun _ _ _ _ _ _ us hl => match us, hl with | [_], _ => rfl
  have bInt : Binds K dInt ["thing"] [] := FInt.bindsN fun _ _ _ _ _ _ us hl => match us, hl with | [_], _ => rfl
  have bBetw : Binds K dBetw ["thing", "low", "high"] [] := FBetw.bindsN fun _ _ _ _ _ _ us hl => match us, hl with | [_, _, _], _ => rfl
  have bCount : Binds K dCount ["thing"] [] := FCount.bindsN fun _ _ _ _ _ _ us hl => match us, hl with | [_], _ => rfl
  have bRound : Binds K dRound ["part"] [] := FRound.bindsN fun _ _ _ _ _ _ us hl => match us, hl with | [_], _ => rfl
  have bHow : Binds K dHow ["parts", "depth"] [] := FHow.bindsN fun _ _ _ _ _ _ us hl => match us, hl with | [_, _], _ => rfl
  have bSize : Binds K dSize ["part", "depth"] [] := FSize.bindsN fun _ _ _ _ _ _ us hl => match us, hl with | [_, _], _ => rfl
  have bHead : Binds K dHead ["part", "depth"] [] := FHead.bindsN fun _ _ _ _ _ _ us hl => match us, hl with | [_, _], _ => rfl
  have bSing : Binds K dSing ["part"] [] := FSing.bindsN fun _ _ _ _ _ _ us hl => match us, hl with | [_], _ => rfl
  have bGoes : Binds K dGoes ["parts"] [] := FGoes.bindsN fun _ _ _ _ _ _ us hl => match us, hl with | [_], _ => rfl
  have bPool : Binds K dPool ["_law_script", "_law_k"] [] := FPool.bindsN fun _ _ _ _ _ _ us hl => match us, hl with | [_, _], _ => rfl
  have bTake : Binds K dTake ["_law_pool_here", "_law_many_here"] [] := FTake.bindsN fun _ _ _ _ _ _ us hl => match us, hl with | [_, _], _ => rfl
  have bPart : Binds K dPart ["_law_pool_here", "_law_deep_here"] [] := FPart.bindsN fun _ _ _ _ _ _ us hl => match us, hl with | [_, _], _ => rfl
  have bParts : Binds K dParts ["_law_pool_here", "_law_many_here"] [] := FParts.bindsN fun _ _ _ _ _ _ us hl => match us, hl with | [_, _], _ => rfl
  have bMany : Binds K dMany ["_law_parts_here"] [] := FMany.bindsN fun _ _ _ _ _ _ us hl => match us, hl with | [_], _ => rfl
  have bWhole : Binds K dWhole ["_law_thing", "_law_least", "_law_most"] [] := FWhole.bindsN fun _ _ _ _ _ _ us hl => match us, hl with | [_, _, _], _ => rfl
  have bLWord : Binds K dLWord ["_law_thing"] [] := FLWord.bindsN fun _ _ _ _ _ _ us hl => match us, hl with | [_], _ => rfl
  have bIsPart : Binds K dIsPart ["_law_part_here", "_law_deep_here", "_law_may_end"] [] := FIsPart.bindsN fun _ _ _ _ _ _ us hl => match us, hl with | [_, _, _], _ => rfl
  have bAreParts : Binds K dAreParts ["_law_parts_here", "_law_deep_here", "_law_is_outer"] [] := FAreParts.bindsN fun _ _ _ _ _ _ us hl => match us, hl with | [_, _, _], _ => rfl
  have bOdd : Binds K dOdd ["_law_pool_here"] [] := FOdd.bindsN fun _ _ _ _ _ _ us hl => match us, hl with | [_], _ => rfl
  have bBent : Binds K dBent ["_law_pool_here", "_law_parts_here"] [] := FBent.bindsN fun _ _ _ _ _ _ us hl => match us, hl with | [_, _], _ => rfl
  have bDeep : Binds K dDeep ["_law_many_here"] [] := FDeep.bindsN fun _ _ _ _ _ _ us hl => match us, hl with | [_], _ => rfl
  have bRef : Binds K dRef ["_law_thing"] [] := FRef.bindsN fun _ _ _ _ _ _ us hl => match us, hl with | [_], _ => rfl
  have bRight : Binds K dRight ["_law_thing"] [] := FRight.bindsN fun _ _ _ _ _ _ us hl => match us, hl with | [_], _ => rfl
  have Wd : Def P w K mg base CX0 1 "is_word" _ dWord ["thing"] (spWord K) := ⟨ok_word FWord T0 hlw, g 0 _ rfl, FWord.kp, bWord⟩
  have In : Def P w K mg base CX0 1 "is_integer" _ dInt ["thing"] (spInt K) := ⟨ok_int FInt T0, g 1 _ rfl, FInt.kp, bInt⟩
  have Bw : Def P w K mg base CX0 2 "is_between" _ dBetw ["thing", "low", "high"] (spBetw K) := ⟨ok_betw FBetw In, g 2 _ rfl, FBetw.kp, bBetw⟩
  have Ct : Def P w K mg base CX0 3 "is_count" _ dCount ["thing"] (spCount K) := ⟨ok_count FCount T0 Bw, g 3 _ rfl, FCount.kp, bCount⟩
  have Rd : Def P w K mg base CX0 1 "is_round" _ dRound ["part"] (spRound K) := ⟨ok_round FRound, g 4 _ rfl, FRound.kp, bRound⟩
  have Hd : Def P w K mg base CX0 4 "_is_head" _ dHead ["part", "depth"] (spHead K) := ⟨ok_head FHead T0 Ct, g 7 _ rfl, FHead.kp, bHead⟩
  have Sg : Def P w K mg base CX0 3 "_is_single" _ dSing ["part"] (spSing K) := ⟨ok_sing FSing T0 Bw Wd, g 8 _ rfl, FSing.kp, bSing⟩
  have Gs : Def P w K mg base CX0 1 "_goes_on_last" _ dGoes ["parts"] (spGoes K) := ⟨ok_goes FGoes T, g 9 _ rfl, FGoes.kp, bGoes⟩
  have S0 : Def P w K mg base CX0 5 "_size_of" _ dSize ["part", "depth"] (spSize K 0) := ⟨ok_size0 FSize T0 (k := 4) (by decide) Rd Hd Sg, g 6 _ rfl, FSize.kp, bSize⟩
  have H0 : Def P w K mg base CX0 6 "_how_many" _ dHow ["parts", "depth"] (spHow K 0) := ⟨ok_how FHow T0 S0, g 5 _ rfl, FHow.kp, bHow⟩
  have S1 : Def P w K mg base CX0 7 "_size_of" _ dSize ["part", "depth"] (spSize K 1) := ⟨ok_sizeS FSize T0 (k := 6) (by decide) Rd Hd Sg H0, g 6 _ rfl, FSize.kp, bSize⟩
  have H1 : Def P w K mg base CX0 8 "_how_many" _ dHow ["parts", "depth"] (spHow K 1) := ⟨ok_how FHow T0 S1, g 5 _ rfl, FHow.kp, bHow⟩
  have S2 : Def P w K mg base CX0 9 "_size_of" _ dSize ["part", "depth"] (spSize K 2) := ⟨ok_sizeS FSize T0 (k := 8) (by decide) Rd Hd Sg H1, g 6 _ rfl, FSize.kp, bSize⟩
  have H2 : Def P w K mg base CX0 10 "_how_many" _ dHow ["parts", "depth"] (spHow K 2) := ⟨ok_how FHow T0 S2, g 5 _ rfl, FHow.kp, bHow⟩
  have S3 : Def P w K mg base CX0 11 "_size_of" _ dSize ["part", "depth"] (spSize K 3) := ⟨ok_sizeS FSize T0 (k := 10) (by decide) Rd Hd Sg H2, g 6 _ rfl, FSize.kp, bSize⟩
  have H3 : Def P w K mg base CX0 12 "_how_many" _ dHow ["parts", "depth"] (spHow K 3) := ⟨ok_how FHow T0 S3, g 5 _ rfl, FHow.kp, bHow⟩
  have S4 : Def P w K mg base CX0 13 "_size_of" _ dSize ["part", "depth"] (spSize K 4) := ⟨ok_sizeS FSize T0 (k := 12) (by decide) Rd Hd Sg H3, g 6 _ rfl, FSize.kp, bSize⟩
  have H4 : Def P w K mg base CX0 14 "_how_many" _ dHow ["parts", "depth"] (spHow K 4) := ⟨ok_how FHow T0 S4, g 5 _ rfl, FHow.kp, bHow⟩
  have Ap : Def P w K mg base CX0 15 "are_parts_of_row" _ dApr ["thing"] (spApr K) := ⟨ok_apr FApr T (k := 14) (by decide) H4 Gs, g 37 _ rfl, FApr.kp, FApr.bindsN fun _ _ _ _ _ _ us hl => match us, hl with | [_], _ => rfl⟩
  have MR : MkR P w K mg base 16 (He.ma K (CR K) "__init__") dRowI := ⟨Mm, ok_row (DFL := dfA K) FRowI T (k := 14) (by decide) H4 Ap Z, bI⟩
  have Pl : Def P w K mg base CX0 1 "_law_pool" _ dPool ["_law_script", "_law_k"] (spPool K) := ⟨ol_pool FPool T0.len, g 10 _ rfl, FPool.kp, bPool⟩
  have Tk : Def P w K mg base CX0 1 "_law_take" _ dTake ["_law_pool_here", "_law_many_here"] spTake := ⟨ol_take FTake, g 11 _ rfl, FTake.kp, bTake⟩
  have Wh : Def P w K mg base CX0 1 "_law_is_whole" _ dWhole ["_law_thing", "_law_least", "_law_most"] (spBetw K) := ⟨ol_whole FWhole T0, g 15 _ rfl, FWhole.kp, bWhole⟩
  have Lw : Def P w K mg base CX0 1 "_law_is_word" _ dLWord ["_law_thing"] (spWord K) := ⟨ol_word FLWord T0, g 16 _ rfl, FLWord.kp, bLWord⟩
  have P0 : Def P w K mg base CX0 2 "_law_is_part" _ dIsPart ["_law_part_here", "_law_deep_here", "_law_may_end"] (spLPart K 0) := ⟨ol_part0 FIsPart T0 (k := 1) (by decide) Lw Wh, g 17 _ rfl, FIsPart.kp, bIsPart⟩
  have A0 : Def P w K mg base CX0 3 "_law_are_parts" _ dAreParts ["_law_parts_here", "_law_deep_here", "_law_is_outer"] (spLParts K 0) := ⟨ol_parts FAreParts T0 T.range P0, g 18 _ rfl, FAreParts.kp, bAreParts⟩
  have P1 : Def P w K mg base CX0 4 "_law_is_part" _ dIsPart ["_law_part_here", "_law_deep_here", "_law_may_end"] (spLPart K 1) := ⟨ol_partS FIsPart T0 (k := 3) (by decide) Lw Wh A0, g 17 _ rfl, FIsPart.kp, bIsPart⟩
  have A1 : Def P w K mg base CX0 5 "_law_are_parts" _ dAreParts ["_law_parts_here", "_law_deep_here", "_law_is_outer"] (spLParts K 1) := ⟨ol_parts FAreParts T0 T.range P1, g 18 _ rfl, FAreParts.kp, bAreParts⟩
  have P2 : Def P w K mg base CX0 6 "_law_is_part" _ dIsPart ["_law_part_here", "_law_deep_here", "_law_may_end"] (spLPart K 2) := ⟨ol_partS FIsPart T0 (k := 5) (by decide) Lw Wh A1, g 17 _ rfl, FIsPart.kp, bIsPart⟩
  have A2 : Def P w K mg base CX0 7 "_law_are_parts" _ dAreParts ["_law_parts_here", "_law_deep_here", "_law_is_outer"] (spLParts K 2) := ⟨ol_parts FAreParts T0 T.range P2, g 18 _ rfl, FAreParts.kp, bAreParts⟩
  have P3 : Def P w K mg base CX0 8 "_law_is_part" _ dIsPart ["_law_part_here", "_law_deep_here", "_law_may_end"] (spLPart K 3) := ⟨ol_partS FIsPart T0 (k := 7) (by decide) Lw Wh A2, g 17 _ rfl, FIsPart.kp, bIsPart⟩
  have A3 : Def P w K mg base CX0 9 "_law_are_parts" _ dAreParts ["_law_parts_here", "_law_deep_here", "_law_is_outer"] (spLParts K 3) := ⟨ol_parts FAreParts T0 T.range P3, g 18 _ rfl, FAreParts.kp, bAreParts⟩
  have P4 : Def P w K mg base CX0 10 "_law_is_part" _ dIsPart ["_law_part_here", "_law_deep_here", "_law_may_end"] (spLPart K 4) := ⟨ol_partS FIsPart T0 (k := 9) (by decide) Lw Wh A3, g 17 _ rfl, FIsPart.kp, bIsPart⟩
  have A4 : Def P w K mg base CX0 11 "_law_are_parts" _ dAreParts ["_law_parts_here", "_law_deep_here", "_law_is_outer"] (spLParts K 4) := ⟨ol_parts FAreParts T0 T.range P4, g 18 _ rfl, FAreParts.kp, bAreParts⟩
  have A13 : Def P w K mg base CX0 13 "_law_are_parts" _ dAreParts ["_law_parts_here", "_law_deep_here", "_law_is_outer"] (spLParts K 4) := ⟨A4.ok.mono (by decide), g 18 _ rfl, FAreParts.kp, bAreParts⟩
  have M0 : Def P w K mg base CX0 1 "_law_many" _ dMany ["_law_parts_here"] (spMany K 0) := ⟨ol_many0 FMany T0 T.sum, g 14 _ rfl, FMany.kp, bMany⟩
  have M1 : Def P w K mg base CX0 2 "_law_many" _ dMany ["_law_parts_here"] (spMany K 1) := ⟨ol_manyS FMany T0 T.sum M0, g 14 _ rfl, FMany.kp, bMany⟩
  have M2 : Def P w K mg base CX0 3 "_law_many" _ dMany ["_law_parts_here"] (spMany K 2) := ⟨ol_manyS FMany T0 T.sum M1, g 14 _ rfl, FMany.kp, bMany⟩
  have M3 : Def P w K mg base CX0 4 "_law_many" _ dMany ["_law_parts_here"] (spMany K 3) := ⟨ol_manyS FMany T0 T.sum M2, g 14 _ rfl, FMany.kp, bMany⟩
  have M4 : Def P w K mg base CX0 5 "_law_many" _ dMany ["_law_parts_here"] (spMany K 4) := ⟨ol_manyS FMany T0 T.sum M3, g 14 _ rfl, FMany.kp, bMany⟩
  have M13 : Def P w K mg base CX0 13 "_law_many" _ dMany ["_law_parts_here"] (spMany K 4) := ⟨M4.ok.mono (by decide), g 14 _ rfl, FMany.kp, bMany⟩
  have W0 : Def P w K mg base CX0 2 "_law_part" _ dPart ["_law_pool_here", "_law_deep_here"] (spPart K 0) := ⟨ol_draw0 FPart T0 (k := 1) (by decide) Tk, g 12 _ rfl, FPart.kp, bPart⟩
  have W1 : Def P w K mg base CX0 3 "_law_part" _ dPart ["_law_pool_here", "_law_deep_here"] (spPart K 1) := ⟨ol_drawS FPart T0 (k := 2) (by decide) Tk W0 (by decide) T.range, g 12 _ rfl, FPart.kp, bPart⟩
  have W2 : Def P w K mg base CX0 4 "_law_part" _ dPart ["_law_pool_here", "_law_deep_here"] (spPart K 2) := ⟨ol_drawS FPart T0 (k := 3) (by decide) Tk W1 (by decide) T.range, g 12 _ rfl, FPart.kp, bPart⟩
  have W3 : Def P w K mg base CX0 5 "_law_part" _ dPart ["_law_pool_here", "_law_deep_here"] (spPart K 3) := ⟨ol_drawS FPart T0 (k := 4) (by decide) Tk W2 (by decide) T.range, g 12 _ rfl, FPart.kp, bPart⟩
  have W4 : Def P w K mg base CX0 6 "_law_part" _ dPart ["_law_pool_here", "_law_deep_here"] (spPart K 4) := ⟨ol_drawS FPart T0 (k := 5) (by decide) Tk W3 (by decide) T.range, g 12 _ rfl, FPart.kp, bPart⟩
  have W36 : Def P w K mg base CX0 6 "_law_part" _ dPart ["_law_pool_here", "_law_deep_here"] (spPart K 3) := ⟨W3.ok.mono (by decide), g 12 _ rfl, FPart.kp, bPart⟩
  have Ps : Def P w K mg base CX0 7 "_law_parts" _ dParts ["_law_pool_here", "_law_many_here"] (spParts K) := ⟨ol_parts0 FParts T0 T.range (k := 6) (by decide) Tk W4 W36, g 13 _ rfl, FParts.kp, bParts⟩
  have Od : Def P w K mg base CX0 2 "_law_odd" _ dOdd ["_law_pool_here"] (spOddE K) := ⟨ol_oddE FOdd Tk, g 19 _ rfl, FOdd.kp, bOdd⟩
  have B0 : Def P w K mg base CX0 3 "_law_bent" _ dBent ["_law_pool_here", "_law_parts_here"] (spBent K 0) := ⟨ol_bent0 FBent T0 (k := 2) (by decide) Tk Od, g 20 _ rfl, FBent.kp, bBent⟩
  have B1 : Def P w K mg base CX0 4 "_law_bent" _ dBent ["_law_pool_here", "_law_parts_here"] (spBent K 1) := ⟨ol_bentS FBent T0 (k := 3) (by decide) Tk Od B0, g 20 _ rfl, FBent.kp, bBent⟩
  have B2 : Def P w K mg base CX0 5 "_law_bent" _ dBent ["_law_pool_here", "_law_parts_here"] (spBent K 2) := ⟨ol_bentS FBent T0 (k := 4) (by decide) Tk Od B1, g 20 _ rfl, FBent.kp, bBent⟩
  have B3 : Def P w K mg base CX0 6 "_law_bent" _ dBent ["_law_pool_here", "_law_parts_here"] (spBent K 3) := ⟨ol_bentS FBent T0 (k := 5) (by decide) Tk Od B2, g 20 _ rfl, FBent.kp, bBent⟩
  have B4 : Def P w K mg base CX0 7 "_law_bent" _ dBent ["_law_pool_here", "_law_parts_here"] (spBent K 4) := ⟨ol_bentS FBent T0 (k := 6) (by decide) Tk Od B3, g 20 _ rfl, FBent.kp, bBent⟩
  have Dp' : Def P w K mg base CX0 1 "_law_deep" _ dDeep ["_law_many_here"] (spDeep K) := ⟨ol_deep FDeep T.range, g 21 _ rfl, FDeep.kp, bDeep⟩
  have Rf : FnQ P w K mg base CX0 18 _ dRef ["_law_thing"] (spRef K) := ol_ref (k := 16) FRef T MR
  have Rt : FnQ P w K mg base CX0 19 _ dRight ["_law_thing"] (spRight K) := ol_right (k := 18) FRight T (by decide) Rf (g 22 _ rfl) FRef.kp bRef A13 M13
  exact ok_law (DFL := dfA K) FLaw T ⟨Pl, Ps, M13, B4, Dp', Rf, g 22 _ rfl, FRef.kp, bRef, Rt, g 23 _ rfl, FRight.kp, bRight, MR, bI1, fun H => empty_ok c3 H⟩
end L2.L02
open PySem PySem.W PySem.Calls PyProof.Rows
theorem PySem.Challenge.cw_leastrooms_k02_rows_judged_holds : PySem.Challenge.rw_leastrooms_k02_rows_judged.Holds := by
  w_on; o_law
  refine HandSHeadRun.head_any (r := OpenLaw.row PySem.Challenge.rw_leastrooms_k02_rows_judged) (q := view (OpenLaw.row PySem.Challenge.rw_leastrooms_k02_rows_judged).prog [56]) (H := L2.L02.hk) (ob := L2.L02.ob) (M := 16000) (loose := L2.L02.loose) (d := HandSHeadRun.topDef (OpenLaw.row PySem.Challenge.rw_leastrooms_k02_rows_judged).prog 56) (kwd := []) L2.L02.ob_eq
    (by kernel_rfl) (fun s => by kernel_rfl) L2.L02.run (by kernel_rfl) (by kernel_rfl) (by kernel_rfl) (by rfl) (by first | assumption | decide +kernel) (by decide +kernel) ⟨rfl, rfl, rfl, rfl, rfl, by decide +kernel⟩ ?hw ?hc
  case hw => w_witness2
  case hc =>
    refine L2.Lr.walk_ofQ (l := PySem.Challenge.rw_leastrooms_k02_rows_judged) (n := 63) (k := 20) (x := "_law_script") (CX := L2.CX0) rfl (by decide) (by kernel_rfl) ⟨rfl, by decide, by decide⟩ ?F (fun _ _ _ _ z => z)
    intro w mg fa h Y G hmg0
    obtain ⟨K, KX, c1, c2⟩ := Y
    have hmg : mg ("law" : PySem.Str) = some (.ref fa) := by
      have e : (HandSHeadRun.topDef (OpenLaw.row PySem.Challenge.rw_leastrooms_k02_rows_judged).prog 56).name = ("law" : PySem.Str) := by kernel_rfl
      rw [← e]
      exact hmg0
    obtain ⟨fd, hb, hF⟩ := L2.L02.facts (P := (PySem.Challenge.rw_leastrooms_k02_rows_judged).prog) (w := w) KX G hmg c1 c2
    exact ⟨K, fd, L2.L02.spLaw K, KX, hb, fun H a ns hl hS => ⟨a, ns, rfl, hS, hl, fun _ => rfl⟩, hF⟩
