import PyProof.Rows.All
import Wide.All
import OpenK.AllK
import Wide.FinOn
import KE.KExcInit
import KE.KExcIs
import KE.KIsAll
import HandS.ForMost
import HandS.ForSpec
import HandS.ExcInit
import HandS.ExcValue
import HandS.ExcIs
import HandS.Wide
import HandS.Defaults
import HandS.HeadHook2
import HandS.ExcOwn
import HandS.Words
import HandS.IsInst
import HandS.WordsExc
import HandS.Text
import HandS.Head0
import HandS.Head1
import HandS.Head2
import HandS.HeadEnd
import HandS.HeadHook1
import KE.KStateDown
import HandS.TryMany
import HandS.Ends
import PyProof.ReprRoads
import PyProof.ReprLen
import PyProof.Rows.StrIntSpec
import HandS.Star
import HandS.OwnEq
import HandS.FStr
import HandS.MakeKw
import HandS.Codes
import KE.KOpsOwn
import KE.KCallOwn
import PyProof.FString3
import HandS.ClsMeth
import HandS.DeepEq
import KE.KFmtOwn
import PyProof.FactsAll.object_2
import HandS.StrMore
import HandS.TupMul
import HandS.TupAny
import HandS.WideBits
import PySem.Challenge.RW_leastrooms_k70_whole_programs_cut
set_option Elab.async false
set_option linter.all false
set_option maxRecDepth 100000
set_option maxHeartbeats 4000000
/-! own exceptions under ValueError, KeyError, RuntimeError, as values -/
namespace LR
open PySem PySem.W PySem.Calls PyProof.Rows Builtin Builtin.ObjectAttr
/-- a family of own exceptions: the built-in class that makes them, and the end of their mro -/
structure Kd where
  B : String
  nid : String
  iid : String
  bmB : List Value
  tl : List Value
  F : ExcBaseFacts B nid iid bmB
  hB : tl.contains (.type B) = true
  hA : tl.contains (.type "AttributeError") = false
  hN : tl.contains (.type "NameError") = false
  hO : tl.contains (.type "object") = true
  hE : tl.contains (.type "BaseException") = true
  pass : ∀ self, refuseLoop self "__setattr__" tl = pure ()
def tlV : List Value := [.type "ValueError", .type "Exception", .type "BaseException", .type "object"]
def tlK : List Value := [.type "KeyError", .type "LookupError", .type "Exception", .type "BaseException", .type "object"]
def tlR : List Value := [.type "RuntimeError", .type "Exception", .type "BaseException", .type "object"]
def xV : Kd := ⟨_, _, _, _, tlV, F.excBase_ValueError, by decide +kernel, by decide +kernel, by decide +kernel, by decide +kernel, by decide +kernel, fun self => F.store_ValueError.passes self⟩
def xK : Kd := ⟨_, _, _, _, tlK, F.excBase_LookupError, by decide +kernel, by decide +kernel, by decide +kernel, by decide +kernel, by decide +kernel, fun self => by kernel_rfl⟩
def xR : Kd := ⟨_, _, _, _, tlR, F.excBase_RuntimeError, by decide +kernel, by decide +kernel, by decide +kernel, by decide +kernel, by decide +kernel, fun self => F.store_RuntimeError.passes self⟩

section
variable {M : Model} {A : Around} {E : Value → Shared → Prop} {h : Heap} {g : Array GenState} {d : Drawn} {t : Nat} {os : OsState}
variable {nm q : Str} {C N : Addr} {bs bm : List Value} {hdct : Bool} {sn : List Str} {sub : List Value} {ab : Bool} {col : Option Bool} {dd : Option Addr} {k0 k1 k2 k3 k5 : Option Value}
theorem Kd.has (k : Kd) (ht : excTail k.tl bm = true) (X : String) {b : Bool} (e : k.tl.contains (.type X) = b) : (Value.ref C :: bm).contains (.type X) = b := by
  rw [List.contains_cons, excTail_contains X bm ht, e]
  cases b <;> rfl
theorem chk_new (k : Kd) (ht : excTail k.tl bm = true) {rest : List Value} {Q : Unit → Shared → Prop}
    (hC : h.get? C = some (excClassObj nm q C N bs bm hdct sn sub ab col dd k0 k1 k2 k3 k5 k.nid)) (hq : Q () ⟨h, g, d, t, os⟩) :
    wpAny M A (checkBuiltinCall k.nid ⟨.ref C :: rest, []⟩) Q E ⟨h, g, d, t, os⟩ := by
  have c1 : (Value.ref C :: bm).contains (.type k.B) = true := k.has ht _ k.hB
  have nst := k.F.noStar
  simp only [checkBuiltinCall, k.F.newKind, k.F.newSplit, k.F.newRow]
  repeat (first
    | refine wpAny_loadPart_at hC ?_
    | (refine wpAny_isSubtype_exc hC ?_; rw [c1])
    | refine wpAny_staticBase_exc hC ?_
    | refine wpAny_madeBy_exc hC ?_
    | simp only [bne_self_eq_false, Bool.false_eq_true, if_false]
    | wp_step)
  exact hq
end
section
variable {prog : Program} {w : World} {A : Around} {E : Value → Shared → Prop} {R : Result → Shared → Prop} {h : Heap} {g : Array GenState} {d : Drawn} {t : Nat} {os : OsState}
variable {nm q : Str} {C N : Addr} {bs bm : List Value} {hdct : Bool} {sn : List Str} {sub : List Value} {ab : Bool} {col : Option Bool} {dd : Option Addr} {k0 k1 k2 k3 k5 : Option Value}
theorem run_new (k : Kd) (ht : excTail k.tl bm = true) {rest : List Value}
    (hC : h.get? C = some (excClassObj nm q C N bs bm hdct sn sub ab col dd k0 k1 k2 k3 k5 k.nid))
    (hq : R (.ok (.ret (.ref (h.objs.size + 1)))) ⟨(h.push (kdv_tup rest)).push (HandSPX.excO C h.objs.size), g, d, t, os⟩) (hr : rest.length ≤ sizeLine) :
    codeAny (model prog w) A (.builtin k.nid ⟨.ref C :: rest, []⟩) R ⟨h, g, d, t, os⟩ := by
  have en := k.F.ends
  have c1 : (Value.ref C :: bm).contains (.type k.B) = true := k.has ht _ k.hB
  have c2 : (Value.ref C :: bm).contains (.type "AttributeError") = false := k.has ht _ k.hA
  have c3 : (Value.ref C :: bm).contains (.type "NameError") = false := k.has ht _ k.hN
  refine codeAny_builtinAt k.F.entry ?_
  unfold Builtin.«BaseException.__new__»
  refine PySem.wpAt_bind ?_
  show PySem.wpAt _ _ _ (stack >>= _) _ _ _
  refine PySem.wpAt_bind (PySem.wpAt_stack fun p below => PySem.wpAt_of_wpAny ?_)
  wp_walk
  refine PySem.wpAt_of_wpAny ?_
  rw [k.F.owner]
  repeat (first
    | with_reducible refine wpAny_madeHere_exc k.F.canon hC ?_
    | with_reducible refine wpAny_loadPart_at hC ?_
    | (with_reducible refine wpAny_isSubtype_exc hC ?_; first | rw [c1] | rw [c2] | rw [c3])
    | wp_step)
  show R _ _
  rw [Heap.size_push]
  exact hq
theorem run_type (k : Kd) (ht : excTail k.tl bm = true) {rest : List Value} {fI : Addr} {Q : Fin → Shared → Prop}
    (hC : h.get? C = some (excClassObj nm q C N bs bm hdct sn sub ab col dd k0 k1 k2 k3 k5 k.nid))
    (hi : Looks (model prog w) h (typeLookup (.ref C) "__init__") (some (.ref fI))) (hb : ∀ self, Looks (model prog w) h (bindSpecial (.ref fI) self) (.ref fI, [self])) (hr : rest.length ≤ sizeLine)
    (hq : codeAny (model prog w) A (.call (.ref fI) ⟨.ref (h.objs.size + 1) :: rest, []⟩)
      (fun r s' => match r with | .ok (.ret v) => v = .none ∧ Q (.done (.ret (.ref (h.objs.size + 1)))) s' | .ok _ => False | .error e => E e s')
      ⟨(h.push (kdv_tup rest)).push (HandSPX.excO C h.objs.size), g, d, t, os⟩) :
    wpAny (model prog w) A (Builtin.«type.__call__» ⟨.ref C :: rest, []⟩) Q E ⟨h, g, d, t, os⟩ := by
  repeat (first
    | with_reducible refine wpAny_loadPart_at hC ?_
    | with_reducible refine wpAny_madeBy_exc hC ?_
    | wp_step)
  refine codeAny_call_builtin_code (Code.quiet_builtin _ k.F.quiet) (chk_new k ht hC (run_new k ht hC ?_ hr))
  show wpAny _ _ _ _ _ _
  have kp : ∀ b o, h.get? b = some o → ((h.push (kdv_tup rest)).push (HandSPX.excO C h.objs.size)).get? b = some o := fun b o e =>
    Heap.get?_push_of_some _ (Heap.get?_push_of_some _ e)
  have hC1 := kp _ _ hC
  have hnew : ((h.push (kdv_tup rest)).push (HandSPX.excO C h.objs.size)).get? (h.objs.size + 1) = some (HandSPX.excO C h.objs.size) := by heap_get
  have self1 : (Value.ref C :: bm).contains (.ref C) = true := by simp
  have i1 := hi.keeps kp
  have b1 := (hb (.ref (h.objs.size + 1))).keeps kp
  unfold isInstance
  repeat (first
    | with_reducible refine wpAny_loadPart_at hnew ?_
    | (with_reducible refine wpAny_isSubtype_exc hC1 ?_; rw [self1])
    | wp_step)
  show wpAny _ _ (typeLookup (.ref C) _) _ _ _
  refine i1.at (wpAny_holding (wpAny_bind (b1.at ?_)))
  refine wpAny_bind (wpAny_call (codeAny_mono hq fun r s' z => ?_))
  rcases r with e | (v | _ | _ | _) <;> first | exact z | exact z.elim | skip
  obtain ⟨rfl, z⟩ := z
  first
    | exact wpAny_pure (wpAny_pure z)
    | (wp_walk; exact z)
/-- C(rest), C with an own __init__ at fI -/
theorem run_class (k : Kd) (ht : excTail k.tl bm = true) {rest : List Value} {fI : Addr}
    (hC : h.get? C = some (excClassObj nm q C N bs bm hdct sn sub ab col dd k0 k1 k2 k3 k5 k.nid))
    (hi : Looks (model prog w) h (typeLookup (.ref C) "__init__") (some (.ref fI))) (hb : ∀ self, Looks (model prog w) h (bindSpecial (.ref fI) self) (.ref fI, [self])) (hr : rest.length ≤ sizeLine)
    (hq : codeAny (model prog w) (A.under (.builtin "type.__call__" ⟨.ref C :: rest, []⟩)) (.call (.ref fI) ⟨.ref (h.objs.size + 1) :: rest, []⟩) (InitBack (h.objs.size + 1) R)
      ⟨(h.push (kdv_tup rest)).push (HandSPX.excO C h.objs.size), g, d, t, os⟩) :
    codeAny (model prog w) A (.call (.ref C) ⟨rest, []⟩) R ⟨h, g, d, t, os⟩ := by
  have f1 := tc_lookup
  have f2 := tc_bind (.ref C)
  have hTy : (⟨h, g, d, t, os⟩ : Shared).TypeIs (.ref C) "type" := ⟨_, hC, rfl⟩
  refine codeAny_of_tree ?_
  show wpAny _ _ (callAny (.ref C) _) _ _ _
  repeat (any_goals (first
    | assumption
    | with_reducible refine wpAny_loadPart_at hC ?_
    | wp_step))
  refine ⟨rfl, codeAny_call_builtin_at (Code.quiet_builtin _ (by decide +kernel)) entry_typeCall (wpAny_check_type_call_sub hC (run_type k ht hC hi hb hr ?_))⟩
  refine codeAny_mono hq fun r s' z => ?_
  rcases r with e | (v | _ | _ | _) <;> exact z
end
end LR

set_option maxHeartbeats 4000000
namespace LR
open PySem PySem.W PySem.Calls PyProof.Rows Builtin Builtin.ObjectAttr
theorem sfK : StoreFacts "KeyError" tlK "object.__setattr__" "object" :=
  { F.store_object with
    mro := by kernel_rfl
    hasOwner := by decide +kernel
    passes := fun self => xK.pass self
    slot := .of (owner := "object") (n := "__setattr__")
      (by rw [typeLookup_type, builtinLookup_eq_fast]; kernel_rfl)
      (by decide +kernel) (by decide +kernel) (by decide +kernel)
      (by first
          | exact .inl (by decide +kernel)
          | exact .inr (by decide +kernel))
      (by rw [isSubtype_type]; kernel_rfl) }
/-- a store by the object's own rule is known for the family -/
def Kd.SF (k : Kd) : Prop := ∃ B, StoreFacts B k.tl "object.__setattr__" "object"
theorem sV : xV.SF := ⟨_, F.store_ValueError⟩
theorem sK : xK.SF := ⟨_, sfK⟩
theorem sR : xR.SF := ⟨_, F.store_RuntimeError⟩
/-- what the written part says of an exception class at C -/
structure XC (K : Frag) (k : Kd) (C : Addr) : Prop where
  cls : ∃ nm q N bs bm sn sub ab col dd k0 k1 k2 k3 k5, K.lookup C = some (excClassObj nm q C N bs bm true sn sub ab col dd k0 k1 k2 k3 k5 k.nid) ∧ excTail k.tl bm = true
  sa : findIn K (.ref C) "__setattr__" = some (some (.builtin "object.__setattr__"))
  ga : findIn K (.ref C) "__getattribute__" = some (some (.builtin "BaseException.__getattribute__"))
  gg : findIn K (.ref C) "__getattr__" = some none
  cl : findIn K (.ref C) "__class__" = some (some (.builtin "object.__class__"))
  kC : keepIn K (.ref C) = true
section
variable {K : Frag} {k : Kd} {C : Addr}
theorem XC.cd (T : XC K k C) : ∃ cd bm, clsIn K C = some cd ∧ cd.mro = .ref C :: bm ∧ excTail k.tl bm = true ∧ cd.hasDict = true := by
  obtain ⟨nm, q, N, bs, bm, sn, sub, ab, col, dd, k0, k1, k2, k3, k5, hC, hb⟩ := T.cls
  exact ⟨_, bm, by unfold clsIn; rw [hC], rfl, hb, rfl⟩
theorem XC.isC (T : XC K k C) : (clsIn K C).isSome = true := by
  obtain ⟨cd, bm, h, _⟩ := T.cd
  rw [h]; rfl
theorem XC.hd (T : XC K k C) : hasDictIn K C = true := by
  obtain ⟨cd, bm, h, _, _, hd⟩ := T.cd
  unfold hasDictIn; rw [h]; exact hd
theorem XC.over (T : XC K k C) : excOver K C k.tl = true := by
  obtain ⟨cd, bm, h, hm, hb, _⟩ := T.cd
  unfold excOver; rw [h]
  simp [hm, hb]
theorem XC.sub (T : XC K k C) (X : String) (e : k.tl.contains (.type X) = true) : mroIn K C (.type X) = some true := by
  obtain ⟨cd, bm, h, hm, hb, _⟩ := T.cd
  unfold mroIn
  rw [h, Option.bind_some, hm]
  show some ((Value.ref C :: bm).contains (.type X)) = some true
  rw [k.has hb X e]
theorem XC.tyC (T : XC K k C) : typeIn K (.ref C) = some (.type "type") := by
  obtain ⟨nm, q, N, bs, bm, sn, sub, ab, col, dd, k0, k1, k2, k3, k5, hC, hb⟩ := T.cls
  show Option.map (fun x => x.cls) (List.lookup C K) = _
  rw [hC]; rfl
end
theorem noTake {K : Frag} {C : Addr} {f : Str} (h : findIn K (.ref C) f = some none) : takerIn K C f = some none := by
  unfold takerIn; rw [h]; rfl
section
variable {prog : Program} {w : World} {A : Around} {E : Value → Shared → Prop} {R : Result → Shared → Prop} {hp : Heap} {g : Array GenState} {d : Drawn} {t : Nat} {os : OsState}
variable {K : Frag} {k : Kd} {C x : Addr} {name : Str} {tk : Tok} {v : Value} {fv : Array Value}
theorem osa_first (S : k.SF) (T : XC K k C) (X : K.In hp) (hx : hp.get? x = some { cls := .ref C, data := .fields fv }) (hno : findIn K (.ref C) name = some none)
    (hq : ∀ h' tk' dx, (∀ b o, b ≠ x → hp.get? b = some o → h'.get? b = some o) → hp.objs.size ≤ dx → dx ≠ x → h'.get? x = some { cls := .ref C, dict := some dx, data := .fields fv } →
      h'.Ns1 dx (fun y => if y = name then some v else none) → R (.ok (.ret .none)) ⟨h', g, d, tk', os⟩) :
    codeAny (model prog w) A (.call (.builtin "object.__setattr__") ⟨[.ref x, .str name tk, v], []⟩) R ⟨hp, g, d, t, os⟩ := by
  obtain ⟨B, SF⟩ := S
  obtain ⟨cd, bm, hcd, hm, hb, hh⟩ := T.cd
  have I : InstAt hp x { cls := .ref C, data := .fields fv } C none := ⟨hx, rfl, rfl, trivial⟩
  have nx : x ≠ hp.objs.size := Nat.ne_of_lt (Heap.lt_size hx)
  have hcls : Looks (model prog w) hp (classData C) cd := looks_clsIn X hcd
  refine osa_openX (s := ⟨hp, g, d, t, os⟩) (r := none) SF X I T.over (noTake hno) fun b => ?_
  obtain ⟨nm, bs, mro, ns, qn, hd, sn, sb, ab, col, del⟩ := cd
  dsimp only at hh
  subst hh
  dsimp only
  unfold storeInOwnDict ownDictForStores
  repeat (first
    | with_reducible refine HandSPX.store_in_new ?_ ?_
    | with_reducible refine wpAny_loadPart_at hx ?_
    | with_reducible refine hcls.at ?_
    | wp_step)
  · exact ⟨_, #[], _, (Heap.get?_update_ne _ _ _ _ nx.symm).trans (Heap.get?_push_at rfl rfl), rfl, fun e he => absurd he (by simp), fun _ => rfl⟩
  · intro h' tk' hn' hs
    have hx1 : (hp.push { cls := .type "dict", data := .dict #[] }).get? x = some { cls := .ref C, data := .fields fv } := Heap.get?_push_of_some _ hx
    refine hq h' tk' hp.objs.size (fun b o ne ho => ?_) (Nat.le_refl _) nx.symm ?_ hn'
    · have z1 := Heap.get?_push_of_some { cls := .type "dict", data := .dict #[] } ho
      have z2 := hs.2 b (Nat.ne_of_lt (Heap.lt_size ho))
      exact z2.trans ((Heap.get?_update_ne _ _ _ _ ne).trans z1)
    · exact (hs.2 x nx).trans (Heap.get?_update_self _ hx1 rfl)
theorem osa_later {dx : Addr} {m0 : Str → Option Value} {nl : List Str} (S : k.SF) (T : XC K k C) (X : K.In hp) (hx : hp.get? x = some { cls := .ref C, dict := some dx, data := .fields fv })
    (hns : hp.Ns1 dx m0) (hw : Within m0 nl) (hz : nl.length ≤ 1000) (hno : findIn K (.ref C) name = some none)
    (hq : ∀ h' tk', (∀ b o, b ≠ dx → hp.get? b = some o → h'.get? b = some o) → h'.Ns1 dx (fun y => if y = name then some v else m0 y) → R (.ok (.ret .none)) ⟨h', g, d, tk', os⟩) :
    codeAny (model prog w) A (.call (.builtin "object.__setattr__") ⟨[.ref x, .str name tk, v], []⟩) R ⟨hp, g, d, t, os⟩ := by
  obtain ⟨B, SF⟩ := S
  obtain ⟨cd, bm, hcd, hm, hb, hh⟩ := T.cd
  obtain ⟨oD, _, _, hoD, _, _⟩ := hns.count hw
  have I : InstAt hp x { cls := .ref C, dict := some dx, data := .fields fv } C (some oD) := ⟨hx, rfl, rfl, hoD⟩
  have hcls : Looks (model prog w) hp (classData C) cd := looks_clsIn X hcd
  refine osa_openX (s := ⟨hp, g, d, t, os⟩) (r := none) SF X I T.over (noTake hno) fun b => ?_
  obtain ⟨nm, bs, mro, ns, qn, hd, sn, sb, ab, col, del⟩ := cd
  dsimp only at hh
  subst hh
  dsimp only
  unfold storeInOwnDict ownDictForStores
  repeat (first
    | with_reducible refine OEX.store_in_old hns hw hz ?_
    | with_reducible refine wpAny_loadPart_at hx ?_
    | with_reducible refine hcls.at ?_
    | wp_step)
  intro h' tk' hn' hs
  exact hq h' tk' (fun b o ne ho => (hs.2 b ne).trans ho) hn'
end
end LR

set_option maxHeartbeats 4000000
namespace L2.Lr
open PySem PySem.Spec PyProof.Rows LR
/-- at a: an exception of the class at C, its dict (none as yet | at d) -/
abbrev xo (a C : Addr) (d : Option Addr) : HO := exo a C d
theorem xo_at {P : Program} {w : World} {H : Hp} {h : Heap} {a C : Addr} {d : Option Addr} (hok : HOk P w H h) (e : H a = some (xo a C d)) : ∃ t1 : Addr, h.get? a = some ({ cls := .ref C, dict := d, data := .fields #[.ref t1, .none, .none, .none, .bool false, .none] } : Obj) := exo_at hok e
theorem xo_ok {P : Program} {w : World} {H : Hp} {h : Heap} {a C t1 : Addr} {d : Option Addr} (e : h.get? a = some ({ cls := .ref C, dict := d, data := .fields #[.ref t1, .none, .none, .none, .bool false, .none] } : Obj)) : ObjOk P w H h a (xo a C d) := exo_ok e
theorem xo_ne {a C : Addr} {d : Option Addr} {o : HO} (n : ∀ φ, HO.ext φ ≠ o) : xo a C d ≠ o := n _
section
variable {X : Cx} {pins : List (Addr × Obj)} {σ : St} {H : Hp} {s : Shared} {a C dx : Addr} {f : Str} {y : V} {u : Value} {fs : List (Str × V)} {Q : Unit → Shared → Prop} {E : Value → Shared → Prop} {A : Around} {k : Kd}
/-- self.f = y, the first field -/
theorem st_first (S : k.SF) (T : XC X.K k C) (I : Inv X pins σ H s) (e : H a = some (xo a C none)) (hno : PySem.W.findIn X.K (.ref C) f = some none) (ry : RelV y u)
    (go : ∀ dx s', H dx = none → dx ≠ a → Inv X pins σ (upd (upd H dx (exd dx [(f, y)])) a (xo a C (some dx))) s' → Q () s') : wpAny (model X.prog X.w) A (setAttr (.ref a) f u) Q E s := by
  obtain ⟨fv, ho⟩ := xo_at I.hok e
  obtain ⟨hp, g, d, t, os⟩ := s
  refine PySem.W.set_plain I.kIn (ox := { cls := .ref C, dict := none, data := .fields #[.ref fv, .none, .none, .none, .bool false, .none] }) (od := none) ⟨ho, rfl, rfl, trivial⟩ T.sa (osa_first S T I.kIn ho hno fun h' tk' dx kk dn dne hx hn => ?_)
  have fresh : H dx = none := I.hok.fresh dn
  have old : ∀ {b : Addr} {o : Obj}, hp.get? b = some o → b ≠ dx := fun {b o} q => Nat.ne_of_lt (Nat.lt_of_lt_of_le (Heap.lt_size q) dn)
  have off : ∀ {b : Addr}, H b = none → b ≠ a := fun {b} n z => by
    rw [z, e] at n
    cases n
  have own : ∀ {b c : Addr}, H b = some (.own c) → b ≠ a := fun {b c} q => at_ne e q (xo_ne fun _ z => by cases z)
  have tup : ∀ {b : Addr} {xs : List V}, H b = some (.tup xs) → b ≠ a := fun {b xs} q => at_ne e q (xo_ne fun _ z => by cases z)
  have frz : ∀ {b : Addr} {o : Obj} {v : HO}, H b = some (.frz o v) → b ≠ a := fun {b o v} q => at_ne e q (xo_ne fun _ z => by cases z)
  have tbl : ∀ {b : Addr} {ps : Array Value}, H b = some (.tbl ps) → b ≠ a := fun {b ps} q => at_ne e q (xo_ne fun _ z => by cases z)
  have U : Un X.fs [] H (upd (upd H dx (exd dx [(f, y)])) a (xo a C (some dx))) hp h' :=
    ⟨fun b o q n _ _ => kk b o (off n) q, fun b o q n _ _ => ⟨o.slots, kk b o (off n) q⟩,
     fun b o q n _ => (upd_ne (off n)).trans ((upd_ne (old q)).trans n),
     fun b o q _ => (Classical.em (b = a)).elim (fun hb => hb.symm ▸ (⟨_, hx⟩ : ∃ o', h'.get? a = some o')) fun hb => ⟨o, kk b o hb q⟩,
     fun b xs q => (upd_ne (tup q)).trans ((upd_ne (ne_of_none q fresh)).trans q),
     fun b o v q => (upd_ne (frz q)).trans ((upd_ne (ne_of_none q fresh)).trans q),
     fun b ps q => ⟨#[], by rw [upd_ne (tbl q), upd_ne (ne_of_none q fresh), q]; simp⟩⟩
  refine go dx _ fresh dne (I.un (t' := tk') U fun b o q => ?_)
  by_cases hb : b = a
  · subst hb
    cases upd_same.symm.trans q
    exact xo_ok hx
  · rw [upd_ne hb] at q
    by_cases hd : b = dx
    · subst hd
      cases upd_same.symm.trans q
      exact exd_ok hn (relO_put (fs := []) ry fun g => True.intro)
    · rw [upd_ne hd] at q
      refine (I.hok b o q).stay (fun c v hc z => kk c v ?_ z) (fun c hc => (upd_ne (own hc)).trans ((upd_ne (ne_of_none hc fresh)).trans hc)) fun c xs hc => (upd_ne (tup hc)).trans ((upd_ne (ne_of_none hc fresh)).trans hc)
      rcases hc with hc | hc
      · rw [hc]; exact hb
      · exact own hc
/-- self.f = y, a later field -/
theorem st_later (S : k.SF) (T : XC X.K k C) (I : Inv X pins σ H s) (e : H a = some (xo a C (some dx))) (ed : H dx = some (exd dx fs)) (hl : fs.length ≤ 900) (hno : PySem.W.findIn X.K (.ref C) f = some none) (ry : RelV y u)
    (go : ∀ s', Inv X pins σ (upd H dx (exd dx ((f, y) :: fs))) s' → Q () s') : wpAny (model X.prog X.w) A (setAttr (.ref a) f u) Q E s := by
  obtain ⟨fv, ho⟩ := xo_at I.hok e
  obtain ⟨mA, hns, rel⟩ := exd_at I.hok ed
  have hw := within_of rel
  obtain ⟨hp, g, d, t, os⟩ := s
  obtain ⟨oD, _, _, hoD, _, _⟩ := hns.count hw
  refine PySem.W.set_plain I.kIn (ox := { cls := .ref C, dict := some dx, data := .fields #[.ref fv, .none, .none, .none, .bool false, .none] }) (od := some oD) ⟨ho, rfl, rfl, hoD⟩ T.sa (osa_later S T I.kIn ho hns hw (by rw [List.length_map]; omega) hno fun h' tk' kk hn => ?_)
  have there : ∃ o, h'.get? dx = some o := by
    obtain ⟨o, _, _, e', _⟩ := hn
    exact ⟨o, e'⟩
  exact go _ (I.write (t' := tk') (x := dx) (e := dx) (o := exd dx ((f, y) :: fs)) (by rw [ed]; exact True.intro) (.inl rfl) kk there (exd_ok hn (relO_put ry rel)))
end
/-! ### readings -/
/-- self.f = e -/
def tStX (K : PySem.W.Frag) (f : Str) (to te : TE) : TS := fun D σ H => te σ H fun y H1 => to σ H1 fun x H2 => ∃ (a C : Addr) (k : Kd), x = .ref a ∧ k.SF ∧ XC K k C ∧ PySem.W.findIn K (.ref C) f = some none ∧
  ((H2 a = some (xo a C none) ∧ ∀ dx, H2 dx = none → dx ≠ a → D.nx σ (upd (upd H2 dx (exd dx [(f, y)])) a (xo a C (some dx)))) ∨
    ∃ (dx : Addr) (fs : List (Str × V)), H2 a = some (xo a C (some dx)) ∧ H2 dx = some (exd dx fs) ∧ fs.length ≤ 900 ∧ D.nx σ (upd H2 dx (exd dx ((f, y) :: fs))))
/-- C(e, ..), C's __init__ keeping sp: the new exception as a value -/
def tMkX (C : Addr) (sp : Sp) (dvs : List V) (ta : TA) : TE := fun σ H Q => ta σ H fun vs H1 => vs.length ≤ 1000 ∧ ∀ a, H1 a = none → sp (.ref a :: (vs ++ dvs)) (upd H1 a (xo a C none)) (fun v H2 => v = .non ∧ Q (.ref a) H2) (fun _ _ _ => False)
/-- e.n of such an exception -/
def tAtX (K : PySem.W.Frag) (n : Str) (te : TE) : TE := fun σ H Q => te σ H fun x H1 => ∃ (a C dx : Addr) (fs : List (Str × V)) (v : V) (k : Kd), x = .ref a ∧ H1 a = some (xo a C (some dx)) ∧ H1 dx = some (exd dx fs) ∧ XC K k C ∧
  PySem.W.findIn K (.ref C) n = some none ∧ fs.lookup n = some v ∧ Q v H1
/-- isinstance(e, c) -/
def rIsX (K : PySem.W.Frag) : List V → Hp → VK → Prop := fun xs H Q => ∃ (a C : Addr) (d : Option Addr) (k : Kd) (c : V) (cv : Value) (b : Bool), xs = [.ref a, c] ∧ (∀ u, RelV c u → u = cv) ∧ H a = some (xo a C d) ∧
  (∀ dx, d = some dx → ∃ o, H dx = some o) ∧ XC K k C ∧ PySem.W.kitOne K (.ref C) cv = some b ∧ Q (.bl b) H
theorem oc_get {K : PySem.W.Frag} : PySem.W.specialIn K (.builtin "object.__class__") "__get__" = some (some (.builtin "getset_descriptor.__get__")) := by kernel_rfl
theorem oc_take {K : PySem.W.Frag} : PySem.W.takesIn K (.builtin "object.__class__") = some true := by kernel_rfl
section
variable {X : Cx} {o e : Expr} {es : List Expr} {to te : TE} {ta : TA} {f : Str} {p p' p1 p2 pos : Pos}
theorem inst_of {pins : List (Addr × Obj)} {σ : St} {H : Hp} {s : Shared} {a C : Addr} {d : Option Addr} (I : Inv X pins σ H s) (e : H a = some (xo a C d)) (hd : ∀ dx, d = some dx → ∃ o, H dx = some o) :
    ∃ (ox : Obj) (od : Option Obj), PySem.W.InstAt s.heap a ox C od ∧ ∀ dx, d = some dx → ∃ q, od = some q ∧ s.heap.get? dx = some q := by
  obtain ⟨fv, ho⟩ := xo_at I.hok e
  cases d with
  | none => exact ⟨_, none, ⟨ho, rfl, rfl, trivial⟩, fun dx z => by cases z⟩
  | some dx =>
    obtain ⟨q, hq⟩ := hd dx rfl
    obtain ⟨ob, hb⟩ : ∃ ob, s.heap.get? dx = some ob := by
      have z := (I.hok dx q hq).lt
      cases r : s.heap.get? dx with
      | some ob => exact ⟨ob, rfl⟩
      | none => exact absurd r (by
          have zz := I.hok dx q hq
          cases q with
          | lst xs => obtain ⟨_, _, _, _, e1⟩ := zz; rw [e1]; simp
          | tup xs => obtain ⟨_, _, _, o1, e1, _⟩ := zz; rw [e1]; simp
          | dK kvs => obtain ⟨_, _, _, _, o1, _, _, e1, _⟩ := zz; rw [e1]; simp
          | dT kvs => obtain ⟨_, _, _, _, o1, _, _, e1, _⟩ := zz; rw [e1]; simp
          | set S n => obtain ⟨o1, _, _, _, e1, _⟩ := zz; rw [e1]; simp
          | ins C1 d1 f1 => obtain ⟨_, _, _, e1, _⟩ := zz; rw [e1]; simp
          | own y => obtain ⟨_, e1⟩ := zz; rw [e1]; simp
          | xd fs => obtain ⟨_, ⟨_, _, _, e1, _⟩, _⟩ := zz; rw [e1]; simp
          | rng lo hi => obtain ⟨_, _, _, e1⟩ := zz; rw [e1]; simp
          | frz ob u => obtain ⟨e1, _⟩ := zz; rw [e1]; simp
          | tbl ps => have e1 : s.heap.get? dx = some _ := zz; rw [e1]; simp
          | met f1 y => have e1 : s.heap.get? dx = some _ := zz; rw [e1]; simp
          | ext φ => obtain ⟨_, ⟨_, e1⟩, _⟩ := zz; rw [e1]; simp)
    exact ⟨_, some ob, ⟨ho, rfl, rfl, hb⟩, fun dy z => by cases z; exact ⟨ob, rfl, hb⟩⟩
theorem ps_stX (ho : PE X o to) (he : PE X e te) (hs : swapsWith e (some (.Attribute o f p')) pos.line X.env = pure false := by rfl) : PS X (.Assign [.Attribute o f p'] e pos) (tStX X.K f to te) := by
  refine ⟨fun pins s σ H D I hh => plainObj_wpAny_Assign_Attribute (thn (he.run pins s σ H _ I hh) fun v s1 ⟨y, H1, I1, r1, q1⟩ => thn (ho.run pins s1 σ H1 _ I1 q1) fun u s2 ⟨x, H2, I2, r2, q⟩ => ?_) hs⟩
  obtain ⟨a, C, k, rfl, S, T, hno, q⟩ := q
  cases (show u = Value.ref a from r2)
  rcases q with ⟨ea, q⟩ | ⟨dx, fs, ea, ed, hl, q⟩
  · exact st_first S T I2 ea hno r1 fun dx s' n ne J => ⟨σ, _, J, q dx n ne⟩
  · exact st_later S T I2 ea ed hl hno r1 fun s' J => ⟨σ, _, J, q⟩
theorem pe_mkX {CX : CXT} {x : Str} {C fI : Addr} {j : Nat} {fd : FuncData} {ps : List Str} {sp : Sp} {ds : List Value} {dvs : List V} {k : Kd} (T : XC X.K k C) (iC : PySem.W.findIn X.K (.ref C) "__init__" = some (some (.ref fI))) (tI : PySem.W.typeIn X.K (.ref fI) = some (.type "function"))
    (F1 : FnOk X.prog X.w X.K X.mg X.base CX j fI fd ps sp) (hr : Room (j + 1) X.A) (hb : Binds X.K fd ps ds) (hd : Vals dvs ds) (hx : Passes CX X (fun _ _ _ => False)) (hg : Gl X x) (hm : X.mg x = some (.ref C)) (ha : PA X (e :: es) ta)
    (hdb : (x == ("__debug__" : Str)) = false := by decide) (he : starEach (e :: es) X.env = (false, eval e X.env) :: starEach es X.env := by rfl) (hpl : (backTo pos (starEach es X.env)).any (·.1) = false := by rfl) :
    PE X (.Call (.Name x p) (e :: es) [] pos) (tMkX C sp dvs ta) := by
  refine ⟨fun pins s σ H Q I hh => ?_⟩
  obtain ⟨nm, q, N, bs, bm, sn, sub, ab, col, dd, k0, k1, k2, k3, k5, hC, hbm⟩ := T.cls
  refine wpAny_Call_Name_kw (ld_glob I hg hm ?_ hdb)
  refine PySem.W.callWith_K (h₀ := X.base) I.ok.mod.kin T.kC (thn (ha.run pos pins s σ H _ I hh) fun us s1 ⟨vs, H1, I1, r1, hz, q1⟩ => ⟨I1.kIn, ?_⟩) he hpl
  show wpAny _ _ (call (.ref C) us) _ _ _
  obtain ⟨hp, g, dr, tk, os⟩ := s1
  obtain ⟨na, ena⟩ : ∃ na, na = hp.objs.size + 1 := ⟨_, rfl⟩
  have hsz : hp.objs.size ≤ na := by omega
  have hn : H1 na = none := I1.hok.fresh hsz
  have hq := q1 na hn
  obtain ⟨G, eG⟩ : ∃ G, G = (hp.push (PySem.W.kdv_tup us)).push (PySem.HandSPX.excO C hp.objs.size) := ⟨_, rfl⟩
  have kk : ∀ b o, hp.get? b = some o → G.get? b = some o := fun b o e1 => by rw [eG]; exact Heap.get?_push_of_some _ (Heap.get?_push_of_some _ e1)
  have there : G.get? na = some (PySem.HandSPX.excO C hp.objs.size) := by rw [eG, ena]; heap_get
  have I2 : Inv X pins σ (upd H1 na (xo na C none)) ⟨G, g, dr, tk, os⟩ := I1.laid (t' := tk) (a := na) (o := xo na C none) (h' := G) kk hsz (xo_ok there)
  have r2 : Vals (V.ref na :: (vs ++ dvs)) (Value.ref na :: (us ++ ds)) := .cons rfl (r1.append hd)
  have hl : (Value.ref na :: us ++ ds).length = ps.length := by
    have e1 := r2.length
    rw [F1.len _ _ _ _ hq] at e1
    exact e1.symm
  have hus : us.length ≤ sizeLine := by
    rw [← Paired.length r1, sizeLine_eq]
    omega
  refine wpAny_call (run_class k hbm (I1.kIn _ _ hC) (PySem.W.looks_findIn I1.kIn iC) (fun self => PySem.W.bind_fn I1.kIn self tI) hus ?_)
  rw [← eG, ← ena]
  refine codeAny_mono (F1.run _ X.stack _ _ ⟨Value.ref na :: us, []⟩ (Value.ref na :: (us ++ ds)) _ _ (fun _ _ _ => False) (hr.make C us []) (I2.env0.make C us []) (hb _ (Value.ref na :: us) I2.kIn hl) r2 hq) fun r s' hq' => ?_
  cases r with
  | error er => exact hx pins σ _ _ er s' I2 hq'
  | ok fl =>
    cases fl with
    | ret u =>
      obtain ⟨v, H2, os2, bare2, un2, hok2, rv, ev, q2⟩ := hq'
      subst ev
      exact ⟨rv, .ref na, H2, I2.call' (ch := []) os2 un2 hok2 bare2 fun b z => absurd z (by simp), rfl, q2⟩
    | next => exact False.elim hq'
    | brk => exact False.elim hq'
    | cont => exact False.elim hq'
theorem pe_atX {n : Str} (he : PE X e te) (hb : attributeBase e n X.env (eval e X.env) = eval e X.env := by rfl) : PE X (.Attribute e n pos) (tAtX X.K n te) := by
  refine ⟨fun pins s σ H Q I hh => attr_of hb (thn (he.run pins s σ H _ I hh) fun u s1 ⟨x, H1, I1, rx, q⟩ => ?_)⟩
  obtain ⟨a, C, dx, fs, v, k, rfl, ea, ed, T, hno, l, q⟩ := q
  cases (show u = Value.ref a from rx)
  obtain ⟨ox, od, J, hd⟩ := inst_of I1 ea fun d z => by cases z; exact ⟨_, ed⟩
  obtain ⟨ob, eo, ho⟩ := hd dx rfl
  obtain ⟨mA, hns, hr⟩ := exd_at I1.hok ed
  obtain ⟨o2, ho2, hl⟩ := lookIn_ns hns
  cases ho.symm.trans ho2
  subst eo
  obtain ⟨z, hz, rz⟩ := RelO.some_of (v := v) (o := mA n) (by rw [← l]; exact hr n)
  exact HandSPX.exc_get I1.kIn J T.ga T.gg (T.sub "BaseException" k.hE) (PySem.W.findObj_own T.hd hno rfl (by rw [hl, hz])) (handed_of rz) ⟨v, H1, I1.tok _, rz, q⟩
theorem call_isX : CallR X (.builtin "isinstance") (rIsX X.K) := by
  intro pins s σ H xs us Q I r q
  obtain ⟨a, C, d, k, c, cv, b, rfl, hcv, ea, hd, T, e, q⟩ := q
  cases r with
  | cons rx rr =>
    cases rr with
    | cons rt rr =>
      cases rr
      cases rx
      cases hcv _ rt
      obtain ⟨ox, od, J, _⟩ := inst_of I ea hd
      exact PySem.W.kia_one (PySem.W.kitx_exc T.isC T.ga T.gg (T.sub "BaseException" k.hE) T.cl oc_get oc_take (T.sub "object" k.hO)) I.kIn J e (fun z => nomatch z) fun tk => ⟨.bl b, H, I.kept (t' := tk) fun _ _ z => z, rfl, q⟩
end
end L2.Lr

set_option maxHeartbeats 4000000
namespace L2.Lr
open PySem PySem.Spec PyProof.Rows LR
/-! ### facts of a class, reckoned -/
def clB (K : PySem.W.Frag) (k : Kd) (C : Addr) : Bool := match K.lookup C with
  | some ⟨.type "type", _, .cls cd, sl⟩ => (match cd.mro, sl.toList with
    | .ref C' :: bm, [_, _, _, _, some (.builtin n), _] => C' == C && n == k.nid && !cd.hasDel && cd.hasDict && PySem.W.excTail k.tl bm
    | _, _ => false)
  | _ => false
theorem clB_ok {K : PySem.W.Frag} {k : Kd} {C : Addr} (q : clB K k C = true) : ∃ nm qn N bs bm sn sub ab col dd k0 k1 k2 k3 k5, K.lookup C = some (excClassObj nm qn C N bs bm true sn sub ab col dd k0 k1 k2 k3 k5 k.nid) ∧ PySem.W.excTail k.tl bm = true := by
  unfold clB at q
  split at q
  · rename_i dd cd sl ho
    split at q
    · rename_i C' bm k0 k1 k2 k3 n k5 hm hs
      simp only [Bool.and_eq_true, beq_iff_eq, Bool.not_eq_true'] at q
      obtain ⟨⟨⟨⟨rfl, rfl⟩, hdel⟩, hdict⟩, ht⟩ := q
      obtain ⟨nm, bs, mro, ns, qn, hd, sn, sub, ab, col, del⟩ := cd
      dsimp only at hm hdel hdict
      subst hm hdel hdict
      have es : sl = #[k0, k1, k2, k3, some (.builtin k.nid), k5] := by
        rw [← hs]
      subst es
      exact ⟨nm, qn, ns, bs, bm, sn, sub, ab, col, dd, k0, k1, k2, k3, k5, ho, ht⟩
    · cases q
  · cases q
def xcB (K : PySem.W.Frag) (k : Kd) (C : Addr) : Bool := clB K k C && (He.eqO (PySem.W.findIn K (.ref C) "__setattr__") (some (some (.builtin "object.__setattr__"))) && (He.eqO (PySem.W.findIn K (.ref C) "__getattribute__") (some (some (.builtin "BaseException.__getattribute__"))) &&
  (He.eqO (PySem.W.findIn K (.ref C) "__getattr__") (some none) && (He.eqO (PySem.W.findIn K (.ref C) "__class__") (some (some (.builtin "object.__class__"))) && PySem.W.keepIn K (.ref C)))))
theorem xcB_ok {K : PySem.W.Frag} {k : Kd} {C : Addr} (q : xcB K k C = true) : XC K k C := by
  obtain ⟨q1, q⟩ := He.ba q
  obtain ⟨q2, q⟩ := He.ba q
  obtain ⟨q3, q⟩ := He.ba q
  obtain ⟨q4, q⟩ := He.ba q
  obtain ⟨q5, q6⟩ := He.ba q
  exact ⟨clB_ok q1, He.eqO_ok q2, He.eqO_ok q3, He.eqO_ok q4, He.eqO_ok q5, q6⟩
/-! ### exceptions as the heap holds them -/
/-- at a: an exception of the class at C with these fields (none: no dict) -/
def ExF (H : Hp) (a C : Addr) : Option (List (Str × V)) → Prop
  | some fs => ∃ d, H a = some (xo a C (some d)) ∧ H d = some (exd d fs)
  | none => H a = some (xo a C none)
theorem ExF.same {H H' : Hp} {a C : Addr} {o : Option (List (Str × V))} (e : ExF H a C o) (s : Same H H') : ExF H' a C o := by
  cases o with
  | none => exact s _ _ e
  | some fs =>
    obtain ⟨d, e1, e2⟩ := e
    exact ⟨d, s _ _ e1, s _ _ e2⟩
theorem ExF.obj {H : Hp} {a C : Addr} {o : Option (List (Str × V))} (e : ExF H a C o) : ∃ d, H a = some (xo a C d) ∧ ∀ dx, d = some dx → ∃ u, H dx = some u := by
  cases o with
  | none => exact ⟨none, e, fun dx z => by cases z⟩
  | some fs =>
    obtain ⟨d, e1, e2⟩ := e
    exact ⟨some d, e1, fun dx z => by cases z; exact ⟨_, e2⟩⟩
theorem same_upd {H : Hp} {p : Addr} {o : HO} (n : H p = none) : Same H (upd H p o) := fun b u e => (upd_ne (ne_of_none e n)).trans e
theorem pe_weak {X : Cx} {e : Expr} {t t' : TE} (h : PE X e t) (i : ∀ σ H Q, t' σ H Q → t σ H Q) : PE X e t' := ⟨fun pins s σ H Q I q => h.run pins s σ H Q I (i σ H Q q)⟩
theorem pt_weak {X : Cx} {e : Expr} {t t' : TT} (h : PT X e t) (i : ∀ σ H Q, t' σ H Q → t σ H Q) : PT X e t' := ⟨fun pins s σ H Q I q => h.run pins s σ H Q I (i σ H Q q)⟩
theorem pa_weak {X : Cx} {es : List Expr} {t t' : TA} (h : PA X es t) (i : ∀ σ H Q, t' σ H Q → t σ H Q) : PA X es t' := ⟨fun p pins s σ H Q I q => h.run p pins s σ H Q I (i σ H Q q)⟩
/-- C(y): the new exception keeps y -/
def tNew (C : Addr) (te : TE) : TE := fun σ H Q => te σ H fun y H1 => ∀ a H', Same H1 H' → H1 a = none → ExF H' a C (some [("value", y)]) → Q (.ref a) H'
/-- C(z, y): .. keeps both -/
def tNew2 (C : Addr) (tz ty : TE) : TE := fun σ H Q => tz σ H fun z H1 => ty σ H1 fun y H2 => ∀ a H', Same H2 H' → H2 a = none → ExF H' a C (some [("value", y), ("word", z)]) → Q (.ref a) H'
/-- C() -/
def tNew0 (C : Addr) : TE := fun σ H Q => ∀ a, H a = none → Q (.ref a) (upd H a (xo a C none))
/-- isinstance(e, c): b -/
def tIsX (K : PySem.W.Frag) (te : TE) (cv : Value) : TE := fun σ H Q => te σ H fun x H1 => ∃ (a C : Addr) (o : Option (List (Str × V))) (k : Kd) (b : Bool), x = .ref a ∧ ExF H1 a C o ∧ XC K k C ∧ PySem.W.kitOne K (.ref C) cv = some b ∧ Q (.bl b) H1
/-- e.n -/
def tGetX (K : PySem.W.Frag) (n : Str) (te : TE) : TE := fun σ H Q => te σ H fun x H1 => ∃ (a C : Addr) (fs : List (Str × V)) (v : V) (k : Kd), x = .ref a ∧ ExF H1 a C (some fs) ∧ XC K k C ∧ PySem.W.findIn K (.ref C) n = some none ∧ fs.lookup n = some v ∧ Q v H1
/-! ### the promises of the __init__s -/
def spIni (K : PySem.W.Frag) : Sp := fun vs H Q _ => ∃ (a C : Addr) (k : Kd) (y : V), vs = [.ref a, y] ∧ k.SF ∧ XC K k C ∧ PySem.W.findIn K (.ref C) "value" = some none ∧ H a = some (xo a C none) ∧
  ∀ H' d, H d = none → d ≠ a → (∀ b o, H b = some o → b ≠ a → H' b = some o) → H' a = some (xo a C (some d)) → H' d = some (exd d [("value", y)]) → Q .non H'
def spIni2 (K : PySem.W.Frag) : Sp := fun vs H Q _ => ∃ (a C : Addr) (k : Kd) (z y : V), vs = [.ref a, z, y] ∧ k.SF ∧ XC K k C ∧ PySem.W.findIn K (.ref C) "value" = some none ∧ PySem.W.findIn K (.ref C) "word" = some none ∧ H a = some (xo a C none) ∧
  ∀ H' d, H d = none → d ≠ a → (∀ b o, H b = some o → b ≠ a → H' b = some o) → H' a = some (xo a C (some d)) → H' d = some (exd d [("value", y), ("word", z)]) → Q .non H'
/-- a reading with a wish that may be stronger -/
def tUp (te : TE) : TE := fun σ H Q => ∃ Q' : VK, te σ H Q' ∧ ∀ v H', Q' v H' → Q v H'
theorem pe_up {X : Cx} {e : Expr} {te : TE} (h : PE X e te) : PE X e (tUp te) := ⟨fun pins s σ H Q I ⟨Q', q, i⟩ => thn (h.run pins s σ H Q' I q) fun u s1 ⟨v, H1, I1, r, q1⟩ => ⟨v, H1, I1, r, i v H1 q1⟩⟩
section
variable {X : Cx} {e e2 : Expr} {es : List Expr} {te t2 : TE} {ta : TA} {p p' p1 p2 pos : Pos}
theorem pe_new {x : Str} {C fI : Addr} {j : Nat} {fd : FuncData} {k : Kd} (S : k.SF) (T : XC X.K k C) (nv : PySem.W.findIn X.K (.ref C) "value" = some none) (iC : PySem.W.findIn X.K (.ref C) "__init__" = some (some (.ref fI))) (tI : PySem.W.typeIn X.K (.ref fI) = some (.type "function"))
    (F1 : FnOk X.prog X.w X.K X.mg X.base CX0 j fI fd ["self", "value"] (spIni X.K)) (hr : Room (j + 1) X.A) (hb : Binds X.K fd ["self", "value"] []) (hm : X.mg x = some (.ref C)) (ha : PE X e te) (hg : Gl X x := by rfl)
    (hdb : (x == ("__debug__" : Str)) = false := by decide) (he : starEach (e :: []) X.env = (false, eval e X.env) :: starEach [] X.env := by rfl) (hpl : (backTo pos (starEach [] X.env)).any (·.1) = false := by rfl) :
    PE X (.Call (.Name x p) [e] [] pos) (tNew C te) := by
  refine pe_weak (pe_mkX (e := e) (es := []) (dvs := []) T iC tI F1 hr hb .nil pass0 hg hm (pa_cons (pe_up ha) pa_nil he) hdb he hpl) fun σ H Q q => ?_
  refine ⟨_, q, fun y H1 q1 => ⟨by show 1 ≤ 1000; decide, fun a hn => ⟨a, C, k, y, rfl, S, T, nv, upd_same, fun H2 d hd ne keep e1 e2 => ⟨rfl, q1 a H2 (fun b o z => ?_) hn ⟨d, e1, e2⟩⟩⟩⟩⟩
  have ne : b ≠ a := ne_of_none z hn
  exact keep b o ((upd_ne ne).trans z) ne
theorem pe_new2 {x : Str} {C fI : Addr} {j : Nat} {fd : FuncData} {k : Kd} (S : k.SF) (T : XC X.K k C) (nv : PySem.W.findIn X.K (.ref C) "value" = some none) (nw : PySem.W.findIn X.K (.ref C) "word" = some none) (iC : PySem.W.findIn X.K (.ref C) "__init__" = some (some (.ref fI))) (tI : PySem.W.typeIn X.K (.ref fI) = some (.type "function"))
    (F1 : FnOk X.prog X.w X.K X.mg X.base CX0 j fI fd ["self", "word", "value"] (spIni2 X.K)) (hr : Room (j + 1) X.A) (hb : Binds X.K fd ["self", "word", "value"] []) (hm : X.mg x = some (.ref C)) (ha : PE X e te) (ha2 : PE X e2 t2) (hg : Gl X x := by rfl)
    (hdb : (x == ("__debug__" : Str)) = false := by decide) (he : starEach (e :: [e2]) X.env = (false, eval e X.env) :: starEach [e2] X.env := by rfl) (he2 : starEach (e2 :: []) X.env = (false, eval e2 X.env) :: starEach [] X.env := by rfl) (hpl : (backTo pos (starEach [e2] X.env)).any (·.1) = false := by rfl) :
    PE X (.Call (.Name x p) [e, e2] [] pos) (tNew2 C te t2) := by
  refine pe_weak (pe_mkX (e := e) (es := [e2]) (dvs := []) T iC tI F1 hr hb .nil pass0 hg hm (pa_cons (pe_up ha) (pa_cons (pe_up ha2) pa_nil he2) he) hdb he hpl) fun σ H Q q => ?_
  refine ⟨_, q, fun z H1 q1 => ⟨_, q1, fun y H2 q2 => ⟨by show 2 ≤ 1000; decide, fun a hn => ⟨a, C, k, z, y, rfl, S, T, nv, nw, upd_same, fun H3 d hd ne keep e1 e2 => ⟨rfl, q2 a H3 (fun b o zz => ?_) hn ⟨d, e1, e2⟩⟩⟩⟩⟩⟩
  have ne : b ≠ a := ne_of_none zz hn
  exact keep b o ((upd_ne ne).trans zz) ne
theorem pe_new0 {x : Str} {C : Addr} {bmB : List Value} {B newId initId : String} (F : ExcBaseFacts B newId initId bmB) (q : PySem.W.excIn X.K C bmB newId = true) (kC : PySem.W.keepIn X.K (.ref C) = true) (hm : X.mg x = some (.ref C)) (hg : Gl X x := by rfl) (hdb : (x == ("__debug__" : Str)) = false := by decide) :
    PE X (.Call (.Name x p) [] [] pos) (tNew0 C) := by
  refine ⟨fun pins s σ H Q I h => ?_⟩
  refine wpAny_Call_Name_kw (ld_glob I hg hm (PySem.W.callWith_K0 I.kIn kC ?_) hdb)
  obtain ⟨bm, N, nm, qn, bs, hdct, sn, sub, ab, col, dd, k0, k1, k2, k3, k5, mN, hC, hN, hni, T⟩ := exc_obj I.kIn q
  refine wpAny_call_exc_subT F T hC hN hni (fun h' a hm' => ?_) (Nat.zero_le _)
  have hn : H a = none := I.hok.gone hm'.new
  obtain ⟨t, ht, _, _⟩ := hm'.there
  exact ⟨.ref a, _, I.laidN hm'.keeps hm'.new hn (xo_ok ht), rfl, h a hn⟩
theorem pe_isX {c : V} {cv : Value} (pe2 : PE X e2 (tC c)) (hv : ∀ u, RelV c u → u = cv) (hm : X.mg "isinstance" = none) (ha : PE X e te) (hg : Gl X "isinstance" := by rfl)
    (he : starEach (e :: [e2]) X.env = (false, eval e X.env) :: starEach [e2] X.env := by rfl) (he2 : starEach (e2 :: []) X.env = (false, eval e2 X.env) :: starEach [] X.env := by rfl) (hpl : (backTo pos (starEach [e2] X.env)).any (·.1) = false := by rfl) :
    PE X (.Call (.Name "isinstance" p) [e, e2] [] pos) (tIsX X.K te cv) := by
  refine pe_weak (pe_callB (e := e) (es := [e2]) call_isX hg hm boot_isinstance (pa_cons (pe_up ha) (pa_cons pe2 pa_nil he2) he) (by decide) (by decide) he hpl) fun σ H Q q => ?_
  refine ⟨_, q, fun x H1 q1 => ?_⟩
  obtain ⟨a, C, o, k, b, rfl, ex, T, e, q⟩ := q1
  obtain ⟨d, e1, e2⟩ := ex.obj
  exact ⟨a, C, d, k, c, cv, b, rfl, hv, e1, e2, T, e, q⟩
theorem pe_getX {n : Str} (he : PE X e te) (hb : attributeBase e n X.env (eval e X.env) = eval e X.env := by rfl) : PE X (.Attribute e n pos) (tGetX X.K n te) := by
  refine pe_weak (pe_atX (pe_up he) hb) fun σ H Q q => ⟨_, q, fun x H1 q1 => ?_⟩
  obtain ⟨a, C, fs, v, k, rfl, ⟨d, e1, e2⟩, T, hno, l, q⟩ := q1
  exact ⟨a, C, d, fs, v, k, rfl, e1, e2, T, hno, l, q⟩
end
end L2.Lr

set_option maxHeartbeats 4000000
namespace L2.Lr
open PySem PySem.Spec PyProof.Rows LR
/-! own exceptions raised and caught -/
theorem pmk_weak {X : Cx} {e : Expr} {t t' : St → Hp → XK → Prop} (h : PMk X e t) (i : ∀ σ H Q, t' σ H Q → t σ H Q) : PMk X e t' := fun pins s σ H Q I q => h pins s σ H Q I (i σ H Q q)
/-- raise C(y): d holds the fields -/
def tNewR (C : Addr) (te : TE) : St → Hp → XK → Prop := fun σ H Q => te σ H fun y H1 => ∀ d H', Same H1 H' → H1 d = none → H' d = some (.xd [("value", y)]) → Q (.ref C) (some d) H'
def tNewR2 (C : Addr) (tz ty : TE) : St → Hp → XK → Prop := fun σ H Q => tz σ H fun z H1 => ty σ H1 fun y H2 => ∀ d H', Same H2 H' → H2 d = none → H' d = some (.xd [("value", y), ("word", z)]) → Q (.ref C) (some d) H'
def tNewR0 (C : Addr) : St → Hp → XK → Prop := fun _ H Q => Q (.ref C) none H
section
variable {X : Cx} {e e2 : Expr} {es : List Expr} {te t2 : TE} {ta : TA} {p p' p1 p2 pos : Pos}
theorem xc_raises {k : Kd} {C : Addr} (T : XC X.K k C) : Raises X (.ref C) := raises_own (T.sub "BaseException" k.hE) T.tyC
theorem pmk_x {CX : CXT} {x : Str} {C fI : Addr} {j : Nat} {fd : FuncData} {ps : List Str} {sp : Sp} {ds : List Value} {dvs : List V} {k : Kd} (T : XC X.K k C) (iC : PySem.W.findIn X.K (.ref C) "__init__" = some (some (.ref fI))) (tI : PySem.W.typeIn X.K (.ref fI) = some (.type "function"))
    (F1 : FnOk X.prog X.w X.K X.mg X.base CX j fI fd ps sp) (hr : Room (j + 1) X.A) (hb : Binds X.K fd ps ds) (hd : Vals dvs ds) (hx : Passes CX X (fun _ _ _ => False)) (hg : Gl X x) (hm : X.mg x = some (.ref C)) (ha : PA X (e :: es) ta)
    (hdb : (x == ("__debug__" : Str)) = false := by decide) (he : starEach (e :: es) X.env = (false, eval e X.env) :: starEach es X.env := by rfl) (hpl : (backTo pos (starEach es X.env)).any (·.1) = false := by rfl) :
    PMk X (.Call (.Name x p) (e :: es) [] pos) (tMkO C sp dvs ta) := by
  intro pins s σ H Q I hh
  obtain ⟨nm, q, N, bs, bm, sn, sub, ab, col, dd, k0, k1, k2, k3, k5, hC, hbm⟩ := T.cls
  refine wpAny_Call_Name_kw (ld_glob I hg hm ?_ hdb)
  refine PySem.W.callWith_K (h₀ := X.base) I.ok.mod.kin T.kC (thn (ha.run pos pins s σ H _ I hh) fun us s1 ⟨vs, H1, I1, r1, hz, q1⟩ => ⟨I1.kIn, ?_⟩) he hpl
  show wpAny _ _ (call (.ref C) us) _ _ _
  obtain ⟨hp, g, dr, tk, os⟩ := s1
  obtain ⟨na, ena⟩ : ∃ na, na = hp.objs.size + 1 := ⟨_, rfl⟩
  have hsz : hp.objs.size ≤ na := by omega
  have hn : H1 na = none := I1.hok.fresh hsz
  have hq := q1 na hn
  obtain ⟨G, eG⟩ : ∃ G, G = (hp.push (PySem.W.kdv_tup us)).push (PySem.HandSPX.excO C hp.objs.size) := ⟨_, rfl⟩
  have kk : ∀ b o, hp.get? b = some o → G.get? b = some o := fun b o e1 => by rw [eG]; exact Heap.get?_push_of_some _ (Heap.get?_push_of_some _ e1)
  have there : G.get? na = some (PySem.HandSPX.excO C hp.objs.size) := by rw [eG, ena]; heap_get
  have I2 : Inv X pins σ (upd H1 na (xo na C none)) ⟨G, g, dr, tk, os⟩ := I1.laid (t' := tk) (a := na) (o := xo na C none) (h' := G) kk hsz (xo_ok there)
  have r2 : Vals (V.ref na :: (vs ++ dvs)) (Value.ref na :: (us ++ ds)) := .cons rfl (r1.append hd)
  have hl : (Value.ref na :: us ++ ds).length = ps.length := by
    have e1 := r2.length
    rw [F1.len _ _ _ _ hq] at e1
    exact e1.symm
  have hus : us.length ≤ sizeLine := by
    rw [← Paired.length r1, sizeLine_eq]
    omega
  refine wpAny_call (run_class k hbm (I1.kIn _ _ hC) (PySem.W.looks_findIn I1.kIn iC) (fun self => PySem.W.bind_fn I1.kIn self tI) hus ?_)
  rw [← eG, ← ena]
  refine codeAny_mono (F1.run _ X.stack _ _ ⟨Value.ref na :: us, []⟩ (Value.ref na :: (us ++ ds)) _ _ (fun _ _ _ => False) (hr.make C us []) (I2.env0.make C us []) (hb _ (Value.ref na :: us) I2.kIn hl) r2 hq) fun r s' hq' => ?_
  cases r with
  | error er => exact hx pins σ _ _ er s' I2 hq'
  | ok fl =>
    cases fl with
    | ret u =>
      obtain ⟨v, H2, os2, bare2, un2, hok2, rv, ev, d, fs, ea, ed, hd1, q2⟩ := hq'
      subst ev
      obtain ⟨h2, g2, d2, t2, os'⟩ := s'
      exact ⟨rv, mk_end (xc_raises T) I1 hsz kk un2 hok2 os2 bare2 ea ed hd1 q2⟩
    | next => exact False.elim hq'
    | brk => exact False.elim hq'
    | cont => exact False.elim hq'
theorem pmk_new {x : Str} {C fI : Addr} {j : Nat} {fd : FuncData} {k : Kd} (S : k.SF) (T : XC X.K k C) (nv : PySem.W.findIn X.K (.ref C) "value" = some none) (iC : PySem.W.findIn X.K (.ref C) "__init__" = some (some (.ref fI))) (tI : PySem.W.typeIn X.K (.ref fI) = some (.type "function"))
    (F1 : FnOk X.prog X.w X.K X.mg X.base CX0 j fI fd ["self", "value"] (spIni X.K)) (hr : Room (j + 1) X.A) (hb : Binds X.K fd ["self", "value"] []) (hm : X.mg x = some (.ref C)) (ha : PE X e te) (hg : Gl X x := by rfl)
    (hdb : (x == ("__debug__" : Str)) = false := by decide) (he : starEach (e :: []) X.env = (false, eval e X.env) :: starEach [] X.env := by rfl) (hpl : (backTo pos (starEach [] X.env)).any (·.1) = false := by rfl) :
    PMk X (.Call (.Name x p) [e] [] pos) (tNewR C te) := by
  refine pmk_weak (pmk_x (e := e) (es := []) (dvs := []) T iC tI F1 hr hb .nil pass0 hg hm (pa_cons (pe_up ha) pa_nil he) hdb he hpl) fun σ H Q q => ?_
  refine ⟨_, q, fun y H1 q1 => ⟨by show 1 ≤ 1000; decide, fun a hn => ⟨a, C, k, y, rfl, S, T, nv, upd_same, fun H2 d hd ne keep e1 e2 => ⟨rfl, d, _, e1, e2, ?_, ?_⟩⟩⟩⟩
  · exact (upd_ne ne).symm.trans hd
  · refine q1 d _ (fun b o z => ?_) ((upd_ne ne).symm.trans hd) upd_same
    have nb : b ≠ a := ne_of_none z hn
    have nd : b ≠ d := ne_of_none z ((upd_ne ne).symm.trans hd)
    exact (upd_ne nd).trans ((del_ne nb).trans (keep b o ((upd_ne nb).trans z) nb))
theorem pmk_new2 {x : Str} {C fI : Addr} {j : Nat} {fd : FuncData} {k : Kd} (S : k.SF) (T : XC X.K k C) (nv : PySem.W.findIn X.K (.ref C) "value" = some none) (nw : PySem.W.findIn X.K (.ref C) "word" = some none) (iC : PySem.W.findIn X.K (.ref C) "__init__" = some (some (.ref fI))) (tI : PySem.W.typeIn X.K (.ref fI) = some (.type "function"))
    (F1 : FnOk X.prog X.w X.K X.mg X.base CX0 j fI fd ["self", "word", "value"] (spIni2 X.K)) (hr : Room (j + 1) X.A) (hb : Binds X.K fd ["self", "word", "value"] []) (hm : X.mg x = some (.ref C)) (ha : PE X e te) (ha2 : PE X e2 t2) (hg : Gl X x := by rfl)
    (hdb : (x == ("__debug__" : Str)) = false := by decide) (he : starEach (e :: [e2]) X.env = (false, eval e X.env) :: starEach [e2] X.env := by rfl) (he2 : starEach (e2 :: []) X.env = (false, eval e2 X.env) :: starEach [] X.env := by rfl) (hpl : (backTo pos (starEach [e2] X.env)).any (·.1) = false := by rfl) :
    PMk X (.Call (.Name x p) [e, e2] [] pos) (tNewR2 C te t2) := by
  refine pmk_weak (pmk_x (e := e) (es := [e2]) (dvs := []) T iC tI F1 hr hb .nil pass0 hg hm (pa_cons (pe_up ha) (pa_cons (pe_up ha2) pa_nil he2) he) hdb he hpl) fun σ H Q q => ?_
  refine ⟨_, q, fun z H1 q1 => ⟨_, q1, fun y H2 q2 => ⟨by show 2 ≤ 1000; decide, fun a hn => ⟨a, C, k, z, y, rfl, S, T, nv, nw, upd_same, fun H3 d hd ne keep e1 e2 => ⟨rfl, d, _, e1, e2, ?_, ?_⟩⟩⟩⟩⟩
  · exact (upd_ne ne).symm.trans hd
  · refine q2 d _ (fun b o z => ?_) ((upd_ne ne).symm.trans hd) upd_same
    have nb : b ≠ a := ne_of_none z hn
    have nd : b ≠ d := ne_of_none z ((upd_ne ne).symm.trans hd)
    exact (upd_ne nd).trans ((del_ne nb).trans (keep b o ((upd_ne nb).trans z) nb))
theorem pmk_new0 {x : Str} {C : Addr} {bmB : List Value} {B newId initId : String} {k : Kd} (T : XC X.K k C) (F : ExcBaseFacts B newId initId bmB) (q : PySem.W.excIn X.K C bmB newId = true) (kC : PySem.W.keepIn X.K (.ref C) = true) (hm : X.mg x = some (.ref C)) (hg : Gl X x := by rfl) (hdb : (x == ("__debug__" : Str)) = false := by decide) :
    PMk X (.Call (.Name x p) [] [] pos) (tNewR0 C) := by
  intro pins s σ H Q I h
  refine wpAny_Call_Name_kw (ld_glob I hg hm (PySem.W.callWith_K0 I.kIn kC ?_) hdb)
  obtain ⟨bm, N, nm, qn, bs, hdct, sn, sub, ab, col, dd, k0, k1, k2, k3, k5, mN, hC, hN, hni, T'⟩ := exc_obj I.kIn q
  refine wpAny_call_exc_subT F T' hC hN hni (fun h' a hm' => ?_) (Nat.zero_le _)
  exact mk_of I hm' (xc_raises T) h (I.hok.gone hm'.new)
end
/-! ### in an except suite -/
theorem obj_of {P : Program} {w : World} {H : Hp} {h : Heap} {dx : Addr} {q : HO} (hok : HOk P w H h) (e : H dx = some q) : ∃ ob, h.get? dx = some ob := by
  have z := hok dx q e
  cases q with
  | lst xs => obtain ⟨_, _, _, _, e1⟩ := z; exact ⟨_, e1⟩
  | tup xs => obtain ⟨_, _, _, o1, e1, _⟩ := z; exact ⟨_, e1⟩
  | dK kvs => obtain ⟨_, _, _, _, o1, _, _, e1, _⟩ := z; exact ⟨_, e1⟩
  | dT kvs => obtain ⟨_, _, _, _, o1, _, _, e1, _⟩ := z; exact ⟨_, e1⟩
  | set S n => obtain ⟨o1, _, _, _, e1, _⟩ := z; exact ⟨_, e1⟩
  | ins C1 d1 f1 => obtain ⟨_, _, _, e1, _⟩ := z; exact ⟨_, e1⟩
  | own y => obtain ⟨_, e1⟩ := z; exact ⟨_, e1⟩
  | xd fs => obtain ⟨_, ⟨_, _, _, e1, _⟩, _⟩ := z; exact ⟨_, e1⟩
  | rng lo hi => obtain ⟨_, _, _, e1⟩ := z; exact ⟨_, e1⟩
  | frz ob u => obtain ⟨e1, _⟩ := z; exact ⟨_, e1⟩
  | tbl ps => have e1 : h.get? dx = some _ := z; exact ⟨_, e1⟩
  | met f1 y => have e1 : h.get? dx = some _ := z; exact ⟨_, e1⟩
  | ext φ => obtain ⟨_, ⟨_, e1⟩, _⟩ := z; exact ⟨_, e1⟩
/-- e.n, e the caught exception at a -/
def tXv (K : PySem.W.Frag) (a : Addr) (cls : Value) (d : Option Addr) (n : Str) (te : TE) : TE := fun σ H Q => te σ H fun x H1 => x = .ref a ∧ ∃ (C dx : Addr) (fs : List (Str × V)) (v : V) (k : Kd), cls = .ref C ∧ d = some dx ∧ XC K k C ∧
  PySem.W.findIn K (.ref C) n = some none ∧ H1 dx = some (.xd fs) ∧ fs.lookup n = some v ∧ Q v H1
/-- isinstance(e, c) -/
def rIsS (K : PySem.W.Frag) (a : Addr) (cls : Value) (d : Option Addr) : List V → Hp → VK → Prop := fun xs H Q => ∃ (C : Addr) (k : Kd) (c : V) (cv : Value) (b : Bool), xs = [.ref a, c] ∧ cls = .ref C ∧ (∀ u, RelV c u → u = cv) ∧
  (∀ dx, d = some dx → ∃ o, H dx = some o) ∧ XC K k C ∧ PySem.W.kitOne K (.ref C) cv = some b ∧ Q (.bl b) H
def tIsS (K : PySem.W.Frag) (a : Addr) (cls : Value) (d : Option Addr) (te : TE) (cv : Value) : TE := fun σ H Q => te σ H fun x H1 => x = .ref a ∧ ∃ (C : Addr) (k : Kd) (b : Bool), cls = .ref C ∧ (∀ dx, d = some dx → ∃ o, H1 dx = some o) ∧ XC K k C ∧ PySem.W.kitOne K (.ref C) cv = some b ∧ Q (.bl b) H1
section
variable {X : Cx} {a : Addr} {oe : Obj} {cls : Value} {d : Option Addr} {pn : List (Addr × Obj)} {e e2 : Expr} {te : TE} {p pos : Pos}
theorem inst_at {C : Addr} {pins : List (Addr × Obj)} {σ : St} {H : Hp} {s : Shared} (I : Inv (X.suite a ((a, oe) :: pn)) pins σ H s) (hz : Zc cls d oe) (hf : ∃ vs, oe.data = .fields vs) (ec : cls = .ref C) (hd : ∀ dx, d = some dx → ∃ o, H dx = some o) :
    ∃ od : Option Obj, PySem.W.InstAt s.heap a oe C od ∧ ∀ dx, d = some dx → ∃ q, od = some q ∧ s.heap.get? dx = some q := by
  obtain ⟨ha, _⟩ := I.pin (a, oe) (List.mem_append_left _ List.mem_cons_self)
  obtain ⟨vs, hv⟩ := hf
  obtain ⟨z1, z2⟩ := hz
  have nc : PySem.W.notCls oe := by unfold PySem.W.notCls; rw [hv] <;> rfl
  cases d with
  | none => exact ⟨none, ⟨ha, z1.trans ec, nc, by rw [z2]; trivial⟩, fun dx z => by cases z⟩
  | some dx =>
    obtain ⟨q, hq⟩ := hd dx rfl
    obtain ⟨ob, hb⟩ := obj_of I.hok hq
    exact ⟨some ob, ⟨ha, z1.trans ec, nc, by rw [z2]; exact hb⟩, fun dy z => by cases z; exact ⟨ob, rfl, hb⟩⟩
theorem pe_xv {n : Str} (hz : Zc cls d oe) (hf : ∃ vs, oe.data = .fields vs) (he : PE (X.suite a ((a, oe) :: pn)) e te) (hb : attributeBase e n X.env (eval e X.env) = eval e X.env := by rfl) :
    PE (X.suite a ((a, oe) :: pn)) (.Attribute e n pos) (tXv X.K a cls d n te) := by
  refine ⟨fun pins s σ H Q I hh => attr_of hb (thn (he.run pins s σ H _ I hh) fun u s1 ⟨x, H1, I1, rx, q⟩ => ?_)⟩
  obtain ⟨rfl, C, dx, fs, v, k, ec, ed, T, hno, hx, l, q⟩ := q
  cases (show u = Value.ref a from rx)
  obtain ⟨od, J, hd⟩ := inst_at I1 hz hf ec fun dy z => by rw [ed] at z; cases z; exact ⟨_, hx⟩
  obtain ⟨ob, eo, ho⟩ := hd dx ed
  have hx2 : ObjOk X.prog X.w H1 s1.heap dx (.xd fs) := I1.hok dx _ hx
  obtain ⟨mA, hns, hr⟩ := hx2
  obtain ⟨o2, ho2, hl⟩ := lookIn_ns hns
  cases ho.symm.trans ho2
  subst eo
  obtain ⟨z, hz', rz⟩ := RelO.some_of (v := v) (o := mA n) (by rw [← l]; exact hr n)
  exact HandSPX.exc_get I1.kIn J T.ga T.gg (T.sub "BaseException" k.hE) (PySem.W.findObj_own T.hd hno rfl (by rw [hl, hz'])) (handed_of rz) ⟨v, H1, I1.tok _, rz, q⟩
theorem call_isS (hz : Zc cls d oe) (hf : ∃ vs, oe.data = .fields vs) : CallR (X.suite a ((a, oe) :: pn)) (.builtin "isinstance") (rIsS X.K a cls d) := by
  intro pins s σ H xs us Q I r q
  obtain ⟨C, k, c, cv, b, rfl, ec, hcv, hd, T, e, q⟩ := q
  cases r with
  | cons rx rr =>
    cases rr with
    | cons rt rr =>
      cases rr
      cases rx
      cases hcv _ rt
      obtain ⟨od, J, _⟩ := inst_at I hz hf ec hd
      exact PySem.W.kia_one (PySem.W.kitx_exc T.isC T.ga T.gg (T.sub "BaseException" k.hE) T.cl oc_get oc_take (T.sub "object" k.hO)) I.kIn J e (fun z => nomatch z) fun tk => ⟨.bl b, H, I.kept (t' := tk) fun _ _ z => z, rfl, q⟩
theorem pe_isS {c : V} {cv : Value} (hz : Zc cls d oe) (hf : ∃ vs, oe.data = .fields vs) (pe2 : PE (X.suite a ((a, oe) :: pn)) e2 (tC c)) (hv : ∀ u, RelV c u → u = cv) (hm : X.mg "isinstance" = none) (ha : PE (X.suite a ((a, oe) :: pn)) e te) (hg : Gl X "isinstance" := by rfl)
    (he : starEach (e :: [e2]) X.env = (false, eval e X.env) :: starEach [e2] X.env := by rfl) (he2 : starEach (e2 :: []) X.env = (false, eval e2 X.env) :: starEach [] X.env := by rfl) (hpl : (backTo pos (starEach [e2] X.env)).any (·.1) = false := by rfl) :
    PE (X.suite a ((a, oe) :: pn)) (.Call (.Name "isinstance" p) [e, e2] [] pos) (tIsS X.K a cls d te cv) := by
  refine pe_weak (pe_callB (e := e) (es := [e2]) (call_isS hz hf) hg hm boot_isinstance (pa_cons (pe_up ha) (pa_cons pe2 pa_nil he2) he) (by decide) (by decide) he hpl) fun σ H Q q => ?_
  refine ⟨_, q, fun x H1 q1 => ?_⟩
  obtain ⟨rfl, C, k, b, ec, hd, T, e, q⟩ := q1
  exact ⟨C, k, c, cv, b, rfl, ec, hv, hd, T, e, q⟩
end
end L2.Lr

set_option maxHeartbeats 4000000
namespace L2.Lr
open PySem PySem.Spec PyProof.Rows LR
/-! words for any law -/
/-- a loop whose body's ends are a letter -/
theorem for_rangeD {lo : Int} {n : Nat} {g : TG} {tb : TS} {D : Ends} {σ : St} {H : Hp} (Pv : Nat → St → Hp → Prop) (h0 : Pv 0 σ H)
    (hs : ∀ (D' : Ends) (i : Nat) (σ : St) (H : Hp), D'.rt = D.rt → (∀ σ H, Pv (i + 1) σ H → D'.nx σ H) → (∀ σ H, Pv (i + 1) σ H → D'.ct σ H) → (∀ σ H, D.nx σ H → D'.bk σ H) → i < n → Pv i σ H → g (.int (lo + i)) σ H fun σ2 H2 => tb D' σ2 H2) (hd : ∀ σ H, Pv n σ H → D.nx σ H) :
    ∃ W : Nat → Nat → St → Hp → Prop, (∃ m, W 0 m σ H) ∧ ∀ i m σ H, W i m σ H →
      ((Itr lo n).stop i H ∧ D.nx σ H) ∨ ((Itr lo n).go i H ∧ ∃ N : St → Hp → Prop, (∀ σ' H', N σ' H' → ∃ m', m' < m ∧ W (i + 1) m' σ' H') ∧ ∀ x H', (Itr lo n).yld i H x H' → g x σ H' fun σ2 H2 => tb { D with nx := N, ct := N, bk := D.nx } σ2 H2) :=
  for_range Pv h0 (fun i σ H hi hp => hs { D with nx := Pv (i + 1), ct := Pv (i + 1), bk := D.nx } i σ H rfl (fun _ _ h => h) (fun _ _ h => h) (fun _ _ h => h) hi hp) hd
theorem for_listD {K : PySem.W.Frag} {a : Addr} {xs : List V} {g : TG} {tb : TS} {D : Ends} {σ : St} {H : Hp} (Pv : Nat → St → Hp → Prop) (h0 : Pv 0 σ H) (hl : ∀ i σ H, i ≤ xs.length → Pv i σ H → SqL K H a xs)
    (hs : ∀ (D' : Ends) (i : Nat) (x : V) (σ : St) (H : Hp), D'.rt = D.rt → (∀ σ H, Pv (i + 1) σ H → D'.nx σ H) → (∀ σ H, Pv (i + 1) σ H → D'.ct σ H) → (∀ σ H, D.nx σ H → D'.bk σ H) → xs[i]? = some x → Pv i σ H → g x σ H fun σ2 H2 => tb D' σ2 H2) (hd : ∀ σ H, Pv xs.length σ H → D.nx σ H) :
    ∃ W : Nat → Nat → St → Hp → Prop, (∃ m, W 0 m σ H) ∧ ∀ i m σ H, W i m σ H →
      ((Itl K a).stop i H ∧ D.nx σ H) ∨ ((Itl K a).go i H ∧ ∃ N : St → Hp → Prop, (∀ σ' H', N σ' H' → ∃ m', m' < m ∧ W (i + 1) m' σ' H') ∧ ∀ x H', (Itl K a).yld i H x H' → g x σ H' fun σ2 H2 => tb { D with nx := N, ct := N, bk := D.nx } σ2 H2) :=
  for_list Pv h0 hl (fun i x σ H hi hp => hs { D with nx := Pv (i + 1), ct := Pv (i + 1), bk := D.nx } i x σ H rfl (fun _ _ h => h) (fun _ _ h => h) (fun _ _ h => h) hi hp) hd
theorem for_tupD {K : PySem.W.Frag} {a : Addr} {xs : List V} {g : TG} {tb : TS} {D : Ends} {σ : St} {H : Hp} (Pv : Nat → St → Hp → Prop) (h0 : Pv 0 σ H) (hl : ∀ i σ H, i ≤ xs.length → Pv i σ H → SqT K H a xs)
    (hs : ∀ (D' : Ends) (i : Nat) (x : V) (σ : St) (H : Hp), D'.rt = D.rt → (∀ σ H, Pv (i + 1) σ H → D'.nx σ H) → (∀ σ H, Pv (i + 1) σ H → D'.ct σ H) → (∀ σ H, D.nx σ H → D'.bk σ H) → xs[i]? = some x → Pv i σ H → g x σ H fun σ2 H2 => tb D' σ2 H2) (hd : ∀ σ H, Pv xs.length σ H → D.nx σ H) :
    ∃ W : Nat → Nat → St → Hp → Prop, (∃ m, W 0 m σ H) ∧ ∀ i m σ H, W i m σ H →
      ((Itt K a).stop i H ∧ D.nx σ H) ∨ ((Itt K a).go i H ∧ ∃ N : St → Hp → Prop, (∀ σ' H', N σ' H' → ∃ m', m' < m ∧ W (i + 1) m' σ' H') ∧ ∀ x H', (Itt K a).yld i H x H' → g x σ H' fun σ2 H2 => tb { D with nx := N, ct := N, bk := D.nx } σ2 H2) :=
  for_tup Pv h0 hl (fun i x σ H hi hp => hs { D with nx := Pv (i + 1), ct := Pv (i + 1), bk := D.nx } i x σ H rfl (fun _ _ h => h) (fun _ _ h => h) (fun _ _ h => h) hi hp) hd
theorem ite_dec {p : Prop} [Decidable p] {A B : Prop} (h1 : p → A) (h2 : ¬ p → B) : if decide p = true then A else B := by
  by_cases h : p
  · rw [if_pos (decide_eq_true h)]
    exact h1 h
  · rw [if_neg (by rw [decide_eq_false h]; exact Bool.false_ne_true)]
    exact h2 h
theorem go_next {D : Ends} {σ : St} {H : Hp} (h : D.nx σ H) : tNext D σ H := h
theorem go_seq {t u : TS} {D : Ends} {σ : St} {H : Hp} (h : t { D with nx := u D } σ H) : tSeq t u D σ H := h
theorem go_asg {te : TE} {g : TG} {D : Ends} {σ : St} {H : Hp} (h : te σ H fun x H1 => g x σ H1 D.nx) : tAsg te g D σ H := h
theorem eqv_ne {d e : PyData} {A B : Prop} (h : PyData.eqv d e = true) (b : B) : if (!PyData.eqv d e) = true then A else B := by
  rw [h]
  exact iteF b
theorem all_range {n : Nat} {p : Nat → Bool} (h : (List.range n).all p = true) (i : Nat) (hi : i < n) : p i = true := List.all_eq_true.mp h i (List.mem_range.mpr hi)
/-! ### a Hook with a check of one's own -/
def obsEG (n : Nat) (chk : PySem.W.Frag → Bool) (fa : List He.Fa) (fn : List He.DefD) (g : Addr → Option Obj) : Bool × He.AlD := (fun K => (chk K, He.obsD fa fn K)) (He.frG g (He.asD g n))
def hookE (n : Nat) (chk : PySem.W.Frag → Bool) (fa : List He.Fa) (fn : List He.DefD) : PySem.W.Hook where
  α := Bool × He.AlD
  obs := fun s => obsEG n chk fa fn s.heap.get?
  val := fun _ => (true, He.valD fn)
  says := fun _ h => ∃ K : PySem.W.Frag, K.In h ∧ chk K = true ∧ He.SaysD fa fn K
  of := fun _ _ e => ⟨_, He.frG_in, congrArg (fun z : Bool × He.AlD => z.1) e, congrArg (fun z : Bool × He.AlD => z.2) e⟩
  keeps := fun _ _ _ ⟨K, hK, c⟩ k => ⟨K, PySem.W.Frag.In.keeps hK k, c⟩
theorem obsEG_eq {n : Nat} {chk : PySem.W.Frag → Bool} {fa : List He.Fa} {fn : List He.DefD} {g : Addr → Option Obj} {s : Shared} (h : ∀ a, g a = s.heap.get? a) : obsEG n chk fa fn g = (hookE n chk fa fn).obs s := by
  have e : g = s.heap.get? := funext h
  rw [e]
  rfl
/-! ### int(x) -/
def tInt (te : TE) : TE := fun σ H Q => te σ H fun x H1 => ∃ i, x = .int i ∧ Q (.int i) H1
def tIntB (te : TE) : TE := fun σ H Q => te σ H fun x H1 => ∃ k, x = .bl k ∧ Q (.int (if k then 1 else 0)) H1
section
variable {X : Cx} {e : Expr} {te : TE} {p pos : Pos}
theorem pe_toI (hm : X.mg "int" = none) (ha : PE X e te) (hg : Gl X "int" := by rfl) (he : starEach (e :: []) X.env = (false, eval e X.env) :: starEach [] X.env := by rfl) (hpl : (backTo pos (starEach [] X.env)).any (·.1) = false := by rfl) : PE X (.Call (.Name "int" p) [e] [] pos) (tInt te) :=
  pe_weak (pe_callTy (e := e) (es := []) call_int1 hg hm (by decide +kernel) (pa_cons (pe_up ha) pa_nil he) (by decide) (by decide) he hpl) fun σ H Q q => ⟨_, q, fun x H1 ⟨i, ex, q1⟩ => .inl ⟨i, by rw [ex], q1⟩⟩
theorem pe_toIB (hm : X.mg "int" = none) (ha : PE X e te) (hg : Gl X "int" := by rfl) (he : starEach (e :: []) X.env = (false, eval e X.env) :: starEach [] X.env := by rfl) (hpl : (backTo pos (starEach [] X.env)).any (·.1) = false := by rfl) : PE X (.Call (.Name "int" p) [e] [] pos) (tIntB te) :=
  pe_weak (pe_callTy (e := e) (es := []) call_int1 hg hm (by decide +kernel) (pa_cons (pe_up ha) pa_nil he) (by decide) (by decide) he hpl) fun σ H Q q => ⟨_, q, fun x H1 ⟨i, ex, q1⟩ => .inr ⟨i, by rw [ex], q1⟩⟩
end
/-! ### data -/
def tyN : PyData → String
  | .none => "NoneType"
  | .bool _ => "bool"
  | .int _ => "int"
  | .str _ => "str"
  | .list _ => "list"
  | .tuple _ => "tuple"
  | .dict _ => "dict"
theorem tyD {K : PySem.W.Frag} {H : Hp} {x : V} {d : PyData} (h : Dp K H x d) : TyX K H x (.type (tyN d)) := by
  cases h with
  | non => exact .base .non
  | bl b => exact .base (.bl b)
  | int i => exact .base (.int i)
  | str s => exact .base (.str s)
  | lst h _ =>
    rcases h with (h | ⟨o, h⟩) | ⟨o, its, n, h, c, _⟩
    · exact .base (.lst h)
    · exact .base (.frz h)
    · exact .kList h c
  | tup h _ =>
    rcases h with (h | ⟨o, h⟩) | ⟨o, its, n, h, c, _⟩
    · exact .base (.tup h)
    · exact .fTuple h
    · exact .kTuple h c
theorem seqT {K : PySem.W.Frag} {H H' : Hp} {a : Addr} {xs : List V} (s : Same H H') (h : SqT K H a xs) : SqT K H' a xs := by
  rcases h with (h | ⟨o, h⟩) | h
  · exact .inl (.inl (s _ _ h))
  · exact .inl (.inr ⟨o, s _ _ h⟩)
  · exact .inr h
mutual
theorem Dp.same {K : PySem.W.Frag} {H H' : Hp} (s : Same H H') : ∀ {v : V} {d : PyData}, Dp K H v d → Dp K H' v d
  | _, _, .non => .non
  | _, _, .bl b => .bl b
  | _, _, .int i => .int i
  | _, _, .str x => .str x
  | _, _, .lst h a => .lst (s.seq h) (DpAll.same s a)
  | _, _, .tup h a => .tup (seqT s h) (DpAll.same s a)
theorem DpAll.same {K : PySem.W.Frag} {H H' : Hp} (s : Same H H') : ∀ {vs : List V} {ds : List PyData}, DpAll K H vs ds → DpAll K H' vs ds
  | _, _, .nil => .nil
  | _, _, .cons h a => .cons (Dp.same s h) (DpAll.same s a)
end
/-- isinstance(x, t) of data -/
def tIsD (K : PySem.W.Frag) (t : String) (te : TE) : TE := fun σ H Q => te σ H fun x H1 => ∃ d b, Dp K H1 x d ∧ kitB (tyN d) t = some b ∧ Q (.bl b) H1
theorem pe_isD {X : Cx} {e e2 : Expr} {te : TE} {p pos : Pos} {t : String} (hm : X.mg "isinstance" = none) (ha : PE X e te) (pe2 : PE X e2 (tC (.ty t))) (hg : Gl X "isinstance" := by rfl)
    (he : starEach (e :: [e2]) X.env = (false, eval e X.env) :: starEach [e2] X.env := by rfl) (he2 : starEach (e2 :: []) X.env = (false, eval e2 X.env) :: starEach [] X.env := by rfl) (hpl : (backTo pos (starEach [e2] X.env)).any (·.1) = false := by rfl) :
    PE X (.Call (.Name "isinstance" p) [e, e2] [] pos) (tIsD X.K t te) :=
  pe_weak (pe_callB (e := e) (es := [e2]) call_isi hg hm boot_isinstance (pa_cons (pe_up ha) (pa_cons pe2 pa_nil he2) he) (by decide) (by decide) he hpl) fun σ H Q q => ⟨_, q, fun x H1 ⟨d, b, hd, hk, q1⟩ => ⟨x, .ty t, .type (tyN d), .type t, b, rfl, .ty t, tyD hd, kit_ty hk, q1⟩⟩
/-! ### displays of constants -/
/-- the value is this data -/
def tDat (K : PySem.W.Frag) (d : PyData) : TE := fun _ H Q => ∀ v H', Same H H' → Dp K H' v d → Q v H'
def tDats (K : PySem.W.Frag) (ds : List PyData) : TA := fun _ H Q => ∀ vs H', Same H H' → DpAll K H' vs ds → Q vs H'
/-- a new list of this data -/
def tDatL (K : PySem.W.Frag) (ds : List PyData) : TE := fun _ H Q => ∀ p vs H', Same H H' → H' p = some (.lst vs) → DpAll K H' vs ds → Q (.ref p) H'
theorem DpAll.length {K : PySem.W.Frag} {H : Hp} : ∀ {vs : List V} {ds : List PyData}, DpAll K H vs ds → vs.length = ds.length
  | _, _, .nil => rfl
  | _, _, .cons _ a => by simp [DpAll.length a]
theorem DpAll.append {K : PySem.W.Frag} {H : Hp} : ∀ {vs us : List V} {ds es : List PyData}, DpAll K H vs ds → DpAll K H us es → DpAll K H (vs ++ us) (ds ++ es)
  | _, _, _, _, .nil, b => b
  | _, _, _, _, .cons h a, b => .cons h (DpAll.append a b)
theorem DpAll.at {K : PySem.W.Frag} {H : Hp} : ∀ {vs : List V} {ds : List PyData} {i : Nat} {v : V}, DpAll K H vs ds → vs[i]? = some v → ∃ d, ds[i]? = some d ∧ Dp K H v d
  | _, _, _, _, .nil, e => by simp at e
  | _, _, 0, _, .cons h a, e => by simp at e; subst e; exact ⟨_, rfl, h⟩
  | _ :: vs, _ :: ds, i + 1, v, .cons h a, e => DpAll.at (vs := vs) (ds := ds) (i := i) a (by simpa using e)
section
variable {X : Cx} {e : Expr} {es : List Expr} {d : PyData} {ds : List PyData} {p pos : Pos}
theorem pd_int {i : Int} {k} : PE X (.Constant (.int i) k p) (tDat X.K (.int i)) := pe_weak pe_int fun σ H Q q => q _ _ (Same.refl H) (.int i)
theorem pd_str {x : Str} {k} : PE X (.Constant (.str x) k p) (tDat X.K (.str x)) := pe_weak pe_str fun σ H Q q => q _ _ (Same.refl H) (.str x)
theorem pd_bl {b : Bool} {k} : PE X (.Constant (.bool b) k p) (tDat X.K (.bool b)) := pe_weak pe_bl fun σ H Q q => q _ _ (Same.refl H) (.bl b)
theorem pd_non {k} : PE X (.Constant .none k p) (tDat X.K .none) := pe_weak pe_non fun σ H Q q => q _ _ (Same.refl H) .non
theorem pd_neg {i : Int} {k} : PE X (.UnaryOp .USub (.Constant (.int i) k p) pos) (tDat X.K (.int (-i))) := pe_weak (pe_un un_neg pe_int) fun σ H Q q => ⟨i, rfl, q _ _ (Same.refl H) (.int (-i))⟩
theorem pd_nil : PA X [] (tDats X.K []) := pa_weak pa_nil fun σ H Q q => q [] H (Same.refl H) .nil
theorem pd_cons (h1 : PE X e (tDat X.K d)) (h2 : PA X es (tDats X.K ds)) (hs : starEach (e :: es) X.env = (false, eval e X.env) :: starEach es X.env := by rfl) : PA X (e :: es) (tDats X.K (d :: ds)) :=
  pa_weak (pa_cons h1 h2 hs) fun σ H Q q v H1 s1 h1 vs H2 s2 h2 => q (v :: vs) H2 (s1.trans s2) (.cons (Dp.same s2 h1) h2)
theorem pd_tup {x1} (h : PA X es (tDats X.K ds)) (hz : ds.length ≤ sizeLine := by show _ ≤ _; decide) : PE X (.Tuple es x1 pos) (tDat X.K (.tuple ds)) :=
  pe_weak (pe_tup h) fun σ H Q q vs H1 s1 h1 => ⟨by rw [DpAll.length h1]; exact hz, fun p np => q _ _ (s1.trans (same_upd np)) (.tup (SqT.of upd_same) (DpAll.same (same_upd np) h1))⟩
theorem pd_lst {x1} (h : PA X es (tDats X.K ds)) (hz : ds.length ≤ sizeLine := by show _ ≤ _; decide) : PE X (.List es x1) (tDat X.K (.list ds)) :=
  pe_weak (pe_lst h) fun σ H Q q vs H1 s1 h1 => ⟨by rw [DpAll.length h1]; exact hz, fun p np => q _ _ (s1.trans (same_upd np)) (.lst (SqL.of upd_same) (DpAll.same (same_upd np) h1))⟩
theorem pd_lstL {x1} (h : PA X es (tDats X.K ds)) (hz : ds.length ≤ sizeLine := by show _ ≤ _; decide) : PE X (.List es x1) (tDatL X.K ds) :=
  pe_weak (pe_lst h) fun σ H Q q vs H1 s1 h1 => ⟨by rw [DpAll.length h1]; exact hz, fun p np => q p vs _ (s1.trans (same_upd np)) upd_same (DpAll.same (same_upd np) h1)⟩
end
/-! ### displays of pairs of names -/
/-- tuples of the values of two slots each -/
def tPairs (l : List (Nat × Nat)) : TA := fun σ H Q => ∃ f : Nat → V, (∀ q, q ∈ l → σ[q.1]? = some (some (f q.1)) ∧ σ[q.2]? = some (some (f q.2))) ∧
  ∀ (as : List Addr) (H' : Hp), Same H H' → as.length = l.length → (∀ (n : Nat) (a : Addr) (q : Nat × Nat), as[n]? = some a → l[n]? = some q → H' a = some (.tup [f q.1, f q.2])) → Q (as.map V.ref) H'
section
variable {X : Cx} {e1 e2 : Expr} {es : List Expr} {i j : Nat} {l : List (Nat × Nat)} {p pos : Pos}
theorem pa_pair0 : PA X [] (tPairs []) := pa_weak pa_nil fun σ H Q ⟨f, _, q⟩ => q [] H (Same.refl H) rfl fun n a r e => by simp at e
theorem pa_pair {x1} (h1 : PE X e1 (tVar i)) (h2 : PE X e2 (tVar j)) (h : PA X es (tPairs l)) (he : starEach (e1 :: [e2]) X.env = (false, eval e1 X.env) :: starEach [e2] X.env := by rfl) (he2 : starEach (e2 :: []) X.env = (false, eval e2 X.env) :: starEach [] X.env := by rfl)
    (hs : starEach (.Tuple [e1, e2] x1 pos :: es) X.env = (false, eval (.Tuple [e1, e2] x1 pos) X.env) :: starEach es X.env := by rfl) : PA X (.Tuple [e1, e2] x1 pos :: es) (tPairs ((i, j) :: l)) :=
  pa_weak (pa_cons (pe_tup (pa_cons h1 (pa_cons h2 pa_nil he2) he)) h hs) fun σ H Q ⟨f, hf, q⟩ => by
    obtain ⟨f1, f2⟩ := hf (i, j) (List.mem_cons_self ..)
    refine ⟨_, f1, _, f2, by show 2 ≤ sizeLine; decide, fun a na => ⟨f, fun q m => hf q (List.mem_cons_of_mem _ m), fun as H2 s2 hl ha => q (a :: as) H2 ((same_upd na).trans s2) (by simp [hl]) fun n b r e1 e2 => ?_⟩⟩
    cases n with
    | zero =>
      simp at e1 e2
      subst e1 e2
      exact s2 _ _ upd_same
    | succ n => exact ha n b r (by simpa using e1) (by simpa using e2)
end
end L2.Lr

set_option maxHeartbeats 4000000
namespace L2.Lr
open PySem PySem.Spec PyProof.Rows LR
/-! several except clauses, each with a name or none -/
/-- a caught exception: I is the state around it -/
structure Got (X : Cx) (pins : List (Addr × Obj)) (σ : St) (H : Hp) (B : Heap) (sI : Shared) (a : Addr) (cls : Value) (d : Option Addr) (s : Shared) : Prop where
  I : Inv X pins σ H sI
  nb : ∀ b o, sI.heap.get? b = some o → b ∉ frs X.stack → B.get? b = some o
  up : sI.heap.UpToSlots s.heap
  fl : HandSPX.FlyingZ B (X.env :: X.outer) a (Zc cls d) s.heap
  os : s.os = sI.os
  ag : AllBare s.gens
  na : H a = none
section
variable {X : Cx} {pins : List (Addr × Obj)} {σ : St} {H : Hp} {B : Heap} {sI s : Shared} {a : Addr} {cls : Value} {d : Option Addr}
theorem Got.at_ (G : Got X pins σ H B sI a cls d s) {h' : Heap} (fl : HandSPX.FlyingZ B (X.env :: X.outer) a (Zc cls d) h') (up : s.heap.UpToSlots h') : Got X pins σ H B sI a cls d { s with heap := h' } :=
  ⟨G.I, G.nb, G.up.trans up, fl, G.os, G.ag, G.na⟩
/-- the state within a suite -/
theorem Got.suite (G : Got X pins σ H B sI a cls d s) (hf : X.env.frame = some X.env.locals) : ∃ oe vs, s.heap.get? a = some oe ∧ Zc cls d oe ∧ oe.data = .fields vs ∧ Inv (X.suite a ((a, oe) :: (X.pn ++ pins))) [] σ H s := by
  obtain ⟨oe, vs, e1, e2, e3⟩ := G.fl.there
  have off : a ∉ frs (X.env :: X.outer) := fun m => by
    obtain ⟨_, o', e', n⟩ := G.fl.2.2.1.mem m
    cases e1.symm.trans e'
    exact n _ e3
  have J : Inv X pins σ H s := G.I.landed G.nb G.fl.1 G.up G.os G.ag
  refine ⟨oe, vs, e1, e2, e3, J.suite e1 e3 G.na (fun z => off ?_) fun m => off ?_⟩
  · exact List.mem_filterMap.mpr ⟨X.env, List.mem_cons_self, by rw [hf, z]⟩
  · obtain ⟨e, he, q⟩ := List.mem_filterMap.mp m
    exact List.mem_filterMap.mpr ⟨e, List.mem_cons_of_mem _ he, q⟩
end
/-- the ends of a suite whose name, at slot i, goes behind it -/
def offD (i : Nat) (D : Ends) : Ends := { nx := fun σ H => D.nx (σ.set i none) H, rt := D.rt, bk := fun σ H => D.bk (σ.set i none) H, ct := fun σ H => D.ct (σ.set i none) H }
abbrev Cl : Type := Value × Option Nat × (Addr → Value → Option Addr → TS)
/-- what the clauses wish of an exception of the body -/
def wCl (K : PySem.W.Frag) (Wout : WX) (D : Ends) : List Cl → WX
  | [] => Wout
  | (c, none, ts) :: r => fun cls d σ H => ∃ b, PySem.W.exmOne K cls c = some b ∧ (b = true → ∀ a, H a = none → ts a cls d D σ H) ∧ (b = false → wCl K Wout D r cls d σ H)
  | (c, some i, ts) :: r => fun cls d σ H => ∃ b, PySem.W.exmOne K cls c = some b ∧ (b = true → ∀ a, H a = none → ts a cls d (offD i D) (σ.set i (some (.ref a))) H) ∧ (b = false → wCl K Wout D r cls d σ H)
inductive ClOk (X : Cx) : List ExceptHandler → List Cl → Prop
  | nil : ClOk X [] []
  | plain {x : Str} {c : Value} {ts : Addr → Value → Option Addr → TS} {b₀ : Stmt} {su : List Stmt} {np pos' : Pos} {hds : List ExceptHandler} {l : List Cl} (hc : Names X x c)
      (hsu : ∀ (a : Addr) (oe : Obj) (cls : Value) (d : Option Addr) (pn : List (Addr × Obj)), Zc cls d oe → (∃ vs, oe.data = .fields vs) → PSs (X.suite a ((a, oe) :: pn)) (b₀ :: su) (ts a cls d)) (r : ClOk X hds l) :
      ClOk X (.ExceptHandler (some (.Name x np)) none (b₀ :: su) pos' :: hds) ((c, none, ts) :: l)
  | named {x n : Str} {i : Nat} {c : Value} {ts : Addr → Value → Option Addr → TS} {b₀ : Stmt} {su : List Stmt} {np pos' : Pos} {hds : List ExceptHandler} {l : List Cl} (hi : X.N[i]? = some n) (hl : X.env.kindOf n = some .local) (hc : Names X x c)
      (hsu : ∀ (a : Addr) (oe : Obj) (cls : Value) (d : Option Addr) (pn : List (Addr × Obj)), Zc cls d oe → (∃ vs, oe.data = .fields vs) → PSs (X.suite a ((a, oe) :: pn)) (b₀ :: su) (ts a cls d)) (r : ClOk X hds l) :
      ClOk X (.ExceptHandler (some (.Name x np)) (some n) (b₀ :: su) pos' :: hds) ((c, some i, ts) :: l)
section
variable {X : Cx} {pins : List (Addr × Obj)} {σ : St} {H : Hp} {B : Heap} {sI s : Shared} {a : Addr} {cls : Value} {d : Option Addr} {D : Ends} {Wout : WX}
theorem Got.out (G : Got X pins σ H B sI a cls d s) (hs : X.stack = X.env :: X.outer) (hf : X.env.frame = some X.env.locals) (tk : Takes X Wout) (w : Wout cls d σ H) :
    wpAny (model X.prog X.w) X.A (handleBy (.ref a) X.env []) (SP X pins D) X.xe s := by
  refine wpAny_handleBy_nil ?_
  obtain ⟨_, _, _, oe, vs, T, oT, ts', e1, _, e2, e3, _⟩ := id G.fl
  unfold PySem.passOn
  refine wpAny_bind (wpAny_field e1 e2 e3 ?_)
  rw [if_neg (show ¬ ((Value.ref T == Value.none) = true) by simp)]
  have last : wpAny (model X.prog X.w) X.A (setFlight (.ref a) X.env.frame) (fun _ s4 => wpAny (model X.prog X.w) X.A (throw (.ref a) : Sem Flow) (SP X pins D) X.xe s4) X.xe s := by
    rw [hf]
    refine HandSPX.setFlight_upZ G.fl fun h4 held up4 => wpAny_throw (tk _ _ ⟨a, B, sI, pins, σ, H, cls, d, rfl, G.I, G.nb, G.up.trans up4, .inr (.inr ?_), G.na, G.os, G.ag, w⟩)
    rw [hs]
    exact held
  first
    | exact wpAny_bind (wpAny_pure (wpAny_bind last))
    | exact wpAny_bind last
/-- the clauses, at a caught exception -/
theorem clauses (hs : X.stack = X.env :: X.outer) (hf : X.env.frame = some X.env.locals) (hN : X.N.Nodup) (tk : Takes X Wout) (ok : X.Ok) {hds : List ExceptHandler} {l : List Cl} (hk : ClOk X hds l) :
    ∀ {s : Shared}, Got X pins σ H B sI a cls d s → wCl X.K Wout D l cls d σ H → wpAny (model X.prog X.w) X.A (handleBy (.ref a) X.env hds) (SP X pins D) X.xe s := by
  -- the test of one clause
  have test : ∀ {x : Str} {c : Value} {np : Pos} {b : Bool} {s : Shared} {Q : Bool → Shared → Prop} {E1 E2 : Value → Shared → Prop}, Names X x c → PySem.W.exmOne X.K cls c = some b → Got X pins σ H B sI a cls d s → Q b s →
      wpAny (model X.prog X.w) (X.A.mark (some (.ref a))) (eval (.Name x np) X.env) (fun c s1 => wpAny (model X.prog X.w) (X.A.mark (some (.ref a))) (excMatches (.ref a) c) Q E1 s1) E2 s := by
    intro x c np b s Q E1 E2 hc hb G q
    obtain ⟨oe, vs, e1, e2, e3, S⟩ := G.suite hf
    have LT : PySem.W.Looks (model X.prog X.w) s.heap (typeOf (.ref a)) cls := fun A Q E s1 k q => wpAny_typeOf_ref (k _ _ e1) (by rw [e2.1]; exact q)
    have LM := PySem.W.exm_one (M := model X.prog X.w) S.kIn LT hb
    obtain ⟨hg, hdb, hm | ⟨hm, hv, hn⟩⟩ := hc
    · exact ld_glob (X := X.suite a ((a, oe) :: (X.pn ++ pins))) S hg hm (LM.here q) hdb
    · exact ld_blt (X := X.suite a ((a, oe) :: (X.pn ++ pins))) S hg hm hv (LM.here q) hn hdb
  induction hk with
  | nil => exact fun G w => G.out hs hf tk w
  | @plain x c ts b₀ su np pos' hds2 l2 hc hsu r ih =>
    intro s G w
    obtain ⟨b, hb, yes, no⟩ := w
    refine wpAny_handleBy_cons (codeAny_handlers_test (test hc hb G ?_)) (by intro q; cases q)
    cases b with
    | false => exact ih G (no rfl)
    | true =>
      refine codeAny_handlers_suite (HandSPX.lands_againZ G.fl fun h4 fl4 up4 => ?_)
      obtain ⟨oe, vs, e1, e2, e3, S⟩ := (G.at_ fl4 up4).suite hf
      refine wpAny_mono ((hsu a oe cls d (X.pn ++ pins) e2 ⟨_, e3⟩).run [] _ σ H _ S (yes rfl a G.na)) (fun f s6 q => ?_) (fun _ _ z => False.elim z)
      match f, q with
      | .next, ⟨σ6, H6, S6, q6⟩ => exact ⟨_, _, S6.unsuite ok, q6⟩
      | .brk, ⟨σ6, H6, S6, q6⟩ => exact ⟨_, _, S6.unsuite ok, q6⟩
      | .cont, ⟨σ6, H6, S6, q6⟩ => exact ⟨_, _, S6.unsuite ok, q6⟩
      | .ret u, ⟨v6, σ6, H6, S6, r6, q6⟩ => exact ⟨_, _, _, S6.unsuite ok, r6, q6⟩
  | @named x n i c ts b₀ su np pos' hds2 l2 hi hl hc hsu r ih =>
    intro s G w
    obtain ⟨b, hb, yes, no⟩ := w
    refine wpAny_handleBy_cons (codeAny_handlers_test (test hc hb G ?_)) (by intro q; cases q)
    cases b with
    | false => exact ih G (no rfl)
    | true =>
      refine codeAny_handlers_suite_as (HandSPX.lands_againZ G.fl fun h4 fl4 up4 => ?_)
      obtain ⟨oe, vs, e1, e2, e3, S⟩ := (G.at_ fl4 up4).suite hf
      refine store_ok (X := X.suite a ((a, oe) :: (X.pn ++ pins))) (v := .ref a) S hN hi (.inl hl) rfl (fun s5 S5 => ?_) (.inr hl)
      refine wpAny_mono ((hsu a oe cls d (X.pn ++ pins) e2 ⟨_, e3⟩).run [] s5 _ H _ S5 (yes rfl a G.na)) (fun f s6 q => ?_) (fun _ _ z => False.elim z)
      match f, q with
      | .next, ⟨σ6, H6, S6, q6⟩ => exact gone_ok (S6.unsuite ok) hN hi hl fun s7 J7 => ⟨_, _, J7, q6⟩
      | .brk, ⟨σ6, H6, S6, q6⟩ => exact gone_ok (S6.unsuite ok) hN hi hl fun s7 J7 => ⟨_, _, J7, q6⟩
      | .cont, ⟨σ6, H6, S6, q6⟩ => exact gone_ok (S6.unsuite ok) hN hi hl fun s7 J7 => ⟨_, _, J7, q6⟩
      | .ret u, ⟨v6, σ6, H6, S6, r6, q6⟩ => exact gone_ok (S6.unsuite ok) hN hi hl fun s7 J7 => ⟨_, _, _, J7, r6, q6⟩
/-- try: body / except x as n: .. / except y as m: .. -/
theorem ps_try_cl {body : List Stmt} {h₀ : ExceptHandler} {hds : List ExceptHandler} {l : List Cl} {pos : Pos} {tb : WX → TS} (hs : X.stack = X.env :: X.outer) (hf : X.env.frame = some X.env.locals) (hN : X.N.Nodup) (tk : Takes X Wout)
    (hb : ∀ (W : WX) (pn : List (Addr × Obj)) (xe : Value → Shared → Prop), Takes (X.tr pn xe) W → PassesOwn (model X.prog X.w) X.A X.env xe → PSs (X.tr pn xe) body (tb W))
    (hk : ClOk X (h₀ :: hds) l) : PS X (.Try body (h₀ :: hds) [] [] pos) (fun D σ H => tb (wCl X.K Wout D l) D σ H) := by
  refine ⟨fun pins s σ H D I h => wpAny_Try_except ?_⟩
  have ok := I.ok
  have fr : X.A.frames = some (X.env :: X.outer) := ok.frames.trans (congrArg some hs)
  refine wpAny_mono ((hb (wCl X.K Wout D l) (X.pn ++ pins) (fun e s₁ => wpAny (model X.prog X.w) X.A (noteFrame e X.env) (fun _ s₂ => wpAny (model X.prog X.w) X.A (setFlight e none) (fun _ s₃ =>
    wpAny (model X.prog X.w) X.A (handleBy e X.env (h₀ :: hds)) (SP X pins D) X.xe s₃) X.xe s₂) X.xe s₁) (fun u s' x => ?_) PassesOwn.looking).run [] s σ H D (I.toTry _) h) (fun f s1 q => ?_) (fun e s1 he => he)
  · obtain ⟨a, B, sI, pins', σ', H', cls, d, rfl, J', nb, up, sky, na, os, ag, w⟩ := x
    have sky' : Sky B (X.env :: X.outer) a (Zc cls d) X.env.locals s'.heap := hs ▸ sky
    show wpAny (model X.prog X.w) X.A (noteFrame (.ref a) X.env) _ _ _
    exact Sky.land Zc.steady fr hf sky' fun h3 fl3 up3 => clauses hs hf hN tk ok hk ⟨J'.ofTry ok, nb, up.trans up3, fl3, os, ag, na⟩ w
  · match f, q with
    | .next, ⟨σ', H', J', q⟩ => exact wpAny_execs_nil ⟨σ', H', J'.ofTry ok, q⟩
    | .brk, ⟨σ', H', J', q⟩ => exact ⟨σ', H', J'.ofTry ok, q⟩
    | .cont, ⟨σ', H', J', q⟩ => exact ⟨σ', H', J'.ofTry ok, q⟩
    | .ret u, ⟨v, σ', H', J', r, q⟩ => exact ⟨v, σ', H', J'.ofTry ok, r, q⟩
end
end L2.Lr

set_option maxHeartbeats 4000000
namespace L2.Lr
open PySem PySem.Spec PyProof.Rows LR
/-! defs that stand where no repr is under way -/
/-- nothing is being written -/
def Quiet (A : Around) : Prop := A.guards = some []
theorem Quiet.deeper {A : Around} (q : Quiet A) (env : Env) : Quiet (A.deeper env) := q
/-- a promise of a def, kept where nothing is being written -/
structure FnQ (P : Program) (w : World) (K : PySem.W.Frag) (mg : Str → Option Value) (base : Heap) (CX : CXT) (k : Nat) (f : Addr) (fd : FuncData) (ps : List Str) (sp : Sp) : Prop where
  len : ∀ vs H Q E, sp vs H Q E → vs.length = ps.length
  run : ∀ (A : Around) (outer : List Env) (s : Shared) (H : Hp) (args : Args) (us : List Value) (vs : List V) (Q : VK) (E : XK), Quiet A → Room k A → Env0 P w K mg base A outer s H → BindsTo s fd args (ps.zip us) → Vals vs us → sp vs H Q E →
    codeAny (model P w) A (.call (.ref f) args) (CR CX outer P w H s Q E) s
section
variable {P : Program} {w : World} {K : PySem.W.Frag} {mg : Str → Option Value} {base : Heap} {CX : CXT} {k : Nat} {f : Addr} {fd : FuncData} {ps : List Str} {sp : Sp}
theorem FnQ.all (F : FnOk P w K mg base CX k f fd ps sp) : FnQ P w K mg base CX k f fd ps sp := ⟨F.len, fun A outer s H args us vs Q E _ => F.run A outer s H args us vs Q E⟩
theorem FnQ.of {x qual : Str} {pa : Arguments} {body : List Stmt} {scope : Scope} {N : List Str} (F : FunD K x qual pa body scope [] [] f fd) (S : FnScope N ps scope) (len : ∀ vs H Q E, sp vs H Q E → vs.length = ps.length)
    (go : ∀ (cdv : Value) (A : Around) (outer : List Env) (s : Shared) (H : Hp) (vs : List V) (Q : VK) (E : XK), Quiet A → Room k (A.deeper (envOfC qual scope s.heap.objs.size f cdv)) → sp vs H Q E →
      ∃ t, PSs (cxOf CX P w K mg base N qual scope f cdv A outer s H E) body t ∧ t { nx := fun _ H' => Q .non H', rt := Q } (start N vs) H) : FnQ P w K mg base CX (k + 1) f fd ps sp := by
  obtain ⟨oc, od, dV, kV, doc, pm, an, cdv, ct, osl, rfl, lk, rec, _, _⟩ := F.ex
  refine ⟨len, fun A outer s H args us vs Q E qA room env bind rel hsp => ?_⟩
  have KX : K.In s.heap := env.mod.kin.keeps fun b o e => (env.bs b o e).1
  have NL : s.heap.NoLimit := env.mod.nolimit.keeps fun b o e => (env.bs b o e).1
  have slots : ∀ y ∈ ps.zip us, scope.names.lookup y.1 = some .local ∨ (scope.names.lookup y.1 = some .cell ∧ ((cellsFrom (s.heap.objs.size + 1) scope.names []).lookup y.1).isSome = true) := by
    rintro ⟨n, v⟩ hy
    exact (S.par n (List.of_mem_zip hy).1).imp id fun q => ⟨q, PySem.W.cellsFrom_some _ _ _ (.inl q)⟩
  refine codeAny_call_function room.depth (KX _ _ lk) rfl S.co S.gen rfl (PySem.W.codeRec_of KX rec) (bind _ _ _ _ (wpAny_newFunctionEnv_cells S.kind slots fun env' he s1 x => ?_))
  subst he
  refine ⟨NL.keeps x.toInCall.keep, codeAny_func ?_⟩
  obtain ⟨t, ht, q⟩ := go cdv A outer s H vs Q E qA (room.deeper _) hsp
  have I : Inv (cxOf CX P w K mg base N qual scope f cdv A outer s H E) [] (start N vs) H s1 := inv_start S room.hd env (len _ _ _ _ hsp) rel x
  refine wpAny_mono (ht.run [] s1 _ H _ I q) (fun fl s' z => ?_) fun _ _ z => z
  match fl, z with
  | .ret u, ⟨v, _, H', J, r, z⟩ => exact ⟨v, H', J.os, J.bare, J.base, J.hok, r, z⟩
  | .next, ⟨_, H', J, z⟩ => exact ⟨.non, H', J.os, J.bare, J.base, J.hok, rfl, z⟩
  | .brk, ⟨_, _, _, z⟩ => exact z.elim
  | .cont, ⟨_, _, _, z⟩ => exact z.elim
end
section
variable {X : Cx} {CX : CXT} {k : Nat} {f : Addr} {fd : FuncData} {ps : List Str} {sp : Sp} {ds : List Value} {dvs : List V} {E : St → XK} {x : Str} {p pos : Pos} {e : Expr} {es : List Expr} {t : TA}
/-- x(e, ..) -/
theorem pe_callQ (F : FnQ X.prog X.w X.K X.mg X.base CX k f fd ps sp) (qA : Quiet X.A) (hr : Room k X.A) (hg : Gl X x) (hm : X.mg x = some (.ref f)) (hk : PySem.W.keepIn X.K (.ref f) = true) (hb : Binds X.K fd ps ds) (hd : Vals dvs ds) (hx : ∀ σ, PassesAt CX X σ (E σ))
    (ha : PA X (e :: es) t) (hdb : (x == ("__debug__" : Str)) = false := by decide) (he : starEach (e :: es) X.env = (false, eval e X.env) :: starEach es X.env := by rfl) (hpl : (backTo pos (starEach es X.env)).any (·.1) = false := by rfl) :
    PE X (.Call (.Name x p) (e :: es) [] pos) (fun σ H Q => t σ H fun vs H1 => sp (vs ++ dvs) H1 Q (E σ)) := by
  refine ⟨fun pins s σ H Q I h => wpAny_Call_Name_kw (ld_glob I hg hm (PySem.W.callWith_K (h₀ := X.base) I.ok.mod.kin hk (thn (ha.run pos pins s σ H _ I h) fun us s1 ⟨vs, H1, I1, r, q⟩ => ⟨I1.kIn, wpAny_call ?_⟩) he hpl) hdb)⟩
  have r2 : Vals (vs ++ dvs) (us ++ ds) := r.append hd
  have n : (us ++ ds).length = ps.length := r2.length.symm.trans (F.len _ _ _ _ q)
  refine codeAny_mono (F.run X.A X.stack s1 H1 ⟨us, []⟩ (us ++ ds) _ Q (E σ) qA hr I1.env0 (hb s1 us I1.kIn n) r2 q) fun r s' z => ?_
  match r, z with
  | .error e, z => exact hx σ pins H1 s1 e s' I1 z
  | .ok (.ret u), z => exact I1.after z
  | .ok .next, z => exact z.elim
  | .ok .brk, z => exact z.elim
  | .ok .cont, z => exact z.elim
end
/-! ### the law's call -/
theorem script_env {P : Program} {w : World} {K : PySem.W.Frag} {mg mb : Str → Option Value} {a : Addr} {s₁ : Shared} {vs : List Value} {ns : List Int}
    (KX : K.In s₁.heap) (hns : s₁.heap.Ns mainGlobals mg) (hb : s₁.heap.Ns builtinsNs mb) (hbb : ∀ x : Str, x ≠ "__name__" → mb x = bootBuiltins x) (hlim : s₁.heap.NoLimit) (hg : s₁.gens = #[])
    (ha : s₁.heap.get? a = some { cls := .type "list", data := .seq vs.toArray }) (hi : IntsAre vs ns) (hl : ns.length ≤ sizeLine) :
    ∃ (H : Hp) (base : Heap), K.In base ∧ base.Ns mainGlobals mg ∧ SqL K H a (ns.map V.int) ∧ Env0 P w K mg base callerA [] s₁ H ∧ ∀ H' h', Un (frs []) [] H H' s₁.heap h' → HOk P w H' h' → OldK s₁.heap h' := by
  have rv := vals_ints hi
  obtain ⟨lo, elo⟩ : ∃ lo : Obj, lo = { cls := .type "list", data := .seq vs.toArray } := ⟨_, rfl⟩
  rw [← elo] at ha
  obtain ⟨H, only, there⟩ : ∃ H : Hp, (∀ b u, H b = some u → b = a ∧ u = .frz lo (.lst (ns.map V.int)) ∧ K.lookup a = none) ∧ (K.lookup a = none → H a = some (.frz lo (.lst (ns.map V.int)))) := by
    cases hk : K.lookup a with
    | none =>
      refine ⟨fun b => if b = a then some (.frz lo (.lst (ns.map V.int))) else none, fun b u z => ?_, fun _ => if_pos rfl⟩
      by_cases h : b = a
      · exact ⟨h, (Option.some.inj ((if_pos h).symm.trans z)).symm, rfl⟩
      · cases (if_neg h).symm.trans z
    | some o => exact ⟨fun _ => none, fun b u z => (by cases z), fun z => (by cases z)⟩
  have off : ∀ {b : Addr} {o : Obj}, s₁.heap.get? b = some o → o.data ≠ lo.data → H b = none := fun {b o} e n => by
    cases q : H b with
    | none => rfl
    | some u =>
      obtain ⟨rfl, _, _⟩ := only _ _ q
      cases ha.symm.trans e
      exact absurd rfl n
  have kb : K.In (hidT s₁.heap H) := fun b o e => hidT_get (KX b o e) (by
    cases q : H b with
    | none => rfl
    | some u =>
      obtain ⟨rfl, _, n⟩ := only _ _ q
      cases n.symm.trans e)
  have nk : ∀ {b : Addr} {m : Str → Option Value}, s₁.heap.Ns b m → (hidT s₁.heap H).Ns b m := fun ⟨o, es, ep, e, dd, r⟩ => ⟨o, es, ep, hidT_get e (off e (by rw [dd, elo]; intro z; cases z)), dd, r⟩
  have hok : HOk P w H s₁.heap := fun b u q => by
    obtain ⟨rfl, rfl, _⟩ := only _ _ q
    exact ⟨ha, by rw [List.length_map]; exact hl, vs, _, rv, by rw [ha, elo]⟩
  refine ⟨H, hidT s₁.heap H, kb, nk hns, ?_, ⟨rfl, ⟨kb, nk hns, ⟨mb, nk hb, hbb⟩, let ⟨mc, h1, h2⟩ := hlim; ⟨mc, nk h1, h2⟩⟩, fun b o e => of_hidT e, Nat.le_of_eq (hidT_size _ _), trivial, fun b z => (nomatch z), hok, .of_eq hg⟩, fun H' h' un ok' => OldK.of_keep fun b o e => ?_⟩
  · cases hk : K.lookup a with
    | none => exact .inl (.inr ⟨lo, there hk⟩)
    | some o =>
      cases ha.symm.trans (KX a o hk)
      exact .inr ⟨lo, vs.toArray, _, hk, by rw [elo], by rw [elo], by rw [elo], by rw [List.size_toArray, hi.length]; exact hl, by simpa using rv⟩
  · cases q : H b with
    | none => exact un.keep b o e q (fun z => nomatch z) (fun z => nomatch z)
    | some u =>
      obtain ⟨rfl, rfl, _⟩ := only _ _ q
      cases ha.symm.trans e
      exact (ok' b _ (un.frzs b _ _ q)).1
/-- the end of a law whose def is kept where nothing is being written -/
theorem walk_ofQ {l : PySem.W.OpenLaw} {n k : Nat} {q : Program} {loose : List Str} {XP : (Str → Option Value) → Heap → Prop} {YP : World → Heap → Prop} {d : DefRec} {CX : CXT} {x : Str} (hn : l.most = some n) (hz : n ≤ sizeLine) (hdf : d.params.defaults = []) (hr : Room k callerA)
    (F : ∀ (w : World) (mg : Str → Option Value) (fa : Addr) (h : Heap), YP w h → h.Ns mainGlobals mg → mg d.name = some (.ref fa) → ∃ (K : PySem.W.Frag) (fd : FuncData) (sp : Sp), K.In h ∧ (∀ (s : Shared) (u : Value), BindsTo s fd ⟨[u], []⟩ [(x, u)]) ∧
      (∀ (H : Hp) (a : Addr) (ns : List Int), ns.length ≤ n → SqL K H a (ns.map V.int) → sp [.ref a] H (fun v _ => v = .bl true) fun _ _ _ => False) ∧ ∀ base : Heap, K.In base → base.Ns mainGlobals mg → FnQ l.prog w K mg base CX k fa fd [x] sp)
    (hC : ∀ (H : Hp) (s : Shared) (e : Value) (s' : Shared), CX [] H s (fun _ _ _ => False) e s' → False) : PySem.W.WalkO q loose XP YP l.row.toRowW d [] (fun f vs => PySem.call f vs) := by
  refine Att.attach_call hn hdf fun w s₀ s₁ mg mb fa o pm cd doc a vs ns G Y ho hd hcd hmg hobj hi hlen hg => ?_
  obtain ⟨K, fd, sp, KX, hb, hsp, hF⟩ := F w mg fa _ Y G.T.g hmg
  obtain ⟨H, base, kb, nb, hS, env, post⟩ := script_env (P := l.prog) (w := w) KX G.T.g G.T.b G.T.builtins G.T.nolimit hg hobj hi (Nat.le_trans hlen hz)
  refine codeAny_mono ((hF base kb nb).run callerA [] s₁ H ⟨[.ref a], []⟩ [.ref a] [.ref a] _ _ rfl hr env (hb s₁ (.ref a)) (.cons rfl .nil) (hsp H a ns hlen hS)) fun r s' z => ?_
  match r, z with
  | .error e, z => exact (hC H s₁ e s' z).elim
  | .ok .next, z => exact z.elim
  | .ok .brk, z => exact z.elim
  | .ok .cont, z => exact z.elim
  | .ok (.ret u), ⟨v, H', os, bare, un, ok', r', q⟩ =>
    cases (show v = .bl true from q)
    cases (show u = Value.bool true from r')
    exact ⟨rfl, post H' _ un ok', os, bare⟩
/-! ### repr of data -/
mutual
theorem noDict {K : PySem.W.Frag} {H : Hp} : ∀ {v : V} {d : PyData}, Dp K H v d → d.hasDict = false
  | _, _, .non => by simp only [PyData.hasDict]
  | _, _, .bl b => by simp only [PyData.hasDict]
  | _, _, .int i => by simp only [PyData.hasDict]
  | _, _, .str x => by simp only [PyData.hasDict]
  | _, _, .lst h a => by simp only [PyData.hasDict]; exact noDictAll a
  | _, _, .tup h a => by simp only [PyData.hasDict]; exact noDictAll a
theorem noDictAll {K : PySem.W.Frag} {H : Hp} : ∀ {vs : List V} {ds : List PyData}, DpAll K H vs ds → PyData.hasDictAll ds = false
  | _, _, .nil => by simp only [PyData.hasDictAll]
  | _, _, .cons h a => by simp only [PyData.hasDictAll, noDict h, noDictAll a, Bool.or_self]
end
/-- repr(x), x data -/
def rRepr (K : PySem.W.Frag) : List V → Hp → VK → Prop := fun xs H Q => ∃ x d, xs = [x] ∧ Dp K H x d ∧ d.showable = true ∧ d.shown.length ≤ sizeLine ∧ d.depth ≤ 60 ∧ Q (.str d.shown) H
theorem call_repr {X : Cx} (qA : Quiet X.A) (hu : X.A.units + 64 < cLine) : CallR X (.builtin "repr") (rRepr X.K) := by
  intro pins s σ H xs us Q I r h
  obtain ⟨x, d, rfl, hd, sh, sz, dp, q⟩ := h
  obtain ⟨u, rfl, rx⟩ := vals1 r
  obtain ⟨as, rd⟩ := Dp.reads I d x u hd rx
  have big : ∀ a, u = .ref a → wpAny (model X.prog X.w) X.A (call (.builtin "repr") [u]) (EP X pins σ Q) X.xe s := fun a e => by
    subst e
    exact repr_of_reads' rd sh (fun z => by rw [noDict hd] at z; cases z) qA (by omega) (fun _ _ e => e) (fun h' u tk k => ⟨.str d.shown, H, I.kept (t' := tk) k, ⟨_, rfl⟩, q⟩) sz
  cases hd with
  | non =>
    cases rx
    simp only [PyData.shown] at q
    exact PySem.P.repr_of_none ⟨.str _, H, I.tok _, ⟨_, rfl⟩, q⟩
  | bl b =>
    cases rx
    simp only [PyData.shown] at q
    exact PySem.P.repr_of_bool ⟨.str _, H, I.tok _, ⟨_, rfl⟩, q⟩
  | int i =>
    obtain ⟨t, rfl⟩ := rx
    simp only [PyData.showable] at sh
    simp only [PyData.shown] at q
    exact PySem.P.repr_of_int (by simpa using sh) ⟨.str _, H, I.tok _, ⟨_, rfl⟩, q⟩
  | str x =>
    obtain ⟨t, rfl⟩ := rx
    simp only [PyData.shown] at q sz
    exact PySem.P.repr_of_str ⟨.str _, H, I.tok _, ⟨_, rfl⟩, q⟩ sz
  | lst h a => exact big _ rx
  | tup h a => exact big _ rx
end L2.Lr

set_option maxHeartbeats 1000000
/-! data of a size: what repr, == and the copies ask of it -/
namespace L2.Lr
open PySem PySem.Spec PyProof.Rows LR
def fine (d : PyData) : Bool := d.canLay0 && (d.leavesShort 40 && d.showable)
def fineAll (ds : List PyData) : Bool := PyData.canLayAll0 ds && (PyData.leavesShortAll 40 ds && PyData.showableAll ds)
theorem fine_tup (ds : List PyData) : fine (.tuple ds) = fineAll ds := by simp only [fine, fineAll, PyData.canLay0, PyData.leavesShort, PyData.showable]
theorem fine_lst (ds : List PyData) : fine (.list ds) = fineAll ds := by simp only [fine, fineAll, PyData.canLay0, PyData.leavesShort, PyData.showable]
theorem fineAll_cons (d : PyData) (ds : List PyData) : fineAll (d :: ds) = (fine d && fineAll ds) := by
  simp only [fine, fineAll, PyData.canLayAll0, PyData.leavesShortAll, PyData.showableAll]
  ac_rfl
theorem fineAll_nil : fineAll [] = true := rfl
theorem fineAll_append : ∀ (a b : List PyData), fineAll (a ++ b) = (fineAll a && fineAll b)
  | [], b => by rw [List.nil_append, fineAll_nil, Bool.true_and]
  | d :: a, b => by rw [List.cons_append, fineAll_cons, fineAll_cons, fineAll_append a b, Bool.and_assoc]
theorem weightAll_append : ∀ (a b : List PyData), PyData.weightAll (a ++ b) = PyData.weightAll a + PyData.weightAll b
  | [], b => by simp [PyData.weightAll]
  | d :: a, b => by
    have := weightAll_append a b
    simp only [List.cons_append, PyData.weightAll]
    omega
theorem depthAll_append : ∀ (a b : List PyData), PyData.depthAll (a ++ b) = max (PyData.depthAll a) (PyData.depthAll b)
  | [], b => by simp [PyData.depthAll]
  | d :: a, b => by
    have := depthAll_append a b
    simp only [List.cons_append, PyData.depthAll]
    omega
theorem length_le_weight : ∀ ds : List PyData, ds.length ≤ PyData.weightAll ds
  | [] => Nat.zero_le _
  | d :: ds => by
    have := length_le_weight ds
    simp only [List.length_cons, PyData.weightAll]
    omega
structure Nice (W D : Nat) (d : PyData) : Prop where
  f : fine d = true
  w : d.weight ≤ W
  dp : d.depth ≤ D
structure NiceAll (W D : Nat) (ds : List PyData) : Prop where
  f : fineAll ds = true
  w : PyData.weightAll ds ≤ W
  dp : PyData.depthAll ds ≤ D
theorem Nice.mono {W W' D D' : Nat} {d : PyData} (h : Nice W D d) (hw : W ≤ W') (hd : D ≤ D') : Nice W' D' d := ⟨h.f, Nat.le_trans h.w hw, Nat.le_trans h.dp hd⟩
theorem NiceAll.mono {W W' D D' : Nat} {ds : List PyData} (h : NiceAll W D ds) (hw : W ≤ W') (hd : D ≤ D') : NiceAll W' D' ds := ⟨h.f, Nat.le_trans h.w hw, Nat.le_trans h.dp hd⟩
theorem NiceAll.tup {W D : Nat} {ds : List PyData} (h : NiceAll W D ds) : Nice W (D + 1) (.tuple ds) := ⟨(fine_tup ds).trans h.f, by simpa only [PyData.weight] using h.w, by simp only [PyData.depth]; have := h.dp; omega⟩
theorem NiceAll.lst {W D : Nat} {ds : List PyData} (h : NiceAll W D ds) : Nice W (D + 1) (.list ds) := ⟨(fine_lst ds).trans h.f, by simpa only [PyData.weight] using h.w, by simp only [PyData.depth]; have := h.dp; omega⟩
theorem Nice.untup {W D : Nat} {ds : List PyData} (h : Nice W (D + 1) (.tuple ds)) : NiceAll W D ds := ⟨(fine_tup ds).symm.trans h.f, by simpa only [PyData.weight] using h.w, by have := h.dp; simp only [PyData.depth] at this; omega⟩
theorem Nice.unlst {W D : Nat} {ds : List PyData} (h : Nice W (D + 1) (.list ds)) : NiceAll W D ds := ⟨(fine_lst ds).symm.trans h.f, by simpa only [PyData.weight] using h.w, by have := h.dp; simp only [PyData.depth] at this; omega⟩
theorem NiceAll.nil (W D : Nat) : NiceAll W D [] := ⟨rfl, Nat.zero_le _, Nat.zero_le _⟩
theorem NiceAll.cons {W1 W2 D : Nat} {d : PyData} {ds : List PyData} (h : Nice W1 D d) (g : NiceAll W2 D ds) : NiceAll (W1 + 1 + W2) D (d :: ds) := by
  refine ⟨by rw [fineAll_cons, h.f, g.f]; rfl, ?_, ?_⟩
  · have := h.w; have := g.w; simp only [PyData.weightAll]; omega
  · have := h.dp; have := g.dp; simp only [PyData.depthAll]; omega
theorem NiceAll.append {W1 W2 D : Nat} {a b : List PyData} (h : NiceAll W1 D a) (g : NiceAll W2 D b) : NiceAll (W1 + W2) D (a ++ b) := by
  refine ⟨by rw [fineAll_append, h.f, g.f]; rfl, ?_, ?_⟩
  · have := h.w; have := g.w; rw [weightAll_append]; omega
  · have := h.dp; have := g.dp; rw [depthAll_append]; omega
theorem NiceAll.head {W D : Nat} {d : PyData} {ds : List PyData} (h : NiceAll W D (d :: ds)) : Nice W D d ∧ NiceAll W D ds ∧ d.weight + 1 + PyData.weightAll ds ≤ W := by
  obtain ⟨hf, hw, hd⟩ := h
  rw [fineAll_cons] at hf
  obtain ⟨f1, f2⟩ := Bool.and_eq_true_iff.mp hf
  simp only [PyData.weightAll] at hw
  simp only [PyData.depthAll] at hd
  exact ⟨⟨f1, by omega, by omega⟩, ⟨f2, by omega, by omega⟩, hw⟩
theorem NiceAll.at {W D : Nat} : ∀ {ds : List PyData} {i : Nat} {d : PyData}, NiceAll W D ds → ds[i]? = some d → Nice W D d
  | [], _, _, _, e => by simp at e
  | d :: ds, 0, _, h, e => by simp at e; subst e; exact h.head.1
  | d :: ds, i + 1, _, h, e => NiceAll.at (i := i) h.head.2.1 (by simpa using e)
theorem NiceAll.mem {W D : Nat} {ds : List PyData} {d : PyData} (h : NiceAll W D ds) (m : d ∈ ds) : Nice W D d := by
  obtain ⟨i, e⟩ := List.mem_iff_getElem?.mp m
  exact h.at e
theorem NiceAll.split {W D : Nat} {a b : List PyData} (h : NiceAll W D (a ++ b)) : NiceAll (PyData.weightAll a) D a ∧ NiceAll (PyData.weightAll b) D b ∧ PyData.weightAll a + PyData.weightAll b ≤ W := by
  obtain ⟨hf, hw, hd⟩ := h
  rw [fineAll_append] at hf
  rw [weightAll_append] at hw
  rw [depthAll_append] at hd
  obtain ⟨f1, f2⟩ := Bool.and_eq_true_iff.mp hf
  exact ⟨⟨f1, Nat.le_refl _, by omega⟩, ⟨f2, Nat.le_refl _, by omega⟩, hw⟩
theorem NiceAll.take {W D : Nat} {ds : List PyData} (n : Nat) (h : NiceAll W D ds) : NiceAll W D (ds.take n) := by
  rw [← List.take_append_drop n ds] at h
  obtain ⟨h1, _, h3⟩ := h.split
  exact h1.mono (by omega) (Nat.le_refl _)
theorem NiceAll.drop {W D : Nat} {ds : List PyData} (n : Nat) (h : NiceAll W D ds) : NiceAll W D (ds.drop n) := by
  rw [← List.take_append_drop n ds] at h
  obtain ⟨_, h2, h3⟩ := h.split
  exact h2.mono (by omega) (Nat.le_refl _)
theorem Nice.shaped {W D : Nat} {d : PyData} (h : Nice W D d) (hD : D ≤ 64) : SeqAt.shaped d = true := by
  obtain ⟨f1, _⟩ := Bool.and_eq_true_iff.mp h.f
  refine Bool.and_eq_true_iff.mpr ⟨f1, decide_eq_true ?_⟩
  have := h.dp
  omega
/-- what repr asks -/
theorem Nice.shown {W D : Nat} {d : PyData} (h : Nice W D d) (hW : W ≤ 390000) : d.showable = true ∧ d.shown.length ≤ sizeLine := by
  obtain ⟨_, f2⟩ := Bool.and_eq_true_iff.mp h.f
  obtain ⟨f2, f3⟩ := Bool.and_eq_true_iff.mp f2
  refine ⟨f3, ?_⟩
  have z := PyData.shown_le 40 (by decide) d f2
  have := h.w
  rw [sizeLine_eq]
  omega
theorem nice_int {i : Int} (h : i.natAbs < 10 ^ 31) : Nice 104 0 (.int i) := by
  have hb : i.natAbs < 2 ^ 103 := Nat.lt_trans h (by decide)
  have hl : i.natAbs.log2 < 103 := PySem.Flt.log2_lt_of (by decide) hb
  refine ⟨?_, ?_, by simp [PyData.depth]⟩
  · have e := int_text_length_le10 (k := 31) (by decide) h
    have e1 : PyData.leavesShort 40 (.int i) = true := by
      simp only [PyData.leavesShort]
      refine decide_eq_true ?_
      show (Str.ofString (toString i)).length ≤ 40
      rw [PySem.ofString_length]
      omega
    have e2 : PyData.showable (.int i) = true := by
      simp only [PyData.showable]
      exact decide_eq_true (by omega)
    show ((PyData.int i).canLay0 && ((PyData.int i).leavesShort 40 && (PyData.int i).showable)) = true
    rw [e1, e2]
    simp [PyData.canLay0]
  · simp only [PyData.weight]
    split <;> omega
/-! ### no lists -/
mutual
def noL : PyData → Bool
  | .tuple ds => noLAll ds
  | .list _ => false
  | .none => true
  | .bool _ => true
  | .int _ => true
  | .str _ => true
  | .dict _ => true
def noLAll : List PyData → Bool
  | [] => true
  | d :: ds => noL d && noLAll ds
end
/-- all but lists stays -/
def Kt (H H' : Hp) : Prop := ∀ b o, H b = some o → (∀ xs, o ≠ .lst xs) → H' b = some o
theorem Kt.seqT {K : PySem.W.Frag} {H H' : Hp} {a : Addr} {xs : List V} (s : Kt H H') (h : SqT K H a xs) : SqT K H' a xs := by
  rcases h with (h | ⟨o, h⟩) | h
  · exact .inl (.inl (s _ _ h fun _ z => by cases z))
  · exact .inl (.inr ⟨o, s _ _ h fun _ z => by cases z⟩)
  · exact .inr h
mutual
theorem Dp.kt {K : PySem.W.Frag} {H H' : Hp} (s : Kt H H') : ∀ {v : V} {d : PyData}, Dp K H v d → noL d = true → Dp K H' v d
  | _, _, .non, _ => .non
  | _, _, .bl b, _ => .bl b
  | _, _, .int i, _ => .int i
  | _, _, .str x, _ => .str x
  | _, _, .lst h a, n => by simp [noL] at n
  | _, _, .tup h a, n => .tup (s.seqT h) (DpAll.kt s a (by simpa only [noL] using n))
theorem DpAll.kt {K : PySem.W.Frag} {H H' : Hp} (s : Kt H H') : ∀ {vs : List V} {ds : List PyData}, DpAll K H vs ds → noLAll ds = true → DpAll K H' vs ds
  | _, _, .nil, _ => .nil
  | _, _, .cons h a, n => by
    simp only [noLAll] at n
    obtain ⟨n1, n2⟩ := Bool.and_eq_true_iff.mp n
    exact .cons (Dp.kt s h n1) (DpAll.kt s a n2)
end
theorem noLAll_append : ∀ (a b : List PyData), noLAll (a ++ b) = (noLAll a && noLAll b)
  | [], b => by simp [noLAll]
  | d :: a, b => by
    simp only [List.cons_append, noLAll, noLAll_append a b, Bool.and_assoc]
theorem Same.kt {H H' : Hp} (s : Same H H') : Kt H H' := fun b o e _ => s b o e
theorem Kt.trans {H H1 H2 : Hp} (a : Kt H H1) (b : Kt H1 H2) : Kt H H2 := fun c o h n => b c o (a c o h n) n
theorem Kt.upd {H : Hp} {D : Addr} {xs : List V} {o : HO} (h : H D = some (.lst xs)) : Kt H (upd H D o) := fun b u e n => (upd_ne fun z => by rw [z, h] at e; exact n _ (Option.some.inj e).symm).trans e
end L2.Lr


set_option maxHeartbeats 4000000
namespace L2.Tx
open PySem PySem.Spec PyProof.Rows NumText L2 TL
/-! ### ints as texts, with their sign -/
def intT (a : Int) : Str := Str.ofString (toString a)
def sgnL (a : Int) : List Nat := if a < 0 then 45 :: numL a.natAbs else numL a.natAbs
def plusL (a : Int) : List Nat := (if a < 0 then 45 else 43) :: numL a.natAbs
def plusT (a : Int) : Str := ⟨(plusL a).toArray⟩
theorem tl_inj {x y : Str} (h : tl x = tl y) : x = y := by
  cases x; cases y
  congr 1
  exact Array.toList_inj.mp h
theorem tl_int (a : Int) : tl (intT a) = sgnL a := by
  unfold intT sgnL
  cases a with
  | ofNat n =>
    rw [if_neg (by show ¬ ((n : Int) < 0); omega)]
    exact tl_num n
  | negSucc n =>
    rw [if_pos (Int.negSucc_lt_zero n)]
    rw [tl_ofString]
    show ("-" ++ toString (n + 1)).toList.map Char.toNat = 45 :: numL (n + 1)
    rw [String.toList_append, List.map_append]
    have e : (toString (n + 1)).toList.map Char.toNat = numL (n + 1) := by
      have z := tl_num (n + 1)
      rw [tl_ofString] at z
      exact z
    rw [e]
    rfl
theorem tl_plus (a : Int) : tl (plusT a) = plusL a := tl_mk _
theorem plus_pos {a : Int} (h : 0 < a) : plusT a = Str.ofString "+" ++ intT a := by
  apply tl_inj
  rw [tl_plus, tl_append, tl_int]
  unfold plusL sgnL
  rw [if_neg (by omega), if_neg (by omega)]
  rfl
theorem plus_neg {a : Int} (h : a < 0) : plusT a = intT a := by
  apply tl_inj
  rw [tl_plus, tl_int]
  unfold plusL sgnL
  rw [if_pos h, if_pos h]
theorem numL_sz {a : Int} (h : a.natAbs < 10 ^ 400) : (numL a.natAbs).length ≤ 400 := numL_len (by decide) h
/-- no m in a number -/
theorem sgn_free {a : Int} {s : Nat} (h : 57 < s) : s ∉ sgnL a := by
  unfold sgnL
  split
  · intro z
    rcases List.mem_cons.mp z with z | z
    · omega
    · exact numL_free (.inr h) z
  · exact numL_free (.inr h)
theorem intText_plus {x : Str} {cs : List Nat} (hx : x.cps.toList = 43 :: cs) (h : AllDigits cs) (h1 : cs ≠ []) (h2 : x.length ≤ 4300) : intText? x = some ((digitsVal cs : Nat) : Int) := by
  have hl : x.cps.toList.length = x.length := Array.length_toList
  rw [hx, List.length_cons] at hl
  have hs : ∀ c ∈ x.cps.toList, 33 ≤ c ∧ c < 128 := by
    rw [hx]
    intro c hc
    rcases List.mem_cons.mp hc with e | hc
    · omega
    · have := h c hc
      omega
  have e1 : numTextOf x = x.cps.toList := by
    refine if_pos ?_
    rw [← Array.all_toList, List.all_eq_true]
    exact fun c hc => decide_eq_true (hs c hc).2
  have e2 : numSeenOf x = x.cps.toList := by
    show (numTextOf x).takeWhile _ = _
    rw [e1]
    exact takeWhile_all fun c hc => bne_iff_ne.mpr (by have := hs c hc; omega)
  have es : sign ((43 :: cs).dropWhile blank) = (false, cs) := by
    rw [dropWhile_of (by decide)]
    rfl
  have ec : core (43 :: cs) = cs := by
    unfold core
    rw [es]
    show (cs.reverse.dropWhile blank).reverse = cs
    rw [dropWhile_digits h.reverse, List.reverse_reverse]
  unfold intText?
  rw [e1, e2, hx]
  refine (if_pos (beq_self_eq_true _)).trans ?_
  rw [ec, es, digits_of h h1]
  have hsz := push_size cs #[]
  have hv := push_foldl cs #[]
  show (if _ ≤ 4300 then some (worth false _) else none) = _
  rw [if_pos (by rw [hsz, Array.size_empty]; omega)]
  unfold worth digitsVal
  rw [hv]
  rfl
theorem natAbs_cast (a : Int) : ((a.natAbs : Nat) : Int) = if a < 0 then -a else a := by split <;> omega
/-- int(text) of what was written -/
theorem int_back {a : Int} (h : a.natAbs < 10 ^ 400) : intText? (intT a) = some a := by
  have hs := numL_sz h
  have hl : tl (intT a) = sgnL a := tl_int a
  have len : (intT a).length ≤ 4300 := by
    rw [len_tl, hl]
    unfold sgnL
    split
    · rw [List.length_cons]; omega
    · omega
  unfold sgnL at hl
  by_cases hn : a < 0
  · rw [if_pos hn] at hl
    have z := intText_neg (x := intT a) hl (numL_digits _) (numL_ne _) len
    rw [numL_val, natAbs_cast, if_pos hn] at z
    rw [z]
    congr 1
    omega
  · rw [if_neg hn] at hl
    have hl' : (intT a).cps.toList = numL a.natAbs := hl
    have z := intText_digits (x := intT a) (by rw [hl']; exact numL_digits _) (by rw [hl']; exact numL_ne _) len
    rw [hl', numL_val, natAbs_cast, if_neg hn] at z
    exact z
theorem plus_back {a : Int} (h : a.natAbs < 10 ^ 400) : intText? (plusT a) = some a := by
  by_cases hn : a < 0
  · rw [plus_neg hn]
    exact int_back h
  · have hs := numL_sz h
    have hl : (plusT a).cps.toList = 43 :: numL a.natAbs := by
      have z := tl_plus a
      unfold plusL at z
      rw [if_neg hn] at z
      exact z
    have z := intText_plus hl (numL_digits _) (numL_ne _) (by
      have e : (plusT a).length = (tl (plusT a)).length := len_tl _
      rw [e, show tl (plusT a) = 43 :: numL a.natAbs from hl, List.length_cons]
      omega)
    rw [numL_val, natAbs_cast, if_neg hn] at z
    exact z
/-! ### a line as text -/
def mT : Str := Str.ofString "m"
def headT (e : Int) : Str := if e = 1 then mT else if e = -1 then Str.ofString "-m" else intT e ++ mT
def tailT (z : Int) : Str := if z = 0 then Str.empty else plusT z
def lineT (z e : Int) : Str := if e = 0 then intT z else headT e ++ tailT z
/-- what stands ahead of the m -/
def preT (e : Int) : Str := if e = 1 then Str.empty else if e = -1 then Str.ofString "-" else intT e
theorem tl_m : tl mT = [109] := rfl
theorem head_pre (e : Int) : headT e = preT e ++ mT := by
  unfold headT preT
  split
  · exact tl_inj (by rw [tl_append]; rfl)
  · split
    · exact tl_inj (by rw [tl_append]; rfl)
    · rfl
theorem pre_free (e : Int) : 109 ∉ tl (preT e) := by
  unfold preT
  split
  · intro z; cases z
  · split
    · decide
    · rw [tl_int]; exact sgn_free (by decide)
theorem line_part {z e : Int} (h : e ≠ 0) : Txt.partition (lineT z e) mT = (preT e, mT, tailT z) := by
  unfold lineT
  rw [if_neg h, head_pre]
  exact partition_app (y := mT) (s := 109) (S := []) tl_m (pre_free e)
theorem int_ne (a : Int) : tl (intT a) ≠ [] := by
  rw [tl_int]
  unfold sgnL
  split
  · exact fun z => by cases z
  · exact numL_ne _
theorem empty_iff {x : Str} : x = Str.ofString "" ↔ tl x = [] := ⟨fun h => by rw [h]; rfl, fun h => tl_inj (by rw [h]; rfl)⟩
theorem pre_empty (e : Int) : preT e = Str.ofString "" ↔ e = 1 := by
  rw [empty_iff]
  unfold preT
  by_cases h1 : e = 1
  · rw [if_pos h1]; exact ⟨fun _ => h1, fun _ => rfl⟩
  · rw [if_neg h1]
    refine ⟨fun z => ?_, fun z => absurd z h1⟩
    by_cases h2 : e = -1
    · rw [if_pos h2] at z; cases z
    · rw [if_neg h2] at z; exact absurd z (int_ne e)
theorem sgn_minus {e : Int} (h : tl (intT e) = [45]) : False := by
  rw [tl_int] at h
  unfold sgnL at h
  split at h
  · have := List.cons.inj h
    exact numL_ne _ this.2
  · have d := numL_digits e.natAbs 45 (by rw [h]; exact List.mem_cons_self)
    omega
theorem pre_minus (e : Int) : preT e = Str.ofString "-" ↔ e = -1 := by
  unfold preT
  by_cases h1 : e = 1
  · rw [if_pos h1]
    exact ⟨fun z => absurd (congrArg tl z) (by intro q; cases q), fun z => by omega⟩
  · rw [if_neg h1]
    by_cases h2 : e = -1
    · rw [if_pos h2]; exact ⟨fun _ => h2, fun _ => rfl⟩
    · rw [if_neg h2]
      exact ⟨fun z => (sgn_minus (congrArg tl z)).elim, fun z => absurd z h2⟩
theorem tail_empty (z : Int) : tailT z = Str.ofString "" ↔ z = 0 := by
  rw [empty_iff]
  unfold tailT
  by_cases h1 : z = 0
  · rw [if_pos h1]; exact ⟨fun _ => h1, fun _ => rfl⟩
  · rw [if_neg h1, tl_plus]
    exact ⟨fun q => (by unfold plusL at q; cases q), fun q => absurd q h1⟩
/-- one text, one line -/
theorem line_inj {z e z' e' : Int} (hz : z.natAbs < 10 ^ 400) (he : e.natAbs < 10 ^ 400) (hz' : z'.natAbs < 10 ^ 400) (he' : e'.natAbs < 10 ^ 400) (h : lineT z e = lineT z' e') : z = z' ∧ e = e' := by
  have free : ∀ a : Int, Txt.partition (intT a) mT = (intT a, Str.empty, Str.empty) := fun a => partition_none (y := mT) (s := 109) (S := []) tl_m (by rw [tl_int]; exact sgn_free (by decide))
  have mne : mT ≠ Str.empty := fun q => by cases congrArg tl q
  by_cases h0 : e = 0
  · by_cases h1 : e' = 0
    · unfold lineT at h
      rw [if_pos h0, if_pos h1] at h
      have b := int_back hz
      rw [h, int_back hz'] at b
      exact ⟨(Option.some.inj b).symm, by omega⟩
    · have p := line_part (z := z') h1
      rw [← h] at p
      unfold lineT at p
      rw [if_pos h0, free] at p
      exact absurd (congrArg (fun q : Str × Str × Str => q.2.1) p).symm mne
  · by_cases h1 : e' = 0
    · have p := line_part (z := z) h0
      rw [h] at p
      unfold lineT at p
      rw [if_pos h1, free] at p
      exact absurd (congrArg (fun q : Str × Str × Str => q.2.1) p).symm mne
    · have p := line_part (z := z) h0
      rw [h, line_part h1] at p
      have q1 : preT e' = preT e := congrArg (fun q : Str × Str × Str => q.1) p
      have q3 : tailT z' = tailT z := congrArg (fun q : Str × Str × Str => q.2.2) p
      refine ⟨?_, ?_⟩
      · by_cases z0 : z = 0
        · have := (tail_empty z).mpr z0
          rw [← q3] at this
          rw [(tail_empty z').mp this, z0]
        · have z1 : z' ≠ 0 := fun q => z0 ((tail_empty z).mp (q3 ▸ (tail_empty z').mpr q))
          unfold tailT at q3
          rw [if_neg z0, if_neg z1] at q3
          have b := plus_back hz
          rw [← q3, plus_back hz'] at b
          exact (Option.some.inj b).symm
      · by_cases e1 : e = 1
        · have := (pre_empty e).mpr e1
          rw [← q1] at this
          rw [(pre_empty e').mp this, e1]
        · by_cases e2 : e = -1
          · have := (pre_minus e).mpr e2
            rw [← q1] at this
            rw [(pre_minus e').mp this, e2]
          · have f1 : e' ≠ 1 := fun q => e1 ((pre_empty e).mp (q1 ▸ (pre_empty e').mpr q))
            have f2 : e' ≠ -1 := fun q => e2 ((pre_minus e).mp (q1 ▸ (pre_minus e').mpr q))
            unfold preT at q1
            rw [if_neg e1, if_neg e2, if_neg f1, if_neg f2] at q1
            have b := int_back he
            rw [← q1, int_back he'] at b
            exact (Option.some.inj b).symm
end L2.Tx

set_option maxHeartbeats 400000
/-! what an own class says of +, -, *, ==, str(o), o(m); f'{x:+}' -/
namespace L2.Lr
open PySem PySem.Spec PyProof.Rows LR StX
section
variable {X : Cx} {CX : CXT} {k n : Nat} {f C : Addr} {fd : FuncData} {ps : List Str} {sp : Sp} {E : XK}
/-- a def that the machine calls, some levels deeper -/
theorem run_at {A : Around} {pins : List (Addr × Obj)} {σ : St} {H : Hp} {s : Shared} {Q : VK} {us : List Value} {vs : List V} (sb : Sub X k A) (F : FnOk X.prog X.w X.K X.mg X.base CX k f fd ps sp) (hb : Binds X.K fd ps []) (hx : Passes CX X E)
    (I : Inv X pins σ H s) (r : Vals vs us) (h : sp vs H Q E) : wpAny (model X.prog X.w) A (call (.ref f) us) (EP X pins σ Q) X.xe s := by
  have e := I.env0
  have e0 : Env0 X.prog X.w X.K X.mg X.base A X.stack s H := ⟨sb.fr.trans e.frames, e.mod, e.bs, e.bsz, e.funs, e.frf, e.hok, e.bare⟩
  have hl : us.length = ps.length := r.length.symm.trans (F.len _ _ _ _ h)
  refine wpAny_call (codeAny_mono (F.run A X.stack s H ⟨us, []⟩ us vs Q E sb.room e0 (by simpa using hb s us I.kIn (by simpa using hl)) r h) fun r s' hq => ?_)
  match r, hq with
  | .error e, hq => exact hx pins σ H s e s' I hq
  | .ok (.ret u), hq => exact I.after hq
  | .ok .next, hq => exact hq.elim
  | .ok .brk, hq => exact hq.elim
  | .ok .cont, hq => exact hq.elim
/-- what a class's own def of this name must have -/
structure Dun (K : PySem.W.Frag) (C f : Addr) (m : Str) : Prop where
  at_ : PySem.W.findIn K (.ref C) m = some (some (.ref f))
  fn : PySem.W.isFn K (.ref f) = true
/-- str(o) by the own __str__ -/
def rStrO (C : Addr) (sp : Sp) (E : XK) : List V → Hp → VK → Prop := fun xs H Q => ∃ a dx fs, xs = [.ref a] ∧ H a = some (.ins C dx fs) ∧ sp [.ref a] H (fun v H' => ∃ y, v = .str y ∧ Q (.str y) H') E
theorem call_strO (d : Dun X.K C f "__str__") (F : FnOk X.prog X.w X.K X.mg X.base CX k f fd ps sp) (hr : Room (k + 2) X.A) (hb : Binds X.K fd ps []) (hx : Passes CX X E) : CallR X (.type "str") (rStrO C sp E) := by
  intro pins s σ H xs us Q I r h
  obtain ⟨a, dx, fs, rfl, ha, h⟩ := h
  obtain ⟨u, rfl, ru⟩ := vals1 r
  cases ru
  obtain ⟨ox, od, J, _⟩ := insC_at I (.inr ⟨dx, fs, ha⟩)
  refine PySem.W.kso_call hr.in1.in1.units0 I.kIn J d.at_ d.fn (wpAny_mono (run_at (A := X.A.in1.in1) ⟨hr.in1.in1, rfl⟩ F hb hx I (vs := [.ref a]) (us := [.ref a]) (.cons rfl .nil) h) (fun v s' z => ?_) fun _ _ z => z)
  obtain ⟨x, H', I', rv, y, rfl, q⟩ := z
  obtain ⟨t, rfl⟩ := rv
  exact ⟨.str y, H', I', ⟨t, rfl⟩, q⟩
/-- .. for an operator -/
structure OwnOp (K : PySem.W.Frag) (C f : Addr) (op : Operator) : Prop where
  at_ : PySem.W.findIn K (.ref C) (PySem.dunder op.info.2) = some (some (.ref f))
  fn : PySem.W.isFn K (.ref f) = true
  first : PySem.W.selfFirst K C = true
  rc : PySem.W.findIn K (.ref C) (dunderR op.info.2) = some none
  t1 : (PySem.W.findIn K (.type "int") (PySem.dunder op.info.2)).isSome = true
  t2 : (PySem.W.findIn K (.type "int") (dunderR op.info.2)).isSome = true
  sub : PySem.W.subIn K (.type "int") (.ref C) = some false
def ownB (K : PySem.W.Frag) (C f : Addr) (op : Operator) : Bool := He.eqO (PySem.W.findIn K (.ref C) (PySem.dunder op.info.2)) (some (some (.ref f))) && (PySem.W.isFn K (.ref f) && (PySem.W.selfFirst K C && (He.eqO (PySem.W.findIn K (.ref C) (dunderR op.info.2)) (some none) &&
  ((PySem.W.findIn K (.type "int") (PySem.dunder op.info.2)).isSome && ((PySem.W.findIn K (.type "int") (dunderR op.info.2)).isSome && decide (PySem.W.subIn K (.type "int") (.ref C) = some false))))))
theorem ownB_ok {K : PySem.W.Frag} {op : Operator} (q : ownB K C f op = true) : OwnOp K C f op := by
  obtain ⟨q1, q⟩ := He.ba q
  obtain ⟨q2, q⟩ := He.ba q
  obtain ⟨q3, q⟩ := He.ba q
  obtain ⟨q4, q⟩ := He.ba q
  obtain ⟨q5, q⟩ := He.ba q
  obtain ⟨q6, q7⟩ := He.ba q
  exact ⟨He.eqO_ok q1, q2, q3, He.eqO_ok q4, q5, q6, of_decide_eq_true q7⟩
def dunB (K : PySem.W.Frag) (C f : Addr) (m : Str) : Bool := He.eqO (PySem.W.findIn K (.ref C) m) (some (some (.ref f))) && PySem.W.isFn K (.ref f)
theorem dunB_ok {K : PySem.W.Frag} {m : Str} (q : dunB K C f m = true) : Dun K C f m := by
  obtain ⟨q1, q2⟩ := He.ba q
  exact ⟨He.eqO_ok q1, q2⟩
/-- a op b, by the left one's own def -/
def rOwn (C : Addr) (sp : Sp) (E : XK) : R2 := fun x y H Q => ∃ a dx fs, x = .ref a ∧ H a = some (.ins C dx fs) ∧ ((∃ i, y = .int i) ∨ ∃ b dy gs, y = .ref b ∧ H b = some (.ins C dy gs)) ∧ sp [.ref a, y] H Q E
theorem cmp_back {pins : List (Addr × Obj)} {σ : St} {Q : VK} {v : Value} {s' : Shared} (z : EP X pins σ Q v s') : PySem.W.CmpBack (EP X pins σ Q) v s' := by
  have nz : v ≠ .notImplemented := by
    rintro rfl
    obtain ⟨x, H', I', rv, q⟩ := z
    cases x <;> first
      | (obtain ⟨t, e⟩ := rv; cases e)
      | cases rv
  cases v <;> first
    | exact absurd rfl nz
    | exact z
theorem op_own {op : Operator} (o : OwnOp X.K C f op) (F : FnOk X.prog X.w X.K X.mg X.base CX k f fd ps sp) (hr : Room k X.A) (hb : Binds X.K fd ps []) (hx : Passes CX X E) : OpR X (binaryOp op) (rOwn C sp E) := by
  intro pins s σ H x y v u Q I rx ry h
  obtain ⟨a, dx, fs, rfl, ha, hy, h⟩ := h
  cases rx
  obtain ⟨ox, od, J, _⟩ := insC_at I (.inr ⟨dx, fs, ha⟩)
  obtain ⟨m, hF⟩ := I.fr
  have run := wpAny_mono (run_at (A := X.A) ⟨hr, rfl⟩ F hb hx I (vs := [.ref a, y]) (us := [.ref a, u]) (.cons rfl (.cons ry .nil)) h) (fun v s' z => cmp_back z) fun _ _ z => z
  rcases hy with ⟨i, rfl⟩ | ⟨b, dy, gs, rfl, hb'⟩
  · obtain ⟨t, rfl⟩ := ry
    obtain ⟨fo, e1⟩ := Option.isSome_iff_exists.mp o.t1
    obtain ⟨ro, e2⟩ := Option.isSome_iff_exists.mp o.t2
    exact PySem.W.ksp_binT hF I.ok.mod.kin J rfl o.first o.at_ o.fn o.rc (.inl rfl) e1 e2 o.sub run
  · cases ry
    obtain ⟨oy, od', J', _⟩ := insC_at I (.inr ⟨dy, gs, hb'⟩)
    exact PySem.W.binop_K hF I.ok.mod.kin J J'.type o.first o.at_ o.fn run
/-- a == b, by the left one's own __eq__ -/
theorem op_eqO (d : Dun X.K C f "__eq__") (F : FnOk X.prog X.w X.K X.mg X.base CX k f fd ps sp) (hr : Room k X.A) (hb : Binds X.K fd ps []) (hx : Passes CX X E) :
    OpR X (compareOp .Eq) (fun x y H Q => ∃ a dx fs b dy gs, x = .ref a ∧ H a = some (.ins C dx fs) ∧ y = .ref b ∧ H b = some (.ins C dy gs) ∧ sp [.ref a, .ref b] H Q E) := by
  intro pins s σ H x y v u Q I rx ry h
  obtain ⟨a, dx, fs, b, dy, gs, rfl, ha, rfl, hb', h⟩ := h
  cases rx
  cases ry
  obtain ⟨ox, od, J, _⟩ := insC_at I (.inr ⟨dx, fs, ha⟩)
  obtain ⟨oy, od', J', _⟩ := insC_at I (.inr ⟨dy, gs, hb'⟩)
  obtain ⟨m, hF⟩ := I.fr
  show wpAny (model X.prog X.w) X.A (richCompare .Eq _ _) _ X.xe s
  refine PySem.W.cmp_K (op := .Eq) (tb := .ref C) hr.units0 hF I.ok.mod.kin J J'.type (by simp [PySem.W.notFirst]) d.at_ d.fn ?_
  exact wpAny_mono (run_at (A := X.A) ⟨hr, rfl⟩ F hb hx I (vs := [.ref a, .ref b]) (us := [.ref a, .ref b]) (.cons rfl (.cons rfl .nil)) h) (fun v s' z => cmp_back z) fun _ _ z => z
end
/-- C(k = v, ..): keywords alone -/
theorem pe_makeK {X : Cx} {CX : CXT} {k : Nat} {f C : Addr} {fd : FuncData} {ps ks : List Str} {sp : Sp} {E : XK} {x : Str} {p pos : Pos} {kws : List Keyword} {tk : TA} {g : List Value → List Value → List Value} {gV : List V → List V → List V}
    (M : Mk X.K C f) (F : FnOk X.prog X.w X.K X.mg X.base CX k f fd ps sp) (hr : Room (k + 1) X.A) (hg : Gl X x) (hm : X.mg x = some (.ref C)) (hb : KBn X.K fd ps 1 ks g gV) (hx : Passes CX X E) (hkw : PK X kws tk)
    (hall : (backToKw pos (keywordEach kws X.env)).all (·.1.isSome) = true := by rfl) (hks : (backToKw pos (keywordEach kws X.env)).filterMap (·.1) = ks := by rfl) (hdb : (x == ("__debug__" : Str)) = false := by decide)
    (hpl : ((backTo pos (starEach [] X.env)).any (·.1) || (backToKw pos (keywordEach kws X.env)).any (·.1.isNone)) = false := by rfl) : PE X (.Call (.Name x p) [] kws pos) (tMakeN C 0 ks.length sp gV E tNil tk) := by
  refine ⟨fun pins s σ H Q I h => ?_⟩
  refine wpAny_Call_Name_kw (ld_glob I hg hm ?_ hdb)
  refine PySem.W.callWith_KW0 (h₀ := X.base) I.ok.mod.kin M.kp hall (thn (hkw.run pos pins s σ H _ I h) fun ws s2 ⟨zs, H2, I2, rz, l1, l2, q2⟩ => ⟨I2.kIn, ?_⟩) hpl
  rw [hks]
  exact run_makeN (us := []) (vs := []) M F hr hb hx I2 .nil rz l1 l2 q2
/-! ### f'{x:+}' of an int -/
theorem plus_field (a : Int) : intField' { fill := 32, align := 62, sign := some 43 } (decide (a < 0)) [] ((Nat.toDigits 10 a.natAbs).map fun c => (if (100 : Nat) == 88 then c.toUpper else c).toNat) [] 3 = Tx.plusT a := by
  have en : ((Nat.toDigits 10 a.natAbs).map fun c => (if (100 : Nat) == 88 then c.toUpper else c).toNat) = TL.numL a.natAbs := rfl
  rw [en]
  have ne := TL.numL_ne a.natAbs
  have e1 : (TL.numL a.natAbs).isEmpty = false := by
    cases h : TL.numL a.natAbs with
    | nil => exact absurd h ne
    | cons c r => rfl
  have pad : (-1 - 1 - ((TL.numL a.natAbs).length : Int)).toNat = 0 := by omega
  unfold intField' Tx.plusT Tx.plusL
  cases hd : decide (a < 0) with
  | true =>
    rw [if_pos (of_decide_eq_true hd)]
    simp [e1]
  | false =>
    rw [if_neg (of_decide_eq_false hd)]
    simp [e1]
open Builtin Builtin.Str Builtin.Int Builtin.Float in
theorem gives_plus (a : Int) (t u : Tok) (hd : a.natAbs.log2 < 1920) : Gives (Builtin.«int.__format__» ⟨[.int a t, .str (Str.ofString "+") u], []⟩) (.str (Tx.plusT a)) := by
  intro prog w A R s hq
  obtain ⟨f, hp, ff⟩ : ∃ f, parseFormatSpec (Str.ofString "+").cps.toList "int" 62 = .ok f ∧ f = { fill := 32, align := 62, sign := some 43 } := ⟨_, rfl, rfl⟩
  unfold Builtin.«int.__format__»
  simp only [selfAndOne, noKeywords, Int.intOfSelf, asInt?, asStr?, List.isEmpty_nil, if_true, pure_bind, bind_pure, bind_assoc, Bool.false_eq_true, if_false,
    show ((Str.ofString "+").length == 0) = false from rfl, show (Value.str (Str.ofString "+") u == Value.none) = false from rfl,
    show (((Str.ofString "+").cps.toList.drop 1).any (· ≥ 128) || ((Str.ofString "+").cps.getD 0 0 ≥ 128 && !([60, 62, 61, 94] : List Nat).contains ((Str.ofString "+").cps.getD 1 0))) = false from rfl]
  refine wpAny_bind (wpAny_typeNameOf (T := "str") (typeIs_str _ _ _) (by decide) fun _ => ?_)
  refine wpAny_bind (wpAny_typeNameOfCut_int ?_)
  have hty : f.type.getD (if (Str.ofString "+").cps.back? == some 0 then 0 else 100) = 100 := by subst ff; rfl
  simp only [hp, hty]
  rw [if_pos (by decide)]
  have hpr : f.precision = none := by subst ff; rfl
  have hz : f.noNeg0 = false := by subst ff; rfl
  have hw : ¬ (f.width.getD 0 > 100000) := by subst ff; decide
  show wpAny _ _ (if _ then _ else _) _ _ _
  rw [if_neg (by simp [hpr])]
  show wpAny _ _ (if _ then _ else _) _ _ _
  rw [if_neg (by simp [hz])]
  show wpAny _ _ (if _ then _ else _) _ _ _
  rw [if_neg (by decide)]
  show wpAny _ _ (do let r ← Builtin.overDigitLimit? a; _) _ _ _
  rw [PySem.overDigitLimit_small hd]
  show wpAny _ _ (if _ then _ else _) _ _ _
  rw [if_neg (by simpa using hw)]
  subst ff
  have key : ∀ Y : Str, Y = Tx.plusT a → wpAny (model prog w) A.in1 (retStr Y) (fun fin s' => match fin with
      | .done f => R (.ok f) s'
      | .again c' => c'.quiet = true ∧ codeAny (model prog w) A c' R s') (fun e s' => R (.error e) s') s := by
    intro Y e
    subst e
    unfold retStr
    refine wpAny_bind (wpAny_mkStr (wpAny_pure ?_) ?_)
    · exact hq.2
    · exact hq.1
  refine key _ (Eq.trans ?_ (plus_field a))
  simp only [Bool.false_eq_true, if_false, show ((10 : Nat) == 10) = true by decide, if_true]
  rfl
/-- {x:+} of an int -/
def tFmtP (te : TE) : TE := fun σ H Q => te σ H fun x H1 => ∃ i : Int, x = .int i ∧ i.natAbs.log2 < 1920 ∧ (Tx.plusT i).length ≤ sizeLine ∧ Q (.str (Tx.plusT i)) H1
theorem pe_fmtP {X : Cx} {e : Expr} {te : TE} {pos p1 p2 : Pos} {k} (he : PE X e te) : PE X (.FormattedValue e (-1) (some (.JoinedStr [.Constant (.str "+") k p1] p2)) pos) (tFmtP te) := by
  refine ⟨fun pins s σ H Q I h => ?_⟩
  refine wpAny_FormattedValue_spec (thn (he.run pins s σ H _ I h) fun v s1 hv => ?_)
  obtain ⟨x, H1, I1, r1, i, rfl, hd, hz, q⟩ := hv
  obtain ⟨t, rfl⟩ := r1
  have js : PE X (.JoinedStr [.Constant (.str "+") k p1] p2) (tC (.str "+")) := pe_joined1 pe_str
  refine thn (js.run pins s1 σ H1 (fun v H2 => v = .str "+" ∧ Q (.str (Tx.plusT i)) H2) I1 ⟨rfl, q⟩) fun r s2 hr => ?_
  obtain ⟨y, H2, I2, r2, ey, q2⟩ := hr
  subst ey
  obtain ⟨t2, rfl⟩ := r2
  refine ⟨_, t2, rfl, ?_⟩
  exact wpAny_formatField_spec (T := "int") (idf := "int.__format__") (B := Builtin.«int.__format__») (by decide) (fun s' => typeIs_int s' i t) PyProof.Rows.slot_int_format PyProof.Rows.entry_int_format (fun a b => PyProof.Rows.args_int_format a b) (fun u => gives_plus i t u hd)
    ⟨.str (Tx.plusT i), H2, I2.tok _, ⟨_, rfl⟩, q2⟩ (by decide) hz
end L2.Lr

set_option maxHeartbeats 400000
/-! the same where something may be raised: C(..), a op b, o(..), C.f(..); a != b, a == b of unlike kinds -/
namespace L2.Lr
open PySem PySem.Spec PyProof.Rows LR StX
section
variable {X : Cx} {CX : CXT} {k n : Nat} {f C : Addr} {fd : FuncData} {ps : List Str} {sp : Sp}
theorem run_atS {A : Around} {pins : List (Addr × Obj)} {σ : St} {H : Hp} {s : Shared} {Q : VK} {E : XK} {us : List Value} {vs : List V} (sb : Sub X k A) (F : FnOk X.prog X.w X.K X.mg X.base CX k f fd ps sp) (hb : Binds X.K fd ps []) (hx : PassesAt CX X σ E)
    (I : Inv X pins σ H s) (r : Vals vs us) (h : sp vs H Q E) : wpAny (model X.prog X.w) A (call (.ref f) us) (EP X pins σ Q) X.xe s := by
  have e := I.env0
  have e0 : Env0 X.prog X.w X.K X.mg X.base A X.stack s H := ⟨sb.fr.trans e.frames, e.mod, e.bs, e.bsz, e.funs, e.frf, e.hok, e.bare⟩
  have hl : us.length = ps.length := r.length.symm.trans (F.len _ _ _ _ h)
  refine wpAny_call (codeAny_mono (F.run A X.stack s H ⟨us, []⟩ us vs Q E sb.room e0 (by simpa using hb s us I.kIn (by simpa using hl)) r h) fun r s' hq => ?_)
  match r, hq with
  | .error e, hq => exact hx pins H s e s' I hq
  | .ok (.ret u), hq => exact I.after hq
  | .ok .next, hq => exact hq.elim
  | .ok .brk, hq => exact hq.elim
  | .ok .cont, hq => exact hq.elim
/-- C(..) in a try -/
def tMakeS (C : Addr) (sp : Sp) (E : St → XK) (t : TA) : TE := fun σ H Q => t σ H fun vs H1 => ∀ x dx, H1 x = none → H1 dx = none → dx ≠ x → sp (.ref x :: vs) (upd (upd H1 dx (.own x)) x (.ins C dx [])) (fun v H2 => v = .non ∧ Q (.ref x) H2) (E σ)
theorem pe_makeS {E : St → XK} {x : Str} {p pos : Pos} {e : Expr} {es : List Expr} {t : TA} (M : Mk X.K C f) (F : FnOk X.prog X.w X.K X.mg X.base CX k f fd ps sp) (hr : Room (k + 1) X.A) (hg : Gl X x) (hm : X.mg x = some (.ref C)) (hb : Binds X.K fd ps []) (hx : ∀ σ, PassesAt CX X σ (E σ)) (ha : PA X (e :: es) t)
    (hdb : (x == ("__debug__" : Str)) = false := by decide) (he : starEach (e :: es) X.env = (false, eval e X.env) :: starEach es X.env := by rfl) (hpl : (backTo pos (starEach es X.env)).any (·.1) = false := by rfl) :
    PE X (.Call (.Name x p) (e :: es) [] pos) (tMakeS C sp E t) := by
  refine ⟨fun pins s0 σ H Q I0 h => wpAny_Call_Name_kw (ld_glob I0 hg hm (PySem.W.callWith_K (h₀ := X.base) I0.ok.mod.kin M.kp (thn (ha.run pos pins s0 σ H _ I0 h) fun us s ⟨vs, H1, I, r, q⟩ => ⟨I.kIn, ?_⟩) he hpl) hdb)⟩
  have hq := q (s.heap.objs.size + 1) s.heap.objs.size (I.hok.fresh (Nat.le_succ _)) (I.hok.fresh (Nat.le_refl _)) (Nat.ne_of_lt (Nat.lt_succ_self _))
  have I2 := Inv.made (C := C) I
  have r2 : Vals (V.ref (s.heap.objs.size + 1) :: vs) (Value.ref (s.heap.objs.size + 1) :: us) := .cons rfl r
  have hl : (Value.ref (s.heap.objs.size + 1) :: us).length = ps.length := r2.length.symm.trans (F.len _ _ _ _ hq)
  have bb : ∀ s2 : Shared, X.K.In s2.heap → BindsTo s2 fd ⟨Value.ref (s.heap.objs.size + 1) :: us, []⟩ (ps.zip (Value.ref (s.heap.objs.size + 1) :: us)) := fun s2 h2 => by simpa using hb s2 (Value.ref (s.heap.objs.size + 1) :: us) h2 (by simpa using hl)
  refine wpAny_call (make_map (f := f) I.kIn M.makes M.init (beq_iff_eq.mp M.fn) (codeAny_mono (F.run _ X.stack _ _ ⟨Value.ref (s.heap.objs.size + 1) :: us, []⟩ _ _ _ (E σ) (hr.make C us []) (I2.env0.make C us []) (bb _ I2.kIn) r2 hq) fun z s' hz => ?_))
  match z, hz with
  | .error e, hz => exact hx σ pins _ _ e s' I2 hz
  | .ok (.ret u), hz =>
    obtain ⟨v, H', I3, rv, ev, q3⟩ := I2.after hz
    subst ev
    exact ⟨rv, ⟨.ref (s.heap.objs.size + 1), H', I3, rfl, q3⟩⟩
  | .ok .next, hz => exact hz.elim
  | .ok .brk, hz => exact hz.elim
  | .ok .cont, hz => exact hz.elim
/-! ### operators -/
/-- a two-place operation at these slots -/
def OpA (X : Cx) (σ : St) (g : Value → Value → Sem Value) (r : R2) : Prop := ∀ (pins : List (Addr × Obj)) (s : Shared) (H : Hp) (x y : V) (v u : Value) (Q : VK), Inv X pins σ H s → RelV x v → RelV y u → r x y H Q → wpAny (model X.prog X.w) X.A (g v u) (EP X pins σ Q) X.xe s
def tOpA (r : St → R2) (ta tb : TE) : TE := fun σ H Q => ta σ H fun x H1 => tb σ H1 fun y H2 => r σ x y H2 Q
theorem pe_opA {a b : Expr} {ta tb : TE} {pos : Pos} {op : Operator} {r : St → R2} (ho : ∀ σ, OpA X σ (binaryOp op) (r σ)) (ha : PE X a ta) (hb : PE X b tb) : PE X (.BinOp a op b pos) (tOpA r ta tb) :=
  ⟨fun pins s σ H Q I h => wpAny_BinOp (binT ha hb (R := fun x y H2 => r σ x y H2 Q) I h fun v u s2 x y H2 I2 rx ry q => ho σ pins s2 H2 x y v u Q I2 rx ry q)⟩
/-- the kind of a value that is no own instance -/
inductive KindV (K : PySem.W.Frag) (H : Hp) : V → String → Prop where
  | non : KindV K H .non "NoneType"
  | bl (b : Bool) : KindV K H (.bl b) "bool"
  | int (i : Int) : KindV K H (.int i) "int"
  | str (x : Str) : KindV K H (.str x) "str"
  | lst {a : Addr} {xs : List V} (h : SqL K H a xs) : KindV K H (.ref a) "list"
  | tup {a : Addr} {xs : List V} (h : SqT K H a xs) : KindV K H (.ref a) "tuple"
theorem looks_ref {M : Model} {h : Heap} {a : Addr} {o : Obj} (e : h.get? a = some o) : PySem.W.Looks M h (typeOf (.ref a)) o.cls := fun A Q E s kp q => wpAny_typeOf_ref (kp _ _ e) q
theorem kind_looks {pins : List (Addr × Obj)} {σ : St} {H : Hp} {s : Shared} {x : V} {u : Value} {t : String} (I : Inv X pins σ H s) (h : KindV X.K H x t) (r : RelV x u) {M : Model} : PySem.W.Looks M s.heap (typeOf u) (.type t) := by
  cases h with
  | non => cases r; exact PySem.W.Looks.of_pure rfl
  | bl b => cases r; exact PySem.W.Looks.of_pure rfl
  | int i => obtain ⟨k, rfl⟩ := r; exact PySem.W.Looks.of_pure rfl
  | str i => obtain ⟨k, rfl⟩ := r; exact PySem.W.Looks.of_pure rfl
  | lst h =>
    cases r
    obtain ⟨its, rv, hl, _⟩ := I.list h
    obtain ⟨o, n, e, c, _⟩ := hl
    have z := looks_ref (M := M) e
    rw [c] at z
    exact z
  | tup h =>
    cases r
    obtain ⟨its, rv, hl, _⟩ := I.tuple h
    obtain ⟨o, e, c, _⟩ := hl
    have z := looks_ref (M := M) e
    rw [c] at z
    exact z
/-- the names of the kinds -/
def kinds : List String := ["NoneType", "bool", "int", "str", "list", "tuple"]
theorem KindV.mem {K : PySem.W.Frag} {H : Hp} {x : V} {t : String} (h : KindV K H x t) : t ∈ kinds := by
  cases h <;> decide
/-- what a class's own def for an operator must have, beside all kinds -/
structure OwnOps (K : PySem.W.Frag) (C f : Addr) (op : Operator) : Prop where
  at_ : PySem.W.findIn K (.ref C) (PySem.dunder op.info.2) = some (some (.ref f))
  fn : PySem.W.isFn K (.ref f) = true
  first : PySem.W.selfFirst K C = true
  rc : PySem.W.findIn K (.ref C) (dunderR op.info.2) = some none
  ks : ∀ t ∈ kinds, (PySem.W.findIn K (.type t) (PySem.dunder op.info.2)).isSome = true ∧ (PySem.W.findIn K (.type t) (dunderR op.info.2)).isSome = true ∧ PySem.W.subIn K (.type t) (.ref C) = some false
def kindB (K : PySem.W.Frag) (C : Addr) (op : Operator) (t : String) : Bool := (PySem.W.findIn K (.type t) (PySem.dunder op.info.2)).isSome && ((PySem.W.findIn K (.type t) (dunderR op.info.2)).isSome && decide (PySem.W.subIn K (.type t) (.ref C) = some false))
def ownsB (K : PySem.W.Frag) (C f : Addr) (op : Operator) : Bool := He.eqO (PySem.W.findIn K (.ref C) (PySem.dunder op.info.2)) (some (some (.ref f))) && (PySem.W.isFn K (.ref f) && (PySem.W.selfFirst K C && (He.eqO (PySem.W.findIn K (.ref C) (dunderR op.info.2)) (some none) && kinds.all (kindB K C op))))
theorem ownsB_ok {K : PySem.W.Frag} {op : Operator} (q : ownsB K C f op = true) : OwnOps K C f op := by
  obtain ⟨q1, q⟩ := He.ba q
  obtain ⟨q2, q⟩ := He.ba q
  obtain ⟨q3, q⟩ := He.ba q
  obtain ⟨q4, q5⟩ := He.ba q
  refine ⟨He.eqO_ok q1, q2, q3, He.eqO_ok q4, fun t ht => ?_⟩
  obtain ⟨a1, a⟩ := He.ba (List.all_eq_true.mp q5 t ht)
  obtain ⟨a2, a3⟩ := He.ba a
  exact ⟨a1, a2, of_decide_eq_true a3⟩
open PySem.W in
/-- a op b where b is of a built-in kind, told by a look -/
theorem bin_kind {prog : Program} {w : World} {A : Around} {W : Value → Shared → Prop} {s : Shared} {K : Frag} {x : Addr} {h₀ : Heap} {L : Addr} {m : Str → Option Value} {ox : Obj} {od : Option Obj} {op : Operator} {b : Value} {t : String} {Q : Value → Shared → Prop}
    (F : Fr h₀ L s.heap m) (X0 : K.In h₀) (I : InstAt s.heap x ox C od) (hb : Looks (model prog w) s.heap (typeOf b) (.type t)) (o : OwnOps K C f op) (ht : t ∈ kinds)
    (h : wpAny (model prog w) A (call (.ref f) [.ref x, b]) (PySem.W.CmpBack Q) W s) : wpAny (model prog w) A (binaryOp op (.ref x) b) Q W s := by
  have X := X0.keeps F.keep
  obtain ⟨cd, rest, hcd, hm⟩ := ksp_first o.first
  obtain ⟨k1, k2, k3⟩ := o.ks t ht
  obtain ⟨fo, h1⟩ := Option.isSome_iff_exists.mp k1
  obtain ⟨ro, h2⟩ := Option.isSome_iff_exists.mp k2
  have hs := o.at_
  have hr := o.rc
  rcases hi : op.info with ⟨sym, nm⟩
  rw [hi] at hs hr h1 h2
  dsimp only at hs hr h1 h2
  have one := ksp_try X I hs o.fn h
  obtain ⟨hh, g, d, tt, os⟩ := s
  have l1 : Looks (model prog w) hh (typeOf (.ref x)) (.ref C) := I.type
  have l2 : Looks (model prog w) hh (typeOf b) (.type t) := hb
  have l3 : Looks (model prog w) hh (fillsNumberSlot (.ref C) nm) true := fills_K X hcd hm hs
  have l4 : Looks (model prog w) hh (fillsNumberSlot (.type t) nm) ((fo.isSome && !isSeqSlot fo) || (ro.isSome && !isSeqSlot ro)) := ksp_fillsT X h1 h2
  have l5 : Looks (model prog w) hh (isSubtype (.type t) (.ref C)) false := looks_subIn X k3
  have l6 : Looks (model prog w) hh (numberSlotInPython (.ref C) nm) true := ksp_inPy X hs hr (.inl rfl)
  have l7 : Looks (model prog w) hh (numberSlotInPython (.type t) nm) false := Looks.of_pure rfl
  have l8 : Looks (model prog w) hh (typeLookup (.type t) (dunderR nm)) ro := looks_findIn X h2
  generalize ((fo.isSome && !isSeqSlot fo) || (ro.isSome && !isSeqSlot ro)) = right at l4
  have ne : (Value.ref C == Value.type t) = false := Bool.eq_false_iff.mpr fun q => by cases beq_iff_eq.mp q
  simp only [binaryOp, hi]
  refine wpAny_holding (wpAny_bind ?_)
  unfold binaryOp1
  refine wpAny_bind (l1.at (wpAny_bind (l2.at (wpAny_bind (l3.at ?_)))))
  simp only [ne, Bool.false_eq_true, if_false]
  cases right <;>
  · ksp_lk
    refine wpAny_mono one (fun r s' z => ?_) fun _ _ z => z
    obtain ⟨v, rfl, q⟩ := z
    ksp_lk
    exact q
/-- a op b, by the left one's own def, in a try -/
theorem op_ownA {op : Operator} {E : St → XK} (o : OwnOps X.K C f op) (F : FnOk X.prog X.w X.K X.mg X.base CX k f fd ps sp) (hr : Room k X.A) (hb : Binds X.K fd ps []) (hx : ∀ σ, PassesAt CX X σ (E σ)) (σ : St) :
    OpA X σ (binaryOp op) (fun x y H Q => ∃ a dx fs, x = .ref a ∧ H a = some (.ins C dx fs) ∧ ((∃ t, KindV X.K H y t) ∨ ∃ b dy gs, y = .ref b ∧ H b = some (.ins C dy gs)) ∧ sp [.ref a, y] H Q (E σ)) := by
  intro pins s H x y v u Q I rx ry h
  obtain ⟨a, dx, fs, rfl, ha, hy, h⟩ := h
  cases rx
  obtain ⟨ox, od, J, _⟩ := insC_at I (.inr ⟨dx, fs, ha⟩)
  obtain ⟨m, hF⟩ := I.fr
  have run := wpAny_mono (run_atS (A := X.A) ⟨hr, rfl⟩ F hb (hx σ) I (vs := [.ref a, y]) (us := [.ref a, u]) (.cons rfl (.cons ry .nil)) h) (fun v s' z => cmp_back z) fun _ _ z => z
  rcases hy with ⟨t, hk⟩ | ⟨b, dy, gs, rfl, hb'⟩
  · exact bin_kind hF I.ok.mod.kin J (kind_looks I hk ry) o hk.mem run
  · cases ry
    obtain ⟨oy, od', J', _⟩ := insC_at I (.inr ⟨dy, gs, hb'⟩)
    exact PySem.W.binop_K hF I.ok.mod.kin J J'.type o.first o.at_ o.fn run
/-- o(..) in a try -/
def tCallOS (X : Cx) (C : Addr) (sp : Sp) (E : St → XK) (tf : TE) (t : TA) : TE := fun σ H Q => tf σ H fun y H1 => ∃ a, y = V.ref a ∧ t σ H1 fun vs H2 => InsC X H2 a C ∧ sp (V.ref a :: vs) H2 Q (E σ)
theorem pe_callOS {E : St → XK} {fe e : Expr} {es : List Expr} {tf : TE} {t : TA} {pos : Pos} (hf : PE X fe tf) (c : CallO X.K C f) (F : FnOk X.prog X.w X.K X.mg X.base CX k f fd ps sp) (hr : Room k X.A) (hb : Binds X.K fd ps []) (hx : ∀ σ, PassesAt CX X σ (E σ)) (ha : PA X (e :: es) t)
    (ht : eval (.Call fe (e :: es) [] pos) X.env = (do callWith pos (← eval fe X.env) [] (backTo pos (starEach (e :: es) X.env)) (backToKw pos (keywordEach [] X.env))) := by rfl)
    (he : starEach (e :: es) X.env = (false, eval e X.env) :: starEach es X.env := by rfl) (hpl : (backTo pos (starEach es X.env)).any (·.1) = false := by rfl) : PE X (.Call fe (e :: es) [] pos) (tCallOS X C sp E tf t) := by
  refine ⟨fun pins s σ H Q I h => Call_ (thn (hf.run pins s σ H _ I h) fun u s1 ⟨y, H1, I1, ry, a, ey, q⟩ => ?_) ht⟩
  subst ey
  cases ry
  refine callO_with (thn (ha.run pos pins s1 σ H1 _ I1 q) fun us s2 ⟨vs, H2, I2, r, hi, q2⟩ => ?_) he hpl
  obtain ⟨ox, od, J, hd⟩ := insC_at I2 hi
  refine ⟨⟨_, _, _, J, hd⟩, ?_⟩
  have r2 : Vals (V.ref a :: vs) (Value.ref a :: us) := .cons rfl r
  have hl : (Value.ref a :: us).length = ps.length := r2.length.symm.trans (F.len _ _ _ _ q2)
  have bb : BindsTo s2 fd ⟨Value.ref a :: us, []⟩ (ps.zip (Value.ref a :: us)) := by simpa using hb s2 (Value.ref a :: us) I2.kIn (by simpa using hl)
  refine wpAny_call (PySem.W.kco_code I2.kIn J hd c.at_ c.fn c.fi (codeAny_mono (F.run X.A X.stack s2 H2 ⟨Value.ref a :: us, []⟩ _ _ Q (E σ) hr I2.env0 bb r2 q2) fun z s' hz => ?_))
  match z, hz with
  | .error e, hz => exact hx σ pins _ _ e s' I2 hz
  | .ok (.ret u), hz => exact I2.after hz
  | .ok .next, hz => exact hz.elim
  | .ok .brk, hz => exact hz.elim
  | .ok .cont, hz => exact hz.elim
/-- what a static method must have: its record at p, its def at g -/
structure Stat (K : PySem.W.Frag) (C p g : Addr) (m : Str) : Prop where
  rd : PySem.W.readsIn K C (.type "type") = true
  ga : PySem.W.specialIn K (.ref C) "__getattribute__" = some (some (.builtin "type.__getattribute__"))
  at_ : PySem.W.findCls K (.ref C) (.type "type") m = some (.get (.builtin "staticmethod.__get__") (.ref p) .none (.ref C))
  rc : ∃ rest, PySem.W.recIn K p "staticmethod" = some (.ref g :: rest)
  kp : PySem.W.keepIn K (.ref g) = true
/-- C.m(..), m a static method, in a try -/
theorem pe_statS {E : St → XK} {x m : Str} {p0 pos apos : Pos} {pr : Addr} {e : Expr} {es : List Expr} {t : TA} {pl : Sem Bool} (c : Stat X.K C pr f m) (F : FnOk X.prog X.w X.K X.mg X.base CX k f fd ps sp) (hr : Room k X.A) (hg : Gl X x) (hm : X.mg x = some (.ref C)) (hb : Binds X.K fd ps []) (hx : ∀ σ, PassesAt CX X σ (E σ))
    (ha : PA X (e :: es) t) (hdb : (x == ("__debug__" : Str)) = false := by decide) (hst : starEach (e :: es) X.env = (false, eval e X.env) :: starEach es X.env := by rfl) (hpl : (backTo pos (starEach es X.env)).any (·.1) = false := by rfl)
    (ht : eval (.Call (.Attribute (.Name x p0) m apos) (e :: es) [] pos) X.env = (do
      let ov ← eval (.Name x p0) X.env
      standAt apos.atName
      let (f, first) ← holding [ov] (getMethod ov m pl)
      callWith pos f first (backTo pos (starEach (e :: es) X.env)) (backToKw pos (keywordEach [] X.env))) := by rfl) :
    PE X (.Call (.Attribute (.Name x p0) m apos) (e :: es) [] pos) (tCallS sp E t) := by
  have hn : PE X (.Name x p0) (tC (.ref C)) := pe_glob hg hm rfl hdb
  refine ⟨fun pins s σ H Q I h => PySem.W.methodCall_KW (pl := pl) (thn (hn.run pins s σ H (fun v H1 => v = .ref C ∧ t σ H1 fun vs H2 => sp vs H2 Q (E σ)) I ⟨rfl, h⟩) fun u s1 ⟨v, H1, I1, rv, ev, q⟩ => ?_) ht⟩
  subst ev
  cases rv
  obtain ⟨rest, rc⟩ := c.rc
  refine PySem.W.method_cls I1.kIn c.ga (PySem.W.cls_bind I1.kIn c.rd c.at_ (wpAny_call (PySem.W.sm_get (s := { s1 with toks := s1.toks + 1 }) I1.kIn rc (PySem.W.handed_on rfl ?_))))
  have I2 := I1.tok (s1.toks + 1)
  refine PySem.W.callWith_K (first := []) (h₀ := X.base) I2.ok.mod.kin c.kp (thn (ha.run pos pins _ σ H1 _ I2 q) fun us s2 ⟨vs, H2, I3, r, q2⟩ => ⟨I3.kIn, ?_⟩) hst hpl
  exact run_atS (A := X.A) ⟨hr, rfl⟩ F hb (hx σ) I3 r q2
/-- a == b, b of a built-in kind: the left one's own __eq__ -/
theorem op_eqK {E : XK} (d : Dun X.K C f "__eq__") (F : FnOk X.prog X.w X.K X.mg X.base CX k f fd ps sp) (hr : Room k X.A) (hb : Binds X.K fd ps []) (hx : Passes CX X E) :
    OpR X (compareOp .Eq) (fun x y H Q => ∃ a dx fs t, x = .ref a ∧ H a = some (.ins C dx fs) ∧ KindV X.K H y t ∧ PySem.W.subIn X.K (.type t) (.ref C) = some false ∧ sp [.ref a, y] H Q E) := by
  intro pins s σ H x y v u Q I rx ry h
  obtain ⟨a, dx, fs, t, rfl, ha, hk, hs, h⟩ := h
  cases rx
  obtain ⟨ox, od, J, _⟩ := insC_at I (.inr ⟨dx, fs, ha⟩)
  obtain ⟨m, hF⟩ := I.fr
  show wpAny (model X.prog X.w) X.A (richCompare .Eq _ _) _ X.xe s
  refine PySem.W.cmp_K (op := .Eq) (tb := .type t) hr.units0 hF I.ok.mod.kin J (kind_looks I hk ry) (by simp [PySem.W.notFirst, hs]) d.at_ d.fn ?_
  exact wpAny_mono (run_at (A := X.A) ⟨hr, rfl⟩ F hb hx I (vs := [.ref a, y]) (us := [.ref a, u]) (.cons rfl (.cons ry .nil)) h) (fun v s' z => cmp_back z) fun _ _ z => z
end
open PySem.W Builtin in
theorem bound_bi {M : Model} {A : Around} {W : Value → Shared → Prop} {s : Shared} {K : Frag} {x C : Addr} {ox : Obj} {od : Option Obj} {name : Str} {id : String} {args : List Value} {Q : Option Value → Shared → Prop} (X : K.In s.heap) (I : InstAt s.heap x ox C od) (hs : findIn K (.ref C) name = some (some (.builtin id)))
    (hb : ∀ self, bindSpecial (.builtin id) self = pure (.builtin id, [self])) (h : wpAny M A (call (.builtin id) (.ref x :: args)) (fun v => Q (some v)) W s) : wpAny M A (callSpecialIfBound? (.ref x) name args) Q W s := by
  simp only [callSpecialIfBound?, bindSpecialIfBound?]
  refine wpAny_holding (wpAny_bind (wpAny_bind (wpAny_bind (I.type.here ((looks_findIn X hs).here ?_)))))
  refine wpAny_bind (wpAny_askSetting (wpAny_ite ?_))
  have fin : wpAny M A (call (.builtin id) ([.ref x] ++ args) >>= fun v => pure (some v)) Q W s := wpAny_bind (wpAny_mono h (fun v s' z => wpAny_pure z) fun _ _ z => z)
  split
  · exact wpAny_bind ((Looks.of_pure (hb _)).here (wpAny_pure (by exact fin)))
  · exact wpAny_tryCatch (wpAny_bind ((Looks.of_pure (hb _)).here (wpAny_pure (by exact fin))))
open PySem.W Builtin in
/-- a != b by the own __eq__ -/
theorem ne_own {prog : Program} {w : World} {A : Around} {W : Value → Shared → Prop} {s : Shared} {K : Frag} {x y C f : Addr} {h₀ : Heap} {L : Addr} {m : Str → Option Value} {ox oy : Obj} {od od' : Option Obj} {Q : Value → Shared → Prop} (hu : A.units < cLine) (hu1 : A.in1.units < cLine)
    (F : Fr h₀ L s.heap m) (X0 : K.In h₀) (I : InstAt s.heap x ox C od) (J : InstAt s.heap y oy C od') (hn : findIn K (.ref C) "__ne__" = some (some (.builtin "object.__ne__"))) (hm : mroIn K C (.type "object") = some true) (hs : findIn K (.ref C) "__eq__" = some (some (.ref f))) (hf : isFn K (.ref f) = true)
    (h : wpAny (model prog w) A.in1 (call (.ref f) [.ref x, .ref y]) (fun v s' => ∃ b, v = .bool b ∧ Q (.bool (!b)) s') W s) : wpAny (model prog w) A (richCompare .NotEq (.ref x) (.ref y)) Q W s := by
  have X := X0.keeps F.keep
  have inner : wpAny (model prog w) A (call (.builtin "object.__ne__") [.ref x, .ref y]) (fun v s' => ∃ b, v = .bool b ∧ Q (.bool b) s') W s := by
    refine wpAny_call (codeAny_call_builtin PySem.F.slot_object_ne.plain PySem.F.entry_object_ne (check_slot (i := "object.__ne__") (owner := "object") (n := "__ne__") (by decide +kernel) (by decide +kernel) (I.type.andThen (looks_mroIn X hm)) (PySem.F.args_object_ne_2 _ _) ?_))
    unfold Builtin.«object.__ne__»
    refine wpAny_bind (m := slotArgs "__ne__" 1 _) (wpAny_pure ?_)
    refine wpAny_bind (m := cRoomFor _ _) (wpAny_cRoomFor hu1 ?_)
    refine wpAny_bind (m := callSpecialIfBound? (.ref x) (Str.ofString "__eq__") _) (ifBound_K X I hs hf (wpAny_mono h (fun v s' z => ?_) fun _ _ z => z))
    obtain ⟨b, rfl, q⟩ := z
    refine wpAny_bind (m := truthy (.bool b)) (wpAny_truthy_bool ?_)
    exact wpAny_pure ⟨!b, rfl, q⟩
  have one : wpAny (model prog w) A (tryCompare (.ref x) (cmpInfo .NotEq).2.1 (.ref y)) (fun r s' => ∃ v, r = some v ∧ Q v s') W s := by
    unfold tryCompare
    refine wpAny_bind (bound_bi X I hn PySem.F.slot_object_ne.bind (wpAny_mono inner (fun v s' z => ?_) fun _ _ z => z))
    obtain ⟨b, rfl, q⟩ := z
    exact wpAny_pure ⟨_, rfl, q⟩
  unfold richCompare
  simp only [oneThing_ref]
  refine wpAny_holding (wpAny_bind (wpAny_cRoomFor hu ?_))
  refine wpAny_bind (I.type.here (wpAny_bind (J.type.here ?_)))
  split
  · rename_i q
    simp at q
  · refine wpAny_bind (wpAny_pure ?_)
    simp only [Bool.false_eq_true, if_false]
    refine wpAny_bind (wpAny_mono one (fun r s' z => ?_) fun _ _ z => z)
    obtain ⟨v, rfl, q⟩ := z
    exact wpAny_pure q
section
variable {X : Cx} {CX : CXT} {k n : Nat} {f C : Addr} {fd : FuncData} {ps : List Str} {sp : Sp}
/-- a != b of two of the class -/
theorem op_neO {E : XK} (d : Dun X.K C f "__eq__") (hn : PySem.W.findIn X.K (.ref C) "__ne__" = some (some (.builtin "object.__ne__"))) (hm : PySem.W.mroIn X.K C (.type "object") = some true) (F : FnOk X.prog X.w X.K X.mg X.base CX k f fd ps sp) (hr : Room (k + 1) X.A) (hb : Binds X.K fd ps []) (hx : Passes CX X E) :
    OpR X (compareOp .NotEq) (fun x y H Q => ∃ a dx fs b dy gs, x = .ref a ∧ H a = some (.ins C dx fs) ∧ y = .ref b ∧ H b = some (.ins C dy gs) ∧ sp [.ref a, .ref b] H (fun v H' => ∃ b, v = .bl b ∧ Q (.bl (!b)) H') E) := by
  intro pins s σ H x y v u Q I rx ry h
  obtain ⟨a, dx, fs, b, dy, gs, rfl, ha, rfl, hb', h⟩ := h
  cases rx
  cases ry
  obtain ⟨ox, od, J, _⟩ := insC_at I (.inr ⟨dx, fs, ha⟩)
  obtain ⟨oy, od', J', _⟩ := insC_at I (.inr ⟨dy, gs, hb'⟩)
  obtain ⟨m, hF⟩ := I.fr
  show wpAny (model X.prog X.w) X.A (richCompare .NotEq _ _) _ X.xe s
  refine ne_own hr.units0 hr.in1.units0 hF I.ok.mod.kin J J' hn hm d.at_ d.fn ?_
  refine wpAny_mono (run_at (A := X.A.in1) ⟨hr.in1, rfl⟩ F hb hx I (vs := [.ref a, .ref b]) (us := [.ref a, .ref b]) (.cons rfl (.cons rfl .nil)) h) (fun v s' z => ?_) fun _ _ z => z
  obtain ⟨x, H', I', rv, c, rfl, q⟩ := z
  cases rv
  exact ⟨c, rfl, .bl (!c), H', I', rfl, q⟩
/-- a != b, two lists of the very same things -/
theorem op_neS (hu : X.A.units + 64 < cLine) : OpR X (compareOp .NotEq) (fun x y H Q => ∃ a b xs, x = .ref a ∧ y = .ref b ∧ SqL X.K H a xs ∧ SqL X.K H b xs ∧ (∀ v ∈ xs, flatB v = true ∨ ∃ r, v = .ref r) ∧ Q (.bl false) H) := by
  intro pins s σ H x y v u Q I rx ry h
  obtain ⟨a, b, xs, rfl, rfl, ha, hb, hi, q⟩ := h
  cases rx
  cases ry
  obtain ⟨us, r1, p1, _⟩ := I.list ha
  obtain ⟨ws, r2, p2, _⟩ := I.list hb
  have hsz : us.toArray.size = ws.toArray.size := by rw [List.size_toArray, List.size_toArray, ← r1.length, ← r2.length]
  have he : ∀ j (h1 : j < us.toArray.size) (h2 : j < ws.toArray.size), SeqAt.EqAt X.A.in1 s us.toArray[j] ws.toArray[j] true := by
    intro j h1 h2
    have l1 : j < us.length := by simpa using h1
    have l2 : j < ws.length := by simpa using h2
    have hj : j < xs.length := by rw [r1.length]; exact l1
    obtain ⟨u1, e1, q1⟩ := r1.get (List.getElem?_eq_getElem hj)
    obtain ⟨u2, e2, q2⟩ := r2.get (List.getElem?_eq_getElem hj)
    have z1 : us.toArray[j] = u1 := by
      have := List.getElem?_eq_getElem l1
      rw [e1] at this
      simpa using (Option.some.inj this).symm
    have z2 : ws.toArray[j] = u2 := by
      have := List.getElem?_eq_getElem l2
      rw [e2] at this
      simpa using (Option.some.inj this).symm
    rw [z1, z2]
    rcases hi xs[j] (List.getElem_mem hj) with f | ⟨r, er⟩
    · exact eqAt_same q1 q2 f
    · rw [er] at q1 q2
      cases q1
      cases q2
      exact SeqAt.EqAt.same _
  have z := SeqAt.RcNeAt.lists (e := fun _ => true) p1.isList p2.isList hsz (show X.A.units < cLine by omega) he X.prog X.w X.xe (EP X pins σ Q)
  refine z ?_
  rw [show (List.range us.toArray.size).all (fun _ => true) = true from List.all_eq_true.mpr fun _ _ => rfl]
  exact ⟨.bl false, H, I, rfl, q⟩
/-- isinstance(x, C): an instance, or data -/
theorem call_isCD (c : C8.InsC X.K C) : CallR X (.builtin "isinstance") (fun xs H Q => ∃ x, xs = [x, .ref C] ∧ ((∃ d, Dp X.K H x d ∧ PySem.W.kitOne X.K (.type (tyN d)) (.ref C) = some false ∧ Q (.bl false) H) ∨ ∃ a dx fs, x = .ref a ∧ H a = some (.ins C dx fs) ∧ Q (.bl true) H)) := by
  intro pins s σ H xs us Q I r h
  obtain ⟨x, rfl, h⟩ := h
  rcases h with ⟨d, hd, hk, q⟩ | ⟨a, dx, fs, rfl, ha, q⟩
  · exact call_isi pins s σ H _ _ Q I r ⟨x, .ref C, .type (tyN d), .ref C, false, rfl, .own C, tyD hd, hk, q⟩
  · exact C8.call_isC c pins s σ H _ _ Q I r ⟨a, dx, fs, rfl, ha, q⟩
/-- isinstance(x, t), t built-in: data, or an instance of C -/
theorem call_isDT {t : String} (c : C8.InsC X.K C) (kf : PySem.W.kitOne X.K (.ref C) (.type t) = some false) : CallR X (.builtin "isinstance") (fun xs H Q => ∃ x, xs = [x, .ty t] ∧ ((∃ d b, Dp X.K H x d ∧ kitB (tyN d) t = some b ∧ Q (.bl b) H) ∨ ∃ a dx fs, x = .ref a ∧ H a = some (.ins C dx fs) ∧ Q (.bl false) H)) := by
  intro pins s σ H xs us Q I r h
  obtain ⟨x, rfl, h⟩ := h
  rcases h with ⟨d, b, hd, hk, q⟩ | ⟨a, dx, fs, rfl, ha, q⟩
  · exact call_isi pins s σ H _ _ Q I r ⟨x, .ty t, .type (tyN d), .type t, b, rfl, .ty t, tyD hd, kit_ty hk, q⟩
  · obtain ⟨u, w', rfl, ru, rw'⟩ := vals2 r
    cases rw'
    exact isinst_ok I ru (TyOf.ins ha c.cl c.ha c.hn c.htk c.hm) kf fun tk => ⟨.bl false, H, I.tok _, rfl, q⟩
end
end L2.Lr

set_option maxHeartbeats 1000000
/-! pieces of texts and of lists; texts of low signs -/
namespace L2.Tx
open PySem PySem.Spec PyProof.Rows NumText L2 TL
theorem len_app (x y : Str) : (x ++ y).length = x.length + y.length := by
  rw [len_tl, len_tl, len_tl, tl_append, List.length_append]
theorem empty_app (x : Str) : Str.empty ++ x = x := tl_inj (by rw [tl_append]; rfl)
theorem app_empty (x : Str) : x ++ Str.empty = x := tl_inj (by rw [tl_append]; exact List.append_nil _)
theorem app_assoc (x y z : Str) : x ++ y ++ z = x ++ (y ++ z) := tl_inj (by rw [tl_append, tl_append, tl_append, tl_append, List.append_assoc])
theorem tl_cut (t : Str) (lo hi : Option Int) : tl (cutS t lo hi) = ((tl t).drop (HT.sIx t.length 0 lo)).take (HT.sIx t.length t.length hi - HT.sIx t.length 0 lo) := rfl
theorem tl_from (t : Str) (k : Nat) : tl (cutS t (some (k : Int)) none) = (tl t).drop k := by
  rw [tl_cut, HT.sIx_nat, HT.sIx_none, len_tl]
  by_cases h : k ≤ (tl t).length
  · rw [Nat.min_eq_left h, List.take_of_length_le (by rw [List.length_drop]; omega)]
  · rw [Nat.min_eq_right (by omega), List.drop_of_length_le (l := tl t) (Nat.le_refl _), List.drop_of_length_le (l := tl t) (i := k) (by omega)]
    simp
theorem tl_to (t : Str) (k : Nat) : tl (cutS t none (some (k : Int))) = (tl t).take k := by
  rw [tl_cut, HT.sIx_nat, HT.sIx_none, len_tl, List.drop_zero, Nat.sub_zero]
  by_cases h : k ≤ (tl t).length
  · rw [Nat.min_eq_left h]
  · rw [Nat.min_eq_right (by omega), List.take_length, List.take_of_length_le (by omega)]
theorem cut_le (t : Str) (lo hi : Option Int) : (cutS t lo hi).length ≤ t.length := cutS_length t lo hi
/-- signs below 256 -/
def Low (t : Str) : Prop := ∀ c ∈ tl t, c < 256
theorem Low.app {x y : Str} (h : Low x) (g : Low y) : Low (x ++ y) := fun c hc => by
  rw [tl_append] at hc
  exact (List.mem_append.mp hc).elim (h c) (g c)
theorem Low.cut {t : Str} (h : Low t) (lo hi : Option Int) : Low (cutS t lo hi) := fun c hc => h c (List.mem_of_mem_drop (List.mem_of_mem_take (by rw [tl_cut] at hc; exact hc)))
theorem low_num (n : Nat) : ∀ c ∈ numL n, c < 256 := fun c hc => by
  have := numL_digits n c hc
  omega
theorem low_int (a : Int) : Low (intT a) := fun c hc => by
  rw [tl_int] at hc
  unfold sgnL at hc
  split at hc
  · rcases List.mem_cons.mp hc with rfl | hc
    · decide
    · exact low_num _ c hc
  · exact low_num _ c hc
theorem low_plus (a : Int) : Low (plusT a) := fun c hc => by
  rw [tl_plus] at hc
  unfold plusL at hc
  rcases List.mem_cons.mp hc with rfl | hc
  · split <;> decide
  · exact low_num _ c hc
theorem low_empty : Low Str.empty := fun c hc => by cases hc
theorem low_of {t : Str} (h : (tl t).all (fun c => decide (c < 256)) = true) : Low t := fun c hc => of_decide_eq_true (List.all_eq_true.mp h c hc)
theorem Low.small {t : Str} (h : Low t) : ∀ c ∈ t.cps.toList, c < 1114112 := fun c hc => Nat.lt_trans (h c hc) (by decide)
end L2.Tx

set_option maxHeartbeats 1000000
namespace L2.Tx
open PySem TL
/-! ### isascii, isalpha, islower: small letters -/
def lettersL : List Nat := ("abcdefghijklmnopqrstuvwxyz" : Str).cps.toList
theorem low_signs : ((List.range 128).all fun c => (decide (c ∈ lettersL) == (Unicode.isAlpha c && !(Unicode.isUpper c || Unicode.isTitle c))) && (!decide (c ∈ lettersL) || Unicode.isLower c)) = true := by decide +kernel
theorem low_sign {c : Nat} (h : c < 128) : decide (c ∈ lettersL) = (Unicode.isAlpha c && !(Unicode.isUpper c || Unicode.isTitle c)) ∧ (c ∈ lettersL → Unicode.isLower c = true) := by
  have z := List.all_eq_true.mp low_signs c (List.mem_range.mpr h)
  obtain ⟨z1, z2⟩ := Bool.and_eq_true_iff.mp z
  refine ⟨eq_of_beq z1, fun m => ?_⟩
  rw [decide_eq_true m] at z2
  exact z2
theorem letter_low : (lettersL.all fun c => decide (c < 128)) = true := by decide +kernel
theorem all_L (t : Str) (p : Nat → Bool) : t.cps.all p = (tl t).all p := by
  rw [← Array.all_toList]
theorem any_L (t : Str) (p : Nat → Bool) : t.cps.any p = (tl t).any p := by
  rw [← Array.any_toList]
theorem word_letters {t : Str} (h1 : 1 ≤ t.length) : (PySem.Txt.isascii t && (PySem.Txt.isalpha t && PySem.Txt.islower t)) = (tl t).all fun c => decide (c ∈ lettersL) := by
  unfold PySem.Txt.isascii PySem.Txt.isalpha PySem.Txt.islower
  rw [all_L, all_L, any_L, any_L, decide_eq_true (show t.length > 0 by omega), Bool.true_and]
  rw [len_tl] at h1
  generalize tl t = l at h1
  rw [Bool.eq_iff_iff]
  constructor
  · intro h
    obtain ⟨ha, h⟩ := Bool.and_eq_true_iff.mp h
    obtain ⟨hb, h⟩ := Bool.and_eq_true_iff.mp h
    obtain ⟨hc, hd⟩ := Bool.and_eq_true_iff.mp h
    refine List.all_eq_true.mpr fun c m => ?_
    rw [(low_sign (of_decide_eq_true (List.all_eq_true.mp ha c m))).1, List.all_eq_true.mp hb c m, Bool.true_and]
    cases hu : (Unicode.isUpper c || Unicode.isTitle c) with
    | false => rfl
    | true => rw [List.any_eq_true.mpr ⟨c, m, hu⟩] at hd; cases hd
  · intro h
    have h := List.all_eq_true.mp h
    have lo : ∀ c ∈ l, c < 128 := fun c m => of_decide_eq_true (List.all_eq_true.mp letter_low c (of_decide_eq_true (h c m)))
    have al : ∀ c ∈ l, Unicode.isAlpha c = true ∧ (Unicode.isUpper c || Unicode.isTitle c) = false := fun c m => by
      have z := (low_sign (lo c m)).1
      rw [h c m] at z
      obtain ⟨z1, z2⟩ := Bool.and_eq_true_iff.mp z.symm
      refine ⟨z1, ?_⟩
      cases hu : (Unicode.isUpper c || Unicode.isTitle c) with
      | false => rfl
      | true => rw [hu] at z2; cases z2
    refine Bool.and_eq_true_iff.mpr ⟨List.all_eq_true.mpr fun c m => decide_eq_true (lo c m), Bool.and_eq_true_iff.mpr ⟨List.all_eq_true.mpr fun c m => (al c m).1, Bool.and_eq_true_iff.mpr ⟨?_, ?_⟩⟩⟩
    · cases l with
      | nil => simp at h1
      | cons c l => exact List.any_eq_true.mpr ⟨c, List.mem_cons_self .., (low_sign (lo c (List.mem_cons_self ..))).2 (of_decide_eq_true (h c (List.mem_cons_self ..)))⟩
    · cases hu : l.any (fun c => Unicode.isUpper c || Unicode.isTitle c) with
      | false => rfl
      | true =>
        obtain ⟨c, m, z⟩ := List.any_eq_true.mp hu
        rw [(al c m).2] at z
        cases z
end L2.Tx

set_option maxHeartbeats 1000000
/-! data and an empty dict, displays of them, what is asked of data: words for any law -/
namespace L2.Lr
open PySem PySem.Spec PyProof.Rows LR StX
theorem pe_gI {X : Cx} {x : Str} {i : Int} {t : Tok} {p : Pos} (hm : X.mg x = some (.int i t)) (hg : Gl X x := by rfl) (hd : (x == ("__debug__" : Str)) = false := by decide) : PE X (.Name x p) (tC (.int i)) := pe_glob hg hm (show RelV (.int i) (.int i t) from ⟨t, rfl⟩) hd
theorem pe_gS {X : Cx} {x : Str} {i : Str} {t : Tok} {p : Pos} (hm : X.mg x = some (.str i t)) (hg : Gl X x := by rfl) (hd : (x == ("__debug__" : Str)) = false := by decide) : PE X (.Name x p) (tC (.str i)) := pe_glob hg hm (show RelV (.str i) (.str i t) from ⟨t, rfl⟩) hd
theorem pe_never {X : Cx} {e : Expr} : PE X e (fun _ _ _ => False) := ⟨fun _ _ _ _ _ _ h => h.elim⟩
theorem bbI : bootBuiltins "int" = some (.type "int") := by decide +kernel
theorem bbB : bootBuiltins "bool" = some (.type "bool") := by decide +kernel
theorem bbT : bootBuiltins "tuple" = some (.type "tuple") := by decide +kernel
theorem bbS : bootBuiltins "str" = some (.type "str") := by decide +kernel
theorem bbL : bootBuiltins "list" = some (.type "list") := by decide +kernel
theorem bbV : bootBuiltins "ValueError" = some (.type "ValueError") := by decide +kernel
theorem passQ {X : Cx} {σ : St} {E : XK} : PassesAt CX0 X σ E := fun _ _ _ _ _ _ h => h.elim
theorem dec_vint {i j : Int} : decide (V.int i = V.int j) = decide (i = j) := by
  by_cases h : i = j
  · rw [decide_eq_true h, decide_eq_true (by rw [h])]
  · rw [decide_eq_false h, decide_eq_false fun z => h (V.int.inj z)]
theorem dec_vs (a b : Str) : decide (V.str a = V.str b) = decide (a = b) := by
  by_cases h : a = b
  · rw [decide_eq_true h, h, decide_eq_true rfl]
  · rw [decide_eq_false h, decide_eq_false fun q => h (V.str.inj q)]
theorem len_if {m : Nat} {n : Int} {A B : Prop} (h1 : (m : Int) = n → A) (h2 : (m : Int) ≠ n → B) : if decide (V.int (m : Int) = V.int n) = true then A else B :=
  ite_dec (fun h => h1 (V.int.inj h)) fun h => h2 fun z => h (by rw [z])
theorem len_ne {m : Nat} {n : Int} {A B : Prop} (h1 : (m : Int) ≠ n → A) (h2 : (m : Int) = n → B) : if (!decide (V.int (m : Int) = V.int n)) = true then A else B := by
  by_cases h : (m : Int) = n
  · rw [decide_eq_true (by rw [h])]
    exact iteF (h2 h)
  · rw [decide_eq_false fun z => h (V.int.inj z)]
    exact iteT (h1 h)
theorem int_if {m n : Int} {A B : Prop} (h1 : m = n → A) (h2 : m ≠ n → B) : if decide (V.int m = V.int n) = true then A else B :=
  ite_dec (fun h => h1 (V.int.inj h)) fun h => h2 fun z => h (by rw [z])
theorem int_ne {m n : Int} {A B : Prop} (h1 : m ≠ n → A) (h2 : m = n → B) : if (!decide (V.int m = V.int n)) = true then A else B := by
  by_cases h : m = n
  · rw [decide_eq_true (by rw [h])]
    exact iteF (h2 h)
  · rw [decide_eq_false fun z => h (V.int.inj z)]
    exact iteT (h1 h)
theorem str_if {x y : Str} {A B : Prop} (h1 : x = y → A) (h2 : x ≠ y → B) : if decide (V.str x = V.str y) = true then A else B := by
  rw [dec_vs]
  exact ite_dec h1 h2
theorem str_ne {x y : Str} {A B : Prop} (h1 : x ≠ y → A) (h2 : x = y → B) : if (!decide (V.str x = V.str y)) = true then A else B := by
  rw [dec_vs]
  by_cases h : x = y
  · rw [decide_eq_true h]
    exact iteF (h2 h)
  · rw [decide_eq_false h]
    exact iteT (h1 h)
theorem at0 {v : V} {vs : List V} : atI (v :: vs) 0 = some v := atI_nat (j := 0) rfl
theorem at1 {v u : V} {vs : List V} : atI (v :: u :: vs) 1 = some u := atI_nat (j := 1) rfl
theorem at2 {v u y : V} {vs : List V} : atI (v :: u :: y :: vs) 2 = some y := atI_nat (j := 2) rfl
section
variable {K : PySem.W.Frag}
theorem strD {H : Hp} {x : V} {w : Str} (h : Dp K H x (.str w)) : x = .str w := by cases h; rfl
theorem intDv {H : Hp} {x : V} {i : Int} (h : Dp K H x (.int i)) : x = .int i := by cases h; rfl
theorem nonDv {H : Hp} {x : V} (h : Dp K H x .none) : x = .non := by cases h; rfl
theorem tup2D {H : Hp} {x : V} {d e : PyData} (h : Dp K H x (.tuple [d, e])) : ∃ t v u, x = .ref t ∧ SqT K H t [v, u] ∧ Dp K H v d ∧ Dp K H u e := by
  cases h with
  | tup hS ha =>
    cases ha with
    | cons h1 h2 =>
      cases h2 with
      | cons h3 h4 =>
        cases h4
        exact ⟨_, _, _, rfl, hS, h1, h3⟩
theorem lstD {H : Hp} {x : V} {ds : List PyData} (h : Dp K H x (.list ds)) : ∃ a xs, x = .ref a ∧ SqL K H a xs ∧ DpAll K H xs ds := by
  cases h with
  | lst hS ha => exact ⟨_, _, rfl, hS, ha⟩
theorem tupDv {H : Hp} {x : V} {ds : List PyData} (h : Dp K H x (.tuple ds)) : ∃ a xs, x = .ref a ∧ SqT K H a xs ∧ DpAll K H xs ds := by
  cases h with
  | tup hS ha => exact ⟨_, _, rfl, hS, ha⟩
theorem tupD {H : Hp} {x : V} {d : PyData} {ds : List PyData} (h : Dp K H x (.tuple (d :: ds))) : ∃ t v vs, x = .ref t ∧ SqT K H t (v :: vs) ∧ Dp K H v d ∧ DpAll K H vs ds := by
  cases h with
  | tup hS ha =>
    cases ha with
    | cons h1 h2 => exact ⟨_, _, _, rfl, hS, h1, h2⟩
end
/-! ### what is asked of data -/
def isI : PyData → Bool
  | .int _ => true
  | _ => false
def betw (lo hi : Int) : PyData → Bool
  | .int i => decide (lo ≤ i) && decide (i ≤ hi)
  | _ => false
def countD : PyData → Bool
  | .tuple [.int a, .int b] => (decide (0 ≤ a) && decide (a ≤ 9)) && ((decide (-(10 ^ 30) ≤ b) && decide (b ≤ 10 ^ 30)) && (decide (a > 0) || decide (b ≥ 0)))
  | _ => false
theorem betw_int {lo hi : Int} {d : PyData} (h : betw lo hi d = true) : ∃ i, d = .int i ∧ lo ≤ i ∧ i ≤ hi := by
  cases d with
  | int i =>
    obtain ⟨h1, h2⟩ := Bool.and_eq_true_iff.mp (show (decide (lo ≤ i) && decide (i ≤ hi)) = true from h)
    exact ⟨i, rfl, of_decide_eq_true h1, of_decide_eq_true h2⟩
  | _ => cases h
theorem countD_two {d e : PyData} : countD (.tuple [d, e]) = (betw 0 9 d && (betw (-(10 ^ 30)) (10 ^ 30) e && (match d, e with | .int a, .int b => decide (a > 0) || decide (b ≥ 0) | _, _ => false))) := by
  cases d <;> cases e <;> first | rfl | (simp [countD, betw])
theorem countD_ints {d : PyData} (h : countD d = true) : ∃ a b, d = .tuple [.int a, .int b] := by
  unfold countD at h
  split at h
  · exact ⟨_, _, rfl⟩
  · cases h
/-- C(z) is what is raised -/
def Bad (C : Addr) (z : V) (H : Hp) (E : XK) : Prop := ∀ (d : Addr) (H' : Hp), Same H H' → H' d = some (.xd [("value", z)]) → E (.ref C) (some d) H'
theorem Bad.same {C : Addr} {z : V} {H H1 : Hp} {E : XK} (b : Bad C z H E) (s : Same H H1) : Bad C z H1 E := fun d H' s' h => b d H' (s.trans s') h
/-! ### data, or an empty dict -/
def DpE (K : PySem.W.Frag) (H : Hp) (x : V) (d : PyData) : Prop := Dp K H x d ∨ (d = .dict [] ∧ ∃ a, x = .ref a ∧ H a = some (.dK []))
theorem DpE.same {K : PySem.W.Frag} {H H' : Hp} {x : V} {d : PyData} (h : DpE K H x d) (s : Same H H') : DpE K H' x d := by
  rcases h with h | ⟨e, a, ex, h⟩
  · exact .inl (Dp.same s h)
  · exact .inr ⟨e, a, ex, s _ _ h⟩
theorem tyE {K : PySem.W.Frag} {H : Hp} {x : V} {d : PyData} (h : DpE K H x d) : TyX K H x (.type (tyN d)) := by
  rcases h with h | ⟨rfl, a, rfl, h⟩
  · exact tyD h
  · exact .base (.dK h)
def rReprE (K : PySem.W.Frag) : List V → Hp → VK → Prop := fun xs H Q => ∃ x d, xs = [x] ∧ DpE K H x d ∧ (Dp K H x d → d.showable = true ∧ d.shown.length ≤ sizeLine ∧ d.depth ≤ 60) ∧ Q (.str d.shown) H
theorem call_reprE {X : Cx} (K : PySem.W.Frag) (hK : X.K = K) (qA : Quiet X.A) (hu : X.A.units + 64 < cLine) : CallR X (.builtin "repr") (rReprE K) := by
  subst hK
  intro pins s σ H xs us Q I r h
  obtain ⟨x, d, rfl, hd, hs, q⟩ := h
  rcases hd with hd | ⟨rfl, a, rfl, ha⟩
  · obtain ⟨h1, h2, h3⟩ := hs hd
    exact call_repr qA hu pins s σ H _ _ Q I r ⟨x, d, rfl, hd, h1, h2, h3, q⟩
  · obtain ⟨u, rfl, ru⟩ := vals1 r
    cases ru
    obtain ⟨_, hne, vs, kv, o, es, ep, ho, hx, hdt, _, hes, _⟩ := I.hok a _ ha
    have hv : vs = [] := by
      cases kv
      rfl
    subst hv
    have he : es.toList = [] := by
      cases hl : es.toList with
      | nil => rfl
      | cons e r => rw [hl] at hes; cases hes
    have rd : Reads s.heap (.ref a) (.dict []) (a :: [] ++ []) := Reads.dict ho hx.1 hdt (by rw [he]; exact .nil) (by rw [he]; exact .nil)
    refine repr_of_reads' rd rfl (fun _ m => ?_) qA (by show X.A.units + (1 + 1) < cLine; omega) (fun _ _ e => e) (fun h' u tk k => ⟨.str (PyData.dict []).shown, H, I.kept (t' := tk) k, ⟨_, rfl⟩, q⟩) (by decide +kernel)
    simp at m
    rw [← m] at hne
    simp at hne
/-! ### isinstance(x, (list, tuple)) -/
def seqD : PyData → Bool
  | .list _ => true
  | .tuple _ => true
  | _ => false
theorem any_f {K : PySem.W.Frag} {n : String} (h1 : kitB n "list" = some false) (h2 : kitB n "tuple" = some false) : PySem.W.kitAny K (.type n) [.type "list", .type "tuple"] = some false :=
  kitAny_cons (kit_ty h1) (fun _ => kitAny_cons (kit_ty h2) (fun _ => rfl) fun z => nomatch z) fun z => nomatch z
theorem seq_any {K : PySem.W.Frag} (d : PyData) : PySem.W.kitAny K (.type (tyN d)) [.type "list", .type "tuple"] = some (seqD d) := by
  cases d with
  | none => exact any_f (n := "NoneType") (by decide +kernel) (by decide +kernel)
  | bool _ => exact any_f (n := "bool") (by decide +kernel) (by decide +kernel)
  | int _ => exact any_f (n := "int") (by decide +kernel) (by decide +kernel)
  | str _ => exact any_f (n := "str") (by decide +kernel) (by decide +kernel)
  | dict _ => exact any_f (n := "dict") (by decide +kernel) (by decide +kernel)
  | list _ => exact kitAny_cons (kit_ty (by decide +kernel : kitB "list" "list" = some true)) (fun z => nomatch z) fun _ => rfl
  | tuple _ => exact kitAny_cons (kit_ty (by decide +kernel : kitB "tuple" "list" = some false)) (fun _ => kitAny_cons (kit_ty (by decide +kernel : kitB "tuple" "tuple" = some true)) (fun z => nomatch z) fun _ => rfl) fun z => nomatch z
def tIsE (K : PySem.W.Frag) (t : String) (te : TE) : TE := fun σ H Q => te σ H fun x H1 => ∃ d b, DpE K H1 x d ∧ kitB (tyN d) t = some b ∧ Q (.bl b) H1
theorem pe_isE {X : Cx} {e e2 : Expr} {te : TE} {p pos : Pos} {t : String} (hm : X.mg "isinstance" = none) (ha : PE X e te) (pe2 : PE X e2 (tC (.ty t))) (hg : Gl X "isinstance" := by rfl)
    (he : starEach (e :: [e2]) X.env = (false, eval e X.env) :: starEach [e2] X.env := by rfl) (he2 : starEach (e2 :: []) X.env = (false, eval e2 X.env) :: starEach [] X.env := by rfl) (hpl : (backTo pos (starEach [e2] X.env)).any (·.1) = false := by rfl) :
    PE X (.Call (.Name "isinstance" p) [e, e2] [] pos) (tIsE X.K t te) :=
  pe_weak (pe_callB (e := e) (es := [e2]) call_isi hg hm boot_isinstance (pa_cons (pe_up ha) (pa_cons pe2 pa_nil he2) he) (by decide) (by decide) he hpl) fun σ H Q q => ⟨_, q, fun x H1 ⟨d, b, hd, hk, q1⟩ => ⟨x, .ty t, .type (tyN d), .type t, b, rfl, .ty t, tyE hd, kit_ty hk, q1⟩⟩
theorem pe_isDK {X : Cx} {e e2 : Expr} {te : TE} {p pos : Pos} {t : String} (K : PySem.W.Frag) (hK : X.K = K) (hm : X.mg "isinstance" = none) (ha : PE X e te) (pe2 : PE X e2 (tC (.ty t))) (hg : Gl X "isinstance" := by rfl)
    (he : starEach (e :: [e2]) X.env = (false, eval e X.env) :: starEach [e2] X.env := by rfl) (he2 : starEach (e2 :: []) X.env = (false, eval e2 X.env) :: starEach [] X.env := by rfl) (hpl : (backTo pos (starEach [e2] X.env)).any (·.1) = false := by rfl) :
    PE X (.Call (.Name "isinstance" p) [e, e2] [] pos) (tIsD K t te) := by
  subst hK
  exact pe_isD hm ha pe2 hg he he2 hpl
def NiceE (d : PyData) : Prop := d = .dict [] ∨ Nice 390000 60 d
def niceB (d : PyData) : Bool := match d with
  | .dict [] => true
  | d => fine d && (decide (d.weight ≤ 390000) && decide (d.depth ≤ 60))
theorem niceB_ok {d : PyData} (h : niceB d = true) : NiceE d := by
  unfold niceB at h
  split at h
  · exact .inl rfl
  · obtain ⟨h1, h⟩ := Bool.and_eq_true_iff.mp h
    obtain ⟨h2, h3⟩ := Bool.and_eq_true_iff.mp h
    exact .inr ⟨h1, of_decide_eq_true h2, of_decide_eq_true h3⟩
theorem shown_ok {K : PySem.W.Frag} {H : Hp} {x : V} {d : PyData} (hn : NiceE d) (h : Dp K H x d) : d.showable = true ∧ d.shown.length ≤ sizeLine ∧ d.depth ≤ 60 := by
  rcases hn with rfl | hn
  · cases h
  · obtain ⟨h1, h2⟩ := hn.shown (Nat.le_refl _)
    exact ⟨h1, h2, hn.dp⟩
theorem nice_str {W : Nat} {x : Str} (h : ∀ c ∈ x.cps.toList, c < 1114112) (hl : x.length ≤ W) : Nice W 0 (.str x) := by
  refine ⟨?_, by simp only [PyData.weight]; exact hl, by simp [PyData.depth]⟩
  have e1 : PyData.canLay0 (.str x) = true := by
    simp only [PyData.canLay0]
    unfold PyData.strOk
    rw [← Array.all_toList, List.all_eq_true]
    intro c hc
    simpa using h c hc
  have e2 : PyData.leavesShort 40 (.str x) = true := by
    simp only [PyData.leavesShort, List.all_eq_true, decide_eq_true_eq]
    intro c hc
    have := h c hc
    omega
  have e3 : PyData.showable (.str x) = true := by simp [PyData.showable]
  show (PyData.canLay0 (.str x) && (PyData.leavesShort 40 (.str x) && PyData.showable (.str x))) = true
  rw [e1, e2, e3]
  rfl
/-- a == b, two lists of the very same things -/
theorem op_eqS {X : Cx} (hu : X.A.units + 64 < cLine) : OpR X (compareOp .Eq) (fun x y H Q => ∃ a b xs, x = .ref a ∧ y = .ref b ∧ SqL X.K H a xs ∧ SqL X.K H b xs ∧ (∀ v ∈ xs, flatB v = true ∨ ∃ r, v = .ref r) ∧ Q (.bl true) H) := by
  intro pins s σ H x y v u Q I rx ry h
  obtain ⟨a, b, xs, rfl, rfl, ha, hb, hi, q⟩ := h
  cases rx
  cases ry
  obtain ⟨us, r1, p1, _⟩ := I.list ha
  obtain ⟨ws, r2, p2, _⟩ := I.list hb
  have hsz : us.toArray.size = ws.toArray.size := by rw [List.size_toArray, List.size_toArray, ← r1.length, ← r2.length]
  have he : ∀ j (h1 : j < us.toArray.size) (h2 : j < ws.toArray.size), SeqAt.EqAt X.A.in1 s us.toArray[j] ws.toArray[j] true := by
    intro j h1 h2
    have l1 : j < us.length := by simpa using h1
    have l2 : j < ws.length := by simpa using h2
    have hj : j < xs.length := by rw [r1.length]; exact l1
    obtain ⟨u1, e1, q1⟩ := r1.get (List.getElem?_eq_getElem hj)
    obtain ⟨u2, e2, q2⟩ := r2.get (List.getElem?_eq_getElem hj)
    have z1 : us.toArray[j] = u1 := by
      have := List.getElem?_eq_getElem l1
      rw [e1] at this
      simpa using (Option.some.inj this).symm
    have z2 : ws.toArray[j] = u2 := by
      have := List.getElem?_eq_getElem l2
      rw [e2] at this
      simpa using (Option.some.inj this).symm
    rw [z1, z2]
    rcases hi xs[j] (List.getElem_mem hj) with f | ⟨r, er⟩
    · exact eqAt_same q1 q2 f
    · rw [er] at q1 q2
      cases q1
      cases q2
      exact SeqAt.EqAt.same _
  have z := SeqAt.RcAt.lists (e := fun _ => true) p1.isList p2.isList hsz (show X.A.units < cLine by omega) he X.prog X.w X.xe (EP X pins σ Q)
  refine z ?_
  rw [show (List.range us.toArray.size).all (fun _ => true) = true from List.all_eq_true.mpr fun _ _ => rfl]
  exact ⟨.bl true, H, I, rfl, q⟩
/-! ### displays with an empty dict among them -/
inductive EAll (K : PySem.W.Frag) (H : Hp) : List V → List PyData → Prop where
  | nil : EAll K H [] []
  | cons {v : V} {vs : List V} {d : PyData} {ds : List PyData} : DpE K H v d → EAll K H vs ds → EAll K H (v :: vs) (d :: ds)
theorem EAll.same {K : PySem.W.Frag} {H H' : Hp} (s : Same H H') : ∀ {vs : List V} {ds : List PyData}, EAll K H vs ds → EAll K H' vs ds
  | _, _, .nil => .nil
  | _, _, .cons h a => .cons (h.same s) (EAll.same s a)
theorem EAll.length {K : PySem.W.Frag} {H : Hp} : ∀ {vs : List V} {ds : List PyData}, EAll K H vs ds → vs.length = ds.length
  | _, _, .nil => rfl
  | _, _, .cons _ a => by simp [EAll.length a]
theorem EAll.append {K : PySem.W.Frag} {H : Hp} : ∀ {vs us : List V} {ds es : List PyData}, EAll K H vs ds → EAll K H us es → EAll K H (vs ++ us) (ds ++ es)
  | _, _, _, _, .nil, b => b
  | _, _, _, _, .cons h a, b => .cons h (EAll.append a b)
theorem EAll.at {K : PySem.W.Frag} {H : Hp} : ∀ {vs : List V} {ds : List PyData} {i : Nat} {v : V}, EAll K H vs ds → vs[i]? = some v → ∃ d, ds[i]? = some d ∧ DpE K H v d
  | _, _, _, _, .nil, e => by simp at e
  | _, _, 0, _, .cons h a, e => by simp at e; subst e; exact ⟨_, rfl, h⟩
  | _ :: vs, _ :: ds, i + 1, v, .cons h a, e => EAll.at (vs := vs) (ds := ds) (i := i) a (by simpa using e)
def tE (K : PySem.W.Frag) (d : PyData) : TE := fun _ H Q => ∀ v H', Same H H' → DpE K H' v d → Q v H'
def tEs (K : PySem.W.Frag) (ds : List PyData) : TA := fun _ H Q => ∀ vs H', Same H H' → EAll K H' vs ds → Q vs H'
def tEL (K : PySem.W.Frag) (ds : List PyData) : TE := fun _ H Q => ∀ p vs H', Same H H' → H' p = some (.lst vs) → EAll K H' vs ds → Q (.ref p) H'
theorem DpAll.rep {K : PySem.W.Frag} {H : Hp} {xs : List V} {ds : List PyData} (h : DpAll K H xs ds) : ∀ n : Nat, DpAll K H (List.replicate n xs).flatten (List.replicate n ds).flatten
  | 0 => .nil
  | n + 1 => by
    rw [List.replicate_succ, List.replicate_succ, List.flatten_cons, List.flatten_cons]
    exact DpAll.append h (DpAll.rep h n)
section
variable {X : Cx} {e : Expr} {es : List Expr} {d : PyData} {ds : List PyData} {p pos : Pos}
theorem pe_ofD (h : PE X e (tDat X.K d)) : PE X e (tE X.K d) := pe_weak h fun σ H Q q v H' s hd => q v H' s (.inl hd)
theorem pe_emptyD : PE X (.Dict [] [] pos) (tE X.K (.dict [])) := pe_weak pe_dnewK fun σ H Q q p np => q _ _ (same_upd np) (.inr ⟨rfl, p, rfl, upd_same⟩)
theorem pE_nil : PA X [] (tEs X.K []) := pa_weak pa_nil fun σ H Q q => q [] H (Same.refl H) .nil
theorem pE_cons (h1 : PE X e (tE X.K d)) (h2 : PA X es (tEs X.K ds)) (hs : starEach (e :: es) X.env = (false, eval e X.env) :: starEach es X.env := by rfl) : PA X (e :: es) (tEs X.K (d :: ds)) :=
  pa_weak (pa_cons h1 h2 hs) fun σ H Q q v H1 s1 h1 vs H2 s2 h2 => q (v :: vs) H2 (s1.trans s2) (.cons (h1.same s2) h2)
theorem pE_lst {x1} (h : PA X es (tEs X.K ds)) (hz : ds.length ≤ sizeLine := by show _ ≤ _; decide) : PE X (.List es x1) (tEL X.K ds) :=
  pe_weak (pe_lst h) fun σ H Q q vs H1 s1 h1 => ⟨by rw [EAll.length h1]; exact hz, fun p np => q p vs _ (s1.trans (same_upd np)) upd_same (h1.same (same_upd np))⟩
theorem pd_rep {n : Int} {k} (h : PE X e (tDat X.K (.tuple ds))) (hd : ds ≠ []) (h2 : 2 ≤ n) (h3 : n ≤ 1000) (hl : ds.length ≤ 1000) : PE X (.BinOp e .Mult (.Constant (.int n) k p) pos) (tDat X.K (.tuple (List.replicate n.toNat ds).flatten)) :=
  pe_weak (pe_op op_repT h pe_int) fun σ H Q q v H1 s1 hv => by
    cases hv with
    | @tup a xs _ hS ha =>
      have hlx := DpAll.length ha
      exact ⟨a, n, xs, rfl, rfl, hS, fun z => hd (by rw [z] at hlx; exact List.length_eq_zero_iff.mp hlx.symm), h2, h3, by rw [hlx]; exact hl, fun t nt => q _ _ (s1.trans (same_upd nt)) (.tup (SqT.of upd_same) (DpAll.same (same_upd nt) (DpAll.rep ha _)))⟩
end
def tTupOf (K : PySem.W.Frag) (te : TE) : TE := fun σ H Q => te σ H fun x H1 => ∃ d ds, Dp K H1 x d ∧ (d = .tuple ds ∨ d = .list ds) ∧ ∀ y H2, Same H1 H2 → Dp K H2 y (.tuple ds) → Q y H2
theorem pe_tupOf {X : Cx} {e : Expr} {te : TE} {p pos : Pos} (hm : X.mg "tuple" = none) (ha : PE X e te) (hg : Gl X "tuple" := by rfl) (he : starEach (e :: []) X.env = (false, eval e X.env) :: starEach [] X.env := by rfl) (hpl : (backTo pos (starEach [] X.env)).any (·.1) = false := by rfl) : PE X (.Call (.Name "tuple" p) [e] [] pos) (tTupOf X.K te) :=
  pe_weak (pe_callTy (e := e) (es := []) call_tuple_of hg hm bbT (pa_cons (pe_up ha) pa_nil he) (by decide) (by decide) he hpl) fun σ H Q q => ⟨_, q, fun x H1 ⟨d, ds, hx, hd, q1⟩ => by
    rcases hd with rfl | rfl
    · cases hx with
      | @tup a xs _ hS ha => exact ⟨a, xs, rfl, .inr ⟨hS, q1 _ _ (Same.refl _) (.tup hS ha)⟩⟩
    · cases hx with
      | @lst a xs _ hS ha => exact ⟨a, xs, rfl, .inl ⟨hS, fun l nl => q1 _ _ (same_upd nl) (.tup (SqT.of upd_same) (DpAll.same (same_upd nl) ha))⟩⟩⟩
theorem lc_strG {x : Str} {g : TG} {tt : TT} {te : TE} {vs : List Nat} {σ : St} {H1 : Hp} {D : Addr} {Qd : Hp → Prop} (Pv : Nat → Hp → Prop) (h0 : Pv 0 (upd H1 D (.lst [])))
    (hs : ∀ i c H, x.cps[i]? = some c → Pv i H → g (.str ⟨#[c]⟩) (wipe σ vs) H fun σ2 H2 => wipe σ2 vs = wipe σ vs ∧ tt σ2 H2 fun b H3 =>
      if b = true then te σ2 H3 fun y H4 => ∃ acc, H4 D = some (.lst acc) ∧ acc.length < sizeLine ∧ Pv (i + 1) (upd H4 D (.lst (acc ++ [y]))) else Pv (i + 1) H3) (hd : ∀ H, Pv x.cps.size H → Qd H) :
    ∃ W : Nat → Nat → Hp → Prop, (∃ m, W 0 m (upd H1 D (.lst []))) ∧ ∀ i m H, W i m H →
      ((Its x).stop i H ∧ Qd H) ∨ ((Its x).go i H ∧ ∃ Nx : Hp → Prop, (∀ H', Nx H' → ∃ m', m' < m ∧ W (i + 1) m' H') ∧ ∀ y H', (Its x).yld i H y H' → g y (wipe σ vs) H' fun σ2 H2 => wipe σ2 vs = wipe σ vs ∧ tt σ2 H2 fun b H3 =>
        if b = true then te σ2 H3 fun z H4 => ∃ acc, H4 D = some (.lst acc) ∧ acc.length < sizeLine ∧ Nx (upd H4 D (.lst (acc ++ [z]))) else Nx H3) := by
  refine ⟨fun i m H => m + i = x.cps.size ∧ Pv i H, ⟨x.cps.size, rfl, h0⟩, fun i m H ⟨e, p⟩ => ?_⟩
  by_cases hlt : i < x.cps.size
  · refine .inr ⟨hlt, Pv (i + 1), fun H' p' => ⟨m - 1, by omega, by omega, p'⟩, fun y H' ⟨eH, c, hc, ey⟩ => ?_⟩
    subst eH ey
    exact hs i c _ hc p
  · have ei : i = x.cps.size := by omega
    subst ei
    exact .inl ⟨Nat.le_refl _, hd H p⟩

end L2.Lr

set_option maxHeartbeats 1000000
namespace L2.Cut
open PySem
/-! ### parts, their steps one by one, and the first of them -/
inductive Pt where
  | one (d : PyData)
  | loop (a b : Int) (body : List Pt)
  | ever (body : List Pt)
def rnd (n a b : Int) : Nat := (a * n + b).toNat
mutual
/-- how many steps a part is: none without end -/
def stP (n : Int) : Pt → Option Nat
  | .one _ => some 1
  | .loop a b body => (stL n body).map fun e => rnd n a b * e
  | .ever body => if stL n body = some 0 then some 0 else none
def stL (n : Int) : List Pt → Option Nat
  | [] => some 0
  | p :: ps => match stP n p with
    | none => none
    | some m => (stL n ps).map fun e => m + e
end
def un (n : Int) (body : List Pt) : Nat := (stL n body).getD 0
mutual
/-- the step at place i -/
def elP (n : Int) : Pt → Nat → PyData
  | .one d, _ => d
  | .loop _ _ body, i => elL n body (i % un n body)
  | .ever body, i => elL n body (i % un n body)
def elL (n : Int) : List Pt → Nat → PyData
  | [], _ => .none
  | p :: ps, i => match stP n p with
    | none => elP n p i
    | some m => if i < m then elP n p i else elL n ps (i - m)
end
def body : Pt → List Pt
  | .one _ => []
  | .loop _ _ b => b
  | .ever b => b
mutual
/-- no part without end -/
def finP : Pt → Bool
  | .one _ => true
  | .loop _ _ b => finL b
  | .ever _ => false
def finL : List Pt → Bool
  | [] => true
  | p :: ps => finP p && finL ps
end
mutual
theorem fin_stP {n : Int} : ∀ {p : Pt}, finP p = true → ∃ m, stP n p = some m
  | .one _, _ => ⟨1, by simp [stP]⟩
  | .loop a b bd, h => by
    simp only [finP] at h
    obtain ⟨m, e⟩ := fin_stL (n := n) h
    exact ⟨rnd n a b * m, by simp [stP, e]⟩
  | .ever _, h => by simp [finP] at h
theorem fin_stL {n : Int} : ∀ {ps : List Pt}, finL ps = true → ∃ m, stL n ps = some m
  | [], _ => ⟨0, by simp [stL]⟩
  | p :: ps, h => by
    simp only [finL] at h
    obtain ⟨h1, h2⟩ := Bool.and_eq_true_iff.mp h
    obtain ⟨m, e1⟩ := fin_stP (n := n) h1
    obtain ⟨k, e2⟩ := fin_stL (n := n) h2
    exact ⟨m + k, by simp [stL, e1, e2]⟩
end
mutual
/-- the first steps, in short -/
def fiL (n : Int) : Nat → List Pt → List Pt
  | _, [] => []
  | left, p :: ps => if left = 0 then [] else match stP n p with
    | none => frP n left p
    | some m => if left < m then frP n left p else if 0 < m then p :: fiL n (left - m) ps else fiL n left ps
def frP (n : Int) : Nat → Pt → List Pt
  | _, .one d => []
  | left, .loop _ _ b => (if 0 < left / un n b then [.loop 0 (left / un n b : Nat) b] else []) ++ fiL n (left % un n b) b
  | left, .ever b => (if 0 < left / un n b then [.loop 0 (left / un n b : Nat) b] else []) ++ fiL n (left % un n b) b
end
def wfP : Pt → Bool
  | .one _ => true
  | .loop _ _ b => finL b
  | .ever b => finL b
theorem fin_wf : ∀ {p : Pt}, finP p = true → wfP p = true
  | .one _, _ => rfl
  | .loop _ _ _, h => by simpa [finP, wfP] using h
  | .ever _, h => by simp [finP] at h
theorem fin_wfL : ∀ {ps : List Pt}, finL ps = true → ∀ p ∈ ps, wfP p = true
  | [], _, p, h => by cases h
  | q :: ps, h, p, hp => by
    simp only [finL] at h
    obtain ⟨h1, h2⟩ := Bool.and_eq_true_iff.mp h
    cases hp with
    | head => exact fin_wf h1
    | tail _ hp => exact fin_wfL h2 p hp
theorem stL_app {n : Int} : ∀ {a b : List Pt} {m : Nat}, stL n a = some m → stL n (a ++ b) = (stL n b).map fun e => m + e
  | [], b, m, h => by
    simp [stL] at h
    subst h
    simp
  | p :: ps, b, m, h => by
    simp only [stL] at h
    cases hp : stP n p with
    | none => rw [hp] at h; cases h
    | some k =>
      rw [hp] at h
      cases hq : stL n ps with
      | none => rw [hq] at h; cases h
      | some t =>
        rw [hq] at h
        simp at h
        subst h
        have ih := stL_app (b := b) hq
        simp only [List.cons_append, stL, hp, ih]
        cases stL n b <;> simp [Nat.add_assoc]
/-- how many of the first steps there are -/
def lenF (n : Int) (left : Nat) (ps : List Pt) : Nat := match stL n ps with
  | none => left
  | some t => min left t
theorem lenF_le {n : Int} {left : Nat} {ps : List Pt} : lenF n left ps ≤ left := by
  unfold lenF
  split
  · exact Nat.le_refl _
  · exact Nat.min_le_left _ _
theorem head_ok {n : Int} {w u left : Nat} {b : List Pt} (hb : stL n b = some u) (hu : 0 < u) (hw : w = left / u) {r : List Pt} (hr : stL n r = some (left % u)) (he : ∀ i, i < left % u → elL n r i = elL n b i) :
    stL n ((if 0 < w then [Pt.loop 0 (w : Nat) b] else []) ++ r) = some left ∧ ∀ i, i < left → elL n ((if 0 < w then [Pt.loop 0 (w : Nat) b] else []) ++ r) i = elL n b (i % u) := by
  have hdm : u * w + left % u = left := by rw [hw]; exact Nat.div_add_mod left u
  by_cases h : 0 < w
  · rw [if_pos h]
    have h1 : stP n (Pt.loop 0 (w : Nat) b) = some (w * u) := by
      simp only [stP, hb, Option.map_some]
      have : rnd n 0 (w : Int) = w := by unfold rnd; omega
      rw [this]
    refine ⟨?_, fun i hi => ?_⟩
    · show stL n (Pt.loop 0 (w : Nat) b :: r) = some left
      simp only [stL, h1, hr, Option.map_some]
      rw [Nat.mul_comm w u, hdm]
    · show elL n (Pt.loop 0 (w : Nat) b :: r) i = _
      simp only [elL, h1]
      by_cases h2 : i < w * u
      · rw [if_pos h2]
        simp only [elP, un, hb, Option.getD_some]
      · rw [if_neg h2]
        have h3 : i - w * u < left % u := by rw [Nat.mul_comm w u] at h2 ⊢; omega
        rw [he _ h3]
        have h4 : left % u < u := Nat.mod_lt _ hu
        have : i % u = i - w * u := by
          have e : i = (i - w * u) + u * w := by rw [Nat.mul_comm u w]; omega
          rw [e, Nat.add_mul_mod_self_left, Nat.mod_eq_of_lt (by omega)]
          rw [Nat.mul_comm u w]; omega
        rw [this]
  · rw [if_neg h]
    have hw0 : w = 0 := by omega
    rw [hw0, Nat.mul_zero, Nat.zero_add] at hdm
    refine ⟨by rw [List.nil_append, hr, hdm], fun i hi => ?_⟩
    rw [List.nil_append, he i (by omega), Nat.mod_eq_of_lt (by have := Nat.mod_lt left hu; omega)]
mutual
theorem fi_ok {n : Int} : ∀ (ps : List Pt) (left : Nat), (∀ p ∈ ps, wfP p = true) → stL n (fiL n left ps) = some (lenF n left ps) ∧ ∀ i, i < lenF n left ps → elL n (fiL n left ps) i = elL n ps i
  | [], left, _ => by
    refine ⟨?_, fun i hi => ?_⟩
    · simp [fiL, stL, lenF]
    · simp [lenF, stL] at hi
  | p :: ps, left, h => by
    have hp := h p (List.mem_cons_self ..)
    have ih := fi_ok (n := n) ps
    have hps : ∀ q ∈ ps, wfP q = true := fun q hq => h q (List.mem_cons_of_mem _ hq)
    unfold fiL
    by_cases h0 : left = 0
    · subst h0
      rw [if_pos rfl]
      have : lenF n 0 (p :: ps) = 0 := Nat.le_zero.mp lenF_le
      rw [this]
      exact ⟨by simp [stL], fun i hi => by omega⟩
    · rw [if_neg h0]
      cases hs : stP n p with
      | none =>
        have hl : lenF n left (p :: ps) = left := by simp [lenF, stL, hs]
        obtain ⟨z1, z2⟩ := fr_ok p left hp (.inl hs)
        dsimp only
        rw [hl]
        refine ⟨z1, fun i hi => ?_⟩
        rw [z2 i hi]
        simp only [elL, hs]
      | some m =>
        dsimp only
        by_cases h1 : left < m
        · rw [if_pos h1]
          obtain ⟨z1, z2⟩ := fr_ok p left hp (.inr ⟨m, hs, h1⟩)
          have hl : lenF n left (p :: ps) = left := by
            simp only [lenF, stL, hs]
            cases stL n ps with
            | none => rfl
            | some t => simp; omega
          rw [hl]
          refine ⟨z1, fun i hi => ?_⟩
          rw [z2 i hi]
          simp only [elL, hs]
          rw [if_pos (by omega)]
        · rw [if_neg h1]
          have hl : lenF n left (p :: ps) = m + lenF n (left - m) ps := by
            simp only [lenF, stL, hs]
            cases stL n ps with
            | none => simp; omega
            | some t => simp; omega
          by_cases h2 : 0 < m
          · rw [if_pos h2]
            obtain ⟨z1, z2⟩ := ih (left - m) hps
            refine ⟨?_, fun i hi => ?_⟩
            · simp only [stL, hs, z1, Option.map_some, hl]
            · simp only [elL, hs]
              by_cases h3 : i < m
              · rw [if_pos h3, if_pos h3]
              · rw [if_neg h3, if_neg h3]
                exact z2 _ (by omega)
          · rw [if_neg h2]
            have hm : m = 0 := by omega
            subst hm
            obtain ⟨z1, z2⟩ := ih left hps
            rw [Nat.zero_add, Nat.sub_zero] at hl
            rw [hl]
            refine ⟨z1, fun i hi => ?_⟩
            rw [z2 i hi]
            simp only [elL, hs]
            rw [if_neg (by omega), Nat.sub_zero]
theorem fr_ok {n : Int} : ∀ (p : Pt) (left : Nat), wfP p = true → (stP n p = none ∨ ∃ m, stP n p = some m ∧ left < m) → stL n (frP n left p) = some left ∧ ∀ i, i < left → elL n (frP n left p) i = elP n p i
  | .one d, left, _, h => by
    have : left = 0 := by
      rcases h with h | ⟨m, h, hl⟩
      · simp [stP] at h
      · simp [stP] at h; omega
    subst this
    exact ⟨by simp [frP, stL], fun i hi => by omega⟩
  | .loop a b bd, left, hw, h => by
    have hf : finL bd = true := hw
    obtain ⟨u, hu⟩ := fin_stL (n := n) hf
    have hu0 : 0 < u := by
      rcases h with h | ⟨m, h, hl⟩
      · simp [stP, hu] at h
      · simp [stP, hu] at h
        cases u with
        | zero => simp at h; omega
        | succ u => omega
    have hun : un n bd = u := by simp [un, hu]
    obtain ⟨z1, z2⟩ := fi_ok (n := n) bd (left % u) (fin_wfL hf)
    have hl : lenF n (left % u) bd = left % u := by
      simp only [lenF, hu]
      have := Nat.mod_lt left hu0
      omega
    rw [hl] at z1 z2
    have z := head_ok (left := left) hu hu0 rfl z1 z2
    simp only [frP, hun]
    refine ⟨z.1, fun i hi => ?_⟩
    rw [z.2 i hi]
    simp only [elP, hun]
  | .ever bd, left, hw, h => by
    have hf : finL bd = true := hw
    obtain ⟨u, hu⟩ := fin_stL (n := n) hf
    have hu0 : 0 < u := by
      cases u with
      | zero =>
        rcases h with h | ⟨m, h, hl⟩
        · simp [stP, hu] at h
        · simp [stP, hu] at h; omega
      | succ u => omega
    have hun : un n bd = u := by simp [un, hu]
    obtain ⟨z1, z2⟩ := fi_ok (n := n) bd (left % u) (fin_wfL hf)
    have hl : lenF n (left % u) bd = left % u := by
      simp only [lenF, hu]
      have := Nat.mod_lt left hu0
      omega
    rw [hl] at z1 z2
    have z := head_ok (left := left) hu hu0 rfl z1 z2
    simp only [frP, hun]
    refine ⟨z.1, fun i hi => ?_⟩
    rw [z.2 i hi]
    simp only [elP, hun]
end
/-! ### opened, at most k -/
mutual
def opL (n : Int) (k : Nat) : List PyData → List Pt → List PyData
  | f, [] => f
  | f, p :: ps => if k ≤ (f ++ pcP n k p).length then (f ++ pcP n k p).take k else opL n k (f ++ pcP n k p) ps
def pcP (n : Int) (k : Nat) : Pt → List PyData
  | .one d => [d]
  | .loop a b bd => if un n bd = 0 then [] else (List.replicate (if (if 0 < min k (rnd n a b) then opL n k [] bd else []).length < k then min k (rnd n a b) else min 1 (min k (rnd n a b))) (if 0 < min k (rnd n a b) then opL n k [] bd else [])).flatten
  | .ever bd => if un n bd = 0 then [] else (List.replicate (if (if 0 < k then opL n k [] bd else []).length < k then k else min 1 k) (if 0 < k then opL n k [] bd else [])).flatten
end
theorem flat_rep {α : Type} (f : Nat → α) (u : Nat) (hu : 0 < u) : ∀ a : Nat, (List.replicate a ((List.range u).map f)).flatten = (List.range (a * u)).map fun i => f (i % u)
  | 0 => by simp
  | a + 1 => by
    rw [List.replicate_succ', List.flatten_append, flat_rep f u hu a, Nat.succ_mul, List.range_add, List.map_append]
    congr 1
    simp only [List.flatten_cons, List.flatten_nil, List.append_nil, List.map_map]
    refine List.map_congr_left fun i hi => ?_
    have := List.mem_range.mp hi
    show f i = f ((a * u + i) % u)
    rw [Nat.add_comm, Nat.add_mul_mod_self_right, Nat.mod_eq_of_lt this]
/-- a piece is its first steps, enough of them -/
def Piece (n : Int) (k : Nat) (p : Pt) (l : List PyData) : Prop := ∃ L, l = (List.range L).map (elP n p) ∧ ((stP n p = none ∧ k ≤ L) ∨ ∃ m, stP n p = some m ∧ L ≤ m ∧ min k m ≤ L)
theorem piece_of {n : Int} {k : Nat} (hk : 0 < k) {p : Pt} {bd : List Pt} {u mh : Nat} (hu : stL n bd = some u) (hu0 : 0 < u) (he : ∀ i, elP n p i = elL n bd (i % u)) (hp : (stP n p = none ∧ mh = k) ∨ ∃ r, stP n p = some (r * u) ∧ mh = min k r) (ho : opL n k [] bd = (List.range (min k u)).map (elL n bd)) :
    Piece n k p (List.replicate (if (if 0 < mh then opL n k [] bd else []).length < k then mh else min 1 mh) (if 0 < mh then opL n k [] bd else [])).flatten := by
  by_cases h0 : 0 < mh
  · simp only [if_pos h0, ho, List.length_map, List.length_range]
    by_cases h1 : min k u < k
    · rw [if_pos h1]
      have hm : min k u = u := by omega
      rw [hm, flat_rep (elL n bd) u hu0 mh]
      refine ⟨mh * u, List.map_congr_left fun i _ => (he i).symm, ?_⟩
      rcases hp with ⟨hs, rfl⟩ | ⟨r, hs, rfl⟩
      · exact .inl ⟨hs, Nat.le_mul_of_pos_right _ hu0⟩
      · refine .inr ⟨r * u, hs, Nat.mul_le_mul_right _ (Nat.min_le_right _ _), ?_⟩
        by_cases hkr : k ≤ r
        · have e : min k r = k := by omega
          rw [e]
          exact Nat.le_trans (Nat.min_le_left _ _) (Nat.le_mul_of_pos_right _ hu0)
        · have e : min k r = r := by omega
          rw [e]
          exact Nat.min_le_right _ _
    · rw [if_neg h1]
      have hm : min k u = k := by omega
      have h2 : min 1 mh = 1 := by omega
      rw [hm, h2]
      refine ⟨k, ?_, ?_⟩
      · simp only [List.replicate_one, List.flatten_cons, List.flatten_nil, List.append_nil]
        refine List.map_congr_left fun i hi => ?_
        have := List.mem_range.mp hi
        rw [he i, Nat.mod_eq_of_lt (by omega)]
      · rcases hp with ⟨hs, _⟩ | ⟨r, hs, hr⟩
        · exact .inl ⟨hs, Nat.le_refl _⟩
        · refine .inr ⟨r * u, hs, ?_, Nat.min_le_left _ _⟩
          have h3 : 1 ≤ r := by omega
          have h4 : u ≤ r * u := Nat.le_mul_of_pos_left _ h3
          omega
  · have hm : mh = 0 := by omega
    subst hm
    refine ⟨0, by simp, ?_⟩
    rcases hp with ⟨_, h⟩ | ⟨r, hs, hr⟩
    · omega
    · have : r = 0 := by omega
      subst this
      exact .inr ⟨0 * u, hs, Nat.zero_le _, by simp⟩
theorem lenF_cons {n : Int} {c : Nat} {p : Pt} {ps : List Pt} {m : Nat} (hs : stP n p = some m) (h : m ≤ c) : lenF n c (p :: ps) = m + lenF n (c - m) ps := by
  simp only [lenF, stL, hs]
  cases stL n ps with
  | none => simp; omega
  | some t => simp; omega
mutual
theorem op_ok {n : Int} {k : Nat} (hk : 0 < k) : ∀ (ps : List Pt) (f : List PyData), (∀ p ∈ ps, wfP p = true) → f.length < k → opL n k f ps = f ++ (List.range (lenF n (k - f.length) ps)).map (elL n ps)
  | [], f, _, _ => by simp [opL, lenF, stL]
  | p :: ps, f, h, hf => by
    have hp := h p (List.mem_cons_self ..)
    have hps : ∀ q ∈ ps, wfP q = true := fun q hq => h q (List.mem_cons_of_mem _ hq)
    obtain ⟨L, hL, hc⟩ := pc_ok (n := n) hk p hp
    unfold opL
    rw [hL]
    have hlen : (f ++ (List.range L).map (elP n p)).length = f.length + L := by simp
    by_cases h1 : k ≤ f.length + L
    · rw [if_pos (by rw [hlen]; exact h1)]
      have e1 : lenF n (k - f.length) (p :: ps) = k - f.length := by
        rcases hc with ⟨hs, _⟩ | ⟨m, hs, hm, _⟩
        · simp [lenF, stL, hs]
        · simp only [lenF, stL, hs]
          cases stL n ps with
          | none => rfl
          | some t => simp; omega
      rw [e1, List.take_append, List.take_of_length_le (by omega), ← List.map_take, List.take_range, Nat.min_eq_left (by omega)]
      congr 1
      refine List.map_congr_left fun i hi => ?_
      have hi := List.mem_range.mp hi
      rcases hc with ⟨hs, _⟩ | ⟨m, hs, hm, _⟩
      · simp only [elL, hs]
      · simp only [elL, hs]
        rw [if_pos (by omega)]
    · rw [if_neg (by rw [hlen]; exact h1)]
      obtain ⟨m, hs, hm⟩ : ∃ m, stP n p = some m ∧ L = m := by
        rcases hc with ⟨hs, hk'⟩ | ⟨m, hs, hm, hm2⟩
        · omega
        · exact ⟨m, hs, by omega⟩
      subst hm
      rw [op_ok hk ps _ hps (by rw [hlen]; omega), hlen, lenF_cons hs (by omega), List.range_add, List.map_append, List.append_assoc]
      have e2 : k - (f.length + L) = k - f.length - L := by omega
      rw [e2]
      congr 1
      congr 1
      · refine List.map_congr_left fun i hi => ?_
        have hi := List.mem_range.mp hi
        simp only [elL, hs]
        rw [if_pos hi]
      · rw [List.map_map]
        refine List.map_congr_left fun i hi => ?_
        show elL n ps i = elL n (p :: ps) (L + i)
        simp only [elL, hs]
        rw [if_neg (by omega), Nat.add_sub_cancel_left]
theorem pc_ok {n : Int} {k : Nat} (hk : 0 < k) : ∀ (p : Pt), wfP p = true → Piece n k p (pcP n k p)
  | .one d, _ => by
    refine ⟨1, ?_, .inr ⟨1, by simp [stP], Nat.le_refl _, Nat.min_le_right _ _⟩⟩
    simp [pcP, elP]
  | .loop a b bd, h => by
    have hf : finL bd = true := h
    obtain ⟨u, hu⟩ := fin_stL (n := n) hf
    have hun : un n bd = u := by simp [un, hu]
    have ho := op_ok (n := n) hk bd [] (fin_wfL hf) hk
    have hst : stP n (.loop a b bd) = some (rnd n a b * u) := by simp [stP, hu]
    unfold pcP
    by_cases h0 : u = 0
    · rw [if_pos (by rw [hun]; exact h0)]
      exact ⟨0, by simp, .inr ⟨_, hst, Nat.zero_le _, by rw [h0]; simp⟩⟩
    · rw [if_neg (by rw [hun]; exact h0)]
      refine piece_of hk hu (by omega) (fun i => by simp only [elP, hun]) (.inr ⟨rnd n a b, hst, rfl⟩) ?_
      rw [ho]
      simp [lenF, hu]
  | .ever bd, h => by
    have hf : finL bd = true := h
    obtain ⟨u, hu⟩ := fin_stL (n := n) hf
    have hun : un n bd = u := by simp [un, hu]
    have ho := op_ok (n := n) hk bd [] (fin_wfL hf) hk
    unfold pcP
    by_cases h0 : u = 0
    · rw [if_pos (by rw [hun]; exact h0)]
      exact ⟨0, by simp, .inr ⟨0, by simp [stP, hu, h0], Nat.zero_le _, by simp⟩⟩
    · rw [if_neg (by rw [hun]; exact h0)]
      refine piece_of hk hu (by omega) (fun i => by simp only [elP, hun]) (.inl ⟨by simp only [stP, hu]; rw [if_neg (by intro z; exact h0 (Option.some.inj z))], rfl⟩) ?_
      rw [ho]
      simp [lenF, hu]
end
/-- what is opened of the first steps are the first steps of what is opened -/
theorem op_first {n : Int} {k left : Nat} (hk : 0 < k) {ps : List Pt} (h : ∀ p ∈ ps, wfP p = true) (h2 : ∀ p ∈ fiL n left ps, wfP p = true) : opL n k [] (fiL n left ps) = (opL n k [] ps).take (min k left) := by
  obtain ⟨z1, z2⟩ := fi_ok (n := n) ps left h
  rw [op_ok hk _ [] h2 (show ([] : List PyData).length < k from hk), op_ok hk _ [] h (show ([] : List PyData).length < k from hk)]
  simp only [List.nil_append, List.length_nil, Nat.sub_zero]
  have e1 : lenF n k (fiL n left ps) = min k (lenF n left ps) := by simp [lenF, z1]
  rw [e1, ← List.map_take, List.take_range]
  have e2 : min (min k left) (lenF n k ps) = min k (lenF n left ps) := by
    unfold lenF
    split <;> omega
  rw [e2]
  refine List.map_congr_left fun i hi => ?_
  exact z2 i (by have := List.mem_range.mp hi; omega)
end L2.Cut

set_option maxHeartbeats 4000000
namespace L2.L70
open PySem PySem.Spec PyProof.Rows LR L2.Lr
local macro_rules | `(tactic| walk_at "nx") => `(tactic| dsimp only [gName, tNext, tSeq, tAsg, List.set_cons_zero, List.set_cons_succ])
def top (i : Nat) : Stmt := PySem.Challenge.pw_leastrooms_k70_whole_programs_cut.main.body.getD i (.Pass ⟨0, 0, 0, 0⟩)
abbrev sWord : Stmt := top 11
abbrev sInt : Stmt := top 12
abbrev sBetw : Stmt := top 13
abbrev sCount : Stmt := top 17
abbrev sRound : Stmt := top 35
abbrev sHow : Stmt := top 38
abbrev sSize : Stmt := top 39
abbrev sHead : Stmt := top 40
abbrev sSing : Stmt := top 41
abbrev FnP (K : PySem.W.Frag) (x : Str) (st : Stmt) (f : Addr) (fd : FuncData) : Prop := FunD K x x (defArgs st) (defBody st) (defScope st) [] [] f fd
theorem scN : FnScope ["thing"] ["thing"] (defScope sInt) := ⟨rfl, rfl, rfl, by decide +kernel, rfl, by decide +kernel, by decide +kernel⟩
theorem scB : FnScope ["thing", "low", "high"] ["thing", "low", "high"] (defScope sBetw) := ⟨rfl, rfl, rfl, by decide +kernel, rfl, by decide +kernel, by decide +kernel⟩
theorem scC : FnScope ["thing", "a", "b"] ["thing"] (defScope sCount) := ⟨rfl, rfl, rfl, by decide +kernel, rfl, by decide +kernel, by decide +kernel⟩
theorem scR : FnScope ["part"] ["part"] (defScope sRound) := ⟨rfl, rfl, rfl, by decide +kernel, rfl, by decide +kernel, by decide +kernel⟩
theorem scH : FnScope ["part", "depth"] ["part", "depth"] (defScope sHead) := ⟨rfl, rfl, rfl, by decide +kernel, rfl, by decide +kernel, by decide +kernel⟩
theorem scG : FnScope ["part"] ["part"] (defScope sSing) := ⟨rfl, rfl, rfl, by decide +kernel, rfl, by decide +kernel, by decide +kernel⟩
theorem scW : FnScope ["parts", "depth", "many", "part"] ["parts", "depth"] (defScope sHow) := ⟨rfl, rfl, rfl, by decide +kernel, rfl, by decide +kernel, by decide +kernel⟩
theorem scZ : FnScope ["part", "depth"] ["part", "depth"] (defScope sSize) := ⟨rfl, rfl, rfl, by decide +kernel, rfl, by decide +kernel, by decide +kernel⟩
/-- a def as its callers need it -/
structure Def (P : Program) (w : World) (K : PySem.W.Frag) (mg : Str → Option Value) (base : Heap) (CX : CXT) (k : Nat) (x : Str) (f : Addr) (fd : FuncData) (ps : List Str) (sp : Sp) : Prop where
  ok : FnOk P w K mg base CX k f fd ps sp
  g : mg x = some (.ref f)
  k : PySem.W.keepIn K (.ref f) = true
  b : Binds K fd ps []
/-- the built-in names, and the constants -/
structure Prg (mg : Str → Option Value) : Prop where
  isn : mg "isinstance" = none
  len : mg "len" = none
  int : mg "int" = none
  bool : mg "bool" = none
  tuple : mg "tuple" = none
  str : mg "str" = none
  far : ∃ t, mg "LARGEST_NUMBER" = some (.int (10 ^ 30) t)
  most : ∃ t, mg "MOST_PARTS" = some (.int 60 t)
  deep : ∃ t, mg "MOST_LOOPS" = some (.int 4 t)
  once : ∃ t, mg "MOST_AT_ONCE" = some (.int 9 t)
  long : ∃ t, mg "LONGEST_WORK" = some (.int 99 t)
  norow : ∃ t, mg "NO_ROW" = some (.int 61 t)
theorem bbI : bootBuiltins "int" = some (.type "int") := by decide +kernel
theorem bbB : bootBuiltins "bool" = some (.type "bool") := by decide +kernel
theorem bbT : bootBuiltins "tuple" = some (.type "tuple") := by decide +kernel
theorem bbS : bootBuiltins "str" = some (.type "str") := by decide +kernel
theorem pe_gI {X : Cx} {x : Str} {i : Int} {t : Tok} {p : Pos} (hm : X.mg x = some (.int i t)) (hg : Gl X x := by rfl) (hd : (x == ("__debug__" : Str)) = false := by decide) : PE X (.Name x p) (tC (.int i)) := pe_glob hg hm (show RelV (.int i) (.int i t) from ⟨t, rfl⟩) hd
/-! ### what the defs are to answer, of data -/
def intD : PyData → Bool
  | .int _ => true
  | _ => false
def betw (lo hi : Int) : PyData → Bool
  | .int i => decide (lo ≤ i) && decide (i ≤ hi)
  | _ => false
def countD : PyData → Bool
  | .tuple [.int a, .int b] => (decide (0 ≤ a) && decide (a ≤ 9)) && ((decide (-(10 ^ 30) ≤ b) && decide (b ≤ 10 ^ 30)) && (decide (a > 0) || decide (b ≥ 0)))
  | _ => false
def spInt (K : PySem.W.Frag) : Sp := fun vs H Q _ => ∃ x d, vs = [x] ∧ Dp K H x d ∧ Q (.bl (intD d)) H
def spBetw (K : PySem.W.Frag) : Sp := fun vs H Q _ => ∃ x lo hi d, vs = [x, .int lo, .int hi] ∧ Dp K H x d ∧ Q (.bl (betw lo hi d)) H
def spCount (K : PySem.W.Frag) : Sp := fun vs H Q _ => ∃ x d, vs = [x] ∧ Dp K H x d ∧ Q (.bl (countD d)) H
def letters : List Nat := ("abcdefghijklmnopqrstuvwxyz" : Str).cps.toList
def wordD : PyData → Bool
  | .str x => (decide (1 ≤ x.length) && decide (x.length ≤ 8)) && x.cps.toList.all fun c => decide (c ∈ letters)
  | _ => false
def roundW (w : Str) : Bool := decide (w = "loop") || decide (w = "forever")
def headD (dep : Int) (w : Str) : List PyData → Bool
  | [_] => decide (w = "forever") && decide (dep = 0)
  | [c, _] => !decide (w = "forever") && (countD c && decide (dep < 4))
  | _ => false
def singD (w : Str) : List PyData → Bool
  | [t] => decide (w = "work") && betw 1 99 t
  | [c, k] => !decide (w = "work") && ((decide (w = "send") || decide (w = "take")) && (wordD c && betw 1 9 k))
  | _ => false
mutual
/-- its texts are not too long -/
def sOk : PyData → Prop
  | .str x => x.length ≤ sizeLine ∧ PyData.strOk x = true
  | .tuple ds => ds.length ≤ sizeLine ∧ sOkAll ds
  | .none => True
  | .bool _ => True
  | .int _ => True
  | .list _ => True
  | .dict _ => True
def sOkAll : List PyData → Prop
  | [] => True
  | d :: ds => sOk d ∧ sOkAll ds
end
theorem sOkAll.at : ∀ {ds : List PyData} {i : Nat} {d : PyData}, sOkAll ds → ds[i]? = some d → sOk d
  | [], _, _, _, e => by simp at e
  | d :: ds, 0, _, h, e => by simp at e; subst e; unfold sOkAll at h; exact h.1
  | d :: ds, i + 1, _, h, e => by unfold sOkAll at h; exact sOkAll.at (ds := ds) (i := i) h.2 (by simpa using e)
def spWord (K : PySem.W.Frag) : Sp := fun vs H Q _ => ∃ x d, vs = [x] ∧ Dp K H x d ∧ sOk d ∧ ∀ H', Same H H' → Q (.bl (wordD d)) H'
def spRound (K : PySem.W.Frag) : Sp := fun vs H Q _ => ∃ x w ds, vs = [x] ∧ Dp K H x (.tuple (.str w :: ds)) ∧ ∀ H', Same H H' → Q (.bl (roundW w)) H'
def spHead (K : PySem.W.Frag) : Sp := fun vs H Q _ => ∃ x dep w ds, vs = [x, .int dep] ∧ Dp K H x (.tuple (.str w :: ds)) ∧ Q (.bl (headD dep w ds)) H
def spSing (K : PySem.W.Frag) : Sp := fun vs H Q _ => ∃ x w ds, vs = [x] ∧ Dp K H x (.tuple (.str w :: ds)) ∧ sOkAll ds ∧ ∀ H', Same H H' → Q (.bl (singD w ds)) H'
/-- the parts one by one; 61 where they are more than 60 -/
def goL (sz : PyData → Int) : Int → List PyData → Int
  | m, [] => m
  | m, d :: ds => if 60 < m + sz d then 61 else goL sz (m + sz d) ds
def howF (sz : PyData → Int) : PyData → Int
  | .tuple ds => goL sz 0 ds
  | _ => 61
def lastD (ds : List PyData) : PyData := ds.getLast?.getD .none
/-- a part that may hold n loops more in each other -/
def sizeD : Nat → PyData → Int
  | 0, .tuple (.str w :: ds) => if roundW w then 61 else if singD w ds then 1 else 61
  | n + 1, .tuple (.str w :: ds) => if roundW w then (if headD (3 - n) w ds then 1 + howF (sizeD n) (lastD ds) else 61) else if singD w ds then 1 else 61
  | _, _ => 61
def spSize (K : PySem.W.Frag) (n : Nat) : Sp := fun vs H Q _ => ∃ x d, vs = [x, .int (4 - n)] ∧ Dp K H x d ∧ sOk d ∧ ∀ H', Same H H' → Q (.int (sizeD n d)) H'
def spHow (K : PySem.W.Frag) (n : Nat) : Sp := fun vs H Q _ => ∃ x d, vs = [x, .int (4 - n)] ∧ Dp K H x d ∧ sOk d ∧ ∀ H', Same H H' → Q (.int (howF (sizeD n) d)) H'
theorem pe_never {X : Cx} {e : Expr} : PE X e (fun _ _ _ => False) := ⟨fun _ _ _ _ _ _ h => h.elim⟩
section
variable {P : Program} {w : World} {K : PySem.W.Frag} {mg : Str → Option Value} {base : Heap}
theorem ok_int {f : Addr} {fd : FuncData} (F : FnP K "is_integer" sInt f fd) (T : Prg mg) : FnOk P w K mg base CX0 1 f fd ["thing"] (spInt K) := by
  refine F.ok scN (fun vs H Q E h => ?_) (fun cdv A outer s H vs Q E hr h => ?_)
  · obtain ⟨x, d, rfl, _⟩ := h
    rfl
  · obtain ⟨x, d, rfl, hd, q⟩ := h
    refine ⟨_, pss_one (ps_ret (pe_and (pe_isD T.isn (pv 0) (pe_bltn (by rfl) T.int bbI (by rfl)) (by rfl)) (pe_one (pe_not (pe_isD T.isn (pv 0) (pe_bltn (by rfl) T.bool bbB (by rfl)) (by rfl)))))), ?_⟩
    cases d with
    | int i => exact ⟨_, rfl, _, _, hd, (by decide +kernel : kitB "int" "int" = some true), _, rfl, iteT ⟨_, rfl, _, _, hd, (by decide +kernel : kitB "int" "bool" = some false), _, rfl, q⟩⟩
    | bool b => exact ⟨_, rfl, _, _, hd, (by decide +kernel : kitB "bool" "int" = some true), _, rfl, iteT ⟨_, rfl, _, _, hd, (by decide +kernel : kitB "bool" "bool" = some true), _, rfl, q⟩⟩
    | none => exact ⟨_, rfl, _, _, hd, (by decide +kernel : kitB "NoneType" "int" = some false), _, rfl, iteF q⟩
    | str x => exact ⟨_, rfl, _, _, hd, (by decide +kernel : kitB "str" "int" = some false), _, rfl, iteF q⟩
    | list x => exact ⟨_, rfl, _, _, hd, (by decide +kernel : kitB "list" "int" = some false), _, rfl, iteF q⟩
    | tuple x => exact ⟨_, rfl, _, _, hd, (by decide +kernel : kitB "tuple" "int" = some false), _, rfl, iteF q⟩
    | dict x => cases hd
theorem ok_betw {f fN : Addr} {fd dN : FuncData} (F : FnP K "is_between" sBetw f fd) (N : Def P w K mg base CX0 1 "is_integer" fN dN ["thing"] (spInt K)) : FnOk P w K mg base CX0 2 f fd ["thing", "low", "high"] (spBetw K) := by
  refine F.ok scB (fun vs H Q E h => ?_) (fun cdv A outer s H vs Q E hr h => ?_)
  · obtain ⟨x, lo, hi, d, rfl, _⟩ := h
    rfl
  · obtain ⟨x, lo, hi, d, rfl, hd, q⟩ := h
    refine ⟨_, pss_one (ps_ret (pe_and (pe_call N.ok hr (by rfl) N.g N.k N.b .nil pass0 (pa_cons (pv 0) pa_nil)) (pe_one (pe_chain op_le op_le (pv 1) (pv 0) (pv 2))))), ?_⟩
    have e0 : start ["thing", "low", "high"] [x, .int lo, .int hi] = [some x, some (.int lo), some (.int hi)] := rfl
    rw [e0]
    refine ⟨_, rfl, x, d, rfl, hd, _, rfl, ?_⟩
    cases hd with
    | int i =>
      refine iteT ⟨_, rfl, _, rfl, _, _, rfl, rfl, _, rfl, ite_dec (fun h => ?_) fun h => ?_⟩
      · refine ⟨_, rfl, _, _, rfl, rfl, ?_⟩
        have e : betw lo hi (.int i) = decide (i ≤ hi) := by
          show (decide (lo ≤ i) && decide (i ≤ hi)) = _
          rw [decide_eq_true h, Bool.true_and]
        rw [e] at q
        exact q
      · have e : betw lo hi (.int i) = false := by
          show (decide (lo ≤ i) && decide (i ≤ hi)) = _
          rw [decide_eq_false h, Bool.false_and]
        rw [e] at q
        exact q
    | _ => exact iteF q
theorem betw_int {lo hi : Int} {d : PyData} (h : betw lo hi d = true) : ∃ i, d = .int i ∧ lo ≤ i ∧ i ≤ hi := by
  cases d with
  | int i =>
    obtain ⟨h1, h2⟩ := Bool.and_eq_true_iff.mp (show (decide (lo ≤ i) && decide (i ≤ hi)) = true from h)
    exact ⟨i, rfl, of_decide_eq_true h1, of_decide_eq_true h2⟩
  | _ => cases h
theorem countD_two {d e : PyData} : countD (.tuple [d, e]) = (betw 0 9 d && (betw (-(10 ^ 30)) (10 ^ 30) e && (match d, e with | .int a, .int b => decide (a > 0) || decide (b ≥ 0) | _, _ => false))) := by
  cases d <;> cases e <;> first | rfl | (simp [countD, betw])
theorem ok_count {f fB : Addr} {fd dB : FuncData} (F : FnP K "is_count" sCount f fd) (T : Prg mg) (N : Def P w K mg base CX0 2 "is_between" fB dB ["thing", "low", "high"] (spBetw K)) : FnOk P w K mg base CX0 3 f fd ["thing"] (spCount K) := by
  refine F.ok scC (fun vs H Q E h => ?_) (fun cdv A outer s H vs Q E hr h => ?_)
  · obtain ⟨x, d, rfl, _⟩ := h
    rfl
  · obtain ⟨x, d, rfl, hd, q⟩ := h
    obtain ⟨tf, hfar⟩ := T.far
    refine ⟨_, pss_cons (ps_if (PW.pt (pw_or (pt_not (pt_val (pe_isD T.isn (pv 0) (pe_bltn (by rfl) T.tuple bbT (by rfl)) (by rfl)))) (pw_or1 (pt_cmpR op_ne (pe_callB call_len_seq (by rfl) T.len boot_len (pa_cons (pv 0) pa_nil)) pe_int (nomark _))))) (pss_one (ps_ret pe_bl)) pss_nil)
      (pss_cons (ps_asg (pv 0) (pg_tup rfl (pgs_cons (pg_name (i := 1) scC.nd rfl (Or.inl rfl)) (pgs_cons (pg_name (i := 2) scC.nd rfl (Or.inl rfl)) pgs_nil))))
      (pss_cons (ps_if (PW.pt (pw_or (pt_not (pt_val (pe_call N.ok hr (by rfl) N.g N.k N.b .nil pass0 (pa_cons (pv 1) (pa_cons pe_int (pa_cons pe_int pa_nil))))))
          (pw_or1 (pt_not (pt_val (pe_call N.ok hr (by rfl) N.g N.k N.b .nil pass0 (pa_cons (pv 2) (pa_cons (pe_un un_neg (pe_gI hfar (by rfl))) (pa_cons (pe_gI hfar (by rfl)) pa_nil))))))))) (pss_one (ps_ret pe_bl)) pss_nil)
      (pss_one (ps_ret (pe_or (pe_cmpR op_gt (pv 1) pe_int (nomark _)) (pe_one (pe_cmpR op_ge (pv 2) pe_int (nomark _)))))))), ?_⟩
    have e0 : start ["thing", "a", "b"] [x] = [some x, none, none] := rfl
    rw [e0]
    have qf : countD d = false → Q (.bl false) H := fun e => by rw [e] at q; exact q
    refine go_seq ?_
    cases hd with
    | non => exact ⟨_, rfl, _, _, .non, (by decide +kernel : kitB "NoneType" "tuple" = some false), _, rfl, iteT (iteT (qf rfl))⟩
    | bl b => exact ⟨_, rfl, _, _, .bl b, (by decide +kernel : kitB "bool" "tuple" = some false), _, rfl, iteT (iteT (qf rfl))⟩
    | int i => exact ⟨_, rfl, _, _, .int i, (by decide +kernel : kitB "int" "tuple" = some false), _, rfl, iteT (iteT (qf rfl))⟩
    | str i => exact ⟨_, rfl, _, _, .str i, (by decide +kernel : kitB "str" "tuple" = some false), _, rfl, iteT (iteT (qf rfl))⟩
    | lst hS ha => exact ⟨_, rfl, _, _, .lst hS ha, (by decide +kernel : kitB "list" "tuple" = some false), _, rfl, iteT (iteT (qf rfl))⟩
    | @tup t xs ds hS ha =>
      refine ⟨_, rfl, _, _, .tup hS ha, (by decide +kernel : kitB "tuple" "tuple" = some true), _, rfl, iteF ⟨_, rfl, t, xs, rfl, .inr hS, rfl, _, rfl, ?_⟩⟩
      have short : ∀ {A B : Prop}, xs.length ≠ 2 → (countD (.tuple ds) = false → A) → countD (.tuple ds) = false → (if (!decide (V.int (xs.length : Int) = V.int 2)) = true then A else B) := fun n h e => by
        rw [decide_eq_false (fun z => n (by have z1 := V.int.inj z; omega))]
        exact iteT (h e)
      cases ha with
      | nil => exact short (fun z => by cases z) (fun e => qf e) rfl
      | @cons v1 vs d1 ds1 h1 ha1 =>
        cases ha1 with
        | nil => exact short (fun z => by cases z) (fun e => qf e) (by cases h1 <;> rfl)
        | @cons v2 vs2 d2 ds2 h2 ha2 =>
          cases ha2 with
          | cons h3 ha3 => exact short (by simp only [List.length_cons]; omega) (fun e => qf e) (by cases h1 <;> first | rfl | (cases h2 <;> rfl))
          | nil =>
            refine iteNS rfl ?_
            walk_at "nx"
            refine ⟨_, rfl, t, _, rfl, hS, rfl, v1, _, rfl, v2, _, rfl, rfl, ?_⟩
            refine ⟨_, rfl, v1, 0, 9, d1, rfl, h1, _, rfl, ?_⟩
            have q' := q
            rw [countD_two] at q'
            cases b1 : betw 0 9 d1 with
            | false =>
              rw [b1] at q'
              exact q'
            | true =>
              rw [b1, Bool.true_and] at q'
              refine iteF ⟨_, rfl, _, rfl, v2, -(10 ^ 30), 10 ^ 30, d2, rfl, h2, _, rfl, ?_⟩
              cases b2 : betw (-(10 ^ 30)) (10 ^ 30) d2 with
              | false =>
                rw [b2] at q'
                exact q'
              | true =>
                rw [b2, Bool.true_and] at q'
                obtain ⟨i, rfl, _, _⟩ := betw_int b1
                obtain ⟨j, rfl, _, _⟩ := betw_int b2
                cases h1
                cases h2
                walk_at "nx"
                refine ⟨_, rfl, _, _, rfl, rfl, _, rfl, ite_dec (fun g => ?_) fun g => ⟨_, rfl, _, _, rfl, rfl, ?_⟩⟩
                · dsimp only at q'
                  rw [decide_eq_true g, Bool.true_or] at q'
                  exact q'
                · dsimp only at q'
                  rw [decide_eq_false g, Bool.false_or] at q'
                  exact q'
theorem tupD {H : Hp} {x : V} {d : PyData} {ds : List PyData} (h : Dp K H x (.tuple (d :: ds))) : ∃ t v vs, x = .ref t ∧ SqT K H t (v :: vs) ∧ Dp K H v d ∧ DpAll K H vs ds := by
  cases h with
  | tup hS ha =>
    cases ha with
    | cons h1 h2 => exact ⟨_, _, _, rfl, hS, h1, h2⟩
theorem at0 {v : V} {vs : List V} : atI (v :: vs) 0 = some v := atI_nat (j := 0) rfl
theorem at1 {v u : V} {vs : List V} : atI (v :: u :: vs) 1 = some u := atI_nat (j := 1) rfl
theorem at2 {v u y : V} {vs : List V} : atI (v :: u :: y :: vs) 2 = some y := atI_nat (j := 2) rfl
theorem len_if {m : Nat} {n : Int} {A B : Prop} (h1 : (m : Int) = n → A) (h2 : (m : Int) ≠ n → B) : if decide (V.int (m : Int) = V.int n) = true then A else B :=
  ite_dec (fun h => h1 (V.int.inj h)) fun h => h2 fun z => h (by rw [z])
theorem len_ne {m : Nat} {n : Int} {A B : Prop} (h1 : (m : Int) ≠ n → A) (h2 : (m : Int) = n → B) : if (!decide (V.int (m : Int) = V.int n)) = true then A else B := by
  by_cases h : (m : Int) = n
  · rw [decide_eq_true (by rw [h])]
    exact iteF (h2 h)
  · rw [decide_eq_false fun z => h (V.int.inj z)]
    exact iteT (h1 h)
theorem dec_vint {i j : Int} : decide (V.int i = V.int j) = decide (i = j) := by
  by_cases h : i = j
  · rw [decide_eq_true h, decide_eq_true (by rw [h])]
  · rw [decide_eq_false h, decide_eq_false fun z => h (V.int.inj z)]
theorem strD {H : Hp} {x : V} {w : Str} (h : Dp K H x (.str w)) : x = .str w := by cases h; rfl
theorem ok_round {f : Addr} {fd : FuncData} (F : FnP K "is_round" sRound f fd) : FnOk P w K mg base CX0 1 f fd ["part"] (spRound K) := by
  refine F.ok scR (fun vs H Q E h => ?_) (fun cdv A outer s H vs Q E hr h => ?_)
  · obtain ⟨x, w, ds, rfl, _⟩ := h
    rfl
  · obtain ⟨x, w, ds, rfl, hd, q⟩ := h
    obtain ⟨t, v, vs, rfl, hS, h1, h2⟩ := tupD hd
    cases strD h1
    refine ⟨_, pss_one (ps_ret (pe_cmpR op_in_seq (pe_ix ix_tup (pv 0) pe_int (fun _ _ => rfl)) (pe_tup (pa_cons pe_str (pa_cons pe_str pa_nil))) (by rfl))), ?_⟩
    have e0 : start ["part"] [V.ref t] = [some (.ref t)] := rfl
    rw [e0]
    refine ⟨_, rfl, t, _, 0, .str w, rfl, rfl, hS, at0, by show 2 ≤ sizeLine; decide, fun p np => ?_⟩
    refine ⟨p, _, rfl, .inr (SqT.of upd_same), rfl, rfl, ?_⟩
    have z := q _ (same_upd (o := .tup [.str "loop", .str "forever"]) np)
    have e : inV (V.str w) [V.str "loop", V.str "forever"] = roundW w := by
      have c : ∀ y : Str, ((y : Str) == w) = decide (w = y) := fun y => by
        by_cases h : w = y
        · subst h; simp
        · have h' : ¬ y = w := fun z => h z.symm
          simp [h, h']
      show (((("loop" : Str) == w) || ((("forever" : Str) == w) || false))) = _
      rw [c, c, Bool.or_false]
      rfl
    rw [← e] at z
    exact z
theorem ok_head {f fC : Addr} {fd dC : FuncData} (F : FnP K "_is_head" sHead f fd) (T : Prg mg) (N : Def P w K mg base CX0 3 "is_count" fC dC ["thing"] (spCount K)) : FnOk P w K mg base CX0 4 f fd ["part", "depth"] (spHead K) := by
  refine F.ok scH (fun vs H Q E h => ?_) (fun cdv A outer s H vs Q E hr h => ?_)
  · obtain ⟨x, dep, w, ds, rfl, _⟩ := h
    rfl
  · obtain ⟨x, dep, w, ds, rfl, hd, q⟩ := h
    obtain ⟨t, v, vs, rfl, hS, h1, h2⟩ := tupD hd
    cases strD h1
    obtain ⟨td, hdeep⟩ := T.deep
    refine ⟨_, pss_cons (ps_if (pt_cmpR op_eq (pe_ix ix_tup (pv 0) pe_int (fun _ _ => rfl)) pe_str (nomark _)) (pss_one (ps_ret (pe_and (pe_cmpR op_eq (pe_callB call_len_seq (by rfl) T.len boot_len (pa_cons (pv 0) pa_nil)) pe_int (nomark _)) (pe_one (pe_cmpR op_eq (pv 1) pe_int (nomark _)))))) pss_nil)
      (pss_one (ps_ret (pe_and (pe_cmpR op_eq (pe_callB call_len_seq (by rfl) T.len boot_len (pa_cons (pv 0) pa_nil)) pe_int (nomark _)) (pe_and (pe_call N.ok hr (by rfl) N.g N.k N.b .nil pass0 (pa_cons (pe_ix ix_tup (pv 0) pe_int (fun _ _ => rfl)) pa_nil)) (pe_one (pe_cmpR op_lt (pv 1) (pe_gI hdeep (by rfl)) (nomark _))))))), ?_⟩
    have e0 : start ["part", "depth"] [V.ref t, .int dep] = [some (.ref t), some (.int dep)] := rfl
    rw [e0]
    have hq : ∀ b, headD dep w ds = b → Q (.bl b) H := fun b e => by rw [e] at q; exact q
    refine go_seq ?_
    refine ⟨_, rfl, t, _, 0, .str w, rfl, rfl, hS, at0, rfl, _, rfl, ite_dec (fun hw => ?_) fun hw => ?_⟩
    · have hw := V.str.inj hw
      refine ⟨_, rfl, t, _, rfl, .inr hS, rfl, _, rfl, ?_⟩
      cases h2 with
      | nil => exact len_if (fun z => absurd z (by simp)) fun _ => hq _ rfl
      | cons g1 h3 =>
        cases h3 with
        | nil =>
          refine len_if (fun _ => ⟨_, rfl, rfl, hq _ ?_⟩) (fun z => absurd rfl z)
          show (decide (w = "forever") && decide (dep = 0)) = _
          rw [decide_eq_true hw, Bool.true_and, dec_vint]
        | cons g2 h4 =>
          refine len_if (fun z => absurd z ?_) fun _ => hq _ ?_
          · simp only [List.length_cons]; omega
          · cases h4 with
            | nil =>
              show (!decide (w = "forever") && _) = _
              rw [decide_eq_true hw]
              rfl
            | cons _ _ => rfl
    · have hw : ¬ w = "forever" := fun z => hw (by rw [z])
      refine ⟨_, rfl, t, _, rfl, .inr hS, rfl, _, rfl, ?_⟩
      cases h2 with
      | nil => exact len_if (fun z => absurd z (by simp)) fun _ => hq _ rfl
      | cons g1 h3 =>
        cases h3 with
        | nil =>
          refine len_if (fun z => absurd z (by simp)) fun _ => hq _ ?_
          show (decide (w = "forever") && _) = _
          rw [decide_eq_false hw]
          rfl
        | cons g2 h4 =>
          cases h4 with
          | cons _ _ => exact len_if (fun z => absurd z (by simp only [List.length_cons]; omega)) fun _ => hq _ rfl
          | nil =>
            refine len_if (fun _ => ⟨_, rfl, t, _, 1, _, rfl, rfl, hS, at1, _, _, rfl, g1, _, rfl, ?_⟩) (fun z => absurd rfl z)
            have e : ∀ c k, headD dep w [c, k] = (countD c && decide (dep < 4)) := fun c k => by
              show (!decide (w = "forever") && _) = _
              rw [decide_eq_false hw, Bool.not_false, Bool.true_and]
            simp only [e] at hq
            refine ite2 (fun h => ⟨_, rfl, _, _, rfl, rfl, hq _ ?_⟩) fun h => hq _ ?_
            · rw [h, Bool.true_and]
            · rw [Bool.not_eq_true _ |>.mp h, Bool.false_and]
theorem ok_sing {f fB fW : Addr} {fd dB dW : FuncData} (F : FnP K "_is_single" sSing f fd) (T : Prg mg) (N : Def P w K mg base CX0 2 "is_between" fB dB ["thing", "low", "high"] (spBetw K)) (W : Def P w K mg base CX0 1 "is_word" fW dW ["thing"] (spWord K)) : FnOk P w K mg base CX0 3 f fd ["part"] (spSing K) := by
  refine F.ok scG (fun vs H Q E h => ?_) (fun cdv A outer s H vs Q E hr h => ?_)
  · obtain ⟨x, w, ds, rfl, _⟩ := h
    rfl
  · obtain ⟨x, w, ds, rfl, hd, hso, q⟩ := h
    obtain ⟨t, v, vs, rfl, hS, h1, h2⟩ := tupD hd
    cases strD h1
    obtain ⟨tl, hlong⟩ := T.long
    obtain ⟨to, honce⟩ := T.once
    have hr1 : Room 1 _ := hr.mono (by decide)
    refine ⟨_, pss_cons (ps_if (pt_cmpR op_eq (pe_ix ix_tup (pv 0) pe_int (fun _ _ => rfl)) pe_str (nomark _)) (pss_one (ps_ret (pe_and (pe_cmpR op_eq (pe_callB call_len_seq (by rfl) T.len boot_len (pa_cons (pv 0) pa_nil)) pe_int (nomark _)) (pe_one (pe_call N.ok hr (by rfl) N.g N.k N.b .nil pass0 (pa_cons (pe_ix ix_tup (pv 0) pe_int (fun _ _ => rfl)) (pa_cons pe_int (pa_cons (pe_gI hlong (by rfl)) pa_nil)))))))) pss_nil)
      (pss_cons (ps_if (PW.pt (pw_or (pt_cmpR op_notIn_seq (pe_ix ix_tup (pv 0) pe_int (fun _ _ => rfl)) (pe_tup (pa_cons pe_str (pa_cons pe_str pa_nil))) (by rfl)) (pw_or1 (pt_cmpR op_ne (pe_callB call_len_seq (by rfl) T.len boot_len (pa_cons (pv 0) pa_nil)) pe_int (nomark _))))) (pss_one (ps_ret pe_bl)) pss_nil)
      (pss_one (ps_ret (pe_and (pe_call W.ok hr1 (by rfl) W.g W.k W.b .nil pass0 (pa_cons (pe_ix ix_tup (pv 0) pe_int (fun _ _ => rfl)) pa_nil)) (pe_one (pe_call N.ok hr (by rfl) N.g N.k N.b .nil pass0 (pa_cons (pe_ix ix_tup (pv 0) pe_int (fun _ _ => rfl)) (pa_cons pe_int (pa_cons (pe_gI honce (by rfl)) pa_nil))))))))), ?_⟩
    have e0 : start ["part"] [V.ref t] = [some (.ref t)] := rfl
    rw [e0]
    have hq : ∀ b H', Same H H' → singD w ds = b → Q (.bl b) H' := fun b H' s' e => by
      have z := q H' s'
      rw [e] at z
      exact z
    refine go_seq ?_
    refine ⟨_, rfl, t, _, 0, .str w, rfl, rfl, hS, at0, rfl, _, rfl, ite_dec (fun hw => ?_) fun hw => ?_⟩
    · have hw := V.str.inj hw
      refine ⟨_, rfl, t, _, rfl, .inr hS, rfl, _, rfl, ?_⟩
      cases h2 with
      | nil => exact len_if (fun z => absurd z (by simp)) fun _ => hq _ H (Same.refl H) rfl
      | cons g1 h3 =>
        cases h3 with
        | nil =>
          refine len_if (fun _ => ⟨_, rfl, t, _, 1, _, rfl, rfl, hS, at1, _, 1, 99, _, rfl, g1, hq _ H (Same.refl H) ?_⟩) (fun z => absurd rfl z)
          show (decide (w = "work") && _) = _
          rw [decide_eq_true hw, Bool.true_and]
        | cons g2 h4 =>
          refine len_if (fun z => absurd z ?_) fun _ => hq _ H (Same.refl H) ?_
          · simp only [List.length_cons]; omega
          · cases h4 with
            | nil =>
              show (!decide (w = "work") && _) = _
              rw [decide_eq_true hw]
              rfl
            | cons _ _ => rfl
    · have hw : ¬ w = "work" := fun z => hw (by rw [z])
      walk_at "nx"
      refine ⟨_, rfl, t, _, 0, .str w, rfl, rfl, hS, at0, by show 2 ≤ sizeLine; decide, fun p np => ?_⟩
      have sp := same_upd (o := .tup [.str "send", .str "take"]) np
      refine ⟨p, _, rfl, .inr (SqT.of upd_same), rfl, rfl, _, rfl, ?_⟩
      have e : inV (V.str w) [V.str "send", V.str "take"] = (decide (w = "send") || decide (w = "take")) := by
        have c : ∀ y : Str, ((y : Str) == w) = decide (w = y) := fun y => by
          by_cases h : w = y
          · subst h; simp
          · have h' : ¬ y = w := fun z => h z.symm
            simp [h, h']
        show (((("send" : Str) == w) || ((("take" : Str) == w) || false))) = _
        rw [c, c, Bool.or_false]
      have e2 : ∀ c k, singD w [c, k] = ((decide (w = "send") || decide (w = "take")) && (wordD c && betw 1 9 k)) := fun c k => by
        show (!decide (w = "work") && _) = _
        rw [decide_eq_false hw, Bool.not_false, Bool.true_and]
      have e3 : ∀ c, singD w [c] = false := fun c => by
        show (decide (w = "work") && _) = _
        rw [decide_eq_false hw]
        rfl
      rw [if_pos rfl, e]
      have no : (singD w ds = false) → Q (.bl false) (upd H p (.tup [.str "send", .str "take"])) := fun z => hq _ _ sp z
      cases hst : (decide (w = "send") || decide (w = "take")) with
      | false =>
        simp only [hst, Bool.false_and] at e2
        refine no ?_
        cases h2 with
        | nil => rfl
        | cons g1 h3 =>
          cases h3 with
          | nil => exact e3 _
          | cons g2 h4 =>
            cases h4 with
            | nil => exact e2 _ _
            | cons _ _ => rfl
      | true =>
        simp only [hst, Bool.true_and] at e2
        refine ⟨_, rfl, t, _, rfl, .inr (seqT sp hS), rfl, _, rfl, ?_⟩
        cases h2 with
        | nil => exact len_ne (fun _ => no rfl) fun z => absurd z (by simp)
        | cons g1 h3 =>
          cases h3 with
          | nil => exact len_ne (fun _ => no (e3 _)) fun z => absurd z (by simp)
          | cons g2 h4 =>
            cases h4 with
            | cons _ _ => exact len_ne (fun _ => no rfl) fun z => absurd z (by simp only [List.length_cons]; omega)
            | nil =>
              refine len_ne (fun z => absurd rfl z) fun _ => ?_
              walk_at "nx"
              refine ⟨_, rfl, t, _, 1, _, rfl, rfl, seqT sp hS, at1, _, _, rfl, Dp.same sp g1, sOkAll.at (i := 0) hso rfl, fun H2 s2 => ⟨_, rfl, ite2 (fun h => ?_) fun h => hq _ H2 (sp.trans s2) ?_⟩⟩
              · refine ⟨_, rfl, t, _, 2, _, rfl, rfl, seqT (sp.trans s2) hS, at2, _, 1, 9, _, rfl, Dp.same (sp.trans s2) g2, hq _ H2 (sp.trans s2) ?_⟩
                rw [e2, h, Bool.true_and]
              · rw [e2, Bool.not_eq_true _ |>.mp h, Bool.false_and]
theorem ok_how {n : Nat} {f fS : Addr} {fd dS : FuncData} (F : FnP K "_how_many" sHow f fd) (T : Prg mg) {k : Nat} (N : Def P w K mg base CX0 k "_size_of" fS dS ["part", "depth"] (spSize K n)) : FnOk P w K mg base CX0 (k + 1) f fd ["parts", "depth"] (spHow K n) := by
  refine F.ok scW (fun vs H Q E h => ?_) (fun cdv A outer s H vs Q E hr h => ?_)
  · obtain ⟨x, d, rfl, _⟩ := h
    rfl
  · obtain ⟨x, d, rfl, hd, hso, q⟩ := h
    obtain ⟨tm, hmost⟩ := T.most
    obtain ⟨tn, hno⟩ := T.norow
    refine ⟨_, PSs.nox (pss_cons (ps_if (pt_not (pt_val (pe_isD T.isn (pv 0) (pe_bltn (by rfl) T.tuple bbT (by rfl)) (by rfl)))) (pss_one (ps_ret (pe_gI hno (by rfl)))) pss_nil)
      (pss_cons (ps_set (i := 2) scW.nd rfl (Or.inl rfl) pe_int)
      (pss_cons (ps_for PassesOwn.never rfl (pi_tup (pv 0)) (pg_name (i := 3) scW.nd rfl (Or.inl rfl))
        (pss_cons (ps_set (i := 2) scW.nd rfl (Or.inl rfl) (pe_op op_add (pv 2) (pe_call N.ok hr (by rfl) N.g N.k N.b .nil pass0 (pa_cons (pv 3) (pa_cons (pv 1) pa_nil)))))
        (pss_one (ps_if (pt_cmpR op_gt (pv 2) (pe_gI hmost (by rfl)) (nomark _)) (pss_one (ps_ret (pe_gI hno (by rfl)))) pss_nil))))
      (pss_one (ps_ret (pv 2)))))), ?_⟩
    have e0 : start ["parts", "depth", "many", "part"] [x, .int (4 - n)] = [some x, some (.int (4 - n)), none, none] := rfl
    rw [e0]
    have qf : howF (sizeD n) d = 61 → Q (.int 61) H := fun e => by
      have z := q H (Same.refl H)
      rw [e] at z
      exact z
    refine go_seq ?_
    cases hd with
    | non => exact ⟨_, rfl, _, _, .non, (by decide +kernel : kitB "NoneType" "tuple" = some false), _, rfl, iteT (qf rfl)⟩
    | bl b => exact ⟨_, rfl, _, _, .bl b, (by decide +kernel : kitB "bool" "tuple" = some false), _, rfl, iteT (qf rfl)⟩
    | int i => exact ⟨_, rfl, _, _, .int i, (by decide +kernel : kitB "int" "tuple" = some false), _, rfl, iteT (qf rfl)⟩
    | str i => exact ⟨_, rfl, _, _, .str i, (by decide +kernel : kitB "str" "tuple" = some false), _, rfl, iteT (qf rfl)⟩
    | lst hS ha => exact ⟨_, rfl, _, _, .lst hS ha, (by decide +kernel : kitB "list" "tuple" = some false), _, rfl, iteT (qf rfl)⟩
    | @tup t xs ds hS ha =>
      refine ⟨_, rfl, _, _, .tup hS ha, (by decide +kernel : kitB "tuple" "tuple" = some true), _, rfl, ?_⟩
      walk_at "nx"
      refine iteF ?_
      refine ⟨_, rfl, t, rfl, ⟨_, hS⟩, for_tupD (K := K) (a := t) (xs := xs) (fun i σ H' => Same H H' ∧ ∃ m o, σ = [some (.ref t), some (.int (4 - n)), some (.int m), o] ∧ goL (sizeD n) m (ds.drop i) = goL (sizeD n) 0 ds)
        ⟨Same.refl H, _, _, rfl, rfl⟩ (fun i σ H' _ q => seqT q.1 hS) ?_ ?_⟩
      · rintro D' i v σ H2 hrt hnx - - hi ⟨s2, m, o, rfl, eg⟩
        obtain ⟨dv, hdi, hdv⟩ := DpAll.at ha hi
        have edrop : ds.drop i = dv :: ds.drop (i + 1) := by
          obtain ⟨hlt, e⟩ := List.getElem?_eq_some_iff.mp hdi
          rw [← e]
          exact List.drop_eq_getElem_cons hlt
        rw [edrop] at eg
        walk_at "nx"
        refine ⟨_, rfl, _, rfl, _, rfl, v, dv, rfl, Dp.same s2 hdv, sOkAll.at (by unfold sOk at hso; exact hso.2) hdi, fun H3 s3 => ⟨_, _, rfl, rfl, ?_⟩⟩
        have s0 := s2.trans s3
        refine ⟨_, rfl, _, _, rfl, rfl, _, rfl, ite_dec (fun g => ?_) fun g => hnx _ _ ⟨s0, _, _, rfl, ?_⟩⟩
        · have e : goL (sizeD n) m (dv :: ds.drop (i + 1)) = 61 := if_pos g
          show D'.rt (.int 61) H3
          rw [hrt]
          have z := q H3 s0
          rw [show howF (sizeD n) (.tuple ds) = 61 from eg.symm.trans e] at z
          exact z
        · rw [← eg]
          exact (if_neg g).symm
      · rintro σ H2 ⟨s2, m, o, rfl, eg⟩
        have len : ds.drop xs.length = [] := by
          rw [DpAll.length ha]
          exact List.drop_length
        rw [len] at eg
        have z := q H2 s2
        rw [show howF (sizeD n) (.tuple ds) = m from eg.symm] at z
        exact ⟨_, rfl, z⟩
theorem head4 {w : Str} {ds : List PyData} : headD (4 - ((0 : Nat) : Int)) w ds = false := by
  match ds with
  | [] => rfl
  | [d] => show (decide (w = "forever") && decide ((4 : Int) - ((0 : Nat) : Int) = 0)) = false; rw [decide_eq_false (p := (4 : Int) - ((0 : Nat) : Int) = 0) (by omega), Bool.and_false]
  | [c, d] => show (!decide (w = "forever") && (countD c && decide ((4 : Int) - ((0 : Nat) : Int) < 4))) = false; rw [decide_eq_false (p := (4 : Int) - ((0 : Nat) : Int) < 4) (by omega), Bool.and_false, Bool.and_false]
  | _ :: _ :: _ :: _ => rfl
theorem head_ne {dep : Int} {w : Str} {ds : List PyData} (h : headD dep w ds = true) : ds ≠ [] := fun z => by
  subst z
  cases h
theorem last_of {H : Hp} {v : V} {vs : List V} {ds : List PyData} (h : DpAll K H vs ds) (n : ds ≠ []) : ∃ u, atI (v :: vs) (-1) = some u ∧ Dp K H u (lastD ds) := by
  have hl := DpAll.length h
  have nv : vs ≠ [] := fun z => n (by rw [z] at hl; exact List.length_eq_zero_iff.mp hl.symm)
  have e := List.dropLast_concat_getLast nv
  have hlast : vs[vs.length - 1]? = some (vs.getLast nv) := by rw [← List.getLast?_eq_getElem?, List.getLast?_eq_some_getLast nv]
  obtain ⟨d, hd, hu⟩ := DpAll.at h hlast
  refine ⟨vs.getLast nv, ?_, ?_⟩
  · have z := atI_last (v :: vs.dropLast) (vs.getLast nv)
    rw [List.cons_append, e] at z
    exact z
  · have : lastD ds = d := by
      unfold lastD
      rw [List.getLast?_eq_getElem?, ← hl, hd]
      rfl
    rw [this]
    exact hu
theorem last_ok {ds : List PyData} (h : sOkAll ds) (n : ds ≠ []) : sOk (lastD ds) := by
  have e : ds[ds.length - 1]? = some (lastD ds) := by
    unfold lastD
    rw [← List.getLast?_eq_getElem?]
    cases hl : ds.getLast? with
    | none => exact absurd (List.getLast?_eq_none_iff.mp hl) n
    | some d => rfl
  exact sOkAll.at h e
theorem ok_size0 {f fR fH fG : Addr} {fd dR dH dG : FuncData} (F : FnP K "_size_of" sSize f fd) (T : Prg mg) {k : Nat} (h4 : 4 ≤ k) (R : Def P w K mg base CX0 1 "is_round" fR dR ["part"] (spRound K)) (Hd : Def P w K mg base CX0 4 "_is_head" fH dH ["part", "depth"] (spHead K)) (G : Def P w K mg base CX0 3 "_is_single" fG dG ["part"] (spSing K)) : FnOk P w K mg base CX0 (k + 1) f fd ["part", "depth"] (spSize K 0) := by
  refine F.ok scZ (fun vs H Q E h => ?_) (fun cdv A outer s H vs Q E hr h => ?_)
  · obtain ⟨x, d, rfl, _⟩ := h
    rfl
  · obtain ⟨x, d, rfl, hd, hso, q⟩ := h
    obtain ⟨tn, hno⟩ := T.norow
    have hr1 : Room 1 _ := hr.mono (by omega)
    have hr3 : Room 3 _ := hr.mono (by omega)
    have hr4 : Room 4 _ := hr.mono h4
    refine ⟨_, pss_cons (ps_if (PW.pt (pw_or (pt_not (pt_val (pe_isD T.isn (pv 0) (pe_bltn (by rfl) T.tuple bbT (by rfl)) (by rfl)))) (pw_or (pt_not (pt_truth (pv 0) (fun _ => rfl))) (pw_or1 (pt_not (pt_val (pe_isD T.isn (pe_ix ix_tup (pv 0) pe_int (fun _ _ => rfl)) (pe_bltn (by rfl) T.str bbS (by rfl)) (by rfl)))))))) (pss_one (ps_ret (pe_gI hno (by rfl)))) pss_nil)
      (pss_cons (ps_if (pt_val (pe_call R.ok hr1 (by rfl) R.g R.k R.b .nil pass0 (pa_cons (pv 0) pa_nil))) (pss_one (ps_ret (pe_ifExp (pt_val (pe_call Hd.ok hr4 (by rfl) Hd.g Hd.k Hd.b .nil pass0 (pa_cons (pv 0) (pa_cons (pv 1) pa_nil)))) (pe_op op_add pe_int pe_never) (pe_gI hno (by rfl))))) pss_nil)
      (pss_one (ps_ret (pe_ifExp (pt_val (pe_call G.ok hr3 (by rfl) G.g G.k G.b .nil pass0 (pa_cons (pv 0) pa_nil))) pe_int (pe_gI hno (by rfl)))))), ?_⟩
    have e0 : start ["part", "depth"] [x, .int (4 - ((0 : Nat) : Int))] = [some x, some (.int (4 - ((0 : Nat) : Int)))] := rfl
    rw [e0]
    have qf : ∀ H', Same H H' → sizeD (0) d = 61 → Q (.int 61) H' := fun H' s' e => by
      have z := q H' s'
      rw [e] at z
      exact z
    refine go_seq ?_
    cases hd with
    | non => exact ⟨_, rfl, _, _, .non, (by decide +kernel : kitB "NoneType" "tuple" = some false), _, rfl, iteT (iteT (qf H (Same.refl H) rfl))⟩
    | bl b => exact ⟨_, rfl, _, _, .bl b, (by decide +kernel : kitB "bool" "tuple" = some false), _, rfl, iteT (iteT (qf H (Same.refl H) rfl))⟩
    | int i => exact ⟨_, rfl, _, _, .int i, (by decide +kernel : kitB "int" "tuple" = some false), _, rfl, iteT (iteT (qf H (Same.refl H) rfl))⟩
    | str i => exact ⟨_, rfl, _, _, .str i, (by decide +kernel : kitB "str" "tuple" = some false), _, rfl, iteT (iteT (qf H (Same.refl H) rfl))⟩
    | lst hS ha => exact ⟨_, rfl, _, _, .lst hS ha, (by decide +kernel : kitB "list" "tuple" = some false), _, rfl, iteT (iteT (qf H (Same.refl H) rfl))⟩
    | @tup t xs ds hS ha =>
      refine ⟨_, rfl, _, _, .tup hS ha, (by decide +kernel : kitB "tuple" "tuple" = some true), _, rfl, iteF ⟨_, rfl, _, .inr (.inl ⟨xs, hS, rfl⟩), ?_⟩⟩
      have hd : Dp K H (.ref t) (.tuple ds) := .tup hS ha
      cases ha with
      | nil => exact iteT (qf H (Same.refl H) rfl)
      | @cons v vs d1 rest h1 h2 =>
        refine iteF ⟨_, rfl, t, _, 0, v, rfl, rfl, hS, at0, ?_⟩
        cases h1 with
        | non => exact ⟨_, _, .non, (by decide +kernel : kitB "NoneType" "str" = some false), _, rfl, qf H (Same.refl H) rfl⟩
        | bl b => exact ⟨_, _, .bl b, (by decide +kernel : kitB "bool" "str" = some false), _, rfl, qf H (Same.refl H) rfl⟩
        | int i => exact ⟨_, _, .int i, (by decide +kernel : kitB "int" "str" = some false), _, rfl, qf H (Same.refl H) rfl⟩
        | lst hS2 ha2 => exact ⟨_, _, .lst hS2 ha2, (by decide +kernel : kitB "list" "str" = some false), _, rfl, qf H (Same.refl H) rfl⟩
        | tup hS2 ha2 => exact ⟨_, _, .tup hS2 ha2, (by decide +kernel : kitB "tuple" "str" = some false), _, rfl, qf H (Same.refl H) rfl⟩
        | str w =>
          have hsr : sOkAll rest := by unfold sOk sOkAll at hso; exact hso.2.2
          refine ⟨_, _, .str w, (by decide +kernel : kitB "str" "str" = some true), _, rfl, ?_⟩
          walk_at "nx"
          refine ⟨_, rfl, _, w, rest, rfl, hd, fun H1 s1 => ⟨_, rfl, ?_⟩⟩
          cases hw : roundW w with
          | false =>
            have e : sizeD (0) (.tuple (.str w :: rest)) = if singD w rest then 1 else 61 := by
              show (if roundW w then _ else _) = _
              rw [hw]
              rfl
            walk_at "nx"
            refine ⟨_, rfl, _, w, rest, rfl, Dp.same s1 hd, hsr, fun H2 s2 => ⟨_, rfl, ?_⟩⟩
            have z := q H2 (s1.trans s2)
            rw [e] at z
            cases hs : singD w rest with
            | false => rw [hs] at z; exact z
            | true => rw [hs] at z; exact z
          | true =>
            refine ⟨_, rfl, _, rfl, _, _, w, rest, rfl, Dp.same s1 hd, _, rfl, ?_⟩
            rw [show headD (4 - ((0 : Nat) : Int)) w rest = false from head4]
            refine qf H1 s1 ?_
            show (if roundW w then (61 : Int) else _) = 61
            rw [hw]
            rfl
theorem ok_sizeS {m : Nat} {f fR fH fG : Addr} {fd dR dH dG : FuncData} (F : FnP K "_size_of" sSize f fd) (T : Prg mg) {k : Nat} (h4 : 4 ≤ k) (R : Def P w K mg base CX0 1 "is_round" fR dR ["part"] (spRound K)) (Hd : Def P w K mg base CX0 4 "_is_head" fH dH ["part", "depth"] (spHead K)) (G : Def P w K mg base CX0 3 "_is_single" fG dG ["part"] (spSing K)) {fW : Addr} {dW : FuncData} (N : Def P w K mg base CX0 k "_how_many" fW dW ["parts", "depth"] (spHow K m)) : FnOk P w K mg base CX0 (k + 1) f fd ["part", "depth"] (spSize K (m + 1)) := by
  refine F.ok scZ (fun vs H Q E h => ?_) (fun cdv A outer s H vs Q E hr h => ?_)
  · obtain ⟨x, d, rfl, _⟩ := h
    rfl
  · obtain ⟨x, d, rfl, hd, hso, q⟩ := h
    obtain ⟨tn, hno⟩ := T.norow
    have hr1 : Room 1 _ := hr.mono (by omega)
    have hr3 : Room 3 _ := hr.mono (by omega)
    have hr4 : Room 4 _ := hr.mono h4
    refine ⟨_, pss_cons (ps_if (PW.pt (pw_or (pt_not (pt_val (pe_isD T.isn (pv 0) (pe_bltn (by rfl) T.tuple bbT (by rfl)) (by rfl)))) (pw_or (pt_not (pt_truth (pv 0) (fun _ => rfl))) (pw_or1 (pt_not (pt_val (pe_isD T.isn (pe_ix ix_tup (pv 0) pe_int (fun _ _ => rfl)) (pe_bltn (by rfl) T.str bbS (by rfl)) (by rfl)))))))) (pss_one (ps_ret (pe_gI hno (by rfl)))) pss_nil)
      (pss_cons (ps_if (pt_val (pe_call R.ok hr1 (by rfl) R.g R.k R.b .nil pass0 (pa_cons (pv 0) pa_nil))) (pss_one (ps_ret (pe_ifExp (pt_val (pe_call Hd.ok hr4 (by rfl) Hd.g Hd.k Hd.b .nil pass0 (pa_cons (pv 0) (pa_cons (pv 1) pa_nil)))) (pe_op op_add pe_int (pe_call N.ok hr (by rfl) N.g N.k N.b .nil pass0 (pa_cons (pe_ix ix_tup (pv 0) (pe_un un_neg pe_int) (fun _ _ => rfl)) (pa_cons (pe_op op_add (pv 1) pe_int) pa_nil)))) (pe_gI hno (by rfl))))) pss_nil)
      (pss_one (ps_ret (pe_ifExp (pt_val (pe_call G.ok hr3 (by rfl) G.g G.k G.b .nil pass0 (pa_cons (pv 0) pa_nil))) pe_int (pe_gI hno (by rfl)))))), ?_⟩
    have e0 : start ["part", "depth"] [x, .int (4 - (((m + 1) : Nat) : Int))] = [some x, some (.int (4 - (((m + 1) : Nat) : Int)))] := rfl
    rw [e0]
    have qf : ∀ H', Same H H' → sizeD ((m + 1)) d = 61 → Q (.int 61) H' := fun H' s' e => by
      have z := q H' s'
      rw [e] at z
      exact z
    refine go_seq ?_
    cases hd with
    | non => exact ⟨_, rfl, _, _, .non, (by decide +kernel : kitB "NoneType" "tuple" = some false), _, rfl, iteT (iteT (qf H (Same.refl H) rfl))⟩
    | bl b => exact ⟨_, rfl, _, _, .bl b, (by decide +kernel : kitB "bool" "tuple" = some false), _, rfl, iteT (iteT (qf H (Same.refl H) rfl))⟩
    | int i => exact ⟨_, rfl, _, _, .int i, (by decide +kernel : kitB "int" "tuple" = some false), _, rfl, iteT (iteT (qf H (Same.refl H) rfl))⟩
    | str i => exact ⟨_, rfl, _, _, .str i, (by decide +kernel : kitB "str" "tuple" = some false), _, rfl, iteT (iteT (qf H (Same.refl H) rfl))⟩
    | lst hS ha => exact ⟨_, rfl, _, _, .lst hS ha, (by decide +kernel : kitB "list" "tuple" = some false), _, rfl, iteT (iteT (qf H (Same.refl H) rfl))⟩
    | @tup t xs ds hS ha =>
      refine ⟨_, rfl, _, _, .tup hS ha, (by decide +kernel : kitB "tuple" "tuple" = some true), _, rfl, iteF ⟨_, rfl, _, .inr (.inl ⟨xs, hS, rfl⟩), ?_⟩⟩
      have hd : Dp K H (.ref t) (.tuple ds) := .tup hS ha
      cases ha with
      | nil => exact iteT (qf H (Same.refl H) rfl)
      | @cons v vs d1 rest h1 h2 =>
        refine iteF ⟨_, rfl, t, _, 0, v, rfl, rfl, hS, at0, ?_⟩
        cases h1 with
        | non => exact ⟨_, _, .non, (by decide +kernel : kitB "NoneType" "str" = some false), _, rfl, qf H (Same.refl H) rfl⟩
        | bl b => exact ⟨_, _, .bl b, (by decide +kernel : kitB "bool" "str" = some false), _, rfl, qf H (Same.refl H) rfl⟩
        | int i => exact ⟨_, _, .int i, (by decide +kernel : kitB "int" "str" = some false), _, rfl, qf H (Same.refl H) rfl⟩
        | lst hS2 ha2 => exact ⟨_, _, .lst hS2 ha2, (by decide +kernel : kitB "list" "str" = some false), _, rfl, qf H (Same.refl H) rfl⟩
        | tup hS2 ha2 => exact ⟨_, _, .tup hS2 ha2, (by decide +kernel : kitB "tuple" "str" = some false), _, rfl, qf H (Same.refl H) rfl⟩
        | str w =>
          have hsr : sOkAll rest := by unfold sOk sOkAll at hso; exact hso.2.2
          refine ⟨_, _, .str w, (by decide +kernel : kitB "str" "str" = some true), _, rfl, ?_⟩
          walk_at "nx"
          refine ⟨_, rfl, _, w, rest, rfl, hd, fun H1 s1 => ⟨_, rfl, ?_⟩⟩
          cases hw : roundW w with
          | false =>
            have e : sizeD ((m + 1)) (.tuple (.str w :: rest)) = if singD w rest then 1 else 61 := by
              show (if roundW w then _ else _) = _
              rw [hw]
              rfl
            walk_at "nx"
            refine ⟨_, rfl, _, w, rest, rfl, Dp.same s1 hd, hsr, fun H2 s2 => ⟨_, rfl, ?_⟩⟩
            have z := q H2 (s1.trans s2)
            rw [e] at z
            cases hs : singD w rest with
            | false => rw [hs] at z; exact z
            | true => rw [hs] at z; exact z
          | true =>
            refine ⟨_, rfl, _, rfl, _, _, w, rest, rfl, Dp.same s1 hd, _, rfl, ?_⟩
            have e : sizeD (m + 1) (.tuple (.str w :: rest)) = if headD (4 - ((m + 1 : Nat) : Int)) w rest then 1 + howF (sizeD m) (lastD rest) else 61 := by
              show (if roundW w then (if headD (3 - (m : Int)) w rest then 1 + howF (sizeD m) (lastD rest) else 61) else _) = _
              rw [hw, if_pos rfl, show (3 : Int) - m = 4 - ((m + 1 : Nat) : Int) by omega]
            cases hh : headD (4 - ((m + 1 : Nat) : Int)) w rest with
            | false =>
              refine qf H1 s1 ?_
              rw [e, hh]
              rfl
            | true =>
              obtain ⟨vl, hvl, hdl⟩ := last_of (v := .str w) (DpAll.same s1 h2) (head_ne hh)
              refine ⟨_, rfl, 1, rfl, t, _, -1, vl, rfl, rfl, seqT s1 hS, hvl, _, rfl, _, _, rfl, rfl, vl, lastD rest, ?_, hdl, last_ok hsr (head_ne hh), fun H2 s2 => ⟨_, _, rfl, rfl, ?_⟩⟩
              · have e9 : (4 : Int) - ((m + 1 : Nat) : Int) + 1 = 4 - m := by omega
                show [vl, V.int (4 - ((m + 1 : Nat) : Int) + 1)] = _
                rw [e9]
              · have z := q H2 (s1.trans s2)
                rw [e, hh] at z
                exact z
end
end L2.L70

set_option maxHeartbeats 4000000
namespace L2.Lr
open PySem PySem.Spec PyProof.Rows LR
theorem lc_strD {x : Str} {g : TG} {tt : TT} {te : TE} {vs : List Nat} {σ : St} {H1 : Hp} {D : Addr} {Qd : Hp → Prop} (Pv : Nat → Hp → Prop) (h0 : Pv 0 (upd H1 D (.lst [])))
    (hs : ∀ i c H, x.cps[i]? = some c → Pv i H → g (.str ⟨#[c]⟩) (wipe σ vs) H fun σ2 H2 => wipe σ2 vs = wipe σ vs ∧ tt σ2 H2 fun b H3 =>
      if b = true then te σ2 H3 fun y H4 => ∃ acc, H4 D = some (.lst acc) ∧ acc.length < sizeLine ∧ Pv (i + 1) (upd H4 D (.lst (acc ++ [y]))) else Pv (i + 1) H3) (hd : ∀ H, Pv x.cps.size H → Qd H) :
    ∃ W : Nat → Nat → Hp → Prop, (∃ m, W 0 m (upd H1 D (.lst []))) ∧ ∀ i m H, W i m H →
      ((Its x).stop i H ∧ Qd H) ∨ ((Its x).go i H ∧ ∃ Nx : Hp → Prop, (∀ H', Nx H' → ∃ m', m' < m ∧ W (i + 1) m' H') ∧ ∀ y H', (Its x).yld i H y H' → g y (wipe σ vs) H' fun σ2 H2 => wipe σ2 vs = wipe σ vs ∧ tt σ2 H2 fun b H3 =>
        if b = true then te σ2 H3 fun z H4 => ∃ acc, H4 D = some (.lst acc) ∧ acc.length < sizeLine ∧ Nx (upd H4 D (.lst (acc ++ [z]))) else Nx H3) := by
  refine ⟨fun i m H => m + i = x.cps.size ∧ Pv i H, ⟨x.cps.size, rfl, h0⟩, fun i m H ⟨e, p⟩ => ?_⟩
  by_cases hlt : i < x.cps.size
  · refine .inr ⟨hlt, Pv (i + 1), fun H' p' => ⟨m - 1, by omega, by omega, p'⟩, fun y H' ⟨eH, c, hc, ey⟩ => ?_⟩
    subst eH ey
    exact hs i c _ hc p
  · have ei : i = x.cps.size := by omega
    subst ei
    exact .inl ⟨Nat.le_refl _, hd H p⟩
end L2.Lr
namespace L2.L70
open PySem PySem.Spec PyProof.Rows LR L2.Lr
theorem scO : FnScope ["thing"] ["thing"] (defScope sWord) := ⟨rfl, rfl, rfl, by decide +kernel, rfl, by decide +kernel, by decide +kernel⟩
theorem pe_gS {X : Cx} {x : Str} {i : Str} {t : Tok} {p : Pos} (hm : X.mg x = some (.str i t)) (hg : Gl X x := by rfl) (hd : (x == ("__debug__" : Str)) = false := by decide) : PE X (.Name x p) (tC (.str i)) := pe_glob hg hm (show RelV (.str i) (.str i t) from ⟨t, rfl⟩) hd
section
variable {P : Program} {w : World} {K : PySem.W.Frag} {mg : Str → Option Value} {base : Heap}
theorem ok_word {f : Addr} {fd : FuncData} (F : FnP K "is_word" sWord f fd) (T : Prg mg) {t2 : Tok} (hlw : mg "LONGEST_WORD" = some (.int 8 t2)) : FnOk P w K mg base CX0 1 f fd ["thing"] (spWord K) := by
  refine F.ok scO (fun vs H Q E h => ?_) (fun cdv A outer s H vs Q E hr h => ?_)
  · obtain ⟨x, d, rfl, _⟩ := h
    rfl
  · obtain ⟨x, d, rfl, hd, hso, q⟩ := h
    have q := q H (Same.refl H)
    refine ⟨_, pss_cons (ps_if (PW.pt (pw_or (pt_not (pt_val (pe_isD T.isn (pv 0) (pe_bltn (by rfl) T.str bbS (by rfl)) (by rfl)))) (pw_or1 (pt_not (pt_chain op_le op_le pe_int (pe_callB call_len_str (by rfl) T.len boot_len (pa_cons (pv 0) pa_nil)) (pe_gI hlw (by rfl))))))) (pss_one (ps_ret pe_bl)) pss_nil)
      (pss_one (ps_ret (pe_and (pe_m0 PySem.F.slot_str_isascii PySem.F.type_str_isascii mt_isascii (pv 0)) (pe_and (pe_m0 PySem.F.slot_str_isalpha PySem.F.type_str_isalpha mt_isalpha (pv 0)) (pe_one (pe_m0 PySem.F.slot_str_islower PySem.F.type_str_islower mt_islower (pv 0))))))), ?_⟩
    have e0 : start ["thing"] [x] = [some x] := rfl
    rw [e0]
    refine go_seq ?_
    have no : ∀ {t : String} (b : kitB t "str" = some false), TyX K H x (.type t) → wordD d = false → True := fun _ _ _ => trivial
    cases hd with
    | non => exact ⟨_, rfl, _, _, .non, (by decide +kernel : kitB "NoneType" "str" = some false), _, rfl, iteT (iteT q)⟩
    | bl b => exact ⟨_, rfl, _, _, .bl b, (by decide +kernel : kitB "bool" "str" = some false), _, rfl, iteT (iteT q)⟩
    | int i => exact ⟨_, rfl, _, _, .int i, (by decide +kernel : kitB "int" "str" = some false), _, rfl, iteT (iteT q)⟩
    | lst hS ha => exact ⟨_, rfl, _, _, .lst hS ha, (by decide +kernel : kitB "list" "str" = some false), _, rfl, iteT (iteT q)⟩
    | tup hS ha => exact ⟨_, rfl, _, _, .tup hS ha, (by decide +kernel : kitB "tuple" "str" = some false), _, rfl, iteT (iteT q)⟩
    | str t =>
      have hs : t.length ≤ sizeLine := by unfold sOk at hso; exact hso.1
      have wd : wordD (.str t) = ((decide (1 ≤ t.length) && decide (t.length ≤ 8)) && (PySem.Txt.isascii t && (PySem.Txt.isalpha t && PySem.Txt.islower t))) := by
        show ((decide (1 ≤ t.length) && decide (t.length ≤ 8)) && (TL.tl t).all fun c => decide (c ∈ letters)) = _
        by_cases h1 : 1 ≤ t.length
        · rw [L2.Tx.word_letters h1]
          rfl
        · rw [decide_eq_false h1]
          rfl
      rw [wd] at q
      refine ⟨_, rfl, _, _, .str t, (by decide +kernel : kitB "str" "str" = some true), _, rfl, iteF ?_⟩
      refine ⟨_, rfl, t, rfl, hs, _, _, rfl, rfl, _, rfl, ite_dec (fun g1 => ?_) fun g1 => ?_⟩
      · refine ⟨_, _, rfl, rfl, _, rfl, ?_⟩
        by_cases g2 : (t.length : Int) ≤ 8
        · rw [decide_eq_true g2]
          rw [decide_eq_true (show 1 ≤ t.length by omega), decide_eq_true (show t.length ≤ 8 by omega), Bool.and_self, Bool.true_and] at q
          refine iteF ?_
          refine ⟨_, rfl, ⟨_, rfl⟩, t, rfl, rfl, trivial, _, rfl, ?_⟩
          cases h1 : PySem.Txt.isascii t with
          | false => rw [h1] at q; exact iteF q
          | true =>
            rw [h1] at q
            refine iteT ⟨_, rfl, ⟨_, rfl⟩, t, rfl, rfl, trivial, _, rfl, ?_⟩
            cases h2 : PySem.Txt.isalpha t with
            | false => rw [h2] at q; exact iteF q
            | true => rw [h2] at q; exact iteT ⟨_, rfl, ⟨_, rfl⟩, t, rfl, rfl, trivial, q⟩
        · rw [decide_eq_false g2]
          rw [decide_eq_false (show ¬ t.length ≤ 8 by omega), Bool.and_false, Bool.false_and] at q
          exact iteT q
      · rw [decide_eq_false (show ¬ 1 ≤ t.length by omega), Bool.false_and, Bool.false_and] at q
        exact ⟨_, rfl, iteT q⟩
end
end L2.L70

set_option maxHeartbeats 1000000
namespace L2.L70
open PySem PySem.Spec PyProof.Rows LR L2.Lr
local macro_rules | `(tactic| walk_at "nx") => `(tactic| dsimp only [gName, tNext, tSeq, tAsg, List.set_cons_zero, List.set_cons_succ])
abbrev sRoom : Stmt := inClass (top 1) 0
abbrev sGoes : Stmt := top 42
abbrev sIni : Stmt := inClass (top 31) 0
abbrev sApr : Stmt := top 33
abbrev FnM (K : PySem.W.Frag) (x q : Str) (st : Stmt) (f : Addr) (fd : FuncData) : Prop := FunD K x q (defArgs st) (defBody st) (defScope st) [] [] f fd
theorem scgo : FnScope ["parts", "part"] ["parts"] (defScope sGoes) := ⟨rfl, rfl, rfl, by decide +kernel, rfl, by decide +kernel, by decide +kernel⟩
theorem scro : FnScope ["self", "value"] ["self", "value"] (defScope sRoom) := ⟨rfl, rfl, rfl, by decide +kernel, rfl, by decide +kernel, by decide +kernel⟩
theorem scap : FnScope ["thing"] ["thing"] (defScope sApr) := ⟨rfl, rfl, rfl, by decide +kernel, rfl, by decide +kernel, by decide +kernel⟩
theorem scin : FnScope ["self", "parts", "kept"] ["self", "parts"] (defScope sIni) := ⟨rfl, rfl, rfl, by decide +kernel, rfl, by decide +kernel, by decide +kernel⟩
def CR (K : PySem.W.Frag) : Addr := He.ga K "Row"
def CB (K : PySem.W.Frag) : Addr := He.ga K "BadRow"
def CC (K : PySem.W.Frag) : Addr := He.ga K "BadCount"
def CN (K : PySem.W.Frag) : Addr := He.ga K "BadNumber"
def fV (K : PySem.W.Frag) : Addr := He.ma K (He.ga K "RoomError") "__init__"
structure Xt (K : PySem.W.Frag) (mg : Str → Option Value) (x : Str) (C : Addr) : Prop where
  g : mg x = some (.ref C)
  x : XC K xV C
  nv : PySem.W.findIn K (.ref C) "value" = some none
  iC : PySem.W.findIn K (.ref C) "__init__" = some (some (.ref (fV K)))
  e : PySem.W.exmOne K (.ref C) (.ref C) = some true
structure Txt (K : PySem.W.Frag) (mg : Str → Option Value) : Prop where
  p : Prg mg
  xB : Xt K mg "BadRow" (CB K)
  xC : Xt K mg "BadCount" (CC K)
  xN : Xt K mg "BadNumber" (CN K)
  nb : PySem.W.exmOne K (.ref (CN K)) (.ref (CB K)) = some false
  tI : PySem.W.typeIn K (.ref (fV K)) = some (.type "function")
  gR : mg "Row" = some (.ref (CR K))
  cl : Cls K (CR K)
  nP : NoAttr K (CR K) "parts"
  nS : NoAttr K (CR K) "size"
  ic : C8.InsC K (CR K)
  all : mg "all" = none
  list : mg "list" = none
  range : mg "range" = none
  max : mg "max" = none
  min : mg "min" = none
  divmod : mg "divmod" = none
structure Rm (P : Program) (w : World) (K : PySem.W.Frag) (mg : Str → Option Value) (base : Heap) (dV : FuncData) : Prop where
  ok : FnOk P w K mg base CX0 1 (fV K) dV ["self", "value"] (L2.Lr.spIni K)
  b : Binds K dV ["self", "value"] []
def flds (y : V) (m : Int) : List (Str × V) := putF "size" (.int m) (putF "parts" y [])
theorem kps : ¬ (("parts" : Str) = "size") := by decide +kernel
theorem flds_p (y : V) (m : Int) : (flds y m).lookup ("parts" : Str) = some y := by
  unfold flds
  rw [lookup_putF, if_neg kps, lookup_putF, if_pos rfl]
theorem flds_s (y : V) (m : Int) : (flds y m).lookup ("size" : Str) = some (.int m) := by
  unfold flds
  rw [lookup_putF, if_pos rfl]
def RowAt (K : PySem.W.Frag) (H : Hp) (p : Addr) (y : V) (m : Int) : Prop := ∃ dx, H p = some (.ins (CR K) dx (flds y m))
def cutD (ds : List PyData) (lo hi : Option Int) : List PyData := (ds.drop (HT.sIx ds.length 0 lo)).take (HT.sIx ds.length ds.length hi - HT.sIx ds.length 0 lo)
theorem DpAll.take {K : PySem.W.Frag} {H : Hp} : ∀ {vs : List V} {ds : List PyData} (n : Nat), DpAll K H vs ds → DpAll K H (vs.take n) (ds.take n)
  | _, _, 0, _ => by simpa using DpAll.nil
  | _, _, n + 1, .nil => by simpa using DpAll.nil
  | _, _, n + 1, .cons h a => by simpa using DpAll.cons h (DpAll.take n a)
theorem DpAll.drop {K : PySem.W.Frag} {H : Hp} : ∀ {vs : List V} {ds : List PyData} (n : Nat), DpAll K H vs ds → DpAll K H (vs.drop n) (ds.drop n)
  | _, _, 0, h => by simpa using h
  | _, _, n + 1, .nil => by simpa using DpAll.nil
  | _, _, n + 1, .cons h a => by simpa using DpAll.drop n a
/-- all but instances stays -/
def Ki (H H' : Hp) : Prop := ∀ b o, H b = some o → (∀ C dx fs, o ≠ .ins C dx fs) → H' b = some o
mutual
theorem Dp.ki {K : PySem.W.Frag} {H H' : Hp} (s : Ki H H') : ∀ {v : V} {d : PyData}, Dp K H v d → Dp K H' v d
  | _, _, .non => .non
  | _, _, .bl b => .bl b
  | _, _, .int i => .int i
  | _, _, .str x => .str x
  | _, _, .lst h a => .lst (by
      rcases h with (h | ⟨o, h⟩) | h
      · exact .inl (.inl (s _ _ h fun _ _ _ z => by cases z))
      · exact .inl (.inr ⟨o, s _ _ h fun _ _ _ z => by cases z⟩)
      · exact .inr h) (DpAll.ki s a)
  | _, _, .tup h a => .tup (by
      rcases h with (h | ⟨o, h⟩) | h
      · exact .inl (.inl (s _ _ h fun _ _ _ z => by cases z))
      · exact .inl (.inr ⟨o, s _ _ h fun _ _ _ z => by cases z⟩)
      · exact .inr h) (DpAll.ki s a)
theorem DpAll.ki {K : PySem.W.Frag} {H H' : Hp} (s : Ki H H') : ∀ {vs : List V} {ds : List PyData}, DpAll K H vs ds → DpAll K H' vs ds
  | _, _, .nil => .nil
  | _, _, .cons h a => .cons (Dp.ki s h) (DpAll.ki s a)
end
theorem slP {K : PySem.W.Frag} {H : Hp} {x : V} {ds : List PyData} {lo hi : Option Int} {Q : VK} (hx : Dp K H x (.tuple ds)) (q : ∀ v H', Same H H' → Dp K H' v (.tuple (cutD ds lo hi)) → Q v H') : rSlA K x lo hi H Q := by
  cases hx with
  | @tup a xs _ hS ha =>
    have hl := DpAll.length ha
    refine ⟨a, xs, rfl, hS, fun e => ?_, fun _ t nt => ?_⟩
    · refine q _ _ (Same.refl H) ?_
      rw [hl] at e
      have : cutD ds lo hi = ds := by
        unfold cutD
        rw [e.1, e.2]
        simp
      rw [this]
      exact .tup hS ha
    · have st := same_upd (o := .tup (cutV xs lo hi)) nt
      refine q _ _ st (.tup (SqT.of upd_same) ?_)
      have e1 : cutV xs lo hi = (xs.drop (HT.sIx ds.length 0 lo)).take (HT.sIx ds.length ds.length hi - HT.sIx ds.length 0 lo) := by
        unfold cutV
        rw [hl]
      generalize upd H t (.tup (cutV xs lo hi)) = G at st ⊢
      rw [e1]
      unfold cutD
      exact DpAll.same st (DpAll.take _ (DpAll.drop _ ha))
def foreverD : PyData → Bool
  | .tuple (.str w :: _) => decide (w = "forever")
  | _ => false
def goesD (ds : List PyData) : Bool := ds.dropLast.all fun d => !foreverD d
theorem cut_init {ds : List PyData} (h : ds ≠ []) : cutD ds none (some (-1)) = ds.dropLast := by
  have hl : 0 < ds.length := List.length_pos_iff.mpr h
  unfold cutD
  have e : HT.sIx ds.length ds.length (some (-1)) = ds.length - 1 := by
    show (if (-1 : Int) < 0 then ((-1 : Int) + (ds.length : Int)).toNat else min (-1 : Int).toNat ds.length) = ds.length - 1
    rw [if_pos (by decide)]
    omega
  rw [e, HT.sIx_none, List.dropLast_eq_take]
  simp
def spGoes (K : PySem.W.Frag) : Sp := fun vs H Q _ => ∃ x ds, vs = [x] ∧ Dp K H x (.tuple ds) ∧ ds.length ≤ 390000 ∧ (∀ d, d ∈ ds → ∃ w es, d = .tuple (.str w :: es)) ∧ ∀ H', Same H H' → Q (.bl (goesD ds)) H'
section
variable {P : Program} {w : World} {K : PySem.W.Frag} {mg : Str → Option Value} {base : Heap}
theorem ok_room {f : Addr} {fd : FuncData} (F : FnM K "__init__" "RoomError.__init__" sRoom f fd) : FnOk P w K mg base CX0 1 f fd ["self", "value"] (L2.Lr.spIni K) := by
  refine F.ok scro (fun vs H Q E h => ?_) (fun cdv A outer s H vs Q E hr h => ?_)
  · obtain ⟨a, C, k, y, rfl, _⟩ := h
    rfl
  · obtain ⟨a, C, k, y, rfl, Sf, T, nv, ha, go⟩ := h
    refine ⟨_, pss_one (ps_stX (pv 0) (pv 1)), _, rfl, _, rfl, a, C, k, rfl, Sf, T, nv, .inl ⟨ha, fun dx hd ne => go _ dx hd ne (fun b o z nb => ?_) upd_same ((upd_ne ne).trans upd_same)⟩⟩
    exact (upd_ne nb).trans ((upd_ne (ne_of_none z hd)).trans z)
theorem ok_goes {f : Addr} {fd : FuncData} (F : FnP K "_goes_on_last" sGoes f fd) (T : Txt K mg) : FnOk P w K mg base CX0 1 f fd ["parts"] (spGoes K) := by
  refine F.ok scgo (fun vs H Q E h => ?_) (fun cdv A outer s H vs Q E hr h => ?_)
  · obtain ⟨x, ds, rfl, _⟩ := h
    rfl
  · obtain ⟨x, ds, rfl, hd, hl, hs, q⟩ := h
    refine ⟨_, PSs.nox (pss_one (ps_ret (pe_callB (cr_all rfl) (by rfl) T.all boot_all (pa_cons (pe_lc (own := [("part", 1)]) (g := gName 1) (tt := tYes) rfl scgo.nd (pi_tup (pe_slice sl_tupA (pv 0) po_none (po_some (pe_un un_neg pe_int)))) (blkOk_by (N := ["parts", "part"]) (sc := defScope sGoes) (by decide +kernel)) (fun _ _ _ _ _ => pg_name (i := 1) scgo.nd rfl (Or.inl rfl)) (fun _ _ _ _ _ => pts_nil) (fun _ _ _ _ _ => pe_cmpR op_ne (pe_ix (r := rIxT K) (by exact ix_tup) (pv 1) pe_int (fun _ _ => rfl)) pe_str (nomark _))) pa_nil)))), ?_⟩
    have e0 : start ["parts", "part"] [x] = [some x, none] := rfl
    rw [e0]
    have sz : sizeLine = 16777216 := sizeLine_eq
    refine ⟨_, rfl, 1, rfl, _, rfl, ?_⟩
    refine slP hd fun v H1 s1 h1 => ?_
    have ec : cutD ds none (some (-1)) = ds.dropLast := by
      by_cases hn : ds = []
      · subst hn; rfl
      · exact cut_init hn
    rw [ec] at h1
    cases h1 with
    | @tup t xs _ hS ha =>
      have hlx := DpAll.length ha
      have hle : ds.dropLast.length ≤ 390000 := by rw [List.length_dropLast]; omega
      refine ⟨t, rfl, ⟨_, hS⟩, fun D hD => ?_⟩
      have hSD := seqT (same_upd (o := .lst []) hD) hS
      refine lc_tup (K := K) (a := t) (xs := xs) (fun i H' => Same H1 H' ∧ H' D = some (.lst (((ds.dropLast.take i).map fun d => !foreverD d).map V.bl))) ⟨same_upd hD, upd_same⟩ (fun i H' _ q => seqT q.1 hS) ?_ ?_
      · rintro i x' H2 hx' ⟨s2, hD2⟩
        obtain ⟨dv, hdv, hDv⟩ := DpAll.at ha hx'
        have hm : dv ∈ ds := List.dropLast_subset _ (List.mem_of_getElem? hdv)
        obtain ⟨w0, es, rfl⟩ := hs dv hm
        obtain ⟨t0, v0, vs0, rfl, hS0, h0, _⟩ := tupD (Dp.same s2 hDv)
        cases strD h0
        refine ⟨rfl, _, rfl, t0, _, 0, _, rfl, rfl, hS0, at0, rfl, _, hD2, ?_, fun b o e => ?_, ?_⟩
        · rw [List.length_map, List.length_map, List.length_take]
          omega
        · by_cases hb : b = D
          · rw [hb, hD] at e; cases e
          · exact (upd_ne hb).trans (s2 _ _ e)
        · rw [upd_same, List.take_add_one, hdv, List.map_append, List.map_append]
          have ed : (!decide (V.str w0 = V.str "forever")) = !foreverD (.tuple (.str w0 :: es)) := by
            show _ = !decide (w0 = "forever")
            by_cases h : w0 = "forever"
            · rw [decide_eq_true h, h, decide_eq_true rfl]
            · rw [decide_eq_false h, decide_eq_false fun z => h (V.str.inj z)]
          rw [ed]
          rfl
      · rintro H2 ⟨s2, hD2⟩
        rw [hlx, List.take_length] at hD2
        refine ⟨D, _, rfl, SqL.of hD2, ?_⟩
        have ea : (List.map (fun d => !foreverD d) ds.dropLast).all id = goesD ds := by
          unfold goesD
          rw [List.all_map]
          rfl
        rw [ea]
        exact q H2 (s1.trans s2)
structure RowOk (ds : List PyData) : Prop where
  s : sOk (.tuple ds)
  l : ds.length ≤ 390000
  t : ∀ d, d ∈ ds → ∃ w es, d = .tuple (.str w :: es)
  h : howF (sizeD 4) (.tuple ds) ≤ 60
  g : goesD ds = true
def spApr (K : PySem.W.Frag) : Sp := fun vs H Q _ => ∃ x ds, vs = [x] ∧ Dp K H x (.tuple ds) ∧ RowOk ds ∧ ∀ H', Same H H' → Q (.bl true) H'
def spRow (K : PySem.W.Frag) : Sp := fun vs H Q E => ∃ (p dx : Addr) (x : V) (ds : List PyData), vs = [.ref p, x] ∧ H p = some (.ins (CR K) dx []) ∧ Dp K H x (.tuple ds) ∧ RowOk ds ∧
  ∀ (H' : Hp) (y : V), (∀ b o, H b = some o → b ≠ p → H' b = some o) → RowAt K H' p y (howF (sizeD 4) (.tuple ds)) → Dp K H' y (.tuple ds) → Q .non H'
theorem ok_apr {f fH fG : Addr} {fd dH dG : FuncData} (F : FnP K "are_parts_of_row" sApr f fd) (T : Txt K mg) {k : Nat} (h2 : 2 ≤ k) (Hw : Def P w K mg base CX0 k "_how_many" fH dH ["parts", "depth"] (spHow K 4)) (G : Def P w K mg base CX0 1 "_goes_on_last" fG dG ["parts"] (spGoes K)) :
    FnOk P w K mg base CX0 (k + 1) f fd ["thing"] (spApr K) := by
  refine F.ok scap (fun vs H Q E h => ?_) (fun cdv A outer s H vs Q E hr h => ?_)
  · obtain ⟨x, ds, rfl, _⟩ := h
    rfl
  · obtain ⟨x, ds, rfl, hd, ok, q⟩ := h
    obtain ⟨tm, hm⟩ := T.p.most
    have hr1 : Room 1 _ := (hr.mono h2).mono (by decide)
    refine ⟨_, pss_one (ps_ret (pe_and (pe_isD T.p.isn (pv 0) (pe_bltn (by rfl) T.p.tuple bbT (by rfl)) (by rfl)) (pe_and (pe_cmpR op_le (pe_call Hw.ok hr (by rfl) Hw.g Hw.k Hw.b .nil pass0 (pa_cons (pv 0) (pa_cons pe_int pa_nil))) (pe_gI hm (by rfl)) (nomark _)) (pe_one (pe_call G.ok hr1 (by rfl) G.g G.k G.b .nil pass0 (pa_cons (pv 0) pa_nil)))))), ?_⟩
    have e0 : start ["thing"] [x] = [some x] := rfl
    rw [e0]
    refine ⟨_, rfl, _, _, hd, (by decide +kernel : kitB "tuple" "tuple" = some true), _, rfl, iteT ?_⟩
    refine ⟨_, rfl, x, .tuple ds, rfl, hd, ok.s, fun H3 s3 => ?_⟩
    refine ⟨_, _, rfl, rfl, _, rfl, ?_⟩
    rw [decide_eq_true ok.h]
    refine iteT ⟨_, rfl, x, ds, rfl, Dp.same s3 hd, ok.l, ok.t, fun H4 s4 => ?_⟩
    rw [ok.g]
    exact q H4 (s3.trans s4)
theorem ok_row {f fH fA DFL : Addr} {fd dH dA dV : FuncData} (F : FunD K "__init__" "Row.__init__" (defArgs sIni) (defBody sIni) (defScope sIni) [.ref DFL] [] f fd) (T : Txt K mg) {k : Nat} (h2 : 2 ≤ k) (Hw : Def P w K mg base CX0 k "_how_many" fH dH ["parts", "depth"] (spHow K 4)) (Ap : Def P w K mg base CX0 (k + 1) "are_parts_of_row" fA dA ["thing"] (spApr K)) :
    FnOk P w K mg base CX0 (k + 2) f fd ["self", "parts"] (spRow K) := by
  refine F.ok scin (fun vs H Q E h => ?_) (fun cdv A outer s H vs Q E hr h => ?_)
  · obtain ⟨p, dx, x, ds, rfl, _⟩ := h
    rfl
  · obtain ⟨p, dx, x, ds, rfl, hp, hx, ok, q⟩ := h
    have hr1 : Room (k + 1) _ := hr
    have hrk : Room k _ := hr1.mono (by omega)
    refine ⟨_, pss_cons (ps_if (pt_not (pt_val (pe_callB call_isiT (by rfl) T.p.isn boot_isinstance (pa_cons (pv 1) (pa_cons (pe_tup (pa_cons (pe_bltn (v := .ty "list") (by rfl) T.list bbL (by rfl)) (pa_cons (pe_bltn (v := .ty "tuple") (by rfl) T.p.tuple bbT (by rfl)) pa_nil))) pa_nil))))) pss_never pss_nil)
      (C8.pss_cut (ps_set (i := 2) scin.nd rfl (Or.inl rfl) (pe_callTy call_tuple_of (by rfl) T.p.tuple bbT (pa_cons (pv 1) pa_nil)))
      (pss_cons (ps_if (pt_not (pt_val (pe_call Ap.ok hr1 (by rfl) Ap.g Ap.k Ap.b .nil pass0 (pa_cons (pv 2) pa_nil)))) pss_never pss_nil)
      (pss_cons (ps_fld (pv 0) (pv 2) rfl) (pss_one (ps_fld (pv 0) (pe_call Hw.ok hrk (by rfl) Hw.g Hw.k Hw.b .nil pass0 (pa_cons (pv 2) (pa_cons pe_int pa_nil))) rfl))))), ?_⟩
    have e0 : start ["self", "parts", "kept"] [V.ref p, x] = [some (.ref p), some x, none] := rfl
    rw [e0]
    refine go_seq ?_
    refine ⟨_, rfl, by show 2 ≤ sizeLine; decide, fun tp ntp => ⟨x, tp, [.ty "list", .ty "tuple"], .type "tuple", [.type "list", .type "tuple"], true, rfl, upd_same, .cons (.ty _) (.cons (.ty _) .nil), tyE (d := .tuple ds) (.inl (Dp.same (same_upd ntp) hx)), seq_any (.tuple ds), _, rfl, ?_⟩⟩
    have s1 := same_upd (o := .tup [.ty "list", .ty "tuple"]) ntp
    generalize upd H tp (.tup [.ty "list", .ty "tuple"]) = H1 at s1 ⊢
    refine iteF (go_next ?_)
    refine ⟨fun σ' H' => ∃ y, σ' = [some (.ref p), some x, some y] ∧ Same H H' ∧ Dp K H' y (.tuple ds), ?_, ?_⟩
    · have hx1 := Dp.same s1 hx
      cases hx1 with
      | @tup a xs ds hS ha => exact ⟨_, rfl, a, xs, rfl, .inr ⟨hS, _, rfl, s1, .tup hS ha⟩⟩
    rintro σ2 H2 ⟨y, rfl, s2, hy⟩
    walk_at "nx"
    refine ⟨_, rfl, y, ds, rfl, hy, ok, fun H3 s3 => ⟨_, rfl, iteF ?_⟩⟩
    have s23 := s2.trans s3
    have hy3 := Dp.same s3 hy
    have hp3 := s23 _ _ hp
    refine ⟨_, rfl, _, rfl, p, CR K, dx, [], rfl, hp3, T.cl, T.nP, by show 0 < 1000; decide, ?_⟩
    have k1 : Ki H3 (upd H3 p (.ins (CR K) dx (putF "parts" y []))) := fun b o e ne => by
      have hb : b ≠ p := fun z => by rw [z, hp3] at e; exact ne _ _ _ (Option.some.inj e).symm
      exact (upd_ne hb).trans e
    refine ⟨_, rfl, y, .tuple ds, rfl, Dp.ki k1 hy3, ok.s, fun H4 s4 => ?_⟩
    have hp4 := s4 _ _ (upd_same (H := H3) (a := p) (o := .ins (CR K) dx (putF "parts" y [])))
    refine ⟨_, rfl, p, CR K, dx, _, rfl, hp4, T.cl, T.nS, by show 1 < 1000; decide, ?_⟩
    have k2 : Ki H4 (upd H4 p (.ins (CR K) dx (putF "size" (.int (howF (sizeD 4) (.tuple ds))) (putF "parts" y [])))) := fun b o e ne => by
      have hb : b ≠ p := fun z => by rw [z, hp4] at e; exact ne _ _ _ (Option.some.inj e).symm
      exact (upd_ne hb).trans e
    refine q _ y (fun b o e hb => ?_) ⟨dx, upd_same⟩ (Dp.ki k2 (Dp.same s4 (Dp.ki k1 hy3)))
    exact (upd_ne hb).trans (s4 _ _ ((upd_ne hb).trans (s23 _ _ e)))
end
end L2.L70

set_option maxHeartbeats 1000000
set_option exponentiation.threshold 2000
namespace L2.L70
open PySem PySem.Spec PyProof.Rows LR L2.Lr L2.Cut
local macro_rules | `(tactic| walk_at "nx") => `(tactic| dsimp only [gName, tNext, tSeq, tAsg, List.set_cons_zero, List.set_cons_succ])
abbrev sNum : Stmt := top 14
abbrev sRnd : Stmt := top 18
abbrev sCkC : Stmt := top 21
abbrev sCkR : Stmt := top 34
abbrev sInn : Stmt := top 36
abbrev sStL : Stmt := top 46
abbrev sFiL : Stmt := top 47
abbrev sFrP : Stmt := top 48
abbrev sStP : Stmt := top 49
abbrev sCut : Stmt := top 51
abbrev sSir : Stmt := top 52
theorem scNum : FnScope ["n"] ["n"] (defScope sNum) := ⟨rfl, rfl, rfl, by decide +kernel, rfl, by decide +kernel, by decide +kernel⟩
theorem scRnd : FnScope ["count", "n", "a", "b"] ["count", "n"] (defScope sRnd) := ⟨rfl, rfl, rfl, by decide +kernel, rfl, by decide +kernel, by decide +kernel⟩
theorem scCkC : FnScope ["count"] ["count"] (defScope sCkC) := ⟨rfl, rfl, rfl, by decide +kernel, rfl, by decide +kernel, by decide +kernel⟩
theorem scCkR : FnScope ["row"] ["row"] (defScope sCkR) := ⟨rfl, rfl, rfl, by decide +kernel, rfl, by decide +kernel, by decide +kernel⟩
theorem scInn : FnScope ["part"] ["part"] (defScope sInn) := ⟨rfl, rfl, rfl, by decide +kernel, rfl, by decide +kernel, by decide +kernel⟩
theorem scStL : FnScope ["parts", "n", "many", "part", "more"] ["parts", "n"] (defScope sStL) := ⟨rfl, rfl, rfl, by decide +kernel, rfl, by decide +kernel, by decide +kernel⟩
abbrev NFi : List Str := ["parts", "n", "steps", "kept", "left", "part", "more"]
theorem scFiL : FnScope NFi ["parts", "n", "steps"] (defScope sFiL) := ⟨rfl, rfl, rfl, by decide +kernel, rfl, by decide +kernel, by decide +kernel⟩
abbrev NFr : List Str := ["part", "n", "left", "inner", "whole", "rest", "head"]
theorem scFrP : FnScope NFr ["part", "n", "left"] (defScope sFrP) := ⟨rfl, rfl, rfl, by decide +kernel, rfl, by decide +kernel, by decide +kernel⟩
theorem scStP : FnScope ["part", "n", "each"] ["part", "n"] (defScope sStP) := ⟨rfl, rfl, rfl, by decide +kernel, rfl, by decide +kernel, by decide +kernel⟩
theorem scCut : FnScope ["row", "n", "steps"] ["row", "n", "steps"] (defScope sCut) := ⟨rfl, rfl, rfl, by decide +kernel, rfl, by decide +kernel, by decide +kernel⟩
theorem scSir : FnScope ["row", "n"] ["row", "n"] (defScope sSir) := ⟨rfl, rfl, rfl, by decide +kernel, rfl, by decide +kernel, by decide +kernel⟩
/-! ### parts as data -/
mutual
def toD : Pt → PyData
  | .one d => d
  | .loop a b bd => .tuple [.str "loop", .tuple [.int a, .int b], .tuple (toDs bd)]
  | .ever bd => .tuple [.str "forever", .tuple (toDs bd)]
def toDs : List Pt → List PyData
  | [] => []
  | p :: ps => toD p :: toDs ps
end
theorem toDs_map : ∀ ps : List Pt, toDs ps = ps.map toD
  | [] => by simp [toDs]
  | p :: ps => by simp [toDs, toDs_map ps]
def vP : Nat → Pt → Prop
  | _, .one d => ∃ w es, d = .tuple (.str w :: es) ∧ roundW w = false
  | D + 1, .loop a b bd => countD (.tuple [.int a, .int b]) = true ∧ finL bd = true ∧ bd.length ≤ 60 ∧ ∀ p ∈ bd, vP D p
  | D + 1, .ever bd => finL bd = true ∧ bd.length ≤ 60 ∧ ∀ p ∈ bd, vP D p
  | 0, _ => False
def vL (D : Nat) (ps : List Pt) : Prop := ps.length ≤ 60 ∧ ∀ p ∈ ps, vP D p
theorem vP_wf : ∀ {D : Nat} {p : Pt}, vP D p → wfP p = true
  | D, .one _, _ => rfl
  | D + 1, .loop _ _ _, h => h.2.1
  | D + 1, .ever _, h => h.1
  | 0, .loop _ _ _, h => h.elim
  | 0, .ever _, h => h.elim
def okN (n : Int) : Prop := 0 ≤ n ∧ n ≤ 10 ^ 30
theorem rnd_le {n a b : Int} (hn : okN n) (hc : countD (.tuple [.int a, .int b]) = true) : rnd n a b < 2 ^ 104 := by
  obtain ⟨h1, h2⟩ := Bool.and_eq_true_iff.mp (show ((decide (0 ≤ a) && decide (a ≤ 9)) && ((decide (-(10 ^ 30) ≤ b) && decide (b ≤ 10 ^ 30)) && (decide (a > 0) || decide (b ≥ 0)))) = true from hc)
  obtain ⟨h3, h4⟩ := Bool.and_eq_true_iff.mp h1
  obtain ⟨h5, _⟩ := Bool.and_eq_true_iff.mp h2
  obtain ⟨h6, h7⟩ := Bool.and_eq_true_iff.mp h5
  have h3 := of_decide_eq_true h3
  have h4 := of_decide_eq_true h4
  have h7 := of_decide_eq_true h7
  obtain ⟨n0, n1⟩ := hn
  have e : a * n ≤ 9 * 10 ^ 30 := by
    have z1 : a * n ≤ 9 * n := Int.mul_le_mul_of_nonneg_right h4 n0
    omega
  unfold rnd
  omega
theorem st_le {n : Int} (hn : okN n) : ∀ (D : Nat), (∀ p, vP D p → ∀ m, stP n p = some m → m ≤ 2 ^ (110 * D)) ∧ (∀ ps, vL D ps → ∀ m, stL n ps = some m → m ≤ ps.length * 2 ^ (110 * D)) := by
  have list : ∀ D, (∀ p, vP D p → ∀ m, stP n p = some m → m ≤ 2 ^ (110 * D)) → ∀ ps : List Pt, (∀ p ∈ ps, vP D p) → ∀ m, stL n ps = some m → m ≤ ps.length * 2 ^ (110 * D) := by
    intro D hP ps
    induction ps with
    | nil =>
      intro _ m h
      simp [stL] at h
      omega
    | cons p ps ih =>
      intro hv m h
      simp only [stL] at h
      cases hp : stP n p with
      | none => rw [hp] at h; cases h
      | some k =>
        rw [hp] at h
        cases hq : stL n ps with
        | none => rw [hq] at h; cases h
        | some t =>
          rw [hq] at h
          have h := Option.some.inj h
          have z1 := hP p (hv p (List.mem_cons_self ..)) k hp
          have z2 := ih (fun q hq => hv q (List.mem_cons_of_mem _ hq)) t hq
          have e : k + t = m := h
          rw [List.length_cons, Nat.succ_mul, ← e, Nat.add_comm k t]
          exact Nat.add_le_add z2 z1
  intro D
  induction D with
  | zero =>
    have hP : ∀ p, vP 0 p → ∀ m, stP n p = some m → m ≤ 2 ^ (110 * 0) := by
      intro p hv m h
      cases p with
      | one d =>
        simp [stP] at h
        subst h
        decide
      | loop a b bd => exact hv.elim
      | ever bd => exact hv.elim
    exact ⟨hP, fun ps hv => list 0 hP ps hv.2⟩
  | succ D ih =>
    have hP : ∀ p, vP (D + 1) p → ∀ m, stP n p = some m → m ≤ 2 ^ (110 * (D + 1)) := by
      intro p hv m h
      cases p with
      | one d =>
        simp [stP] at h
        subst h
        exact Nat.one_le_two_pow
      | loop a b bd =>
        obtain ⟨hc, hf, hl, hb⟩ := hv
        simp only [stP] at h
        cases hq : stL n bd with
        | none => rw [hq] at h; cases h
        | some t =>
          rw [hq] at h
          have h := Option.some.inj h
          have z := ih.2 bd ⟨hl, hb⟩ t hq
          have r := rnd_le hn hc
          have z2 : t ≤ 60 * 2 ^ (110 * D) := Nat.le_trans z (Nat.mul_le_mul_right _ hl)
          have z3 : rnd n a b * t ≤ 2 ^ 104 * (60 * 2 ^ (110 * D)) := Nat.mul_le_mul (Nat.le_of_lt r) z2
          have e : (2 : Nat) ^ (110 * (D + 1)) = 2 ^ 110 * 2 ^ (110 * D) := by rw [← Nat.pow_add]; congr 1; omega
          rw [e, ← h]
          refine Nat.le_trans z3 ?_
          rw [← Nat.mul_assoc]
          exact Nat.mul_le_mul_right _ (by decide)
      | ever bd =>
        simp only [stP] at h
        split at h
        · rw [← Option.some.inj h]
          exact Nat.zero_le _
        · cases h
    exact ⟨hP, fun ps hv => list (D + 1) hP ps hv.2⟩
def optN : Option Nat → V
  | none => .non
  | some n => .int (n : Int)
def spCk0 (K : PySem.W.Frag) : Sp := fun vs H Q _ => ∃ x a b, vs = [x] ∧ Dp K H x (.tuple [.int a, .int b]) ∧ countD (.tuple [.int a, .int b]) = true ∧ Q .non H
def spNum0 : Sp := fun vs H Q _ => ∃ n, vs = [.int n] ∧ okN n ∧ Q .non H
def spRnd (K : PySem.W.Frag) : Sp := fun vs H Q _ => ∃ x a b n, vs = [x, .int n] ∧ Dp K H x (.tuple [.int a, .int b]) ∧ countD (.tuple [.int a, .int b]) = true ∧ okN n ∧ Q (.int (rnd n a b : Nat)) H
def spInn (K : PySem.W.Frag) : Sp := fun vs H Q _ => ∃ x p, vs = [x] ∧ Dp K H x (toD p) ∧ (∃ D, vP D p) ∧ (∀ d, p ≠ .one d) ∧ ∀ v, Dp K H v (.tuple (toDs (body p))) → Q v H
def spStP (K : PySem.W.Frag) (D : Nat) : Sp := fun vs H Q _ => ∃ x p n, vs = [x, .int n] ∧ Dp K H x (toD p) ∧ vP D p ∧ okN n ∧ ∀ H', Same H H' → Q (optN (stP n p)) H'
def spStL (K : PySem.W.Frag) (D : Nat) : Sp := fun vs H Q _ => ∃ x ps n, vs = [x, .int n] ∧ Dp K H x (.tuple (toDs ps)) ∧ vL D ps ∧ okN n ∧ ∀ H', Same H H' → Q (optN (stL n ps)) H'
section
variable {P : Program} {w : World} {K : PySem.W.Frag} {mg : Str → Option Value} {base : Heap}
theorem ok_num0 {f fB : Addr} {fd dB : FuncData} (F : FnP K "check_number" sNum f fd) (T : Txt K mg) (N : Def P w K mg base CX0 2 "is_between" fB dB ["thing", "low", "high"] (spBetw K)) : FnOk P w K mg base CX0 3 f fd ["n"] spNum0 := by
  refine F.ok scNum (fun vs H Q E h => ?_) (fun cdv A outer s H vs Q E hr h => ?_)
  · obtain ⟨n, rfl, _⟩ := h
    rfl
  · obtain ⟨n, rfl, ⟨n0, n1⟩, q⟩ := h
    obtain ⟨tf, hfar⟩ := T.p.far
    refine ⟨_, pss_one (ps_if (pt_not (pt_val (pe_call N.ok hr (by rfl) N.g N.k N.b .nil pass0 (pa_cons (pv 0) (pa_cons pe_int (pa_cons (pe_gI hfar (by rfl)) pa_nil)))))) pss_never pss_nil), ?_⟩
    have e0 : start ["n"] [.int n] = [some (.int n)] := rfl
    rw [e0]
    refine ⟨_, rfl, .int n, 0, _, .int n, rfl, .int n, _, rfl, ?_⟩
    rw [show betw 0 (10 ^ 30) (.int n) = true by show (decide (0 ≤ n) && decide (n ≤ 10 ^ 30)) = true; rw [decide_eq_true n0, decide_eq_true n1]; rfl]
    exact iteF q
theorem ok_ckc0 {f fB : Addr} {fd dB : FuncData} (F : FnP K "_check_count" sCkC f fd) (T : Txt K mg) (N : Def P w K mg base CX0 3 "is_count" fB dB ["thing"] (spCount K)) : FnOk P w K mg base CX0 4 f fd ["count"] (spCk0 K) := by
  refine F.ok scCkC (fun vs H Q E h => ?_) (fun cdv A outer s H vs Q E hr h => ?_)
  · obtain ⟨x, a, b, rfl, _⟩ := h
    rfl
  · obtain ⟨x, a, b, rfl, hd, hc, q⟩ := h
    refine ⟨_, pss_one (ps_if (pt_not (pt_val (pe_call N.ok hr (by rfl) N.g N.k N.b .nil pass0 (pa_cons (pv 0) pa_nil)))) pss_never pss_nil), ?_⟩
    have e0 : start ["count"] [x] = [some x] := rfl
    rw [e0]
    refine ⟨_, rfl, x, _, rfl, hd, _, rfl, ?_⟩
    rw [hc]
    exact iteF q
theorem ok_rnd {f fC fN : Addr} {fd dC dN : FuncData} (F : FnP K "rounds" sRnd f fd) (T : Txt K mg) (C : Def P w K mg base CX0 4 "_check_count" fC dC ["count"] (spCk0 K)) (N : Def P w K mg base CX0 3 "check_number" fN dN ["n"] spNum0) : FnOk P w K mg base CX0 5 f fd ["count", "n"] (spRnd K) := by
  refine F.ok scRnd (fun vs H Q E h => ?_) (fun cdv A outer s H vs Q E hr h => ?_)
  · obtain ⟨x, a, b, n, rfl, _⟩ := h
    rfl
  · obtain ⟨x, a, b, n, rfl, hd, hc, hn, q⟩ := h
    refine ⟨_, pss_cons (ps_expr (pe_call C.ok hr (by rfl) C.g C.k C.b .nil pass0 (pa_cons (pv 0) pa_nil)))
      (pss_cons (ps_expr (pe_call N.ok (hr.mono (by decide)) (by rfl) N.g N.k N.b .nil pass0 (pa_cons (pv 1) pa_nil)))
      (pss_cons (ps_asg (pv 0) (pg_tup rfl (pgs_cons (pg_name (i := 2) scRnd.nd rfl (Or.inl rfl)) (pgs_cons (pg_name (i := 3) scRnd.nd rfl (Or.inl rfl)) pgs_nil))))
      (pss_one (ps_ret (pe_callB (call_max2 rfl) (by rfl) T.max boot_max (pa_cons pe_int (pa_cons (pe_op op_add (pe_op op_mul (pv 2) (pv 1)) (pv 3)) pa_nil))))))), ?_⟩
    have e0 : start ["count", "n", "a", "b"] [x, .int n] = [some x, some (.int n), none, none] := rfl
    rw [e0]
    have hr4 : rnd n a b = (a * n + b).toNat := rfl
    obtain ⟨h1, _⟩ := Bool.and_eq_true_iff.mp (show ((decide (0 ≤ a) && decide (a ≤ 9)) && _) = true from hc)
    obtain ⟨h3, h4⟩ := Bool.and_eq_true_iff.mp h1
    have h3 := of_decide_eq_true h3
    have h4 := of_decide_eq_true h4
    obtain ⟨t, v, u, rfl, hS, g1, g2⟩ := L2.Lr.tup2D hd
    cases intDv g1
    cases intDv g2
    refine go_seq ?_
    refine ⟨_, rfl, _, a, b, rfl, hd, hc, ?_⟩
    walk_at "nx"
    refine ⟨_, rfl, n, rfl, hn, ?_⟩
    refine ⟨_, rfl, t, _, rfl, hS, rfl, _, _, rfl, _, _, rfl, rfl, ?_⟩
    refine ⟨_, rfl, _, rfl, _, _, rfl, rfl, .inl ⟨by omega, by omega⟩, _, rfl, _, _, rfl, rfl, _, _, rfl, ?_⟩
    have e : (if a * n + b > 0 then a * n + b else 0) = ((rnd n a b : Nat) : Int) := by
      rw [hr4]
      split <;> omega
    show Q (.int (if a * n + b > 0 then a * n + b else 0)) H
    rw [e]
    exact q
theorem ok_inn {f : Addr} {fd : FuncData} (F : FnP K "inner_parts" sInn f fd) : FnOk P w K mg base CX0 1 f fd ["part"] (spInn K) := by
  refine F.ok scInn (fun vs H Q E h => ?_) (fun cdv A outer s H vs Q E hr h => ?_)
  · obtain ⟨x, p, rfl, _⟩ := h
    rfl
  · obtain ⟨x, p, rfl, hd, _, ho, q⟩ := h
    refine ⟨_, pss_one (ps_ret (pe_ix ix_tup (pv 0) (pe_un un_neg pe_int) (fun _ _ => rfl))), ?_⟩
    have e0 : start ["part"] [x] = [some x] := rfl
    rw [e0]
    cases p with
    | one d => exact absurd rfl (ho d)
    | loop a b bd =>
      simp only [toD] at hd
      obtain ⟨t, xs, rfl, hS, ha⟩ := tupDv hd
      cases ha with
      | @cons v1 _ _ _ h1 ha => cases ha with
      | @cons v2 _ _ _ h2 ha => cases ha with
      | @cons v3 _ _ _ h3 ha =>
      cases ha
      exact ⟨_, rfl, _, rfl, t, _, _, _, rfl, rfl, hS, atI_last [v1, v2] v3, q v3 h3⟩
    | ever bd =>
      simp only [toD] at hd
      obtain ⟨t, xs, rfl, hS, ha⟩ := tupDv hd
      cases ha with
      | @cons v1 _ _ _ h1 ha => cases ha with
      | @cons v2 _ _ _ h2 ha =>
      cases ha
      exact ⟨_, rfl, _, rfl, t, _, _, _, rfl, rfl, hS, atI_last [v1] v2, q v2 h2⟩
theorem kind_of {D : Nat} {p : Pt} (h : vP D p) : ∃ w es, toD p = .tuple (.str w :: es) ∧ ((∃ d, p = .one d ∧ roundW w = false) ∨ (∃ a b bd, p = .loop a b bd ∧ w = "loop") ∨ ∃ bd, p = .ever bd ∧ w = "forever") := by
  cases p with
  | one d =>
    obtain ⟨w, es, rfl, hw⟩ : ∃ w es, d = .tuple (.str w :: es) ∧ roundW w = false := by cases D <;> exact h
    exact ⟨w, es, by simp [toD], .inl ⟨_, rfl, hw⟩⟩
  | loop a b bd => exact ⟨"loop", [.tuple [.int a, .int b], .tuple (toDs bd)], by simp only [toD], .inr (.inl ⟨_, _, _, rfl, rfl⟩)⟩
  | ever bd => exact ⟨"forever", [.tuple (toDs bd)], by simp only [toD], .inr (.inr ⟨_, rfl, rfl⟩)⟩
theorem log_of {m : Nat} {k : Nat} (h : m ≤ k) {e : Nat} (hk : k < 2 ^ e) : ((m : Int)).natAbs < 2 ^ e := by
  rw [Int.natAbs_natCast]
  exact Nat.lt_of_le_of_lt h hk
theorem big {D l : Nat} (hD : D ≤ 6) (hl : l ≤ 60) : l * 2 ^ (110 * D) < 2 ^ 800 := by
  have h1 : (2 : Nat) ^ (110 * D) ≤ 2 ^ 660 := Nat.pow_le_pow_right (by decide) (by omega)
  have h2 : l * 2 ^ (110 * D) ≤ 60 * 2 ^ 660 := Nat.mul_le_mul hl h1
  exact Nat.lt_of_le_of_lt h2 (by decide)
theorem ok_stP0 {f fR : Addr} {fd dR : FuncData} (F : FnP K "_steps_of_part" sStP f fd) {k : Nat} (h1 : 1 ≤ k) (R : Def P w K mg base CX0 1 "is_round" fR dR ["part"] (spRound K)) : FnOk P w K mg base CX0 (k + 1) f fd ["part", "n"] (spStP K 0) := by
  refine F.ok scStP (fun vs H Q E h => ?_) (fun cdv A outer s H vs Q E hr h => ?_)
  · obtain ⟨x, p, n, rfl, _⟩ := h
    rfl
  · obtain ⟨x, p, n, rfl, hd, hv, hn, q⟩ := h
    have hr1 : Room 1 _ := hr.mono h1
    obtain ⟨w, es, e, hk⟩ := kind_of hv
    rw [e] at hd
    refine ⟨_, pss_cons (ps_if (pt_not (pt_val (pe_call R.ok hr1 (by rfl) R.g R.k R.b .nil pass0 (pa_cons (pv 0) pa_nil)))) (pss_one (ps_ret pe_int)) pss_nil) pss_never, ?_⟩
    have e0 : start ["part", "n", "each"] [x, .int n] = [some x, some (.int n), none] := rfl
    rw [e0]
    refine go_seq ?_
    refine ⟨_, rfl, x, w, es, rfl, hd, fun H2 s2 => ⟨_, rfl, ?_⟩⟩
    rcases hk with ⟨d, rfl, hw⟩ | ⟨a, b, bd, rfl, _⟩ | ⟨bd, rfl, _⟩
    · rw [hw]
      have z := q H2 s2
      simp only [stP, optN] at z
      exact iteT z
    · exact hv.elim
    · exact hv.elim
theorem ok_stPS {D : Nat} (hD : D ≤ 5) {f fR fI fL fN : Addr} {fd dR dI dL dN : FuncData} (F : FnP K "_steps_of_part" sStP f fd) {k : Nat} (h5 : 5 ≤ k) (R : Def P w K mg base CX0 1 "is_round" fR dR ["part"] (spRound K)) (I : Def P w K mg base CX0 1 "inner_parts" fI dI ["part"] (spInn K)) (L : Def P w K mg base CX0 k "steps_of" fL dL ["parts", "n"] (spStL K D)) (N : Def P w K mg base CX0 5 "rounds" fN dN ["count", "n"] (spRnd K)) : FnOk P w K mg base CX0 (k + 1) f fd ["part", "n"] (spStP K (D + 1)) := by
  refine F.ok scStP (fun vs H Q E h => ?_) (fun cdv A outer s H vs Q E hr h => ?_)
  · obtain ⟨x, p, n, rfl, _⟩ := h
    rfl
  · obtain ⟨x, p, n, rfl, hd, hv, hn, q⟩ := h
    have hr5 : Room 5 _ := hr.mono h5
    have hr1 : Room 1 _ := hr5.mono (by decide)
    obtain ⟨w, es, e, hk⟩ := kind_of hv
    have hd' := hd
    rw [e] at hd
    refine ⟨_, pss_cons (ps_if (pt_not (pt_val (pe_call R.ok hr1 (by rfl) R.g R.k R.b .nil pass0 (pa_cons (pv 0) pa_nil)))) (pss_one (ps_ret pe_int)) pss_nil)
      (pss_cons (ps_set (i := 2) scStP.nd rfl (Or.inl rfl) (pe_call L.ok hr (by rfl) L.g L.k L.b .nil pass0 (pa_cons (pe_call I.ok hr1 (by rfl) I.g I.k I.b .nil pass0 (pa_cons (pv 0) pa_nil)) (pa_cons (pv 1) pa_nil))))
      (pss_cons (ps_if (pt_cmpR op_eq (pe_ix ix_tup (pv 0) pe_int (fun _ _ => rfl)) pe_str (nomark _)) (pss_one (ps_ret (pe_ifExp (pt_cmpR op_gt (pv 2) pe_int (nomark _)) pe_non pe_int))) pss_nil)
      (pss_one (ps_ret (pe_op op_mulW (pe_call N.ok hr5 (by rfl) N.g N.k N.b .nil pass0 (pa_cons (pe_ix ix_tup (pv 0) pe_int (fun _ _ => rfl)) (pa_cons (pv 1) pa_nil))) (pv 2)))))), ?_⟩
    have e0 : start ["part", "n", "each"] [x, .int n] = [some x, some (.int n), none] := rfl
    rw [e0]
    refine go_seq ?_
    refine ⟨_, rfl, x, w, es, rfl, hd, fun H2 s2 => ⟨_, rfl, ?_⟩⟩
    rcases hk with ⟨d, rfl, hw⟩ | ⟨a, b, bd, rfl, rfl⟩ | ⟨bd, rfl, rfl⟩
    · rw [hw]
      have z := q H2 s2
      simp only [stP, optN] at z
      exact iteT z
    · rw [show roundW "loop" = true by decide +kernel]
      refine iteF ?_
      obtain ⟨hc, hf, hl, hb⟩ := hv
      obtain ⟨u, hu⟩ := fin_stL (n := n) hf
      have hul := (st_le hn D).2 bd ⟨hl, hb⟩ u hu
      have hd2 := Dp.same s2 hd'
      walk_at "nx"
      refine ⟨_, rfl, x, .loop a b bd, rfl, hd2, ⟨D + 1, hc, hf, hl, hb⟩, (fun d z => by cases z), fun v hbv => ?_⟩
      refine ⟨_, rfl, v, bd, n, rfl, hbv, ⟨hl, hb⟩, hn, fun H3 s3 => ?_⟩
      rw [hu]
      simp only [toD] at hd2
      have hd3 := Dp.same s3 hd2
      obtain ⟨t, xs, rfl, hS, ha⟩ := tupDv hd3
      cases ha with
      | @cons v1 _ _ _ h1 ha => cases ha with
      | @cons v2 _ _ _ h2 ha => cases ha with
      | @cons v3 _ _ _ h3 ha =>
      cases ha
      cases strD h1
      refine ⟨_, rfl, t, _, _, _, rfl, rfl, hS, at0, rfl, _, rfl, ?_⟩
      refine str_if (fun z => absurd z (by decide +kernel)) fun _ => ?_
      refine ⟨_, rfl, t, _, _, _, rfl, rfl, hS, at1, _, rfl, v2, a, b, n, rfl, h2, hc, hn, ?_⟩
      refine ⟨_, rfl, _, _, rfl, rfl, wide_mul (a := 104) (b := 800) (by rw [Int.natAbs_natCast]; exact rnd_le hn hc) (log_of hul (big (by omega) hl)) (by decide) (by decide) (by decide), ?_⟩
      have z := q H3 (s2.trans s3)
      simp only [stP, hu, Option.map_some, optN] at z
      rw [Int.natCast_mul] at z
      exact z
    · rw [show roundW "forever" = true by decide +kernel]
      refine iteF ?_
      obtain ⟨hf, hl, hb⟩ := hv
      obtain ⟨u, hu⟩ := fin_stL (n := n) hf
      have hd2 := Dp.same s2 hd'
      walk_at "nx"
      refine ⟨_, rfl, x, .ever bd, rfl, hd2, ⟨D + 1, hf, hl, hb⟩, (fun d z => by cases z), fun v hbv => ?_⟩
      refine ⟨_, rfl, v, bd, n, rfl, hbv, ⟨hl, hb⟩, hn, fun H3 s3 => ?_⟩
      rw [hu]
      simp only [toD] at hd2
      have hd3 := Dp.same s3 hd2
      obtain ⟨t, xs, rfl, hS, ha⟩ := tupDv hd3
      cases ha with
      | @cons v1 _ _ _ h1 ha => cases ha with
      | @cons v2 _ _ _ h2 ha =>
      cases ha
      cases strD h1
      refine ⟨_, rfl, t, _, _, _, rfl, rfl, hS, at0, rfl, _, rfl, ?_⟩
      refine str_if (fun _ => ?_) fun z => absurd rfl z
      have z := q H3 (s2.trans s3)
      simp only [stP, hu] at z
      refine ⟨_, rfl, _, _, rfl, rfl, _, rfl, ?_⟩
      by_cases hu0 : u = 0
      · subst hu0
        rw [if_pos rfl] at z
        exact iteF z
      · rw [if_neg (fun y => hu0 (Option.some.inj y))] at z
        rw [decide_eq_true (show (0 : Int) < (u : Int) by omega)]
        exact iteT z
theorem dp_at {H : Hp} {xs : List V} {ps : List Pt} {i : Nat} {v : V} (h : DpAll K H xs (toDs ps)) (e : xs[i]? = some v) : ∃ p, ps[i]? = some p ∧ Dp K H v (toD p) := by
  obtain ⟨d, hd, hv⟩ := DpAll.at h e
  rw [toDs_map, List.getElem?_map] at hd
  cases hp : ps[i]? with
  | none => rw [hp] at hd; cases hd
  | some p =>
    rw [hp] at hd
    cases hd
    exact ⟨p, rfl, hv⟩
theorem drop_pt {ps : List Pt} {i : Nat} {p : Pt} (h : ps[i]? = some p) : ps.drop i = p :: ps.drop (i + 1) := (List.drop_eq_getElem?_toList_append ..).trans (by rw [h]; rfl)
theorem ok_stL {D : Nat} {f fS : Addr} {fd dS : FuncData} (F : FnP K "steps_of" sStL f fd) {k : Nat} (S : Def P w K mg base CX0 k "_steps_of_part" fS dS ["part", "n"] (spStP K D)) : FnOk P w K mg base CX0 (k + 1) f fd ["parts", "n"] (spStL K D) := by
  refine F.ok scStL (fun vs H Q E h => ?_) (fun cdv A outer s H vs Q E hr h => ?_)
  · obtain ⟨x, ps, n, rfl, _⟩ := h
    rfl
  · obtain ⟨x, ps, n, rfl, hd, ⟨hl, hv⟩, hn, q⟩ := h
    obtain ⟨t, xs, rfl, hS, ha⟩ := tupDv hd
    have hlx := DpAll.length ha
    rw [toDs_map, List.length_map] at hlx
    refine ⟨_, PSs.nox (pss_cons (ps_set (i := 2) scStL.nd rfl (Or.inl rfl) pe_int)
      (pss_cons (ps_for PassesOwn.never rfl (pi_tup (pv 0)) (pg_name (i := 3) scStL.nd rfl (Or.inl rfl))
        (pss_cons (ps_set (i := 4) scStL.nd rfl (Or.inl rfl) (pe_call S.ok hr (by rfl) S.g S.k S.b .nil pass0 (pa_cons (pv 3) (pa_cons (pv 1) pa_nil))))
        (pss_cons (ps_if (pt_cmpR op_isN (pv 4) pe_non (nomark _)) (pss_one (ps_ret pe_non)) pss_nil)
        (pss_one (ps_set (i := 2) scStL.nd rfl (Or.inl rfl) (pe_op op_add (pv 2) (pv 4)))))))
      (pss_one (ps_ret (pv 2))))), ?_⟩
    have e0 : start ["parts", "n", "many", "part", "more"] [V.ref t, .int n] = [some (.ref t), some (.int n), none, none, none] := rfl
    rw [e0]
    walk_at "nx"
    refine ⟨_, rfl, t, rfl, ⟨_, hS⟩, ?_⟩
    refine for_tupD (K := K) (a := t) (xs := xs) (fun i σ H' => Same H H' ∧ ∃ (m : Nat) (o3 o4 : Option V), σ = [some (.ref t), some (.int n), some (.int (m : Int)), o3, o4] ∧ stL n ps = (stL n (ps.drop i)).map fun e => m + e)
      ⟨Same.refl H, 0, none, none, rfl, by rw [List.drop_zero]; cases stL n ps <;> simp⟩ (fun i σ H' _ z => seqT z.1 hS) ?_ ?_
    · rintro D' i v σ H2 hrt hnx - - hi ⟨s2, m, o3, o4, rfl, hm⟩
      obtain ⟨p, hp, hdv⟩ := dp_at ha hi
      rw [drop_pt hp] at hm
      refine ⟨_, rfl, _, rfl, v, p, n, rfl, Dp.same s2 hdv, hv p (List.mem_of_getElem? hp), hn, fun H3 s3 => ?_⟩
      cases hs : stP n p with
      | none =>
        refine ⟨_, rfl, rfl, _, rfl, iteT ?_⟩
        simp only [stL, hs, Option.map_none] at hm
        rw [hm] at q
        rw [hrt]
        exact q H3 (s2.trans s3)
      | some r =>
        refine ⟨_, rfl, rfl, _, rfl, iteF ?_⟩
        refine ⟨_, rfl, _, rfl, _, _, rfl, rfl, hnx _ _ ⟨s2.trans s3, m + r, some v, some (optN (some r)), ?_, ?_⟩⟩
        · show _ = [some (.ref t), some (.int n), some (.int ((m + r : Nat) : Int)), some v, some (optN (some r))]
          rw [Int.natCast_add]
          rfl
        · rw [hm]
          simp only [stL, hs]
          cases stL n (ps.drop (i + 1)) <;> simp [Nat.add_assoc]
    · rintro σ H2 ⟨s2, m, o3, o4, rfl, hm⟩
      rw [List.drop_of_length_le (by omega)] at hm
      simp only [stL, Option.map_some, Nat.add_zero] at hm
      rw [hm] at q
      exact ⟨_, rfl, q H2 s2⟩
end
end L2.L70

set_option maxHeartbeats 1000000
set_option exponentiation.threshold 2000
namespace L2.L70
open PySem PySem.Spec PyProof.Rows LR L2.Lr L2.Cut
local macro_rules | `(tactic| walk_at "nx") => `(tactic| dsimp only [gName, tNext, tSeq, tAsg, List.set_cons_zero, List.set_cons_succ])
theorem fi_len {n : Int} : ∀ D : Nat, (∀ ps : List Pt, (∀ p ∈ ps, vP D p) → ∀ l, (fiL n l ps).length ≤ ps.length + 62 * D) ∧ (∀ p, vP D p → ∀ l, (frP n l p).length ≤ 62 * D) := by
  have list : ∀ D, (∀ p, vP D p → ∀ l, (frP n l p).length ≤ 62 * D) → ∀ ps : List Pt, (∀ p ∈ ps, vP D p) → ∀ l, (fiL n l ps).length ≤ ps.length + 62 * D := by
    intro D hP ps
    induction ps with
    | nil => intro _ l; simp [fiL]
    | cons p ps ih =>
      intro hv l
      have hp := hP p (hv p (List.mem_cons_self ..))
      have ih := ih fun q hq => hv q (List.mem_cons_of_mem _ hq)
      unfold fiL
      split
      · simp
      · split
        · have := hp l; rw [List.length_cons]; omega
        · split
          · have := hp l; rw [List.length_cons]; omega
          · split
            · rename_i m _ _ _
              have := ih (l - m); rw [List.length_cons, List.length_cons]; omega
            · have := ih l; rw [List.length_cons]; omega
  intro D
  induction D with
  | zero =>
    have hP : ∀ p, vP 0 p → ∀ l, (frP n l p).length ≤ 62 * 0 := by
      intro p hv l
      cases p with
      | one d => simp [frP]
      | loop a b bd => exact hv.elim
      | ever bd => exact hv.elim
    exact ⟨list 0 hP, hP⟩
  | succ D ih =>
    have hP : ∀ p, vP (D + 1) p → ∀ l, (frP n l p).length ≤ 62 * (D + 1) := by
      intro p hv l
      cases p with
      | one d => simp [frP]
      | loop a b bd =>
        obtain ⟨_, _, hl, hb⟩ := hv
        have := ih.1 bd hb (l % un n bd)
        simp only [frP, List.length_append]
        split <;> simp <;> omega
      | ever bd =>
        obtain ⟨_, hl, hb⟩ := hv
        have := ih.1 bd hb (l % un n bd)
        simp only [frP, List.length_append]
        split <;> simp <;> omega
    exact ⟨list (D + 1) hP, hP⟩
theorem catP {K : PySem.W.Frag} {H : Hp} {x y : V} {ds es : List PyData} {Q : VK} (hx : Dp K H x (.tuple ds)) (hy : Dp K H y (.tuple es)) (hz : ds.length + es.length ≤ sizeLine) (q : ∀ v H', Same H H' → Dp K H' v (.tuple (ds ++ es)) → Q v H') : rCatA K x y H Q := by
  cases hx with
  | @tup a xs _ hS ha =>
  cases hy with
  | @tup b ys _ hT hb =>
  have l1 := DpAll.length ha
  have l2 := DpAll.length hb
  refine ⟨a, b, xs, ys, rfl, rfl, hS, hT, by omega, fun z => ?_, fun _ z => ?_, fun _ _ r nr => q _ _ (same_upd nr) (.tup (SqT.of upd_same) (DpAll.append (DpAll.same (same_upd nr) ha) (DpAll.same (same_upd nr) hb)))⟩
  · subst z
    cases ha
    exact q _ _ (Same.refl H) (.tup hT hb)
  · subst z
    cases hb
    rw [List.append_nil] at q
    exact q _ _ (Same.refl H) (.tup hS ha)
theorem toDs_app (a b : List Pt) : toDs (a ++ b) = toDs a ++ toDs b := by simp [toDs_map]
theorem toDs_len (a : List Pt) : (toDs a).length = a.length := by simp [toDs_map]
def spFiL (K : PySem.W.Frag) (D : Nat) : Sp := fun vs H Q _ => ∃ x ps n l, vs = [x, .int n, .int l] ∧ Dp K H x (.tuple (toDs ps)) ∧ vL D ps ∧ okN n ∧ okN l ∧ ∀ v H', Same H H' → Dp K H' v (.tuple (toDs (fiL n l.toNat ps))) → Q v H'
def spFrP (K : PySem.W.Frag) (D : Nat) : Sp := fun vs H Q _ => ∃ x p n l, vs = [x, .int n, .int l] ∧ Dp K H x (toD p) ∧ vP D p ∧ (∀ d, p ≠ .one d) ∧ un n (body p) ≠ 0 ∧ okN n ∧ okN l ∧ ∀ v H', Same H H' → Dp K H' v (.tuple (toDs (frP n l.toNat p))) → Q v H'
section
variable {P : Program} {w : World} {K : PySem.W.Frag} {mg : Str → Option Value} {base : Heap}
theorem ok_frP0 {f : Addr} {fd : FuncData} (F : FnP K "_first_rounds" sFrP f fd) {k : Nat} : FnOk P w K mg base CX0 (k + 1) f fd ["part", "n", "left"] (spFrP K 0) := by
  refine F.ok scFrP (fun vs H Q E h => ?_) (fun cdv A outer s H vs Q E hr h => ?_)
  · obtain ⟨x, p, n, l, rfl, _⟩ := h
    rfl
  · obtain ⟨x, p, n, l, rfl, _, hv, ho, _⟩ := h
    exfalso
    cases p with
    | one d => exact ho d rfl
    | loop a b bd => exact hv.elim
    | ever bd => exact hv.elim
theorem ok_fiL {D : Nat} {f fS fR : Addr} {fd dS dR : FuncData} (hD : D ≤ 6) (F : FnP K "first_parts" sFiL f fd) {k : Nat} (S : Def P w K mg base CX0 k "_steps_of_part" fS dS ["part", "n"] (spStP K D)) (R : Def P w K mg base CX0 k "_first_rounds" fR dR ["part", "n", "left"] (spFrP K D)) : FnOk P w K mg base CX0 (k + 1) f fd ["parts", "n", "steps"] (spFiL K D) := by
  refine F.ok scFiL (fun vs H Q E h => ?_) (fun cdv A outer s H vs Q E hr h => ?_)
  · obtain ⟨x, ps, n, l, rfl, _⟩ := h
    rfl
  · obtain ⟨x, ps, n, l, rfl, hd, ⟨hl, hv⟩, hn, ⟨l0, l1⟩, q⟩ := h
    have sz : sizeLine = 16777216 := sizeLine_eq
    obtain ⟨t, xs, rfl, hS, ha⟩ := tupDv hd
    have hlx := DpAll.length ha
    rw [toDs_len] at hlx
    refine ⟨_, PSs.nox (pss_cons (ps_set (i := 3) scFiL.nd rfl (Or.inl rfl) (pe_tup pa_nil))
      (pss_cons (ps_set (i := 4) scFiL.nd rfl (Or.inl rfl) (pv 2))
      (pss_cons (ps_for PassesOwn.never rfl (pi_tup (pv 0)) (pg_name (i := 5) scFiL.nd rfl (Or.inl rfl))
        (pss_cons (ps_if (pt_cmpR op_eq (pv 4) pe_int (nomark _)) (pss_one (ps_ret (pv 3))) pss_nil)
        (pss_cons (ps_set (i := 6) scFiL.nd rfl (Or.inl rfl) (pe_call S.ok hr (by rfl) S.g S.k S.b .nil pass0 (pa_cons (pv 5) (pa_cons (pv 1) pa_nil))))
        (pss_cons (ps_if (PW.pt (pw_or (pt_cmpR op_isN (pv 6) pe_non (nomark _)) (pw_or1 (pt_cmpR op_gt (pv 6) (pv 4) (nomark _))))) (pss_one (ps_ret (pe_op op_catA (pv 3) (pe_call R.ok hr (by rfl) R.g R.k R.b .nil pass0 (pa_cons (pv 5) (pa_cons (pv 1) (pa_cons (pv 4) pa_nil))))))) pss_nil)
        (pss_one (ps_if (pt_cmpR op_gt (pv 6) pe_int (nomark _)) (pss_cons (ps_set (i := 3) scFiL.nd rfl (Or.inl rfl) (pe_op op_catA (pv 3) (pe_tup (pa_cons (pv 5) pa_nil)))) (pss_one (ps_set (i := 4) scFiL.nd rfl (Or.inl rfl) (pe_op op_sub (pv 4) (pv 6))))) pss_nil))))))
      (pss_one (ps_ret (pv 3)))))), ?_⟩
    have e0 : start NFi [V.ref t, .int n, .int l] = [some (.ref t), some (.int n), some (.int l), none, none, none, none] := rfl
    rw [e0]
    refine go_seq (go_asg ?_)
    refine ⟨by show 0 ≤ sizeLine; omega, fun k0 nk0 => ?_⟩
    have s1 := same_upd (o := .tup []) nk0
    have hk0 : Dp K (upd H k0 (.tup [])) (.ref k0) (.tuple (toDs [])) := by simp only [toDs]; exact .tup (SqT.of upd_same) .nil
    generalize upd H k0 (.tup []) = H1 at s1 hk0 ⊢
    walk_at "nx"
    refine ⟨_, rfl, ?_⟩
    refine ⟨_, rfl, t, rfl, ⟨_, seqT s1 hS⟩, ?_⟩
    refine for_tupD (K := K) (a := t) (xs := xs) (fun i σ H' => Same H H' ∧ ∃ (kp : List Pt) (kv : V) (left : Nat) (o5 o6 : Option V), σ = [some (.ref t), some (.int n), some (.int l), some kv, some (.int (left : Int)), o5, o6] ∧ Dp K H' kv (.tuple (toDs kp)) ∧ kp.length ≤ i ∧ left ≤ 10 ^ 30 ∧ fiL n l.toNat ps = kp ++ fiL n left (ps.drop i))
      ⟨s1, [], .ref k0, l.toNat, none, none, by rw [Int.toNat_of_nonneg l0], hk0, Nat.le_refl _, by omega, by rw [List.drop_zero]; rfl⟩ (fun i σ H' _ z => seqT z.1 hS) ?_ ?_
    · rintro D' i v σ H2 hrt hnx - - hi ⟨s2, kp, kv, left, o5, o6, rfl, hkv, hkl, hll, hm⟩
      obtain ⟨p, hp, hdv⟩ := dp_at ha hi
      have hvp := hv p (List.mem_of_getElem? hp)
      have hil : i < 60 := by have := (List.getElem?_eq_some_iff.mp hi).1; omega
      rw [drop_pt hp] at hm
      have hfe : fiL n left (p :: ps.drop (i + 1)) = if left = 0 then [] else match stP n p with
          | none => frP n left p
          | some m => if left < m then frP n left p else if 0 < m then p :: fiL n (left - m) (ps.drop (i + 1)) else fiL n left (ps.drop (i + 1)) := by
        conv => lhs; unfold fiL
        all_goals rfl
      rw [hfe] at hm
      walk_at "nx"
      refine ⟨_, rfl, rfl, _, rfl, L2.Lr.int_if (fun h0 => ?_) fun h0 => ?_⟩
      · rw [if_pos (by omega), List.append_nil] at hm
        rw [hm] at q
        refine ⟨_, rfl, ?_⟩
        rw [hrt]
        exact q _ _ s2 hkv
      rw [if_neg (by omega)] at hm
      refine ⟨_, rfl, _, rfl, v, p, n, rfl, Dp.same s2 hdv, hvp, hn, fun H3 s3 => ?_⟩
      have s23 := s2.trans s3
      have fin1 : (stP n p = none ∨ ∃ m, stP n p = some m ∧ left < m) → (∀ d, p ≠ .one d) ∧ un n (body p) ≠ 0 := fun hst => by
        have hone : ∀ d, p ≠ .one d := fun d z => by
          subst z
          rcases hst with z | ⟨m, z, z2⟩
          · simp [stP] at z
          · simp [stP] at z; omega
        have hun : un n (body p) ≠ 0 := by
          cases p with
          | one d => exact absurd rfl (hone d)
          | loop a b bd =>
            obtain ⟨u, hu⟩ := fin_stL (n := n) (show finL bd = true from vP_wf hvp)
            show (stL n bd).getD 0 ≠ 0
            rw [hu]
            rcases hst with z | ⟨m, z, z2⟩
            · simp [stP, hu] at z
            · simp [stP, hu] at z
              intro z3
              have z3 : u = 0 := z3
              rw [z3] at z
              simp at z
              omega
          | ever bd =>
            obtain ⟨u, hu⟩ := fin_stL (n := n) (show finL bd = true from vP_wf hvp)
            show (stL n bd).getD 0 ≠ 0
            rw [hu]
            intro z3
            have z3 : u = 0 := z3
            subst z3
            rcases hst with z | ⟨m, z, z2⟩
            · simp [stP, hu] at z
            · simp [stP, hu] at z; omega
        exact ⟨hone, hun⟩
      have fin2 : fiL n l.toNat ps = kp ++ frP n left p → ∀ u H5, Same H3 H5 → Dp K H5 u (.tuple (toDs (frP n (left : Int).toNat p))) → rCatA K kv u H5 Q := fun hfe2 u H5 s5 hu => by
        have hfl := (fi_len (n := n) D).2 p hvp left
        rw [Int.toNat_natCast] at hu
        refine catP (Dp.same (s3.trans s5) hkv) hu (by rw [toDs_len, toDs_len]; omega) fun y H6 s6 hy => ?_
        rw [hfe2, toDs_app] at q
        exact q y H6 ((s23.trans s5).trans s6) hy
      cases hs : stP n p with
      | none =>
        rw [hs] at hm
        obtain ⟨z1, z2⟩ := fin1 (.inl hs)
        refine ⟨_, rfl, rfl, _, rfl, iteT (iteT ?_)⟩
        refine ⟨_, rfl, _, rfl, _, rfl, _, rfl, v, p, n, left, rfl, Dp.same s23 hdv, hvp, z1, z2, hn, ⟨by omega, by omega⟩, fun u H5 s5 hu => ?_⟩
        rw [hrt]
        exact fin2 hm u H5 s5 hu
      | some m =>
        rw [hs] at hm
        dsimp only at hm
        refine ⟨_, rfl, rfl, _, rfl, iteF ?_⟩
        refine ⟨_, rfl, _, rfl, _, _, rfl, rfl, _, rfl, ite_dec (fun g => ?_) fun g => ?_⟩
        · rw [if_pos (by omega)] at hm
          obtain ⟨z1, z2⟩ := fin1 (.inr ⟨m, hs, by omega⟩)
          refine ⟨_, rfl, _, rfl, _, rfl, _, rfl, v, p, n, left, rfl, Dp.same s23 hdv, hvp, z1, z2, hn, ⟨by omega, by omega⟩, fun u H5 s5 hu => ?_⟩
          rw [hrt]
          exact fin2 hm u H5 s5 hu
        · rw [if_neg (by omega)] at hm
          refine ⟨_, rfl, _, _, rfl, rfl, _, rfl, ite_dec (fun g2 => ?_) fun g2 => ?_⟩
          · rw [if_pos (by omega)] at hm
            refine ⟨_, rfl, _, rfl, by show 1 ≤ sizeLine; omega, fun tp ntp => ?_⟩
            have st := same_upd (o := .tup [v]) ntp
            have hone := Dp.tup (K := K) (ds := [toD p]) (SqT.of (upd_same (H := H3) (a := tp) (o := .tup [v]))) (.cons (Dp.same (s23.trans st) hdv) .nil)
            refine catP (Dp.same (s3.trans st) hkv) hone (by rw [toDs_len]; show kp.length + 1 ≤ sizeLine; omega) fun y H6 s6 hy => ?_
            refine ⟨_, rfl, _, rfl, _, _, rfl, rfl, hnx _ _ ⟨(s23.trans st).trans s6, kp ++ [p], y, left - m, some v, some (optN (some m)), ?_, ?_, by rw [List.length_append]; exact Nat.succ_le_succ hkl, by omega, by rw [hm, List.append_assoc]; rfl⟩⟩
            · show _ = [some (.ref t), some (.int n), some (.int l), some y, some (.int ((left - m : Nat) : Int)), some v, some (optN (some m))]
              rw [Int.ofNat_sub (by omega)]
              rfl
            · rw [toDs_app]
              have e : toDs [p] = [toD p] := by simp [toDs]
              rw [e]
              exact hy
          · rw [if_neg (by omega)] at hm
            exact hnx _ _ ⟨s23, kp, kv, left, _, _, rfl, Dp.same s3 hkv, by omega, hll, hm⟩
    · rintro σ H2 ⟨s2, kp, kv, left, o5, o6, rfl, hkv, hkl, hll, hm⟩
      rw [List.drop_of_length_le (by omega)] at hm
      simp only [fiL, List.append_nil] at hm
      rw [hm] at q
      exact ⟨_, rfl, q _ H2 s2 hkv⟩
theorem divP {l u : Nat} (hu : 0 < u) (h : u < 2 ^ 800) : CDivP (l : Int) (u : Int) := by
  refine ⟨by omega, PyProof.noPylong_of_log2 ?_⟩
  rw [Int.natAbs_natCast]
  have := (Nat.log2_lt (by omega : u ≠ 0)).mpr h
  omega
theorem ok_frPS {D : Nat} (hD : D ≤ 5) {f fI fL fG : Addr} {fd dI dL dG : FuncData} (F : FnP K "_first_rounds" sFrP f fd) (T : Txt K mg) {k : Nat} (h1 : 1 ≤ k) (I : Def P w K mg base CX0 1 "inner_parts" fI dI ["part"] (spInn K)) (L : Def P w K mg base CX0 k "steps_of" fL dL ["parts", "n"] (spStL K D)) (G : Def P w K mg base CX0 k "first_parts" fG dG ["parts", "n", "steps"] (spFiL K D)) : FnOk P w K mg base CX0 (k + 1) f fd ["part", "n", "left"] (spFrP K (D + 1)) := by
  refine F.ok scFrP (fun vs H Q E h => ?_) (fun cdv A outer s H vs Q E hr h => ?_)
  · obtain ⟨x, p, n, l, rfl, _⟩ := h
    rfl
  · obtain ⟨x, p, n, l, rfl, hd, hv, ho, hun, hn, ⟨l0, l1⟩, q⟩ := h
    have sz : sizeLine = 16777216 := sizeLine_eq
    have hr1 : Room 1 _ := hr.mono h1
    refine ⟨_, PSs.nox (pss_cons (ps_set (i := 3) scFrP.nd rfl (Or.inl rfl) (pe_call I.ok hr1 (by rfl) I.g I.k I.b .nil pass0 (pa_cons (pv 0) pa_nil)))
      (pss_cons (ps_asg (pe_callB call_divmodW (by rfl) T.divmod (by decide +kernel) (pa_cons (pv 2) (pa_cons (pe_call L.ok hr (by rfl) L.g L.k L.b .nil pass0 (pa_cons (pv 3) (pa_cons (pv 1) pa_nil))) pa_nil))) (pg_tup rfl (pgs_cons (pg_name (i := 4) scFrP.nd rfl (Or.inl rfl)) (pgs_cons (pg_name (i := 5) scFrP.nd rfl (Or.inl rfl)) pgs_nil))))
      (C8.pss_cut (ps_set (i := 6) scFrP.nd rfl (Or.inl rfl) (pe_ifExp (pt_cmpR op_gt (pv 4) pe_int (nomark _)) (pe_tup (pa_cons (pe_tup (pa_cons pe_str (pa_cons (pe_tup (pa_cons pe_int (pa_cons (pv 4) pa_nil))) (pa_cons (pv 3) pa_nil)))) pa_nil)) (pe_tup pa_nil)))
      (pss_one (ps_ret (pe_op op_catA (pv 6) (pe_call G.ok hr (by rfl) G.g G.k G.b .nil pass0 (pa_cons (pv 3) (pa_cons (pv 1) (pa_cons (pv 5) pa_nil)))))))))), ?_⟩
    have e0 : start NFr [x, .int n, .int l] = [some x, some (.int n), some (.int l), none, none, none, none] := rfl
    rw [e0]
    obtain ⟨bd, u, hbd, hf, hvl, hu, hfr⟩ : ∃ bd u, body p = bd ∧ finL bd = true ∧ vL D bd ∧ stL n bd = some u ∧ ∀ left, frP n left p = (if 0 < left / u then [.loop 0 (left / u : Nat) bd] else []) ++ fiL n (left % u) bd := by
      cases p with
      | one d => exact absurd rfl (ho d)
      | loop a b bd =>
        obtain ⟨hc, hf, hl, hb⟩ := hv
        obtain ⟨u, hu⟩ := fin_stL (n := n) hf
        exact ⟨bd, u, rfl, hf, ⟨hl, hb⟩, hu, fun left => by simp only [frP, un, hu, Option.getD_some]⟩
      | ever bd =>
        obtain ⟨hf, hl, hb⟩ := hv
        obtain ⟨u, hu⟩ := fin_stL (n := n) hf
        exact ⟨bd, u, rfl, hf, ⟨hl, hb⟩, hu, fun left => by simp only [frP, un, hu, Option.getD_some]⟩
    have hu0 : 0 < u := by
      rw [hbd] at hun
      unfold un at hun
      rw [hu] at hun
      exact Nat.pos_of_ne_zero hun
    have hub := (st_le hn D).2 bd hvl u hu
    have hlb := hvl.1
    refine go_seq (go_asg ?_)
    refine ⟨_, rfl, x, p, rfl, hd, ⟨D + 1, hv⟩, ho, fun v hbv => ?_⟩
    rw [hbd] at hbv
    walk_at "nx"
    refine ⟨_, rfl, _, rfl, _, rfl, v, bd, n, rfl, hbv, hvl, hn, fun H2 s2 => ?_⟩
    rw [hu]
    obtain ⟨ln, rfl⟩ : ∃ ln : Nat, l = (ln : Int) := ⟨l.toNat, by rw [Int.toNat_of_nonneg l0]⟩
    rw [Int.toNat_natCast] at q
    refine ⟨_, _, rfl, divP hu0 (Nat.lt_of_le_of_lt hub (big (by omega) hlb)), fun t nt => ?_⟩
    have st := same_upd (o := .tup [.int ((ln : Int) / (u : Int)), .int ((ln : Int) % (u : Int))]) nt
    refine ⟨t, _, rfl, SqT.of upd_same, rfl, _, _, rfl, _, _, rfl, rfl, ?_⟩
    have hbv2 := Dp.same (s2.trans st) hbv
    generalize upd H2 t (.tup [.int ((ln : Int) / (u : Int)), .int ((ln : Int) % (u : Int))]) = H3 at st hbv2 ⊢
    have s3 := s2.trans st
    rw [← Int.natCast_ediv, ← Int.natCast_emod]
    refine ⟨fun σ' H' => ∃ hv', σ' = [some x, some (.int n), some (.int (ln : Int)), some v, some (.int ((ln / u : Nat) : Int)), some (.int ((ln % u : Nat) : Int)), some hv'] ∧ Same H H' ∧ Dp K H' hv' (.tuple (toDs (if 0 < ln / u then [.loop 0 (ln / u : Nat) bd] else []))), ?_, ?_⟩
    · refine ⟨_, rfl, _, _, rfl, rfl, _, rfl, ite_dec (fun g => ?_) fun g => ?_⟩
      · rw [if_pos (by omega)]
        refine ⟨_, rfl, by show 2 ≤ sizeLine; omega, fun t1 n1 => ⟨_, rfl, by show 3 ≤ sizeLine; omega, fun t2 n2 => ⟨by show 1 ≤ sizeLine; omega, fun t3 n3 => ?_⟩⟩⟩
        have z1 := same_upd (o := .tup [.int 0, .int ((ln / u : Nat) : Int)]) n1
        have w1 := upd_same (H := H3) (a := t1) (o := .tup [.int 0, .int ((ln / u : Nat) : Int)])
        generalize upd H3 t1 (.tup [.int 0, .int ((ln / u : Nat) : Int)]) = H4 at z1 w1 n2 n3 ⊢
        have z2 := same_upd (o := .tup [.str "loop", .ref t1, v]) n2
        have w2 := upd_same (H := H4) (a := t2) (o := .tup [.str "loop", .ref t1, v])
        generalize upd H4 t2 (.tup [.str "loop", .ref t1, v]) = H5 at z2 w2 n3 ⊢
        have z3 := same_upd (o := .tup [.ref t2]) n3
        refine ⟨_, rfl, s3.trans (z1.trans (z2.trans z3)), ?_⟩
        simp only [toDs, toD]
        have z123 := z1.trans (z2.trans z3)
        refine .tup (SqT.of upd_same) (.cons (.tup (SqT.of (z3 _ _ w2)) (.cons (.str _) (.cons (.tup (SqT.of (z3 _ _ (z2 _ _ w1))) (.cons (.int _) (.cons (.int _) .nil))) (.cons (Dp.same z123 hbv2) .nil)))) .nil)
      · rw [if_neg (by omega)]
        refine ⟨by show 0 ≤ sizeLine; omega, fun t1 n1 => ⟨_, rfl, s3.trans (same_upd n1), ?_⟩⟩
        simp only [toDs]
        exact .tup (SqT.of upd_same) .nil
    rintro σ1 H4 ⟨hv', rfl, s4, hh⟩
    have hmod : ln % u < u := Nat.mod_lt ln hu0
    refine ⟨_, rfl, _, rfl, _, rfl, _, rfl, v, bd, n, _, rfl, Dp.same s4 hbv, hvl, hn, ⟨by omega, ?_⟩, fun y H5 s5 hy => ?_⟩
    · have := Nat.mod_le ln u
      omega
    · rw [Int.toNat_natCast] at hy
      have hfl := (fi_len (n := n) D).1 bd hvl.2 (ln % u)
      refine catP (Dp.same s5 hh) hy ?_ fun z H6 s6 hz => ?_
      · rw [toDs_len, toDs_len]
        split <;> simp <;> omega
      · rw [← toDs_app, ← hfr ln] at hz
        exact q z H6 ((s4.trans s5).trans s6) hz
end
end L2.L70

set_option maxHeartbeats 1000000
set_option exponentiation.threshold 2000
namespace L2.L70
open PySem PySem.Spec PyProof.Rows LR L2.Lr L2.Cut
local macro_rules | `(tactic| walk_at "nx") => `(tactic| dsimp only [gName, tNext, tSeq, tAsg, List.set_cons_zero, List.set_cons_succ])
/-- a row of these parts -/
def RowP (K : PySem.W.Frag) (H : Hp) (v : V) (ps : List Pt) : Prop := ∃ p y m, v = .ref p ∧ RowAt K H p y m ∧ Dp K H y (.tuple (toDs ps))
theorem RowP.same {K : PySem.W.Frag} {H H' : Hp} {v : V} {ps : List Pt} (r : RowP K H v ps) (s : Same H H') : RowP K H' v ps := by
  obtain ⟨p, y, m, e, ⟨dx, h⟩, hd⟩ := r
  exact ⟨p, y, m, e, ⟨dx, s _ _ h⟩, Dp.same s hd⟩
def spCkR (K : PySem.W.Frag) : Sp := fun vs H Q E => ∃ x, vs = [x] ∧ ((∃ ps, RowP K H x ps ∧ Q .non H) ∨ (∃ ds, Dp K H x (.tuple ds) ∧ L2.Lr.Bad (CB K) x H E))
def spNumX (K : PySem.W.Frag) : Sp := fun vs H Q E => ∃ x d, vs = [x] ∧ Dp K H x d ∧ ((betw 0 (10 ^ 30) d = true ∧ Q .non H) ∨ (betw 0 (10 ^ 30) d = false ∧ L2.Lr.Bad (CN K) x H E))
def spSir (K : PySem.W.Frag) : Sp := fun vs H Q _ => ∃ x ps n, vs = [x, .int n] ∧ RowP K H x ps ∧ vL 3 ps ∧ okN n ∧ ∀ H', Same H H' → Q (optN (stL n ps)) H'
def spCut (K : PySem.W.Frag) : Sp := fun vs H Q E => ∃ x y z, vs = [x, y, z] ∧
  ((∃ ds, Dp K H x (.tuple ds) ∧ L2.Lr.Bad (CB K) x H E) ∨
   ∃ ps dy dz, RowP K H x ps ∧ Dp K H y dy ∧ Dp K H z dz ∧
    ((betw 0 (10 ^ 30) dy = false ∧ L2.Lr.Bad (CN K) y H E) ∨ (betw 0 (10 ^ 30) dy = true ∧ betw 0 (10 ^ 30) dz = false ∧ L2.Lr.Bad (CN K) z H E) ∨
     ∃ n l, dy = .int n ∧ dz = .int l ∧ okN n ∧ okN l ∧ vL 3 ps ∧ RowOk (toDs (fiL n l.toNat ps)) ∧ ∀ r H', Same H H' → H r = none → RowP K H' (.ref r) (fiL n l.toNat ps) → Q (.ref r) H'))
structure Rm2 (P : Program) (w : World) (K : PySem.W.Frag) (mg : Str → Option Value) (base : Heap) (k : Nat) (fI : Addr) (dI : FuncData) : Prop where
  m : Mk K (CR K) fI
  ok : FnOk P w K mg base CX0 k fI dI ["self", "parts"] (spRow K)
  b : Binds K dI ["self", "parts"] []
theorem passC {X : Cx} {E : XK} {W : WX} (tk : Takes X W) (h : W = fun cls d _ H => E cls d H) : Passes (L2.CX X.prog X.w) X E := passes_call tk fun cls d σ H q => by rw [h]; exact q
theorem row_go {K : PySem.W.Frag} {H : Hp} {u : V} {ps : List Pt} {Q : VK} {E : XK} (hu : Dp K H u (.tuple (toDs ps))) (ok : RowOk (toDs ps)) (q : ∀ r H', Same H H' → H r = none → RowP K H' (.ref r) ps → Q (.ref r) H') :
    ∀ x dx, H x = none → H dx = none → dx ≠ x → spRow K [.ref x, u] (upd (upd H dx (.own x)) x (.ins (CR K) dx [])) (fun v H2 => v = .non ∧ Q (.ref x) H2) E := by
  intro x dx hx hdx hne
  have sl : Same H (upd (upd H dx (.own x)) x (.ins (CR K) dx [])) := fun b o hb => (upd_ne (ne_of_none hb hx)).trans ((upd_ne (ne_of_none hb hdx)).trans hb)
  refine ⟨x, dx, u, toDs ps, rfl, upd_same, Dp.same sl hu, ok, fun H' y keep hR hy => ⟨rfl, q x H' (fun b o hb => ?_) hx ⟨x, y, _, rfl, hR, hy⟩⟩⟩
  have n1 : b ≠ x := ne_of_none hb hx
  have n2 : b ≠ dx := ne_of_none hb hdx
  exact keep b o ((upd_ne n1).trans ((upd_ne n2).trans hb)) n1
section
variable {P : Program} {w : World} {K : PySem.W.Frag} {mg : Str → Option Value} {base : Heap}
theorem ok_numX {f fB : Addr} {fd dB dV : FuncData} (F : FnP K "check_number" sNum f fd) (T : Txt K mg) (N : Def P w K mg base CX0 2 "is_between" fB dB ["thing", "low", "high"] (spBetw K)) (Z : Rm P w K mg base dV) : FnOk P w K mg base (L2.CX P w) 3 f fd ["n"] (spNumX K) := by
  refine F.ok scNum (fun vs H Q E h => ?_) (fun cdv A outer s H vs Q E hr h => ?_)
  · obtain ⟨x, d, rfl, _⟩ := h
    rfl
  · obtain ⟨x, d, rfl, hd, h⟩ := h
    obtain ⟨tf, hfar⟩ := T.p.far
    refine ⟨_, pss_one (ps_if (pt_not (pt_val (pe_call N.ok hr (by rfl) N.g N.k N.b .nil pass0 (pa_cons (pv 0) (pa_cons pe_int (pa_cons (pe_gI hfar (by rfl)) pa_nil)))))) (pss_one (ps_raise rfl (takes_of rfl rfl rfl rfl) (pmk_new sV T.xN.x T.xN.nv T.xN.iC T.tI Z.ok hr Z.b T.xN.g (pv 0) (by rfl)))) pss_nil), ?_⟩
    have e0 : start ["n"] [x] = [some x] := rfl
    rw [e0]
    refine ⟨_, rfl, x, 0, _, d, rfl, hd, _, rfl, ?_⟩
    rcases h with ⟨hb, q⟩ | ⟨hb, b⟩
    · rw [hb]
      exact iteF q
    · rw [hb]
      exact iteT ⟨_, rfl, fun dd H' s' n hx => b dd H' s' hx⟩
theorem ok_ckr {f : Addr} {fd dV : FuncData} (F : FnP K "check_row" sCkR f fd) (T : Txt K mg) (kt : PySem.W.kitOne K (.type "tuple") (.ref (CR K)) = some false) (Z : Rm P w K mg base dV) : FnOk P w K mg base (L2.CX P w) 3 f fd ["row"] (spCkR K) := by
  refine F.ok scCkR (fun vs H Q E h => ?_) (fun cdv A outer s H vs Q E hr h => ?_)
  · obtain ⟨x, rfl, _⟩ := h
    rfl
  · obtain ⟨x, rfl, h⟩ := h
    refine ⟨_, pss_one (ps_if (pt_not (pt_val (pe_callB (call_isCD T.ic) (by rfl) T.p.isn boot_isinstance (pa_cons (pv 0) (pa_cons (pe_glob (v := .ref (CR K)) (by rfl) T.gR rfl) pa_nil))))) (pss_one (ps_raise rfl (takes_of rfl rfl rfl rfl) (pmk_new sV T.xB.x T.xB.nv T.xB.iC T.tI Z.ok hr Z.b T.xB.g (pv 0) (by rfl)))) pss_nil), ?_⟩
    have e0 : start ["row"] [x] = [some x] := rfl
    rw [e0]
    rcases h with ⟨ps, ⟨p, y, m, rfl, ⟨dx, hp⟩, hy⟩, q⟩ | ⟨ds, hd, b⟩
    · exact ⟨_, rfl, _, rfl, .inr ⟨p, dx, _, rfl, hp, _, rfl, iteF q⟩⟩
    · exact ⟨_, rfl, _, rfl, .inl ⟨_, hd, kt, _, rfl, iteT ⟨_, rfl, fun dd H' s' n hx => b dd H' s' hx⟩⟩⟩
theorem ok_sir {f fC fN fL : Addr} {fd dC dN dL : FuncData} (F : FnP K "steps_in_row" sSir f fd) (T : Txt K mg) {k : Nat} (h3 : 3 ≤ k) (C : Def P w K mg base (L2.CX P w) 3 "check_row" fC dC ["row"] (spCkR K)) (N : Def P w K mg base (L2.CX P w) 3 "check_number" fN dN ["n"] (spNumX K)) (L : Def P w K mg base CX0 k "steps_of" fL dL ["parts", "n"] (spStL K 3)) : FnOk P w K mg base (L2.CX P w) (k + 1) f fd ["row", "n"] (spSir K) := by
  refine F.ok scSir (fun vs H Q E h => ?_) (fun cdv A outer s H vs Q E hr h => ?_)
  · obtain ⟨x, ps, n, rfl, _⟩ := h
    rfl
  · obtain ⟨x, ps, n, rfl, ⟨p, y, m, rfl, ⟨dx, hp⟩, hy⟩, hv, ⟨n0, n1⟩, q⟩ := h
    have hr3 : Room 3 _ := hr.mono h3
    refine ⟨_, pss_cons (ps_expr (pe_call C.ok hr3 (by rfl) C.g C.k C.b .nil (passC (takes_of rfl rfl rfl rfl) rfl) (pa_cons (pv 0) pa_nil)))
      (pss_cons (ps_expr (pe_call N.ok hr3 (by rfl) N.g N.k N.b .nil (passC (takes_of rfl rfl rfl rfl) rfl) (pa_cons (pv 1) pa_nil)))
      (pss_one (ps_ret (pe_call L.ok hr (by rfl) L.g L.k L.b .nil pass0 (pa_cons (pe_fld (pv 0) rfl) (pa_cons (pv 1) pa_nil)))))), ?_⟩
    have e0 : start ["row", "n"] [V.ref p, .int n] = [some (.ref p), some (.int n)] := rfl
    rw [e0]
    have hb : betw 0 (10 ^ 30) (.int n) = true := by
      show (decide (0 ≤ n) && decide (n ≤ 10 ^ 30)) = true
      rw [decide_eq_true n0, decide_eq_true n1]
      rfl
    refine go_seq ?_
    refine ⟨_, rfl, _, rfl, .inl ⟨ps, ⟨p, y, m, rfl, ⟨dx, hp⟩, hy⟩, ?_⟩⟩
    walk_at "nx"
    refine ⟨_, rfl, _, .int n, rfl, .int n, .inl ⟨hb, ?_⟩⟩
    refine ⟨_, rfl, p, CR K, dx, _, _, rfl, hp, T.cl, T.nP, flds_p _ _, _, rfl, y, ps, n, rfl, hy, hv, ⟨n0, n1⟩, q⟩
theorem ok_cut {f fC fN fG fI : Addr} {fd dC dN dG dI : FuncData} (F : FnP K "cut" sCut f fd) (T : Txt K mg) {k : Nat} (h17 : 17 ≤ k) (C : Def P w K mg base (L2.CX P w) 3 "check_row" fC dC ["row"] (spCkR K)) (N : Def P w K mg base (L2.CX P w) 3 "check_number" fN dN ["n"] (spNumX K)) (G : Def P w K mg base CX0 k "first_parts" fG dG ["parts", "n", "steps"] (spFiL K 3)) (M : Rm2 P w K mg base 16 fI dI) : FnOk P w K mg base (L2.CX P w) (k + 1) f fd ["row", "n", "steps"] (spCut K) := by
  refine F.ok scCut (fun vs H Q E h => ?_) (fun cdv A outer s H vs Q E hr h => ?_)
  · obtain ⟨x, y, z, rfl, _⟩ := h
    rfl
  · obtain ⟨x, y, z, rfl, h⟩ := h
    have hr17 : Room 17 _ := hr.mono h17
    have hr3 : Room 3 _ := hr17.mono (by decide)
    refine ⟨_, pss_cons (ps_expr (pe_call C.ok hr3 (by rfl) C.g C.k C.b .nil (passC (takes_of rfl rfl rfl rfl) rfl) (pa_cons (pv 0) pa_nil)))
      (pss_cons (ps_expr (pe_call N.ok hr3 (by rfl) N.g N.k N.b .nil (passC (takes_of rfl rfl rfl rfl) rfl) (pa_cons (pv 1) pa_nil)))
      (pss_cons (ps_expr (pe_call N.ok hr3 (by rfl) N.g N.k N.b .nil (passC (takes_of rfl rfl rfl rfl) rfl) (pa_cons (pv 2) pa_nil)))
      (pss_one (ps_ret (pe_make M.m M.ok hr17 (by rfl) T.gR M.b .nil pass0 (pa_cons (pe_call G.ok hr (by rfl) G.g G.k G.b .nil pass0 (pa_cons (pe_fld (pv 0) rfl) (pa_cons (pv 1) (pa_cons (pv 2) pa_nil)))) pa_nil)))))), ?_⟩
    have e0 : start ["row", "n", "steps"] [x, y, z] = [some x, some y, some z] := rfl
    rw [e0]
    refine go_seq ?_
    rcases h with ⟨ds, hd, b⟩ | ⟨ps, dy, dz, hR, hy, hz, h⟩
    · exact ⟨_, rfl, _, rfl, .inr ⟨ds, hd, b⟩⟩
    refine ⟨_, rfl, _, rfl, .inl ⟨ps, hR, ?_⟩⟩
    walk_at "nx"
    rcases h with ⟨hb, b⟩ | ⟨hb, hc, b⟩ | ⟨n, l, rfl, rfl, ⟨n0, n1⟩, ⟨l0, l1⟩, hv, ok, q⟩
    · exact ⟨_, rfl, _, dy, rfl, hy, .inr ⟨hb, b⟩⟩
    · refine ⟨_, rfl, _, dy, rfl, hy, .inl ⟨hb, ?_⟩⟩
      exact ⟨_, rfl, _, dz, rfl, hz, .inr ⟨hc, b⟩⟩
    · have hbt : ∀ i : Int, 0 ≤ i → i ≤ 10 ^ 30 → betw 0 (10 ^ 30) (.int i) = true := fun i i0 i1 => by
        show (decide (0 ≤ i) && decide (i ≤ 10 ^ 30)) = true
        rw [decide_eq_true i0, decide_eq_true i1]
        rfl
      cases intDv hy
      cases intDv hz
      obtain ⟨p, yv, m, rfl, ⟨dx, hp⟩, hyv⟩ := hR
      refine ⟨_, rfl, _, .int n, rfl, .int n, .inl ⟨hbt n n0 n1, ?_⟩⟩
      refine ⟨_, rfl, _, .int l, rfl, .int l, .inl ⟨hbt l l0 l1, ?_⟩⟩
      refine ⟨_, rfl, p, CR K, dx, _, _, rfl, hp, T.cl, T.nP, flds_p _ _, _, rfl, _, rfl, yv, ps, n, l, rfl, hyv, hv, ⟨n0, n1⟩, ⟨l0, l1⟩, fun v H2 s2 hv2 => ?_⟩
      exact row_go hv2 ok fun r H3 s3 nr hR3 => q r H3 (s2.trans s3) (by
        cases hz2 : H r with
        | none => rfl
        | some o => rw [s2 _ _ hz2] at nr; cases nr) hR3
end
end L2.L70

set_option maxHeartbeats 1000000
namespace L2.L70
open PySem PySem.Spec PyProof.Rows LR L2.Lr L2.Cut
local macro_rules | `(tactic| walk_at "rd") => `(tactic| simp only [tSeq, tAsg, gName, tIfS, tTest, tOp, tIf, tInt, rI, rI0, tVar, tC, tCB, tCons, tNil, tNext, tRet, tLst, rIxL, CPow, CMul, gSub, rSetL, rIxT,
  List.getElem?_cons_zero, List.getElem?_cons_succ, List.set_cons_zero, List.set_cons_succ, Option.some.injEq, V.int.injEq, V.ref.injEq, V.bl.injEq, V.str.injEq, List.cons.injEq, and_true, true_and, exists_and_left, exists_eq_left', exists_eq_left, exists_eq, decide_eq_true_eq, or_true, true_or, List.length_cons, List.length_nil, Nat.zero_add, Nat.reduceAdd])
local macro_rules | `(tactic| walk_at "so") => `(tactic| repeat (first | refine And.intro (by omega) ?_ | refine And.intro (by decide) ?_))
local macro_rules | `(tactic| walk_at "nx") => `(tactic| dsimp only [gName, tNext, tSeq, tAsg, List.set_cons_zero, List.set_cons_succ])
abbrev sPool : Stmt := top 54
abbrev sTake : Stmt := top 55
abbrev sLCo : Stmt := top 56
abbrev sLPa : Stmt := top 57
abbrev sLRo : Stmt := top 58
abbrev sLMa : Stmt := top 59
abbrev sLDu : Stmt := top 60
abbrev sLOp : Stmt := top 61
abbrev sLRe : Stmt := top 62
abbrev sLaw : Stmt := top 63
theorem scpo : FnScope ["_law_script", "_law_k", "_law_cell", "_law_seed"] ["_law_script", "_law_k"] (defScope sPool) := ⟨rfl, rfl, rfl, by decide +kernel, rfl, by decide +kernel, by decide +kernel⟩
theorem scta : FnScope ["_law_pool_here", "_law_many_here", "_law_found"] ["_law_pool_here", "_law_many_here"] (defScope sTake) := ⟨rfl, rfl, rfl, by decide +kernel, rfl, by decide +kernel, by decide +kernel⟩
def PoolAt (H : Hp) (p : Addr) : Prop := ∃ c s : Int, H p = some (.lst [.int c, .int s]) ∧ 0 ≤ c ∧ 0 ≤ s ∧ s < 2147483648
def Adv (p : Addr) (H H' : Hp) : Prop := ∀ b o, H b = some o → b ≠ p → H' b = some o
theorem Adv.refl {p : Addr} {H : Hp} : Adv p H H := fun _ _ h _ => h
theorem Adv.trans {p : Addr} {H H1 H2 : Hp} (a : Adv p H H1) (b : Adv p H1 H2) : Adv p H H2 := fun c o h n => b c o (a c o h n) n
theorem Adv.same {p : Addr} {H H1 H2 : Hp} (a : Adv p H H1) (b : Same H1 H2) : Adv p H H2 := fun c o h n => b c o (a c o h n)
theorem Same.adv {p : Addr} {H H1 H2 : Hp} (a : Same H H1) (b : Adv p H1 H2) : Adv p H H2 := fun c o h n => b c o (a c o h) n
theorem Adv.new {p : Addr} {H H1 : Hp} (n : H p = none) (a : Adv p H H1) : Same H H1 := fun c o h => a c o h (ne_of_none h n)
theorem PoolAt.same {H H' : Hp} {p : Addr} (h : PoolAt H p) (s : Same H H') : PoolAt H' p := by
  obtain ⟨c, s', hp, q⟩ := h
  exact ⟨c, s', s _ _ hp, q⟩
theorem Adv.gone {p t : Addr} {H H1 : Hp} (a : Adv p H H1) (hp : PoolAt H1 p) (n : H1 t = .none) : H t = .none := by
  cases e : H t with
  | none => rfl
  | some o =>
    obtain ⟨c, s, hq, _⟩ := hp
    by_cases h : t = p
    · rw [h, hq] at n
      cases n
    · rw [a t o e h] at n
      cases n
def spPool (K : PySem.W.Frag) : Sp := fun vs H Q _ => ∃ (a : Addr) (ns : List Int) (k : Int), vs = [.ref a, .int k] ∧ SqL K H a (ns.map V.int) ∧ ns.length ≤ 1000 ∧ 0 ≤ k ∧ k < 1000 ∧
  ∀ (p : Addr) (H' : Hp), H p = none → Same H H' → PoolAt H' p → Q (.ref p) H'
def spTake : Sp := fun vs H Q _ => ∃ (p : Addr) (m : Int), vs = [.ref p, .int m] ∧ PoolAt H p ∧ 0 < m ∧ m < 2 ^ 128 ∧
  ∀ (r : Int) (H' : Hp), 0 ≤ r → r < m → Adv p H H' → PoolAt H' p → Q (.int r) H'
section
variable {P : Program} {w : World} {K : PySem.W.Frag} {mg : Str → Option Value} {base : Heap}
theorem ol_pool {f : Addr} {fd : FuncData} (F : FnP K "_law_pool" sPool f fd) (T : Txt K mg) : FnOk P w K mg base CX0 1 f fd ["_law_script", "_law_k"] (spPool K) := by
  refine F.ok scpo (fun vs H Q E h => ?_) (fun cdv A outer s H vs Q E hr h => ?_)
  · obtain ⟨a, ns, k, rfl, _⟩ := h
    rfl
  · obtain ⟨a, ns, k, rfl, hS, hl, h0, h1, q⟩ := h
    refine ⟨_, pss_cons (ps_set (i := 2) scpo.nd rfl (Or.inl rfl) (pe_ifExp (pt_cmpR op_lt (pv 1) (pe_callB call_len (by rfl) T.p.len boot_len (pa_cons (pv 0) pa_nil)) (nomark _)) (pe_ix ix_list (pv 0) (pv 1) (fun _ _ => rfl)) pe_int))
      (pss_cons (ps_set (i := 3) scpo.nd rfl (Or.inl rfl) (pe_op op_mul (pe_toI T.p.int (pe_op op_add (pe_op op_add (pe_op op_mod (pe_toI T.p.int (pv 2) (by rfl)) pe_int) (pe_op op_mul (pe_op op_mul pe_int (pv 1)) (pv 1))) pe_int) (by rfl)) pe_int))
      (pss_one (ps_ret (pe_lst (pa_cons (pe_ifExp (pt_cmpR op_ge (pv 2) (pe_op op_pow pe_int pe_int) (nomark _)) (pv 2) pe_int) (pa_cons (pe_op op_add (pe_op op_mod (pe_toI T.p.int (pv 3) (by rfl)) pe_int) pe_int) pa_nil)))))), ?_⟩
    have e0 : start ["_law_script", "_law_k", "_law_cell", "_law_seed"] [V.ref a, V.int k] = [some (.ref a), some (.int k), none, none] := rfl
    rw [e0]
    have fin : ∀ (c x : Int) (p : Addr), 0 ≤ c → H p = none → Q (.ref p) (upd H p (.lst [.int c, .int (x % 2147483647 + 1)])) := fun c x p hc hp => q p _ hp (same_upd hp) ⟨c, _, upd_same, hc, by omega, by omega⟩
    walk_at "rd"
    have e2 : (10 : Int) ^ (Int.toNat 18) = 1000000000000000000 := by decide
    rw [e2]
    refine ⟨(ns.map V.int).length, Or.inl ⟨_, hS, rfl⟩, ?_⟩
    rw [List.length_map]
    split
    · rename_i hk
      obtain ⟨z, ez⟩ : ∃ z, ns[k.toNat]? = some z := ⟨_, List.getElem?_eq_getElem (by omega)⟩
      refine ⟨_, hS, .int z, ?_, z, rfl, ?_⟩
      · have e1 : k = (k.toNat : Int) := by omega
        rw [e1]
        exact atI_nat (by rw [List.getElem?_map, ez]; rfl)
      · walk_at "so"
        refine ⟨z, rfl, ?_⟩
        split
        · rename_i hz
          refine ⟨by decide, by show 2 ≤ sizeLine; decide, fun p hp => fin z _ p (by omega) hp⟩
        · exact ⟨by decide, by show 2 ≤ sizeLine; decide, fun p hp => fin 0 _ p (Int.le_refl 0) hp⟩
    · walk_at "so"
      exact fun p hp => fin 0 _ p (Int.le_refl 0) hp
theorem ol_take {f : Addr} {fd : FuncData} (F : FnP K "_law_take" sTake f fd) (T : Txt K mg) : FnOk P w K mg base CX0 1 f fd ["_law_pool_here", "_law_many_here"] spTake := by
  refine F.ok scta (fun vs H Q E h => ?_) (fun cdv A outer s H vs Q E hr h => ?_)
  · obtain ⟨a, m, rfl, _⟩ := h
    rfl
  · obtain ⟨p, m, rfl, ⟨c, s, hp, hc, hs0, hs1⟩, hm0, hm1, q⟩ := h
    refine ⟨_, pss_cons (ps_if (pt_cmpR op_gt (pe_ix ix_list (pv 0) pe_int (fun _ _ => rfl)) pe_int (nomark _))
        (pss_cons (ps_set (i := 2) scta.nd rfl (Or.inl rfl) (pe_op op_mod (pe_toI T.p.int (pe_ix ix_list (pv 0) pe_int (fun _ _ => rfl)) (by rfl)) (pv 1)))
        (pss_cons (ps_asg (pe_op op_fdivW (pe_ix ix_list (pv 0) pe_int (fun _ _ => rfl)) (pv 1)) (pg_sub (pv 0) pe_int set_list))
        (pss_one (ps_ret (pv 2))))) pss_nil)
      (pss_cons (ps_asg (pe_op op_mod (pe_toI T.p.int (pe_op op_add (pe_op op_mul (pe_ix ix_list (pv 0) pe_int (fun _ _ => rfl)) pe_int) pe_int) (by rfl)) pe_int) (pg_sub (pv 0) pe_int set_list))
      (pss_one (ps_ret (pe_op op_mod (pe_op op_fdiv (pe_op op_mod (pe_toI T.p.int (pe_op op_mul (pe_ix ix_list (pv 0) pe_int (fun _ _ => rfl)) (pe_ix ix_list (pv 0) pe_int (fun _ _ => rfl))) (by rfl)) pe_int) pe_int) (pv 1))))), ?_⟩
    have e0 : start ["_law_pool_here", "_law_many_here", "_law_found"] [V.ref p, V.int m] = [some (.ref p), some (.int m), none] := rfl
    rw [e0]
    have fin : ∀ (r c' s' : Int), 0 ≤ r → r < m → 0 ≤ c' → 0 ≤ s' → s' < 2147483648 → Q (.int r) (upd H p (.lst [.int c', .int s'])) := fun r c' s' h0 h1 hc' hs0' hs1' =>
      q r _ h0 h1 (fun b o e n => (upd_ne n).trans e) ⟨c', s', upd_same, hc', hs0', hs1'⟩
    walk_at "rd"
    refine ⟨_, SqL.of hp, _, rfl, c, rfl, ?_⟩
    split
    · refine ⟨_, SqL.of hp, _, rfl, c, rfl, hm0, _, SqL.of hp, _, rfl, c, rfl, wide_div (b := 128) hm0 (by omega) (by decide) (by decide), _, hp, 0, rfl, ?_⟩
      exact fin _ _ s (Int.emod_nonneg _ (by omega)) (Int.emod_lt_of_pos _ hm0) (Int.ediv_nonneg hc (by omega)) hs0 hs1
    · refine ⟨_, SqL.of hp, .int s, rfl, s, rfl, by omega, by decide, _, hp, 1, rfl, _, SqL.of upd_same, _, rfl, _, SqL.of upd_same, _, rfl, _, rfl, _, rfl, .inl (by omega), by decide, ⟨by decide, by decide⟩, hm0, ?_⟩
      exact fin _ c _ (Int.emod_nonneg _ (by omega)) (Int.emod_lt_of_pos _ hm0) hc (by omega) (by omega)
end
end L2.L70

set_option maxHeartbeats 1000000
namespace L2.Lr
open PySem PySem.Spec PyProof.Rows LR
theorem pd_ofI {X : Cx} {e : Expr} {te : TE} {i : Int} (h : PE X e te) (f : ∀ σ H (Q : VK), Q (.int i) H → te σ H Q) : PE X e (tDat X.K (.int i)) := pe_weak h fun σ H Q q => f σ H Q (q _ _ (Same.refl H) (.int i))
end L2.Lr
namespace L2.L70
open PySem PySem.Spec PyProof.Rows LR L2.Lr L2.Cut
local macro_rules | `(tactic| walk_at "nx") => `(tactic| dsimp only [gName, tNext, tSeq, tAsg, List.set_cons_zero, List.set_cons_succ])
theorem scco : FnScope ["_law_pool_here"] ["_law_pool_here"] (defScope sLCo) := ⟨rfl, rfl, rfl, by decide +kernel, rfl, by decide +kernel, by decide +kernel⟩
abbrev NPa : List Str := ["_law_pool_here", "_law_deep", "_law_found", "_law_turn", "_law_way"]
theorem scpa : FnScope NPa ["_law_pool_here", "_law_deep"] (defScope sLPa) := ⟨rfl, rfl, rfl, by decide +kernel, rfl, by decide +kernel, by decide +kernel⟩
def n30 : Int := 10 ^ (Int.toNat 30)
def counts : List PyData := [.tuple [.int 0, .int 0], .tuple [.int 0, .int 1], .tuple [.int 0, .int 3], .tuple [.int 1, .int 0], .tuple [.int 2, .int 1], .tuple [.int 1, .int (-3)], .tuple [.int 0, .int n30], .tuple [.int 0, .int 2]]
theorem counts_ok : (counts.all fun d => countD d && match d with | .tuple [.int _, .int _] => true | _ => false) = true := by decide +kernel
def singles : List PyData := [.tuple [.str "send", .str "c", .int 1], .tuple [.str "take", .str "d", .int 2], .tuple [.str "work", .int 7], .tuple [.str "send", .str "e", .int 9], .tuple [.str "work", .int 1]]
theorem PoolAt.ne {H : Hp} {p l : Addr} (h : PoolAt H p) (n : H l = none) : l ≠ p := by
  obtain ⟨c, s, z, _⟩ := h
  intro e
  rw [e, z] at n
  cases n
theorem PoolAt.kt {H H' : Hp} {p : Addr} (h : PoolAt H p) (s : Adv p H H') : Kt H H' := fun b o e m => by
  obtain ⟨c, s', z, _⟩ := h
  exact s b o e fun y => by
    rw [y, z] at e
    exact m _ (Option.some.inj e).symm
theorem at_pick {K : PySem.W.Frag} {H : Hp} {xs : List V} {ds : List PyData} {i : Int} (h : DpAll K H xs ds) (h0 : 0 ≤ i) (h1 : i < ds.length) : ∃ v d, atI xs i = some v ∧ d ∈ ds ∧ Dp K H v d := by
  have hl := DpAll.length h
  obtain ⟨v, hv⟩ : ∃ v, xs[i.toNat]? = some v := ⟨_, List.getElem?_eq_getElem (by omega)⟩
  obtain ⟨d, hd, hdv⟩ := DpAll.at h hv
  refine ⟨v, d, ?_, List.mem_of_getElem? hd, hdv⟩
  have e : i = (i.toNat : Int) := by omega
  rw [e]
  exact atI_nat hv
def singlesB : Bool := singles.all fun d => match d with
  | .tuple (.str w :: _) => !roundW w
  | _ => false
theorem singles_ok : singlesB = true := by decide +kernel
theorem single_v {D : Nat} {d : PyData} (h : d ∈ singles) : vP D (.one d) ∧ toD (.one d) = d := by
  have z := List.all_eq_true.mp (show singles.all _ = true from singles_ok) d h
  refine ⟨?_, by simp [toD]⟩
  have : ∃ w es, d = .tuple (.str w :: es) ∧ roundW w = false := by
    split at z
    · exact ⟨_, _, rfl, by simpa using z⟩
    · cases z
  cases D <;> exact this
theorem fin_app {ps : List Pt} {p : Pt} (h : finL ps = true) (hp : finP p = true) : finL (ps ++ [p]) = true := by
  induction ps with
  | nil => simp [finL, hp]
  | cons q ps ih =>
    simp only [finL] at h
    obtain ⟨h1, h2⟩ := Bool.and_eq_true_iff.mp h
    simp [finL, h1, ih h2]
theorem noL_one : noLAll singles = true := by decide +kernel
/-- the parts drawn are made of drawn singles -/
def dP : Nat → Pt → Prop
  | _, .one d => d ∈ singles
  | D + 1, .loop a b bd => countD (.tuple [.int a, .int b]) = true ∧ finL bd = true ∧ bd.length ≤ 2 ∧ ∀ p ∈ bd, dP D p
  | D + 1, .ever bd => finL bd = true ∧ bd.length ≤ 2 ∧ ∀ p ∈ bd, dP D p
  | 0, _ => False
theorem dP_v : ∀ {D : Nat} {p : Pt}, dP D p → vP D p
  | D, .one d, h => (single_v (D := D) (show d ∈ singles by cases D <;> exact h)).1
  | D + 1, .loop a b bd, h => ⟨h.1, h.2.1, by have := h.2.2.1; omega, fun p hp => dP_v (h.2.2.2 p hp)⟩
  | D + 1, .ever bd, h => ⟨h.1, by have := h.2.1; omega, fun p hp => dP_v (h.2.2 p hp)⟩
  | 0, .loop _ _ _, h => h.elim
  | 0, .ever _, h => h.elim
theorem noLAll_app {a b : List PyData} (h : noLAll a = true) (g : noLAll b = true) : noLAll (a ++ b) = true := by rw [noLAll_append, h, g]; rfl
mutual
theorem dP_noL : ∀ (p : Pt) (D : Nat), dP D p → noL (toD p) = true
  | .one d, D, h => by
    have h : d ∈ singles := by cases D <;> exact h
    simp only [toD]
    have z := noL_one
    revert h z
    generalize singles = l
    intro h z
    induction l with
    | nil => cases h
    | cons e l ih =>
      simp only [noLAll] at z
      obtain ⟨z1, z2⟩ := Bool.and_eq_true_iff.mp z
      cases h with
      | head => exact z1
      | tail _ h => exact ih h z2
  | .loop a b bd, D, h => by
    cases D with
    | zero => exact h.elim
    | succ D =>
      have ih := dPs_noL bd D h.2.2.2
      simp only [toD, noL, noLAll, ih]
      rfl
  | .ever bd, D, h => by
    cases D with
    | zero => exact h.elim
    | succ D =>
      have ih := dPs_noL bd D h.2.2
      simp only [toD, noL, noLAll, ih]
      rfl
theorem dPs_noL : ∀ (ps : List Pt) (D : Nat), (∀ p ∈ ps, dP D p) → noLAll (toDs ps) = true
  | [], _, _ => by simp [toDs, noLAll]
  | p :: ps, D, h => by
    simp only [toDs, noLAll]
    rw [dP_noL p D (h p (List.mem_cons_self ..)), dPs_noL ps D fun q hq => h q (List.mem_cons_of_mem _ hq)]
    rfl
end
def spLCo (K : PySem.W.Frag) : Sp := fun vs H Q _ => ∃ p : Addr, vs = [.ref p] ∧ PoolAt H p ∧ ∀ v a b H', Adv p H H' → PoolAt H' p → Dp K H' v (.tuple [.int a, .int b]) → countD (.tuple [.int a, .int b]) = true → Q v H'
def spLPa (K : PySem.W.Frag) (D : Nat) : Sp := fun vs H Q _ => ∃ p : Addr, vs = [.ref p, .int (D : Int)] ∧ PoolAt H p ∧ ∀ v ps H', Adv p H H' → PoolAt H' p → Dp K H' v (.tuple (toDs ps)) → (∀ q ∈ ps, dP D q) → finL ps = true → ps.length ≤ 2 → Q v H'
section
variable {P : Program} {w : World} {K : PySem.W.Frag} {mg : Str → Option Value} {base : Heap}
theorem ol_cnt {f fT : Addr} {fd dT : FuncData} (F : FnP K "_law_count" sLCo f fd) (N : Def P w K mg base CX0 1 "_law_take" fT dT ["_law_pool_here", "_law_many_here"] spTake) : FnOk P w K mg base CX0 2 f fd ["_law_pool_here"] (spLCo K) := by
  refine F.ok scco (fun vs H Q E h => ?_) (fun cdv A outer s H vs Q E hr h => ?_)
  · obtain ⟨p, rfl, _⟩ := h
    rfl
  · obtain ⟨p, rfl, hp, q⟩ := h
    refine ⟨_, pss_one (ps_ret (pe_ix ix_list (pd_lstL (ds := counts) (pd_cons (pd_tup (pd_cons pd_int (pd_cons pd_int pd_nil))) (pd_cons (pd_tup (pd_cons pd_int (pd_cons pd_int pd_nil))) (pd_cons (pd_tup (pd_cons pd_int (pd_cons pd_int pd_nil))) (pd_cons (pd_tup (pd_cons pd_int (pd_cons pd_int pd_nil))) (pd_cons (pd_tup (pd_cons pd_int (pd_cons pd_int pd_nil))) (pd_cons (pd_tup (pd_cons pd_int (pd_cons pd_neg pd_nil))) (pd_cons (pd_tup (pd_cons pd_int (pd_cons (pd_ofI (i := n30) (pe_op op_pow pe_int pe_int) (fun _ _ _ q => ⟨_, _, rfl, rfl, ⟨by decide, by decide, by decide⟩, q⟩)) pd_nil))) (pd_cons (pd_tup (pd_cons pd_int (pd_cons pd_int pd_nil))) pd_nil))))))))) (pe_call N.ok hr (by rfl) N.g N.k N.b .nil pass0 (pa_cons (pv 0) (pa_cons pe_int pa_nil))) (fun _ _ => rfl))), ?_⟩
    have e0 : start ["_law_pool_here"] [V.ref p] = [some (.ref p)] := rfl
    rw [e0]
    intro l vs H1 s1 hl hd
    have hp1 := hp.same s1
    have nl : l ≠ p := fun z => by
      obtain ⟨c, s', y, _⟩ := hp1
      rw [z, y] at hl
      have := DpAll.length hd
      cases hl
      cases this
    refine ⟨_, rfl, p, 8, rfl, hp1, by decide, by decide, fun r H2 r0 r1 a2 hp2 => ?_⟩
    obtain ⟨v, d, hv, hm, hdv⟩ := at_pick (DpAll.kt (hp1.kt a2) hd (by decide +kernel)) r0 (show r < (counts.length : Int) from r1)
    have hc := List.all_eq_true.mp counts_ok d hm
    obtain ⟨c1, c2⟩ := Bool.and_eq_true_iff.mp hc
    obtain ⟨a, b, rfl⟩ : ∃ a b, d = .tuple [.int a, .int b] := by
      split at c2
      · exact ⟨_, _, rfl⟩
      · cases c2
    exact ⟨l, _, r, v, rfl, rfl, SqL.of (a2 _ _ hl nl), hv, q v a b H2 (Same.adv s1 a2) hp2 hdv c1⟩
theorem ol_parts {D : Nat} {f fT fC fS : Addr} {fd dT dC dS : FuncData} (hD : D ≤ 3) (F : FnP K "_law_parts" sLPa f fd) (T : Txt K mg) {k : Nat} (h2 : 2 ≤ k) (N : Def P w K mg base CX0 1 "_law_take" fT dT ["_law_pool_here", "_law_many_here"] spTake) (C : Def P w K mg base CX0 2 "_law_count" fC dC ["_law_pool_here"] (spLCo K)) (S : D = 0 ∨ ∃ D', D = D' + 1 ∧ Def P w K mg base CX0 k "_law_parts" fS dS ["_law_pool_here", "_law_deep"] (spLPa K D')) : FnOk P w K mg base CX0 (k + 1) f fd ["_law_pool_here", "_law_deep"] (spLPa K D) := by
  refine F.ok scpa (fun vs H Q E h => ?_) (fun cdv A outer s H vs Q E hr h => ?_)
  · obtain ⟨p, rfl, _⟩ := h
    rfl
  obtain ⟨p, rfl, hp, q⟩ := h
  have sz : sizeLine = 16777216 := sizeLine_eq
  have hrk : Room k _ := hr
  have hr2 : Room 2 _ := hrk.mono h2
  have hr1 : Room 1 _ := hr2.mono (by decide)
  rcases S with rfl | ⟨D', rfl, S⟩
  · refine ⟨_, PSs.nox (pss_cons (ps_set (i := 2) scpa.nd rfl (Or.inl rfl) (pe_lst pa_nil))
      (pss_cons (ps_for PassesOwn.never rfl (pi_range1 (by rfl) T.range (pa_cons (pe_call N.ok hr1 (by rfl) N.g N.k N.b .nil pass0 (pa_cons (pv 0) (pa_cons pe_int pa_nil))) pa_nil)) (pg_name (i := 3) scpa.nd rfl (Or.inl rfl))
        (pss_cons (ps_set (i := 4) scpa.nd rfl (Or.inl rfl) (pe_call N.ok hr1 (by rfl) N.g N.k N.b .nil pass0 (pa_cons (pv 0) (pa_cons pe_int pa_nil))))
        (pss_one (ps_if (PW.pt (pw_and (pt_cmpR op_gt (pv 1) pe_int (nomark _)) (pw_and1 (pt_cmpR op_gt (pv 4) pe_int (nomark _)))))
          (pss_one (ps_expr (pe_bm PySem.F.plainAttrs_list PySem.F.slot_list_append PySem.F.type_list_append mt_append (pv 2) (pa_cons (pe_tup (pa_cons pe_str (pa_cons (pe_call C.ok hr2 (by rfl) C.g C.k C.b .nil pass0 (pa_cons (pv 0) pa_nil)) (pa_cons pe_never pa_nil)))) pa_nil))))
          (pss_one (ps_expr (pe_bm PySem.F.plainAttrs_list PySem.F.slot_list_append PySem.F.type_list_append mt_append (pv 2) (pa_cons (pe_ix ix_list (pd_lstL (ds := singles) (pd_cons (pd_tup (pd_cons pd_str (pd_cons pd_str (pd_cons pd_int pd_nil)))) (pd_cons (pd_tup (pd_cons pd_str (pd_cons pd_str (pd_cons pd_int pd_nil)))) (pd_cons (pd_tup (pd_cons pd_str (pd_cons pd_int pd_nil))) (pd_cons (pd_tup (pd_cons pd_str (pd_cons pd_str (pd_cons pd_int pd_nil)))) (pd_cons (pd_tup (pd_cons pd_str (pd_cons pd_int pd_nil))) pd_nil)))))) (pv 4) (fun _ _ => rfl)) pa_nil))))))))
      (pss_one (ps_ret (pe_callTy call_tuple_of (by rfl) T.p.tuple bbT (pa_cons (pv 2) pa_nil)))))), ?_⟩
    have e0 : start NPa [V.ref p, .int ((0 : Nat) : Int)] = [some (.ref p), some (.int ((0 : Nat) : Int)), none, none, none] := rfl
    rw [e0]
    refine go_seq (go_asg ?_)
    refine ⟨by show 0 ≤ sizeLine; omega, fun fl nfl => ?_⟩
    have sf := same_upd (o := .lst []) nfl
    have hF := upd_same (H := H) (a := fl) (o := .lst [])
    have nep := hp.ne nfl
    have hp1 := hp.same sf
    generalize upd H fl (.lst []) = H1 at sf hF hp1 ⊢
    walk_at "nx"
    refine ⟨_, rfl, p, 3, rfl, hp1, by decide, by decide, fun r H2 r0 r1 a2 hp2 => ?_⟩
    refine ⟨_, rfl, by omega, by omega, ?_⟩
    refine for_rangeD (lo := 0) (n := r.toNat) (fun i σ H' => ∃ (o3 o4 : Option V) (xs : List V) (ps : List Pt), σ = [some (.ref p), some (.int ((0 : Nat) : Int)), some (.ref fl), o3, o4] ∧ Adv p H H' ∧ PoolAt H' p ∧ H' fl = some (.lst xs) ∧ DpAll K H' xs (toDs ps) ∧ ps.length = i ∧ (∀ q ∈ ps, dP 0 q) ∧ finL ps = true)
      ⟨none, none, [], [], rfl, Same.adv sf a2, hp2, a2 _ _ hF nep, by simp only [toDs]; exact .nil, rfl, (fun q hq => by cases hq), by simp [finL]⟩ ?_ ?_
    · rintro D2 i σ H3 hrt hnx - - hi ⟨o3, o4, xs, ps, rfl, a3, hp3, hF3, hd3, hln, hv3, hf3⟩
      have push : ∀ {v : V} {q : Pt} {H5 : Hp} {o4 : Option V}, Adv p H3 H5 → PoolAt H5 p → Dp K H5 v (toD q) → dP 0 q → finP q = true → H5 fl = some (.lst xs) ∧ xs.length < sizeLine ∧ D2.nx [some (.ref p), some (.int ((0 : Nat) : Int)), some (.ref fl), some (.int (0 + (i : Int))), o4] (upd H5 fl (.lst (xs ++ [v]))) := fun {v q H5 o4} a5 hp5 hv5 hq hfq => by
        have h5 := a5 _ _ hF3 nep
        have hkt := Kt.upd (o := .lst (xs ++ [v])) h5
        have hlx := DpAll.length hd3
        rw [toDs_len] at hlx
        refine ⟨h5, by omega, hnx _ _ ⟨_, _, xs ++ [v], ps ++ [q], rfl, ?_, ?_, upd_same, ?_, by rw [List.length_append, hln]; rfl, ?_, fin_app hf3 hfq⟩⟩
        · exact fun b o hb nb => (upd_ne (ne_of_none hb nfl)).trans (a5 _ _ (a3 b o hb nb) nb)
        · obtain ⟨c', s', z, z2⟩ := hp5
          exact ⟨c', s', (upd_ne nep.symm).trans z, z2⟩
        · rw [toDs_app]
          have e : toDs [q] = [toD q] := by simp [toDs]
          rw [e]
          exact DpAll.append (DpAll.kt hkt (DpAll.kt (hp3.kt a5) hd3 (dPs_noL ps _ hv3)) (dPs_noL ps _ hv3)) (.cons (Dp.kt hkt hv5 (dP_noL q _ hq)) .nil)
        · intro y hy
          rcases List.mem_append.mp hy with m | m
          · exact hv3 y m
          · rw [List.mem_singleton.mp m]
            exact hq
      refine ⟨_, rfl, p, 5, rfl, hp3, by decide, by decide, fun wy H4 w0 w1 a4 hp4 => ?_⟩
      have leaf : ∀ {Q2 : St → Hp → Prop}, True := trivial
      refine ⟨_, rfl, _, _, rfl, rfl, _, rfl, iteF ?_⟩
      refine ⟨_, rfl, .inl ⟨rfl, _, SqL.of (a4 _ _ hF3 nep)⟩, ?_⟩
      intro l vs H5 s5 hl hd
      obtain ⟨v, d, hv, hm, hdv⟩ := at_pick hd w0 (show wy < (singles.length : Int) from w1)
      obtain ⟨_, z2⟩ := single_v (D := 0) hm
      refine ⟨_, rfl, l, _, wy, v, rfl, rfl, SqL.of hl, hv, ?_⟩
      obtain ⟨q1, q2, q3⟩ := push (q := .one d) (a4.same s5) (hp4.same s5) (by rw [z2]; exact hdv) (by first | exact hm | (cases hm)) (by simp [finP])
      exact ⟨fl, _, _, rfl, rfl, q1, q2, q3⟩
    · rintro σ H3 ⟨o3, o4, xs, ps, rfl, a3, hp3, hF3, hd3, hln, hv3, hf3⟩
      refine ⟨_, rfl, fl, xs, rfl, .inl ⟨SqL.of hF3, fun tv ntv => ?_⟩⟩
      have st := same_upd (o := .tup xs) ntv
      exact q _ ps _ (a3.same st) (hp3.same st) (.tup (SqT.of upd_same) (DpAll.same st hd3)) hv3 hf3 (by omega)
  · refine ⟨_, PSs.nox (pss_cons (ps_set (i := 2) scpa.nd rfl (Or.inl rfl) (pe_lst pa_nil))
      (pss_cons (ps_for PassesOwn.never rfl (pi_range1 (by rfl) T.range (pa_cons (pe_call N.ok hr1 (by rfl) N.g N.k N.b .nil pass0 (pa_cons (pv 0) (pa_cons pe_int pa_nil))) pa_nil)) (pg_name (i := 3) scpa.nd rfl (Or.inl rfl))
        (pss_cons (ps_set (i := 4) scpa.nd rfl (Or.inl rfl) (pe_call N.ok hr1 (by rfl) N.g N.k N.b .nil pass0 (pa_cons (pv 0) (pa_cons pe_int pa_nil))))
        (pss_one (ps_if (PW.pt (pw_and (pt_cmpR op_gt (pv 1) pe_int (nomark _)) (pw_and1 (pt_cmpR op_gt (pv 4) pe_int (nomark _)))))
          (pss_one (ps_expr (pe_bm PySem.F.plainAttrs_list PySem.F.slot_list_append PySem.F.type_list_append mt_append (pv 2) (pa_cons (pe_tup (pa_cons pe_str (pa_cons (pe_call C.ok hr2 (by rfl) C.g C.k C.b .nil pass0 (pa_cons (pv 0) pa_nil)) (pa_cons (pe_call S.ok hrk (by rfl) S.g S.k S.b .nil pass0 (pa_cons (pv 0) (pa_cons (pe_op op_sub (pv 1) pe_int) pa_nil))) pa_nil)))) pa_nil))))
          (pss_one (ps_expr (pe_bm PySem.F.plainAttrs_list PySem.F.slot_list_append PySem.F.type_list_append mt_append (pv 2) (pa_cons (pe_ix ix_list (pd_lstL (ds := singles) (pd_cons (pd_tup (pd_cons pd_str (pd_cons pd_str (pd_cons pd_int pd_nil)))) (pd_cons (pd_tup (pd_cons pd_str (pd_cons pd_str (pd_cons pd_int pd_nil)))) (pd_cons (pd_tup (pd_cons pd_str (pd_cons pd_int pd_nil))) (pd_cons (pd_tup (pd_cons pd_str (pd_cons pd_str (pd_cons pd_int pd_nil)))) (pd_cons (pd_tup (pd_cons pd_str (pd_cons pd_int pd_nil))) pd_nil)))))) (pv 4) (fun _ _ => rfl)) pa_nil))))))))
      (pss_one (ps_ret (pe_callTy call_tuple_of (by rfl) T.p.tuple bbT (pa_cons (pv 2) pa_nil)))))), ?_⟩
    have e0 : start NPa [V.ref p, .int ((D' + 1 : Nat) : Int)] = [some (.ref p), some (.int ((D' + 1 : Nat) : Int)), none, none, none] := rfl
    rw [e0]
    refine go_seq (go_asg ?_)
    refine ⟨by show 0 ≤ sizeLine; omega, fun fl nfl => ?_⟩
    have sf := same_upd (o := .lst []) nfl
    have hF := upd_same (H := H) (a := fl) (o := .lst [])
    have nep := hp.ne nfl
    have hp1 := hp.same sf
    generalize upd H fl (.lst []) = H1 at sf hF hp1 ⊢
    walk_at "nx"
    refine ⟨_, rfl, p, 3, rfl, hp1, by decide, by decide, fun r H2 r0 r1 a2 hp2 => ?_⟩
    refine ⟨_, rfl, by omega, by omega, ?_⟩
    refine for_rangeD (lo := 0) (n := r.toNat) (fun i σ H' => ∃ (o3 o4 : Option V) (xs : List V) (ps : List Pt), σ = [some (.ref p), some (.int ((D' + 1 : Nat) : Int)), some (.ref fl), o3, o4] ∧ Adv p H H' ∧ PoolAt H' p ∧ H' fl = some (.lst xs) ∧ DpAll K H' xs (toDs ps) ∧ ps.length = i ∧ (∀ q ∈ ps, dP (D' + 1) q) ∧ finL ps = true)
      ⟨none, none, [], [], rfl, Same.adv sf a2, hp2, a2 _ _ hF nep, by simp only [toDs]; exact .nil, rfl, (fun q hq => by cases hq), by simp [finL]⟩ ?_ ?_
    · rintro D2 i σ H3 hrt hnx - - hi ⟨o3, o4, xs, ps, rfl, a3, hp3, hF3, hd3, hln, hv3, hf3⟩
      have push : ∀ {v : V} {q : Pt} {H5 : Hp} {o4 : Option V}, Adv p H3 H5 → PoolAt H5 p → Dp K H5 v (toD q) → dP (D' + 1) q → finP q = true → H5 fl = some (.lst xs) ∧ xs.length < sizeLine ∧ D2.nx [some (.ref p), some (.int ((D' + 1 : Nat) : Int)), some (.ref fl), some (.int (0 + (i : Int))), o4] (upd H5 fl (.lst (xs ++ [v]))) := fun {v q H5 o4} a5 hp5 hv5 hq hfq => by
        have h5 := a5 _ _ hF3 nep
        have hkt := Kt.upd (o := .lst (xs ++ [v])) h5
        have hlx := DpAll.length hd3
        rw [toDs_len] at hlx
        refine ⟨h5, by omega, hnx _ _ ⟨_, _, xs ++ [v], ps ++ [q], rfl, ?_, ?_, upd_same, ?_, by rw [List.length_append, hln]; rfl, ?_, fin_app hf3 hfq⟩⟩
        · exact fun b o hb nb => (upd_ne (ne_of_none hb nfl)).trans (a5 _ _ (a3 b o hb nb) nb)
        · obtain ⟨c', s', z, z2⟩ := hp5
          exact ⟨c', s', (upd_ne nep.symm).trans z, z2⟩
        · rw [toDs_app]
          have e : toDs [q] = [toD q] := by simp [toDs]
          rw [e]
          exact DpAll.append (DpAll.kt hkt (DpAll.kt (hp3.kt a5) hd3 (dPs_noL ps _ hv3)) (dPs_noL ps _ hv3)) (.cons (Dp.kt hkt hv5 (dP_noL q _ hq)) .nil)
        · intro y hy
          rcases List.mem_append.mp hy with m | m
          · exact hv3 y m
          · rw [List.mem_singleton.mp m]
            exact hq
      refine ⟨_, rfl, p, 5, rfl, hp3, by decide, by decide, fun wy H4 w0 w1 a4 hp4 => ?_⟩
      have leaf : ∀ {Q2 : St → Hp → Prop}, True := trivial
      refine ⟨_, rfl, _, _, rfl, rfl, _, rfl, ?_⟩
      rw [decide_eq_true (show (0 : Int) < ((D' + 1 : Nat) : Int) by omega)]
      refine iteT ⟨_, rfl, _, _, rfl, rfl, _, rfl, ite_dec (fun g => ?_) fun g => ?_⟩
      · refine ⟨_, rfl, .inl ⟨rfl, _, SqL.of (a4 _ _ hF3 nep)⟩, ?_⟩
        refine ⟨_, rfl, p, rfl, hp4, fun vc ca cb H5 a5 hp5 hdc hcc => ?_⟩
        refine ⟨_, rfl, _, rfl, _, _, rfl, rfl, p, ?_, hp5, fun vb bs H6 a6 hp6 hdb hvb hfb hlb => ?_⟩
        · show [V.ref p, V.int (((D' + 1 : Nat) : Int) - 1)] = [V.ref p, .int (D' : Int)]
          rw [show (((D' + 1 : Nat) : Int) - 1) = (D' : Int) by omega]
        refine ⟨by show 3 ≤ sizeLine; omega, fun t3 n3 => ?_⟩
        have s3 := same_upd (o := .tup [.str "loop", vc, vb]) n3
        have a36 := (a4.trans a5).trans a6
        have hdc6 := Dp.kt (hp5.kt a6) hdc (by rfl)
        obtain ⟨q1, q2, q3⟩ := push (q := .loop ca cb bs) (v := .ref t3) (a36.same s3) (hp6.same s3) (by
          simp only [toD]
          exact .tup (SqT.of upd_same) (.cons (.str _) (.cons (Dp.same s3 hdc6) (.cons (Dp.same s3 hdb) .nil)))) ⟨hcc, hfb, hlb, hvb⟩ (by simp only [finP]; exact hfb)
        exact ⟨fl, _, _, rfl, rfl, q1, q2, q3⟩
      · refine ⟨_, rfl, .inl ⟨rfl, _, SqL.of (a4 _ _ hF3 nep)⟩, ?_⟩
        intro l vs H5 s5 hl hd
        obtain ⟨v, d, hv, hm, hdv⟩ := at_pick hd w0 (show wy < (singles.length : Int) from w1)
        obtain ⟨_, z2⟩ := single_v (D := (D' + 1)) hm
        refine ⟨_, rfl, l, _, wy, v, rfl, rfl, SqL.of hl, hv, ?_⟩
        obtain ⟨q1, q2, q3⟩ := push (q := .one d) (a4.same s5) (hp4.same s5) (by rw [z2]; exact hdv) (by first | exact hm | (cases hm)) (by simp [finP])
        exact ⟨fl, _, _, rfl, rfl, q1, q2, q3⟩
    · rintro σ H3 ⟨o3, o4, xs, ps, rfl, a3, hp3, hF3, hd3, hln, hv3, hf3⟩
      refine ⟨_, rfl, fl, xs, rfl, .inl ⟨SqL.of hF3, fun tv ntv => ?_⟩⟩
      have st := same_upd (o := .tup xs) ntv
      exact q _ ps _ (a3.same st) (hp3.same st) (.tup (SqT.of upd_same) (DpAll.same st hd3)) hv3 hf3 (by omega)
end
end L2.L70

set_option maxHeartbeats 1000000
set_option exponentiation.threshold 2000
namespace L2.L70
open PySem PySem.Spec PyProof.Rows LR L2.Lr L2.Cut
local macro_rules | `(tactic| walk_at "nx") => `(tactic| dsimp only [gName, tNext, tSeq, tAsg, List.set_cons_zero, List.set_cons_succ])
theorem scro2 : FnScope ["_law_count_here", "_law_n"] ["_law_count_here", "_law_n"] (defScope sLRo) := ⟨rfl, rfl, rfl, by decide +kernel, rfl, by decide +kernel, by decide +kernel⟩
abbrev NMa : List Str := ["_law_parts_here", "_law_n", "_law_total", "_law_part", "_law_inner"]
theorem scma : FnScope NMa ["_law_parts_here", "_law_n"] (defScope sLMa) := ⟨rfl, rfl, rfl, by decide +kernel, rfl, by decide +kernel, by decide +kernel⟩
theorem count_ab {a b : Int} (hc : countD (.tuple [.int a, .int b]) = true) : 0 ≤ a ∧ a ≤ 9 := by
  obtain ⟨h1, _⟩ := Bool.and_eq_true_iff.mp (show ((decide (0 ≤ a) && decide (a ≤ 9)) && _) = true from hc)
  obtain ⟨h3, h4⟩ := Bool.and_eq_true_iff.mp h1
  exact ⟨of_decide_eq_true h3, of_decide_eq_true h4⟩
theorem in_round {w : Str} : inV (.str w) [.str "loop", .str "forever"] = roundW w := by
  show (decide (("loop" : Str) = w) || (decide (("forever" : Str) = w) || false)) = (decide (w = "loop") || decide (w = "forever"))
  rw [Bool.or_false, decide_eq_decide.mpr (eq_comm (a := ("loop" : Str)) (b := w)), decide_eq_decide.mpr (eq_comm (a := ("forever" : Str)) (b := w))]
section
variable {P : Program} {w : World} {K : PySem.W.Frag} {mg : Str → Option Value} {base : Heap}
theorem ol_rnd {f : Addr} {fd : FuncData} (F : FnP K "_law_rounds" sLRo f fd) (T : Txt K mg) : FnOk P w K mg base CX0 1 f fd ["_law_count_here", "_law_n"] (spRnd K) := by
  refine F.ok scro2 (fun vs H Q E h => ?_) (fun cdv A outer s H vs Q E hr h => ?_)
  · obtain ⟨x, a, b, n, rfl, _⟩ := h
    rfl
  · obtain ⟨x, a, b, n, rfl, hd, hc, hn, q⟩ := h
    refine ⟨_, pss_one (ps_ret (pe_callB (call_max2 rfl) (by rfl) T.max boot_max (pa_cons pe_int (pa_cons (pe_op op_add (pe_op op_mul (pe_ix ix_tup (pv 0) pe_int (fun _ _ => rfl)) (pv 1)) (pe_ix ix_tup (pv 0) pe_int (fun _ _ => rfl))) pa_nil)))), ?_⟩
    have e0 : start ["_law_count_here", "_law_n"] [x, .int n] = [some x, some (.int n)] := rfl
    rw [e0]
    obtain ⟨h3, h4⟩ := count_ab hc
    obtain ⟨t, v, u, rfl, hS, g1, g2⟩ := L2.Lr.tup2D hd
    cases intDv g1
    cases intDv g2
    refine ⟨_, rfl, t, _, _, _, rfl, rfl, hS, at0, _, rfl, _, _, rfl, rfl, .inl ⟨by omega, by omega⟩, _, rfl, t, _, _, _, rfl, rfl, hS, at1, _, _, rfl, rfl, _, _, rfl, ?_⟩
    have e : (if a * n + b > 0 then a * n + b else 0) = ((rnd n a b : Nat) : Int) := by
      show _ = (((a * n + b).toNat : Nat) : Int)
      split <;> omega
    show Q (.int (if a * n + b > 0 then a * n + b else 0)) H
    rw [e]
    exact q
theorem ol_many {D : Nat} (hD : D ≤ 4) {f fR fS : Addr} {fd dR dS : FuncData} (F : FnP K "_law_many" sLMa f fd) (T : Txt K mg) {k : Nat} (h1 : 1 ≤ k) (N : Def P w K mg base CX0 1 "_law_rounds" fR dR ["_law_count_here", "_law_n"] (spRnd K)) {spR : Sp} (hS : ∀ D0, D = D0 + 1 → spR = spStL K D0) (S : Def P w K mg base CX0 k "_law_many" fS dS ["_law_parts_here", "_law_n"] spR) : FnOk P w K mg base CX0 (k + 1) f fd ["_law_parts_here", "_law_n"] (spStL K D) := by
  refine F.ok scma (fun vs H Q E h => ?_) (fun cdv A outer s H vs Q E hr h => ?_)
  · obtain ⟨x, ps, n, rfl, _⟩ := h
    rfl
  · obtain ⟨x, ps, n, rfl, hd, ⟨hl, hv⟩, hn, q⟩ := h
    have sz : sizeLine = 16777216 := sizeLine_eq
    have hr1 : Room 1 _ := hr.mono h1
    obtain ⟨t, xs, rfl, hS, ha⟩ := tupDv hd
    have hlx := DpAll.length ha
    rw [toDs_len] at hlx
    refine ⟨_, PSs.nox (pss_cons (ps_set (i := 2) scma.nd rfl (Or.inl rfl) pe_int)
      (pss_cons (ps_for PassesOwn.never rfl (pi_tup (pv 0)) (pg_name (i := 3) scma.nd rfl (Or.inl rfl))
        (pss_one (ps_if (pt_cmpR op_in_seq (pe_ix ix_tup (pv 3) pe_int (fun _ _ => rfl)) (pe_lst (pa_cons pe_str (pa_cons pe_str pa_nil))) (by rfl))
          (pss_cons (ps_set (i := 4) scma.nd rfl (Or.inl rfl) (pe_call S.ok hr (by rfl) S.g S.k S.b .nil pass0 (pa_cons (pe_ix ix_tup (pv 3) (pe_un un_neg pe_int) (fun _ _ => rfl)) (pa_cons (pv 1) pa_nil))))
          (pss_cons (ps_if (PW.pt (pw_and (pt_cmpR op_eq (pe_ix ix_tup (pv 3) pe_int (fun _ _ => rfl)) pe_str (nomark _)) (pw_and1 (pt_cmpR op_ne (pv 4) pe_int (nomark _))))) (pss_one (ps_ret pe_non)) pss_nil)
          (pss_one (ps_if (pt_cmpR op_eq (pe_ix ix_tup (pv 3) pe_int (fun _ _ => rfl)) pe_str (nomark _)) (pss_one (ps_set (i := 2) scma.nd rfl (Or.inl rfl) (pe_op op_add (pv 2) (pe_op op_mulW (pv 4) (pe_call N.ok hr1 (by rfl) N.g N.k N.b .nil pass0 (pa_cons (pe_ix ix_tup (pv 3) pe_int (fun _ _ => rfl)) (pa_cons (pv 1) pa_nil))))))) pss_nil))))
          (pss_one (ps_set (i := 2) scma.nd rfl (Or.inl rfl) (pe_op op_add (pv 2) pe_int))))))
      (pss_one (ps_ret (pv 2))))), ?_⟩
    have e0 : start NMa [V.ref t, .int n] = [some (.ref t), some (.int n), none, none, none] := rfl
    rw [e0]
    walk_at "nx"
    refine ⟨_, rfl, t, rfl, ⟨_, hS⟩, ?_⟩
    refine for_tupD (K := K) (a := t) (xs := xs) (fun i σ H' => Same H H' ∧ ∃ (m : Nat) (o3 o4 : Option V), σ = [some (.ref t), some (.int n), some (.int (m : Int)), o3, o4] ∧ stL n ps = (stL n (ps.drop i)).map fun e => m + e)
      ⟨Same.refl H, 0, none, none, rfl, by rw [List.drop_zero]; cases stL n ps <;> simp⟩ (fun i σ H' _ z => seqT z.1 hS) ?_ ?_
    · rintro D' i v σ H2 hrt hnx - - hi ⟨s2, m, o3, o4, rfl, hm⟩
      obtain ⟨p, hp, hdv⟩ := dp_at ha hi
      have hvp := hv p (List.mem_of_getElem? hp)
      rw [drop_pt hp] at hm
      obtain ⟨wd, es, e, hk⟩ := kind_of hvp
      have hd2 := Dp.same s2 hdv
      rw [e] at hd2
      obtain ⟨tp, u, us, rfl, hS3, h1', h2'⟩ := L2.Lr.tupD hd2
      cases strD h1'
      refine ⟨_, rfl, tp, _, _, _, rfl, rfl, hS3, at0, by show 2 ≤ sizeLine; omega, fun lo nlo => ?_⟩
      have so := same_upd (o := .lst [.str "loop", .str "forever"]) nlo
      refine ⟨lo, _, rfl, .inl (SqL.of upd_same), rfl, by rfl, _, rfl, ?_⟩
      rw [in_round]
      have s3 := s2.trans so
      have hS3 := seqT so hS3
      have hdv3 := Dp.same s3 hdv
      generalize upd H2 lo (.lst [.str "loop", .str "forever"]) = H3 at so s3 hS3 hdv3 ⊢
      have next : ∀ {m' : Nat} {o3 o4 : Option V} {H5 : Hp} {r : Nat}, Same H H5 → stP n p = some r → m' = m + r → D'.nx [some (.ref t), some (.int n), some (.int (m' : Int)), o3, o4] H5 := fun {m' o3 o4 H5 r} s5 hs hm' => hnx _ _ ⟨s5, m', o3, o4, rfl, by
        rw [hm, hm']
        simp only [stL, hs]
        cases stL n (ps.drop (i + 1)) <;> simp [Nat.add_assoc]⟩
      rcases hk with ⟨d, rfl, hw⟩ | ⟨a, b, bd, rfl, rfl⟩ | ⟨bd, rfl, rfl⟩
      · rw [hw]
        refine iteF ⟨_, rfl, _, _, rfl, rfl, ?_⟩
        exact next (m' := m + 1) (r := 1) s3 (by simp [stP]) rfl
      · rw [show roundW "loop" = true by decide +kernel]
        refine iteT ?_
        cases D with
        | zero => exact hvp.elim
        | succ D0 =>
        cases hS D0 rfl
        obtain ⟨hc, hf, hlb, hb⟩ := hvp
        obtain ⟨u', hu⟩ := fin_stL (n := n) hf
        have hub := (st_le hn D0).2 bd ⟨hlb, hb⟩ u' hu
        simp only [toD] at hdv3
        obtain ⟨tp', xs', e', hS', ha'⟩ := tupDv hdv3
        cases e'
        cases ha' with
        | @cons v1 _ _ _ g1 ha' => cases ha' with
        | @cons v2 _ _ _ g2 ha' => cases ha' with
        | @cons v3 _ _ _ g3 ha' =>
        cases ha'
        cases strD g1
        refine ⟨_, rfl, _, rfl, tp, _, _, _, rfl, rfl, hS', atI_last [.str "loop", v2] v3, _, rfl, v3, bd, n, rfl, g3, ⟨hlb, hb⟩, hn, fun H4 s4 => ?_⟩
        rw [hu]
        have hS4 := seqT s4 hS'
        have g2' := Dp.same s4 g2
        refine ⟨_, rfl, tp, _, _, _, rfl, rfl, hS4, at0, rfl, _, rfl, L2.Lr.str_if (fun z => absurd z (by decide +kernel)) fun _ => ?_⟩
        refine iteF ?_
        refine ⟨_, rfl, tp, _, _, _, rfl, rfl, hS4, at0, rfl, _, rfl, L2.Lr.str_if (fun _ => ?_) fun z => absurd rfl z⟩
        refine ⟨_, rfl, _, rfl, _, rfl, tp, _, _, _, rfl, rfl, hS4, at1, _, rfl, v2, a, b, n, rfl, g2', hc, hn, ?_⟩
        refine ⟨_, _, rfl, rfl, wide_mul (a := 800) (b := 104) (log_of hub (big (by omega) hlb)) (by rw [Int.natAbs_natCast]; exact rnd_le hn hc) (by decide) (by decide) (by decide), _, _, rfl, rfl, ?_⟩
        have e : ((m : Int) + (u' : Int) * ((rnd n a b : Nat) : Int)) = ((m + rnd n a b * u' : Nat) : Int) := by
          rw [Int.natCast_add, Int.natCast_mul, Int.mul_comm]
        have z := next (o3 := some (.ref tp)) (o4 := some (.int (u' : Int))) (s3.trans s4) (show stP n (.loop a b bd) = some (rnd n a b * u') by simp [stP, hu]) rfl
        rw [← e] at z
        exact z
      · rw [show roundW "forever" = true by decide +kernel]
        refine iteT ?_
        cases D with
        | zero => exact hvp.elim
        | succ D0 =>
        cases hS D0 rfl
        obtain ⟨hf, hlb, hb⟩ := hvp
        obtain ⟨u', hu⟩ := fin_stL (n := n) hf
        simp only [toD] at hdv3
        obtain ⟨tp', xs', e', hS', ha'⟩ := tupDv hdv3
        cases e'
        cases ha' with
        | @cons v1 _ _ _ g1 ha' => cases ha' with
        | @cons v2 _ _ _ g2 ha' =>
        cases ha'
        cases strD g1
        refine ⟨_, rfl, _, rfl, tp, _, _, _, rfl, rfl, hS', atI_last [.str "forever"] v2, _, rfl, v2, bd, n, rfl, g2, ⟨hlb, hb⟩, hn, fun H4 s4 => ?_⟩
        rw [hu]
        have hS4 := seqT s4 hS'
        refine ⟨_, rfl, tp, _, _, _, rfl, rfl, hS4, at0, rfl, _, rfl, L2.Lr.str_if (fun _ => ?_) fun z => absurd rfl z⟩
        refine ⟨_, rfl, rfl, _, rfl, L2.Lr.int_ne (fun h0 => ?_) fun h0 => ?_⟩
        · have hs : stP n (.ever bd) = none := by
            simp only [stP, hu]
            rw [if_neg (fun y => h0 (by rw [Option.some.inj y]; rfl))]
          simp only [stL, hs, Option.map_none] at hm
          rw [hm] at q
          rw [hrt]
          exact q H4 (s3.trans s4)
        · have hu0 : u' = 0 := by omega
          subst hu0
          refine ⟨_, rfl, tp, _, _, _, rfl, rfl, hS4, at0, rfl, _, rfl, L2.Lr.str_if (fun z => absurd z (by decide +kernel)) fun _ => ?_⟩
          exact next (m' := m) (r := 0) (s3.trans s4) (by simp [stP, hu]) rfl
    · rintro σ H2 ⟨s2, m, o3, o4, rfl, hm⟩
      rw [List.drop_of_length_le (by omega)] at hm
      simp only [stL, Option.map_some, Nat.add_zero] at hm
      rw [hm] at q
      exact ⟨_, rfl, q H2 s2⟩
end
end L2.L70

set_option maxHeartbeats 1000000
set_option exponentiation.threshold 2000
namespace L2.L70
open PySem PySem.Spec PyProof.Rows LR L2.Lr L2.Cut
local macro_rules | `(tactic| walk_at "nx") => `(tactic| dsimp only [gName, tNext, tSeq, tAsg, List.set_cons_zero, List.set_cons_succ])
abbrev NOp : List Str := ["_law_parts_here", "_law_n", "_law_most", "_law_found", "_law_part", "_law_many_here", "_law_inner"]
theorem scop : FnScope NOp ["_law_parts_here", "_law_n", "_law_most"] (defScope sLOp) := ⟨rfl, rfl, rfl, by decide +kernel, rfl, by decide +kernel, by decide +kernel⟩
theorem cutV_to {xs : List V} {r : Int} (h0 : 0 ≤ r) : cutV xs none (some r) = xs.take r.toNat := by
  unfold cutV HT.sIx
  dsimp only
  rw [if_neg (by omega), List.drop_zero, Nat.sub_zero]
  by_cases h : r.toNat ≤ xs.length
  · rw [Nat.min_eq_left h]
  · rw [Nat.min_eq_right (by omega), List.take_of_length_le (Nat.le_refl _), List.take_of_length_le (by omega)]
theorem noLAll_rep {ds : List PyData} (h : noLAll ds = true) : ∀ n : Nat, noLAll (List.replicate n ds).flatten = true
  | 0 => by simp [noLAll]
  | n + 1 => by
    rw [List.replicate_succ, List.flatten_cons]
    exact noLAll_app h (noLAll_rep h n)
theorem noLAll_take {ds : List PyData} (h : noLAll ds = true) : ∀ n : Nat, noLAll (ds.take n) = true := by
  induction ds with
  | nil => intro n; simp [noLAll]
  | cons d ds ih =>
    intro n
    simp only [noLAll] at h
    obtain ⟨h1, h2⟩ := Bool.and_eq_true_iff.mp h
    cases n with
    | zero => simp [noLAll]
    | succ n => simp only [List.take_succ_cons, noLAll]; rw [h1, ih h2 n]; rfl
theorem Same.gone2 {H H' : Hp} {r : Addr} (s : Same H H') (n : H' r = none) : H r = none := by
  cases z : H r with
  | none => rfl
  | some o => rw [s _ _ z] at n; cases n
def spLOp (K : PySem.W.Frag) (D : Nat) : Sp := fun vs H Q _ => ∃ x ps n, vs = [x, .int n, .int 60] ∧ Dp K H x (.tuple (toDs ps)) ∧ (∀ q ∈ ps, dP D q) ∧ ps.length ≤ 60 ∧ okN n ∧ ∀ l xs H', Same H H' → H l = .none → H' l = some (.lst xs) → DpAll K H' xs (opL n 60 [] ps) → noLAll (opL n 60 [] ps) = true → Q (.ref l) H'
section
variable {P : Program} {w : World} {K : PySem.W.Frag} {mg : Str → Option Value} {base : Heap}
theorem ol_open {D : Nat} (hD : D ≤ 4) {f fR fM fS : Addr} {fd dR dM dS : FuncData} (F : FnP K "_law_opened" sLOp f fd) (T : Txt K mg) {k : Nat} (h1 : 1 ≤ k) (N : Def P w K mg base CX0 1 "_law_rounds" fR dR ["_law_count_here", "_law_n"] (spRnd K)) (M : Def P w K mg base CX0 k "_law_many" fM dM ["_law_parts_here", "_law_n"] (spStL K (D - 1))) {spR : Sp} (hS : ∀ D0, D = D0 + 1 → spR = spLOp K D0) (S : Def P w K mg base CX0 k "_law_opened" fS dS ["_law_parts_here", "_law_n", "_law_most"] spR) : FnOk P w K mg base CX0 (k + 1) f fd ["_law_parts_here", "_law_n", "_law_most"] (spLOp K D) := by
  refine F.ok scop (fun vs H Q E h => ?_) (fun cdv A outer s H vs Q E hr h => ?_)
  · obtain ⟨x, ps, n, rfl, _⟩ := h
    rfl
  · obtain ⟨x, ps, n, rfl, hd, hv, hl, hn, q⟩ := h
    have sz : sizeLine = 16777216 := sizeLine_eq
    have hr1 : Room 1 _ := hr.mono h1
    obtain ⟨t, xs, rfl, hS, ha⟩ := tupDv hd
    have hlx := DpAll.length ha
    rw [toDs_len] at hlx
    refine ⟨_, PSs.nox (pss_cons (ps_set (i := 3) scop.nd rfl (Or.inl rfl) (pe_lst pa_nil))
      (pss_cons (ps_for PassesOwn.never rfl (pi_tup (pv 0)) (pg_name (i := 4) scop.nd rfl (Or.inl rfl))
        (C8.pss_cut (ps_if (pt_cmpR op_notIn_seq (pe_ix ix_tup (pv 4) pe_int (fun _ _ => rfl)) (pe_lst (pa_cons pe_str (pa_cons pe_str pa_nil))) (by rfl))
          (pss_one (ps_expr (pe_bm PySem.F.plainAttrs_list PySem.F.slot_list_append PySem.F.type_list_append mt_append (pv 3) (pa_cons (pv 4) pa_nil))))
          (pss_one (ps_if (pt_cmpR op_ne (pe_call M.ok hr (by rfl) M.g M.k M.b .nil pass0 (pa_cons (pe_ix ix_tup (pv 4) (pe_un un_neg pe_int) (fun _ _ => rfl)) (pa_cons (pv 1) pa_nil))) pe_int (nomark _))
            (C8.pss_cut (ps_set (i := 5) scop.nd rfl (Or.inl rfl) (pe_ifExp (pt_cmpR op_eq (pe_ix ix_tup (pv 4) pe_int (fun _ _ => rfl)) pe_str (nomark _)) (pv 2) (pe_callB (call_min2 rfl) (by rfl) T.min boot_min (pa_cons (pv 2) (pa_cons (pe_call N.ok hr1 (by rfl) N.g N.k N.b .nil pass0 (pa_cons (pe_ix ix_tup (pv 4) pe_int (fun _ _ => rfl)) (pa_cons (pv 1) pa_nil))) pa_nil)))))
            (C8.pss_cut (ps_set (i := 6) scop.nd rfl (Or.inl rfl) (pe_ifExp (pt_cmpR op_gt (pv 5) pe_int (nomark _)) (pe_call S.ok hr (by rfl) S.g S.k S.b .nil pass0 (pa_cons (pe_ix ix_tup (pv 4) (pe_un un_neg pe_int) (fun _ _ => rfl)) (pa_cons (pv 1) (pa_cons (pv 2) pa_nil)))) (pe_lst pa_nil)))
            (pss_one (ps_set (i := 3) scop.nd rfl (Or.inl rfl) (pe_op op_cat (pv 3) (pe_op op_rep (pv 6) (pe_ifExp (pt_cmpR op_lt (pe_callB call_len_seq (by rfl) T.p.len boot_len (pa_cons (pv 6) pa_nil)) (pv 2) (nomark _)) (pv 5) (pe_callB (call_min2 rfl) (by rfl) T.min boot_min (pa_cons pe_int (pa_cons (pv 5) pa_nil)))))))))) pss_nil)))
        (pss_one (ps_if (pt_cmpR op_ge (pe_callB call_len_seq (by rfl) T.p.len boot_len (pa_cons (pv 3) pa_nil)) (pv 2) (nomark _)) (pss_one (ps_ret (pe_slice sl_list (pv 3) po_none (po_some (pv 2))))) pss_nil))))
      (pss_one (ps_ret (pv 3))))), ?_⟩
    have e0 : start NOp [V.ref t, .int n, .int 60] = [some (.ref t), some (.int n), some (.int 60), none, none, none, none] := rfl
    rw [e0]
    refine go_seq (go_asg ?_)
    refine ⟨by show 0 ≤ sizeLine; omega, fun f0 nf0 => ?_⟩
    have s1 := same_upd (o := .lst []) nf0
    have hF := upd_same (H := H) (a := f0) (o := .lst [])
    generalize upd H f0 (.lst []) = H1 at s1 hF ⊢
    walk_at "nx"
    refine ⟨_, rfl, t, rfl, ⟨_, seqT s1 hS⟩, ?_⟩
    refine for_tupD (K := K) (a := t) (xs := xs) (fun i σ H' => Same H H' ∧ ∃ (fl : Addr) (ys : List V) (fd : List PyData) (o4 o5 o6 : Option V), σ = [some (.ref t), some (.int n), some (.int 60), some (.ref fl), o4, o5, o6] ∧ H fl = .none ∧ H' fl = some (.lst ys) ∧ DpAll K H' ys fd ∧ noLAll fd = true ∧ fd.length < 60 ∧ opL n 60 [] ps = opL n 60 fd (ps.drop i))
      ⟨s1, f0, [], [], none, none, none, rfl, nf0, hF, .nil, rfl, by decide, by rw [List.drop_zero]⟩ (fun i σ H' _ z => seqT z.1 hS) ?_ ?_
    · rintro D' i v σ H2 hrt hnx - - hi ⟨s2, fl, ys, fd, o4, o5, o6, rfl, nfl, hF2, hd2, hno, hlt, hm⟩
      obtain ⟨p, hp, hdv⟩ := dp_at ha hi
      have hvp := hv p (List.mem_of_getElem? hp)
      rw [drop_pt hp] at hm
      have hop : opL n 60 fd (p :: ps.drop (i + 1)) = if 60 ≤ (fd ++ pcP n 60 p).length then (fd ++ pcP n 60 p).take 60 else opL n 60 (fd ++ pcP n 60 p) (ps.drop (i + 1)) := by
        conv => lhs; unfold opL
      rw [hop] at hm
      have hyl := DpAll.length hd2
      refine ⟨fun σ' H' => Same H H' ∧ ∃ (fl : Addr) (ys : List V) (o5 o6 : Option V), σ' = [some (.ref t), some (.int n), some (.int 60), some (.ref fl), some v, o5, o6] ∧ H fl = .none ∧ H' fl = some (.lst ys) ∧ DpAll K H' ys (fd ++ pcP n 60 p) ∧ noLAll (fd ++ pcP n 60 p) = true ∧ (fd ++ pcP n 60 p).length ≤ 5000, ?_, ?_⟩
      · obtain ⟨wd, es, e, hk⟩ := kind_of (dP_v hvp)
        have hdv2 := Dp.same s2 hdv
        have hd2' := hdv2
        rw [e] at hd2'
        obtain ⟨tp, u, us, rfl, hS3, h1', h2'⟩ := L2.Lr.tupD hd2'
        cases strD h1'
        refine ⟨_, rfl, tp, _, _, _, rfl, rfl, hS3, at0, by show 2 ≤ sizeLine; omega, fun lo nlo => ?_⟩
        have so := same_upd (o := .lst [.str "loop", .str "forever"]) nlo
        refine ⟨lo, _, rfl, .inl (SqL.of upd_same), rfl, by rfl, _, rfl, ?_⟩
        show if (!inV (.str wd) [.str "loop", .str "forever"]) = true then _ else _
        rw [in_round]
        have s3 := s2.trans so
        have hS3 := seqT so hS3
        have hdv3 := Dp.same so hdv2
        have hF3 := so _ _ hF2
        have hd3 := DpAll.same so hd2
        generalize upd H2 lo (.lst [.str "loop", .str "forever"]) = H3 at so s3 hS3 hdv3 hF3 hd3 ⊢
        rcases hk with ⟨d, rfl, hw⟩ | ⟨a, b, bd, rfl, rfl⟩ | ⟨bd, rfl, rfl⟩
        · rw [hw]
          refine iteT ⟨_, rfl, .inl ⟨rfl, _, SqL.of hF3⟩, _, rfl, fl, _, _, rfl, rfl, hF3, by omega, ?_⟩
          have hkt := Kt.upd (o := .lst (ys ++ [.ref tp])) hF3
          have hn1 := dP_noL _ _ hvp
          have e1 : pcP n 60 (.one d) = [d] := by simp [pcP]
          have e2 : toD (.one d) = d := by simp [toD]
          rw [e1]
          rw [e2] at hdv3 hn1
          refine ⟨fun b o hb => (upd_ne (ne_of_none hb nfl)).trans (s3 b o hb), fl, _, _, _, rfl, nfl, upd_same, DpAll.append (DpAll.kt hkt hd3 hno) (.cons (Dp.kt hkt hdv3 hn1) .nil), noLAll_app hno (by simp [noLAll, hn1]), by rw [List.length_append]; simp; omega⟩
        · rw [show roundW "loop" = true by decide +kernel]
          refine iteF ?_
          cases D with
          | zero => exact hvp.elim
          | succ D0 =>
          cases hS D0 rfl
          obtain ⟨hc, hf, hlb, hb⟩ := hvp
          obtain ⟨u', hu⟩ := fin_stL (n := n) hf
          have hun : un n bd = u' := by simp [un, hu]
          simp only [toD] at hdv3
          obtain ⟨tp', xs', e', hS', ha'⟩ := tupDv hdv3
          cases e'
          cases ha' with
          | @cons v1 _ _ _ g1 ha' => cases ha' with
          | @cons v2 _ _ _ g2 ha' => cases ha' with
          | @cons v3 _ _ _ g3 ha' =>
          cases ha'
          cases strD g1
          have hvb : vL D0 bd := ⟨by omega, fun q hq => dP_v (hb q hq)⟩
          refine ⟨_, rfl, _, rfl, tp, _, _, _, rfl, rfl, hS', atI_last [.str "loop", v2] v3, _, rfl, v3, bd, n, rfl, g3, hvb, hn, fun H4 s4 => ?_⟩
          rw [hu]
          refine ⟨rfl, _, rfl, L2.Lr.int_ne (fun h0 => ?_) fun h0 => ?_⟩
          · have hu0 : ¬ un n bd = 0 := by rw [hun]; intro z; exact h0 (by rw [z]; rfl)
            have hpc : pcP n 60 (.loop a b bd) = (List.replicate (if (if 0 < (min 60 (rnd n a b)) then opL n 60 [] bd else []).length < 60 then (min 60 (rnd n a b)) else min 1 (min 60 (rnd n a b))) (if 0 < (min 60 (rnd n a b)) then opL n 60 [] bd else [])).flatten := by
              conv => lhs; unfold pcP
              rw [if_neg hu0]
            have ho60 : (opL n 60 [] bd).length ≤ 60 := by
              rw [op_ok (n := n) (k := 60) (by decide) bd [] (fun q hq => vP_wf (hvb.2 q hq)) (by decide)]
              simp only [List.nil_append, List.length_map, List.length_range]
              exact Nat.le_trans lenF_le (Nat.le_refl _)
            have hmh : (min 60 (rnd n a b)) ≤ 60 := by omega
            generalize hmhe : (min 60 (rnd n a b)) = mh at hpc hmh
            refine ⟨fun σ' H' => Same H3 H' ∧ σ' = [some (.ref t), some (.int n), some (.int 60), some (.ref fl), some (.ref tp), some (.int (mh : Int)), o6], ?_, ?_⟩
            · refine ⟨_, rfl, tp, _, _, _, rfl, rfl, seqT s4 hS', at0, rfl, _, rfl, L2.Lr.str_if (fun z => absurd z (by decide +kernel)) fun _ => ?_⟩
              refine ⟨_, rfl, _, rfl, tp, _, _, _, rfl, rfl, seqT s4 hS', at1, _, rfl, v2, a, b, n, rfl, Dp.same s4 g2, hc, hn, _, _, rfl, ?_⟩
              refine ⟨s4, ?_⟩
              have e : (if ((rnd n a b : Nat) : Int) < 60 then ((rnd n a b : Nat) : Int) else 60) = (mh : Int) := by
                rw [← hmhe]
                split <;> omega
              show [some (V.ref t), some (.int n), some (.int 60), some (.ref fl), some (.ref tp), some (.int (if ((rnd n a b : Nat) : Int) < 60 then ((rnd n a b : Nat) : Int) else 60)), o6] = _
              rw [e]
            rintro σ1 H5 ⟨s5, rfl⟩
            refine ⟨fun σ' H' => ∃ (il : Addr) (xi : List V) (inner : List PyData), σ' = [some (.ref t), some (.int n), some (.int 60), some (.ref fl), some (.ref tp), some (.int (mh : Int)), some (.ref il)] ∧ Same H3 H' ∧ H' il = some (.lst xi) ∧ DpAll K H' xi inner ∧ noLAll inner = true ∧ (if 0 < mh then opL n 60 [] bd else []) = inner ∧ inner.length ≤ 60, ?_, ?_⟩
            · refine ⟨_, rfl, _, _, rfl, rfl, _, rfl, ite_dec (fun g => ?_) fun g => ?_⟩
              · refine ⟨_, rfl, _, rfl, tp, _, _, _, rfl, rfl, seqT s5 hS', atI_last [.str "loop", v2] v3, _, rfl, _, rfl, v3, bd, n, rfl, Dp.same s5 g3, hb, by omega, hn, fun l xi H6 s6 nl hl hdi hni => ?_⟩
                exact ⟨l, xi, _, rfl, s5.trans s6, hl, hdi, hni, if_pos (by omega), ho60⟩
              · refine ⟨by show 0 ≤ sizeLine; omega, fun l nl => ⟨l, [], [], rfl, s5.trans (same_upd nl), upd_same, .nil, rfl, if_neg (by omega), by decide⟩⟩
            rintro σ1 H6 ⟨il, xi, inner, rfl, s6, hI, hdi, hni, hie, hi60⟩
            rw [hie] at hpc
            have hxi := DpAll.length hdi
            refine ⟨_, rfl, _, rfl, _, rfl, il, _, rfl, .inl (SqL.of hI), _, rfl, _, _, rfl, rfl, _, rfl, ite_dec (fun g => ?_) fun g => ?_⟩
            · refine ⟨_, rfl, ?_⟩
              refine ⟨il, _, xi, rfl, rfl, hI, by omega, by omega, ?_, fun r nr => ?_⟩
              · rw [hxi, Int.toNat_natCast]
                have := Nat.mul_le_mul hi60 (show mh ≤ 60 by omega)
                omega
              have sr := same_upd (o := .lst (List.replicate ((mh : Int)).toNat xi).flatten) nr
              have hr' := upd_same (H := H6) (a := r) (o := .lst (List.replicate ((mh : Int)).toNat xi).flatten)
              generalize upd H6 r (.lst (List.replicate ((mh : Int)).toNat xi).flatten) = H7 at sr hr' ⊢
              have hdr := DpAll.same sr (DpAll.rep hdi mh)
              have hl1 := DpAll.length hdr
              have hl2 : (List.replicate mh inner).flatten.length ≤ 3600 := by
                rw [List.length_flatten, List.map_replicate, List.sum_replicate_nat]
                have := Nat.mul_le_mul (show mh ≤ 60 by omega) hi60
                omega
              rw [Int.toNat_natCast] at hr'
              have hF7 := sr _ _ (s6 _ _ hF3)
              refine ⟨fl, r, _, _, rfl, rfl, hF7, hr', by omega, fun z nz => ?_⟩
              have sz' := same_upd (o := .lst (ys ++ (List.replicate mh xi).flatten)) nz
              have s37 := s6.trans (sr.trans sz')
              refine ⟨s3.trans s37, z, _, _, _, rfl, ?_, upd_same, ?_, ?_, ?_⟩
              · exact Same.gone2 (s3.trans (s6.trans sr)) nz
              · rw [hpc]
                rw [if_pos (by omega)]
                exact DpAll.append (DpAll.same s37 hd3) (DpAll.same sz' hdr)
              · rw [hpc]
                rw [if_pos (by omega)]
                exact noLAll_app hno (noLAll_rep hni mh)
              · rw [hpc]
                rw [if_pos (by omega)]
                rw [List.length_append]
                omega
            · refine ⟨_, rfl, _, _, rfl, ?_⟩
              have e1 : (if (mh : Int) < 1 then (mh : Int) else 1) = ((min 1 mh : Nat) : Int) := by split <;> omega
              show rRep (.ref il) (.int (if (mh : Int) < 1 then (mh : Int) else 1)) H6 _
              rw [e1]
              refine ⟨il, _, xi, rfl, rfl, hI, by omega, by omega, ?_, fun r nr => ?_⟩
              · rw [hxi, Int.toNat_natCast]
                have := Nat.mul_le_mul hi60 (show (min 1 mh) ≤ 60 by omega)
                omega
              have sr := same_upd (o := .lst (List.replicate (((min 1 mh : Nat) : Int)).toNat xi).flatten) nr
              have hr' := upd_same (H := H6) (a := r) (o := .lst (List.replicate (((min 1 mh : Nat) : Int)).toNat xi).flatten)
              generalize upd H6 r (.lst (List.replicate (((min 1 mh : Nat) : Int)).toNat xi).flatten) = H7 at sr hr' ⊢
              have hdr := DpAll.same sr (DpAll.rep hdi (min 1 mh))
              have hl1 := DpAll.length hdr
              have hl2 : (List.replicate (min 1 mh) inner).flatten.length ≤ 3600 := by
                rw [List.length_flatten, List.map_replicate, List.sum_replicate_nat]
                have := Nat.mul_le_mul (show (min 1 mh) ≤ 60 by omega) hi60
                omega
              rw [Int.toNat_natCast] at hr'
              have hF7 := sr _ _ (s6 _ _ hF3)
              refine ⟨fl, r, _, _, rfl, rfl, hF7, hr', by omega, fun z nz => ?_⟩
              have sz' := same_upd (o := .lst (ys ++ (List.replicate (min 1 mh) xi).flatten)) nz
              have s37 := s6.trans (sr.trans sz')
              refine ⟨s3.trans s37, z, _, _, _, rfl, ?_, upd_same, ?_, ?_, ?_⟩
              · exact Same.gone2 (s3.trans (s6.trans sr)) nz
              · rw [hpc]
                rw [if_neg (by omega)]
                exact DpAll.append (DpAll.same s37 hd3) (DpAll.same sz' hdr)
              · rw [hpc]
                rw [if_neg (by omega)]
                exact noLAll_app hno (noLAll_rep hni (min 1 mh))
              · rw [hpc]
                rw [if_neg (by omega)]
                rw [List.length_append]
                omega
          · have hpc : pcP n 60 (.loop a b bd) = [] := by
              conv => lhs; unfold pcP
              rw [if_pos (by rw [hun]; omega)]
            refine ⟨s3.trans s4, fl, ys, _, _, rfl, nfl, s4 _ _ hF3, ?_, ?_, ?_⟩
            · rw [hpc, List.append_nil]; exact DpAll.same s4 hd3
            · rw [hpc, List.append_nil]; exact hno
            · rw [hpc, List.append_nil]; omega
        · rw [show roundW "forever" = true by decide +kernel]
          refine iteF ?_
          cases D with
          | zero => exact hvp.elim
          | succ D0 =>
          cases hS D0 rfl
          obtain ⟨hf, hlb, hb⟩ := hvp
          obtain ⟨u', hu⟩ := fin_stL (n := n) hf
          have hun : un n bd = u' := by simp [un, hu]
          simp only [toD] at hdv3
          obtain ⟨tp', xs', e', hS', ha'⟩ := tupDv hdv3
          cases e'
          cases ha' with
          | @cons v1 _ _ _ g1 ha' => cases ha' with
          | @cons v3 _ _ _ g3 ha' =>
          cases ha'
          cases strD g1
          have hvb : vL D0 bd := ⟨by omega, fun q hq => dP_v (hb q hq)⟩
          refine ⟨_, rfl, _, rfl, tp, _, _, _, rfl, rfl, hS', atI_last [.str "forever"] v3, _, rfl, v3, bd, n, rfl, g3, hvb, hn, fun H4 s4 => ?_⟩
          rw [hu]
          refine ⟨rfl, _, rfl, L2.Lr.int_ne (fun h0 => ?_) fun h0 => ?_⟩
          · have hu0 : ¬ un n bd = 0 := by rw [hun]; intro z; exact h0 (by rw [z]; rfl)
            obtain ⟨mh, hmhe⟩ : ∃ mh : Nat, mh = 60 := ⟨_, rfl⟩
            have hpc : pcP n 60 (.ever bd) = (List.replicate (if (if 0 < mh then opL n 60 [] bd else []).length < 60 then mh else min 1 mh) (if 0 < mh then opL n 60 [] bd else [])).flatten := by
              rw [hmhe]
              conv => lhs; unfold pcP
              rw [if_neg hu0]
            have ho60 : (opL n 60 [] bd).length ≤ 60 := by
              rw [op_ok (n := n) (k := 60) (by decide) bd [] (fun q hq => vP_wf (hvb.2 q hq)) (by decide)]
              simp only [List.nil_append, List.length_map, List.length_range]
              exact Nat.le_trans lenF_le (Nat.le_refl _)
            have hmh : mh ≤ 60 := by omega
            refine ⟨fun σ' H' => Same H3 H' ∧ σ' = [some (.ref t), some (.int n), some (.int 60), some (.ref fl), some (.ref tp), some (.int (mh : Int)), o6], ?_, ?_⟩
            · refine ⟨_, rfl, tp, _, _, _, rfl, rfl, seqT s4 hS', at0, rfl, _, rfl, L2.Lr.str_if (fun _ => ?_) fun z => absurd rfl z⟩
              refine ⟨_, rfl, s4, ?_⟩
              rw [hmhe]
              rfl
            rintro σ1 H5 ⟨s5, rfl⟩
            refine ⟨fun σ' H' => ∃ (il : Addr) (xi : List V) (inner : List PyData), σ' = [some (.ref t), some (.int n), some (.int 60), some (.ref fl), some (.ref tp), some (.int (mh : Int)), some (.ref il)] ∧ Same H3 H' ∧ H' il = some (.lst xi) ∧ DpAll K H' xi inner ∧ noLAll inner = true ∧ (if 0 < mh then opL n 60 [] bd else []) = inner ∧ inner.length ≤ 60, ?_, ?_⟩
            · refine ⟨_, rfl, _, _, rfl, rfl, _, rfl, ite_dec (fun g => ?_) fun g => ?_⟩
              · refine ⟨_, rfl, _, rfl, tp, _, _, _, rfl, rfl, seqT s5 hS', atI_last [.str "forever"] v3, _, rfl, _, rfl, v3, bd, n, rfl, Dp.same s5 g3, hb, by omega, hn, fun l xi H6 s6 nl hl hdi hni => ?_⟩
                exact ⟨l, xi, _, rfl, s5.trans s6, hl, hdi, hni, if_pos (by omega), ho60⟩
              · refine ⟨by show 0 ≤ sizeLine; omega, fun l nl => ⟨l, [], [], rfl, s5.trans (same_upd nl), upd_same, .nil, rfl, if_neg (by omega), by decide⟩⟩
            rintro σ1 H6 ⟨il, xi, inner, rfl, s6, hI, hdi, hni, hie, hi60⟩
            rw [hie] at hpc
            have hxi := DpAll.length hdi
            refine ⟨_, rfl, _, rfl, _, rfl, il, _, rfl, .inl (SqL.of hI), _, rfl, _, _, rfl, rfl, _, rfl, ite_dec (fun g => ?_) fun g => ?_⟩
            · refine ⟨_, rfl, ?_⟩
              refine ⟨il, _, xi, rfl, rfl, hI, by omega, by omega, ?_, fun r nr => ?_⟩
              · rw [hxi, Int.toNat_natCast]
                have := Nat.mul_le_mul hi60 (show mh ≤ 60 by omega)
                omega
              have sr := same_upd (o := .lst (List.replicate ((mh : Int)).toNat xi).flatten) nr
              have hr' := upd_same (H := H6) (a := r) (o := .lst (List.replicate ((mh : Int)).toNat xi).flatten)
              generalize upd H6 r (.lst (List.replicate ((mh : Int)).toNat xi).flatten) = H7 at sr hr' ⊢
              have hdr := DpAll.same sr (DpAll.rep hdi mh)
              have hl1 := DpAll.length hdr
              have hl2 : (List.replicate mh inner).flatten.length ≤ 3600 := by
                rw [List.length_flatten, List.map_replicate, List.sum_replicate_nat]
                have := Nat.mul_le_mul (show mh ≤ 60 by omega) hi60
                omega
              rw [Int.toNat_natCast] at hr'
              have hF7 := sr _ _ (s6 _ _ hF3)
              refine ⟨fl, r, _, _, rfl, rfl, hF7, hr', by omega, fun z nz => ?_⟩
              have sz' := same_upd (o := .lst (ys ++ (List.replicate mh xi).flatten)) nz
              have s37 := s6.trans (sr.trans sz')
              refine ⟨s3.trans s37, z, _, _, _, rfl, ?_, upd_same, ?_, ?_, ?_⟩
              · exact Same.gone2 (s3.trans (s6.trans sr)) nz
              · rw [hpc]
                rw [if_pos (by omega)]
                exact DpAll.append (DpAll.same s37 hd3) (DpAll.same sz' hdr)
              · rw [hpc]
                rw [if_pos (by omega)]
                exact noLAll_app hno (noLAll_rep hni mh)
              · rw [hpc]
                rw [if_pos (by omega)]
                rw [List.length_append]
                omega
            · refine ⟨_, rfl, _, _, rfl, ?_⟩
              have e1 : (if (mh : Int) < 1 then (mh : Int) else 1) = ((min 1 mh : Nat) : Int) := by split <;> omega
              show rRep (.ref il) (.int (if (mh : Int) < 1 then (mh : Int) else 1)) H6 _
              rw [e1]
              refine ⟨il, _, xi, rfl, rfl, hI, by omega, by omega, ?_, fun r nr => ?_⟩
              · rw [hxi, Int.toNat_natCast]
                have := Nat.mul_le_mul hi60 (show (min 1 mh) ≤ 60 by omega)
                omega
              have sr := same_upd (o := .lst (List.replicate (((min 1 mh : Nat) : Int)).toNat xi).flatten) nr
              have hr' := upd_same (H := H6) (a := r) (o := .lst (List.replicate (((min 1 mh : Nat) : Int)).toNat xi).flatten)
              generalize upd H6 r (.lst (List.replicate (((min 1 mh : Nat) : Int)).toNat xi).flatten) = H7 at sr hr' ⊢
              have hdr := DpAll.same sr (DpAll.rep hdi (min 1 mh))
              have hl1 := DpAll.length hdr
              have hl2 : (List.replicate (min 1 mh) inner).flatten.length ≤ 3600 := by
                rw [List.length_flatten, List.map_replicate, List.sum_replicate_nat]
                have := Nat.mul_le_mul (show (min 1 mh) ≤ 60 by omega) hi60
                omega
              rw [Int.toNat_natCast] at hr'
              have hF7 := sr _ _ (s6 _ _ hF3)
              refine ⟨fl, r, _, _, rfl, rfl, hF7, hr', by omega, fun z nz => ?_⟩
              have sz' := same_upd (o := .lst (ys ++ (List.replicate (min 1 mh) xi).flatten)) nz
              have s37 := s6.trans (sr.trans sz')
              refine ⟨s3.trans s37, z, _, _, _, rfl, ?_, upd_same, ?_, ?_, ?_⟩
              · exact Same.gone2 (s3.trans (s6.trans sr)) nz
              · rw [hpc]
                rw [if_neg (by omega)]
                exact DpAll.append (DpAll.same s37 hd3) (DpAll.same sz' hdr)
              · rw [hpc]
                rw [if_neg (by omega)]
                exact noLAll_app hno (noLAll_rep hni (min 1 mh))
              · rw [hpc]
                rw [if_neg (by omega)]
                rw [List.length_append]
                omega
          · have hpc : pcP n 60 (.ever bd) = [] := by
              conv => lhs; unfold pcP
              rw [if_pos (by rw [hun]; omega)]
            refine ⟨s3.trans s4, fl, ys, _, _, rfl, nfl, s4 _ _ hF3, ?_, ?_, ?_⟩
            · rw [hpc, List.append_nil]; exact DpAll.same s4 hd3
            · rw [hpc, List.append_nil]; exact hno
            · rw [hpc, List.append_nil]; omega
      rintro σ1 H3 ⟨s3, fl, ys, o5, o6, rfl, nfl, hF3, hd3, hno3, hl5⟩
      have hyl3 := DpAll.length hd3
      refine ⟨_, rfl, fl, _, rfl, .inl (SqL.of hF3), _, rfl, _, _, rfl, rfl, _, rfl, ite_dec (fun g => ?_) fun g => ?_⟩
      · rw [if_pos (by omega)] at hm
        refine ⟨_, rfl, _, rfl, _, rfl, fl, _, rfl, SqL.of hF3, fun r nr => ?_⟩
        rw [cutV_to (by decide)]
        rw [hrt]
        rw [hm] at q
        have sr := same_upd (o := .lst (ys.take (60 : Int).toNat)) nr
        refine q r _ _ (s3.trans sr) (by
          cases hz : H r with
          | none => rfl
          | some o => rw [s3 _ _ hz] at nr; cases nr) upd_same ?_ (noLAll_take hno3 _)
        exact DpAll.same sr (DpAll.take 60 hd3)
      · rw [if_neg (by omega)] at hm
        exact hnx _ _ ⟨s3, fl, ys, fd ++ pcP n 60 p, _, _, _, rfl, nfl, hF3, hd3, hno3, by omega, hm⟩
    · rintro σ H2 ⟨s2, fl, ys, fd, o4, o5, o6, rfl, nfl, hF2, hd2, hno, hlt, hm⟩
      rw [List.drop_of_length_le (by omega)] at hm
      have hm : opL n 60 [] ps = fd := by rw [hm]; simp [opL]
      rw [hm] at q
      exact ⟨_, rfl, q fl ys H2 s2 nfl hF2 hd2 hno⟩
end
end L2.L70

set_option maxHeartbeats 1000000
set_option exponentiation.threshold 2000
namespace L2.L70
open PySem PySem.Spec PyProof.Rows LR L2.Lr L2.Cut
theorem dP_mono : ∀ {D : Nat} {p : Pt}, dP D p → dP (D + 1) p
  | D, .one d, h => by
    have h : d ∈ singles := by cases D <;> exact h
    exact h
  | D + 1, .loop a b bd, h => ⟨h.1, h.2.1, h.2.2.1, fun p hp => dP_mono (h.2.2.2 p hp)⟩
  | D + 1, .ever bd, h => ⟨h.1, h.2.1, fun p hp => dP_mono (h.2.2 p hp)⟩
  | 0, .loop _ _ _, h => h.elim
  | 0, .ever _, h => h.elim
theorem count_w {w : Nat} (h : w ≤ 10 ^ 30) : countD (.tuple [.int 0, .int (w : Int)]) = true := by
  show ((decide ((0 : Int) ≤ 0) && decide ((0 : Int) ≤ 9)) && ((decide (-(10 ^ 30) ≤ (w : Int)) && decide ((w : Int) ≤ 10 ^ 30)) && (decide ((0 : Int) > 0) || decide ((w : Int) ≥ 0)))) = true
  rw [decide_eq_true (show (-(10 ^ 30) : Int) ≤ (w : Int) by omega), decide_eq_true (show (w : Int) ≤ 10 ^ 30 by omega), decide_eq_true (show (w : Int) ≥ 0 by omega)]
  rfl
/-- what is kept of drawn parts is of the same kind -/
theorem fi_dP {n : Int} : ∀ D : Nat, (∀ ps : List Pt, (∀ p ∈ ps, dP D p) → ∀ l, l ≤ 10 ^ 30 → ∀ q ∈ fiL n l ps, dP D q) ∧ (∀ p, dP D p → ∀ l, l ≤ 10 ^ 30 → ∀ q ∈ frP n l p, dP D q) := by
  have list : ∀ D, (∀ p, dP D p → ∀ l, l ≤ 10 ^ 30 → ∀ q ∈ frP n l p, dP D q) → ∀ ps : List Pt, (∀ p ∈ ps, dP D p) → ∀ l, l ≤ 10 ^ 30 → ∀ q ∈ fiL n l ps, dP D q := by
    intro D hP ps
    induction ps with
    | nil => intro _ l _ q hq; simp [fiL] at hq
    | cons p ps ih =>
      intro hv l hl q hq
      have hp := hP p (hv p (List.mem_cons_self ..))
      have ih := ih fun q hq => hv q (List.mem_cons_of_mem _ hq)
      unfold fiL at hq
      split at hq
      · cases hq
      · split at hq
        · exact hp l hl q hq
        · split at hq
          · exact hp l hl q hq
          · split at hq
            · rename_i m _ _ _
              cases hq with
              | head => exact hv p (List.mem_cons_self ..)
              | tail _ hq => exact ih (l - m) (by omega) q hq
            · exact ih l hl q hq
  intro D
  induction D with
  | zero =>
    have hP : ∀ p, dP 0 p → ∀ l, l ≤ 10 ^ 30 → ∀ q ∈ frP n l p, dP 0 q := by
      intro p hv l hl q hq
      cases p with
      | one d => simp [frP] at hq
      | loop a b bd => exact hv.elim
      | ever bd => exact hv.elim
    exact ⟨list 0 hP, hP⟩
  | succ D ih =>
    have part : ∀ (bd : List Pt), finL bd = true → bd.length ≤ 2 → (∀ p ∈ bd, dP D p) → ∀ l, l ≤ 10 ^ 30 → ∀ q ∈ (if 0 < l / un n bd then [Pt.loop 0 (l / un n bd : Nat) bd] else []) ++ fiL n (l % un n bd) bd, dP (D + 1) q := by
      intro bd hf h2 hb l hl q hq
      rcases List.mem_append.mp hq with m | m
      · split at m
        · rw [List.mem_singleton.mp m]
          exact ⟨count_w (Nat.le_trans (Nat.div_le_self _ _) hl), hf, h2, hb⟩
        · cases m
      · exact dP_mono (ih.1 bd hb _ (Nat.le_trans (Nat.mod_le _ _) hl) q m)
    have hP : ∀ p, dP (D + 1) p → ∀ l, l ≤ 10 ^ 30 → ∀ q ∈ frP n l p, dP (D + 1) q := by
      intro p hv l hl q hq
      cases p with
      | one d => simp [frP] at hq
      | loop a b bd => exact part bd hv.2.1 hv.2.2.1 hv.2.2.2 l hl q (by simpa only [frP] using hq)
      | ever bd => exact part bd hv.1 hv.2.1 hv.2.2 l hl q (by simpa only [frP] using hq)
    exact ⟨list (D + 1) hP, hP⟩
/-- and so is their number: two more at each depth -/
theorem fi_few {n : Int} : ∀ D : Nat, (∀ ps : List Pt, (∀ p ∈ ps, dP D p) → ∀ l, (fiL n l ps).length ≤ ps.length + 3 * D) ∧ (∀ p, dP D p → ∀ l, (frP n l p).length ≤ 3 * D) := by
  have list : ∀ D, (∀ p, dP D p → ∀ l, (frP n l p).length ≤ 3 * D) → ∀ ps : List Pt, (∀ p ∈ ps, dP D p) → ∀ l, (fiL n l ps).length ≤ ps.length + 3 * D := by
    intro D hP ps
    induction ps with
    | nil => intro _ l; simp [fiL]
    | cons p ps ih =>
      intro hv l
      have hp := hP p (hv p (List.mem_cons_self ..))
      have ih := ih fun q hq => hv q (List.mem_cons_of_mem _ hq)
      unfold fiL
      split
      · simp
      · split
        · have := hp l; rw [List.length_cons]; omega
        · split
          · have := hp l; rw [List.length_cons]; omega
          · split
            · rename_i m _ _ _
              have := ih (l - m); rw [List.length_cons, List.length_cons]; omega
            · have := ih l; rw [List.length_cons]; omega
  intro D
  induction D with
  | zero =>
    have hP : ∀ p, dP 0 p → ∀ l, (frP n l p).length ≤ 3 * 0 := by
      intro p hv l
      cases p with
      | one d => simp [frP]
      | loop a b bd => exact hv.elim
      | ever bd => exact hv.elim
    exact ⟨list 0 hP, hP⟩
  | succ D ih =>
    have part : ∀ (bd : List Pt), bd.length ≤ 2 → (∀ p ∈ bd, dP D p) → ∀ l, ((if 0 < l / un n bd then [Pt.loop 0 (l / un n bd : Nat) bd] else []) ++ fiL n (l % un n bd) bd).length ≤ 3 * (D + 1) := by
      intro bd h2 hb l
      have := ih.1 bd hb (l % un n bd)
      rw [List.length_append]
      split <;> simp <;> omega
    have hP : ∀ p, dP (D + 1) p → ∀ l, (frP n l p).length ≤ 3 * (D + 1) := by
      intro p hv l
      cases p with
      | one d => simp [frP]
      | loop a b bd => simp only [frP]; exact part bd hv.2.2.1 hv.2.2.2 l
      | ever bd => simp only [frP]; exact part bd hv.2.1 hv.2.2 l
    exact ⟨list (D + 1) hP, hP⟩
end L2.L70

set_option maxHeartbeats 1000000
set_option exponentiation.threshold 2000
namespace L2.L70
open PySem PySem.Spec PyProof.Rows LR L2.Lr L2.Cut
local macro_rules | `(tactic| walk_at "nx") => `(tactic| dsimp only [gName, tNext, tSeq, tAsg, List.set_cons_zero, List.set_cons_succ])
abbrev NDu : List Str := ["_law_parts_here", "_law_n", "_law_steps", "_law_found", "_law_left", "_law_part", "_law_many_here", "_law_each", "_law_whole"]
theorem scdu : FnScope NDu ["_law_parts_here", "_law_n", "_law_steps"] (defScope sLDu) := ⟨rfl, rfl, rfl, by decide +kernel, rfl, by decide +kernel, by decide +kernel⟩
theorem rep_one {α : Type} {x : α} : ∀ {m : Nat}, (List.replicate (min 1 m) [x]).flatten = if 0 < m then [x] else []
  | 0 => rfl
  | m + 1 => by
    rw [if_pos (by omega), show min 1 (m + 1) = 1 by omega]
    rfl
def spLDu (K : PySem.W.Frag) (D : Nat) : Sp := fun vs H Q _ => ∃ x ps n l, vs = [x, .int n, .int l] ∧ Dp K H x (.tuple (toDs ps)) ∧ (∀ q ∈ ps, dP D q) ∧ ps.length ≤ 60 ∧ okN n ∧ okN l ∧ ∀ v H', Same H H' → Dp K H' v (.tuple (toDs (fiL n l.toNat ps))) → Q v H'
section
variable {P : Program} {w : World} {K : PySem.W.Frag} {mg : Str → Option Value} {base : Heap}
theorem ol_due {D : Nat} (hD : D ≤ 4) {f fM fS : Addr} {fd dM dS : FuncData} (F : FnP K "_law_due" sLDu f fd) (T : Txt K mg) {k : Nat} (h1 : 1 ≤ k) (M : Def P w K mg base CX0 k "_law_many" fM dM ["_law_parts_here", "_law_n"] (spStL K D)) {spR : Sp} (hS : ∀ D0, D = D0 + 1 → spR = spLDu K D0) (S : Def P w K mg base CX0 k "_law_due" fS dS ["_law_parts_here", "_law_n", "_law_steps"] spR) : FnOk P w K mg base CX0 (k + 1) f fd ["_law_parts_here", "_law_n", "_law_steps"] (spLDu K D) := by
  refine F.ok scdu (fun vs H Q E h => ?_) (fun cdv A outer s H vs Q E hr h => ?_)
  · obtain ⟨x, ps, n, l, rfl, _⟩ := h
    rfl
  · obtain ⟨x, ps, n, l, rfl, hd, hv, hl, hn, ⟨l0, l1⟩, q⟩ := h
    have sz : sizeLine = 16777216 := sizeLine_eq
    have hr1 : Room 1 _ := hr.mono h1
    obtain ⟨t, xs, rfl, hS, ha⟩ := tupDv hd
    have hlx := DpAll.length ha
    rw [toDs_len] at hlx
    refine ⟨_, PSs.nox (C8.pss_cut (ps_par (i := 3) (j := 4) (by rfl) scdu.nd rfl rfl (by decide) rfl rfl (pa_cons (pe_lst pa_nil) (pa_cons (pv 2) pa_nil)) (by rfl))
      (pss_cons (ps_for PassesOwn.never rfl (pi_tup (pv 0)) (pg_name (i := 5) scdu.nd rfl (Or.inl rfl))
        (pss_one (ps_if (PW.pt (pw_and (pt_cmpR op_gt (pv 4) pe_int (nomark _)) (pw_and1 (pt_cmpR op_notIn_seq (pe_ix ix_tup (pv 5) pe_int (fun _ _ => rfl)) (pe_lst (pa_cons pe_str (pa_cons pe_str pa_nil))) (by rfl)))))
          (pss_cons (ps_expr (pe_bm PySem.F.plainAttrs_list PySem.F.slot_list_append PySem.F.type_list_append mt_append (pv 3) (pa_cons (pv 5) pa_nil)))
            (pss_one (ps_set (i := 4) scdu.nd rfl (Or.inl rfl) (pe_op op_sub (pv 4) pe_int))))
          (pss_one (ps_if (pt_cmpR op_gt (pv 4) pe_int (nomark _))
            (C8.pss_cut (ps_par (i := 6) (j := 7) (by rfl) scdu.nd rfl rfl (by decide) rfl rfl (pa_cons (pe_call M.ok hr (by rfl) M.g M.k M.b .nil pass0 (pa_cons (pe_tup (pa_cons (pv 5) pa_nil)) (pa_cons (pv 1) pa_nil))) (pa_cons (pe_call M.ok hr (by rfl) M.g M.k M.b .nil pass0 (pa_cons (pe_ix ix_tup (pv 5) (pe_un un_neg pe_int) (fun _ _ => rfl)) (pa_cons (pv 1) pa_nil))) pa_nil)) (by rfl))
            (pss_one (ps_if (PW.pt (pw_and (pt_cmpR op_notN (pv 6) pe_non (nomark _)) (pw_and1 (pt_cmpR op_le (pv 6) (pv 4) (nomark _)))))
              (C8.pss_cut (ps_expr (pe_bm PySem.F.plainAttrs_list PySem.F.slot_list_extend PySem.F.type_list_extend mt_extend (pv 3) (pa_cons (pe_op op_rep (pe_lst (pa_cons (pv 5) pa_nil)) (pe_callB (call_min2 rfl) (by rfl) T.min boot_min (pa_cons pe_int (pa_cons (pv 6) pa_nil)))) pa_nil)))
                (pss_one (ps_set (i := 4) scdu.nd rfl (Or.inl rfl) (pe_op op_sub (pv 4) (pv 6)))))
              (C8.pss_cut (ps_set (i := 8) scdu.nd rfl (Or.inl rfl) (pe_op op_fdivW (pv 4) (pv 7)))
              (C8.pss_cut (ps_expr (pe_bm PySem.F.plainAttrs_list PySem.F.slot_list_extend PySem.F.type_list_extend mt_extend (pv 3) (pa_cons (pe_op op_rep (pe_lst (pa_cons (pe_tup (pa_cons pe_str (pa_cons (pe_tup (pa_cons pe_int (pa_cons (pv 8) pa_nil))) (pa_cons (pe_ix ix_tup (pv 5) (pe_un un_neg pe_int) (fun _ _ => rfl)) pa_nil)))) pa_nil)) (pe_callB (call_min2 rfl) (by rfl) T.min boot_min (pa_cons pe_int (pa_cons (pv 8) pa_nil)))) pa_nil)))
              (C8.pss_cut (ps_expr (pe_bm PySem.F.plainAttrs_list PySem.F.slot_list_extend PySem.F.type_list_extend mt_extend (pv 3) (pa_cons (pe_callTy call_list_of (by rfl) T.list bbL (pa_cons (pe_call S.ok hr (by rfl) S.g S.k S.b .nil pass0 (pa_cons (pe_ix ix_tup (pv 5) (pe_un un_neg pe_int) (fun _ _ => rfl)) (pa_cons (pv 1) (pa_cons (pe_op op_sub (pv 4) (pe_op op_mulW (pv 8) (pv 7))) pa_nil)))) pa_nil)) pa_nil)))
              (pss_one (ps_set (i := 4) scdu.nd rfl (Or.inl rfl) pe_int)))))))) pss_nil)))))
      (pss_one (ps_ret (pe_callTy call_tuple_of (by rfl) T.p.tuple bbT (pa_cons (pv 3) pa_nil)))))), ?_⟩
    have e0 : start NDu [V.ref t, .int n, .int l] = [some (.ref t), some (.int n), some (.int l), none, none, none, none, none, none] := rfl
    rw [e0]
    refine ⟨fun σ' H' => ∃ f0, σ' = [some (.ref t), some (.int n), some (.int l), some (.ref f0), some (.int l), none, none, none, none] ∧ Same H H' ∧ H f0 = none ∧ H' f0 = some (.lst []), ?_, ?_⟩
    · refine ⟨by show 0 ≤ sizeLine; omega, fun f0 nf0 => ⟨_, rfl, _, _, rfl, f0, rfl, same_upd nf0, nf0, upd_same⟩⟩
    rintro σ1 H1 ⟨f0, rfl, s1, nf0, hF⟩
    refine ⟨_, rfl, t, rfl, ⟨_, seqT s1 hS⟩, ?_⟩
    have hz : ∀ qs : List Pt, fiL n 0 qs = [] := by
      intro qs
      cases qs <;> simp [fiL]
    refine for_tupD (K := K) (a := t) (xs := xs) (fun i σ H' => Same H H' ∧ ∃ (ys : List V) (kp : List Pt) (left : Nat) (o5 o6 o7 o8 : Option V), σ = [some (.ref t), some (.int n), some (.int l), some (.ref f0), some (.int (left : Int)), o5, o6, o7, o8] ∧ H' f0 = some (.lst ys) ∧ DpAll K H' ys (toDs kp) ∧ (∀ q ∈ kp, dP D q) ∧ (0 < left → kp.length ≤ i) ∧ kp.length ≤ 90 ∧ left ≤ 10 ^ 30 ∧ fiL n l.toNat ps = kp ++ fiL n left (ps.drop i))
      ⟨s1, [], [], l.toNat, none, none, none, none, by rw [Int.toNat_of_nonneg l0], hF, by simp only [toDs]; exact .nil, (fun q hq => by cases hq), fun _ => Nat.le_refl _, by decide, by omega, by rw [List.drop_zero]; rfl⟩ (fun i σ H' _ z => seqT z.1 hS) ?_ ?_
    · rintro D' i v σ H2 hrt hnx - - hi ⟨s2, ys, kp, left, o5, o6, o7, o8, rfl, hF2, hd2, hkv, hkl, hk80, hll, hm⟩
      obtain ⟨p, hp, hdv⟩ := dp_at ha hi
      have hvp := hv p (List.mem_of_getElem? hp)
      have hil : i < 60 := by have := (List.getElem?_eq_some_iff.mp hi).1; omega
      rw [drop_pt hp] at hm
      have hyl := DpAll.length hd2
      rw [toDs_len] at hyl
      by_cases hl0 : left = 0
      · subst hl0
        refine ⟨_, rfl, _, _, rfl, rfl, _, rfl, iteF ?_⟩
        refine iteF ⟨_, rfl, _, _, rfl, rfl, _, rfl, iteF ?_⟩
        rw [hz] at hm
        exact hnx _ _ ⟨s2, ys, kp, 0, _, _, _, _, rfl, hF2, hd2, hkv, (fun z => absurd z (by decide)), hk80, by omega, by rw [hz]; exact hm⟩
      have hki := hkl (by omega)
      have hfe : fiL n left (p :: ps.drop (i + 1)) = match stP n p with
          | none => frP n left p
          | some m => if left < m then frP n left p else if 0 < m then p :: fiL n (left - m) (ps.drop (i + 1)) else fiL n left (ps.drop (i + 1)) := by
        conv => lhs; unfold fiL
        rw [if_neg hl0]
        all_goals rfl
      rw [hfe] at hm
      -- us put behind the list
      have put : ∀ {H5 : Hp} {us : List V} {kq : List Pt}, Same H2 H5 → DpAll K H5 us (toDs kq) → (∀ q ∈ kq, dP D q) → H5 f0 = some (.lst ys) ∧ Same H (upd H5 f0 (.lst (ys ++ us))) ∧ DpAll K (upd H5 f0 (.lst (ys ++ us))) (ys ++ us) (toDs (kp ++ kq)) := fun {H5 us kq} s5 hu hkq => by
        have h5 := s5 _ _ hF2
        have hkt := Kt.upd (o := .lst (ys ++ us)) h5
        refine ⟨h5, fun b o hb => (upd_ne (ne_of_none hb nf0)).trans (s5 b o (s2 b o hb)), ?_⟩
        rw [toDs_app]
        exact DpAll.append (DpAll.kt hkt (DpAll.same s5 hd2) (dPs_noL kp _ hkv)) (DpAll.kt hkt hu (dPs_noL kq _ hkq))
      obtain ⟨wd, es, e, hk⟩ := kind_of (dP_v hvp)
      have hdv2 := Dp.same s2 hdv
      have hd2' := hdv2
      rw [e] at hd2'
      obtain ⟨tp, u, us, rfl, hS3, h1', h2'⟩ := L2.Lr.tupD hd2'
      cases strD h1'
      refine ⟨_, rfl, _, _, rfl, rfl, _, rfl, ite_dec (fun g0 => ?_) fun g0 => absurd (show (0 : Int) < (left : Int) by omega) g0⟩
      refine ⟨_, rfl, tp, _, _, _, rfl, rfl, hS3, at0, by show 2 ≤ sizeLine; omega, fun lo nlo => ?_⟩
      have so := same_upd (o := .lst [.str "loop", .str "forever"]) nlo
      refine ⟨lo, _, rfl, .inl (SqL.of upd_same), rfl, by rfl, _, rfl, ?_⟩
      show if (!inV (.str wd) [.str "loop", .str "forever"]) = true then _ else _
      rw [in_round]
      have s3 := s2.trans so
      have hS3 := seqT so hS3
      have hdv3 := Dp.same so hdv2
      generalize upd H2 lo (.lst [.str "loop", .str "forever"]) = H3 at so s3 hS3 hdv3 ⊢
      have hone : ∀ H5, Same H3 H5 → DpAll K H5 [.ref tp] (toDs [p]) := fun H5 s5 => by
        have e : toDs [p] = [toD p] := by simp [toDs]
        rw [e]
        exact .cons (Dp.same s5 hdv3) .nil
      have hpq : ∀ q ∈ [p], dP D q := fun q hq => by rw [List.mem_singleton.mp hq]; exact hvp
      -- the next part, when p is kept or has no step
      have next1 : ∀ {m : Nat} {o5 o6 o7 o8 : Option V} {H5 : Hp}, stP n p = some m → m ≤ left → 0 < m → Same H3 H5 → D'.nx [some (.ref t), some (.int n), some (.int l), some (.ref f0), some (.int ((left : Int) - (m : Int))), o5, o6, o7, o8] (upd H5 f0 (.lst (ys ++ [.ref tp]))) := fun {m o5 o6 o7 o8 H5} hs hml hm0 s5 => by
        obtain ⟨_, a2, a3⟩ := put (so.trans s5) (hone H5 s5) hpq
        rw [hs] at hm
        dsimp only at hm
        rw [if_neg (by omega), if_pos hm0] at hm
        refine hnx _ _ ⟨a2, _, kp ++ [p], left - m, _, _, _, _, by rw [Int.ofNat_sub hml], upd_same, a3, ?_, fun _ => by rw [List.length_append]; exact Nat.succ_le_succ hki, by rw [List.length_append]; show kp.length + 1 ≤ 90; omega, by omega, by rw [hm, List.append_assoc]; rfl⟩
        intro q hq
        rcases List.mem_append.mp hq with z | z
        · exact hkv q z
        · exact hpq q z
      rcases hk with ⟨d, rfl, hw⟩ | hk2
      · rw [hw]
        refine iteT ?_
        obtain ⟨a1, _, _⟩ := put so (hone H3 (Same.refl H3)) hpq
        refine ⟨_, rfl, .inl ⟨rfl, _, SqL.of a1⟩, _, rfl, f0, _, _, rfl, rfl, a1, by omega, ?_⟩
        exact ⟨_, rfl, _, _, rfl, rfl, next1 (m := 1) (by simp [stP]) (by omega) (by decide) (Same.refl H3)⟩
      · have hw : roundW wd = true := by
          rcases hk2 with ⟨_, _, _, _, rfl⟩ | ⟨_, _, rfl⟩ <;> decide +kernel
        rw [hw]
        refine iteF ?_
        obtain ⟨D0, bd, u', hDe, hf, hb2, hb, hu, hfr, hxt, hnz⟩ : ∃ D0 bd u', D = D0 + 1 ∧ finL bd = true ∧ bd.length ≤ 2 ∧ (∀ q ∈ bd, dP D0 q) ∧ stL n bd = some u' ∧ (∀ left, frP n left p = (if 0 < left / u' then [.loop 0 (left / u' : Nat) bd] else []) ++ fiL n (left % u') bd) ∧ (∀ H5, Dp K H5 (.ref tp) (toD p) → ∃ xs' v3, SqT K H5 tp xs' ∧ atI xs' (-1) = some v3 ∧ Dp K H5 v3 (.tuple (toDs bd))) ∧ ((stP n p = none ∨ ∃ m, stP n p = some m ∧ left < m) → u' ≠ 0) := by
          cases D with
          | zero => rcases hk2 with ⟨_, _, _, rfl, _⟩ | ⟨_, rfl, _⟩ <;> exact hvp.elim
          | succ D0 =>
          rcases hk2 with ⟨a, b, bd, rfl, _⟩ | ⟨bd, rfl, _⟩
          · obtain ⟨hc, hf, hlb, hb⟩ := hvp
            obtain ⟨u', hu⟩ := fin_stL (n := n) hf
            refine ⟨D0, bd, u', rfl, hf, hlb, hb, hu, fun left => by simp only [frP, un, hu, Option.getD_some], fun H5 hq => by
              simp only [toD] at hq
              obtain ⟨tp', xs', e', hS', ha'⟩ := tupDv hq
              cases e'
              cases ha' with
              | @cons v1 _ _ _ g1 ha' => cases ha' with
              | @cons v2 _ _ _ g2 ha' => cases ha' with
              | @cons v3 _ _ _ g3 ha' =>
              cases ha'
              exact ⟨_, v3, hS', atI_last [v1, v2] v3, g3⟩, ?_⟩
            rintro (z | ⟨m, z, z2⟩)
            · simp [stP, hu] at z
            · simp [stP, hu] at z
              intro z3
              rw [z3] at z
              simp at z
              omega
          · obtain ⟨hf, hlb, hb⟩ := hvp
            obtain ⟨u', hu⟩ := fin_stL (n := n) hf
            refine ⟨D0, bd, u', rfl, hf, hlb, hb, hu, fun left => by simp only [frP, un, hu, Option.getD_some], fun H5 hq => by
              simp only [toD] at hq
              obtain ⟨tp', xs', e', hS', ha'⟩ := tupDv hq
              cases e'
              cases ha' with
              | @cons v1 _ _ _ g1 ha' => cases ha' with
              | @cons v3 _ _ _ g3 ha' =>
              cases ha'
              exact ⟨_, v3, hS', atI_last [v1] v3, g3⟩, ?_⟩
            intro z z3
            subst z3
            rcases z with z | ⟨m, z, z2⟩
            · simp [stP, hu] at z
            · simp [stP, hu] at z; omega
        subst hDe
        cases hS D0 rfl
        obtain ⟨xs', v3, hS', hat, g3⟩ := hxt H3 hdv3
        refine ⟨_, rfl, _, _, rfl, rfl, _, rfl, ite_dec (fun g1 => ?_) fun g1 => absurd (show (0 : Int) < (left : Int) by omega) g1⟩
        have hvb : vL (D0 + 1) bd := ⟨by omega, fun q hq => dP_v (dP_mono (hb q hq))⟩
        have hun : un n bd = u' := by simp [un, hu]
        refine ⟨fun σ' H' => Same H3 H' ∧ σ' = [some (.ref t), some (.int n), some (.int l), some (.ref f0), some (.int (left : Int)), some (.ref tp), some (optN (stP n p)), some (.int (u' : Int)), o8], ?_, ?_⟩
        · refine ⟨_, rfl, by show 1 ≤ sizeLine; omega, fun tq ntq => ?_⟩
          have sq := same_upd (o := .tup [.ref tp]) ntq
          refine ⟨_, rfl, .ref tq, [p], n, rfl, .tup (SqT.of upd_same) (hone _ sq), ⟨by show 1 ≤ 60; decide, fun z hz => dP_v (hpq z hz)⟩, hn, fun H5 s5 => ?_⟩
          refine ⟨_, rfl, _, rfl, tp, _, _, _, rfl, rfl, seqT (sq.trans s5) hS', hat, _, rfl, v3, bd, n, rfl, Dp.same (sq.trans s5) g3, hvb, hn, fun H6 s6 => ?_⟩
          rw [hu]
          refine ⟨_, _, rfl, (sq.trans s5).trans s6, ?_⟩
          have e : stL n [p] = stP n p := by
            simp only [stL]
            cases stP n p <;> simp
          rw [e]
          rfl
        rintro σ1 H5 ⟨s5, rfl⟩
        cases hs : stP n p with
        | none =>
          refine ⟨_, rfl, rfl, _, rfl, iteF (iteF ?_)⟩
          have hnz0 := hnz (.inl hs)
          have hmF : fiL n l.toNat ps = kp ++ frP n left p := by rw [hm, hs]
          have hu0 : 0 < u' := Nat.pos_of_ne_zero hnz0
          have hub := (st_le hn (D0 + 1)).2 bd hvb u' hu
          have hu8 : u' < 2 ^ 800 := Nat.lt_of_le_of_lt hub (big (by omega) (by omega))
          have hul := (Nat.log2_lt hnz0).mpr hu8
          have hmi : ((min 1 (left / u') : Nat) : Int) < 2 ^ 63 := by
            have h := Nat.min_le_left 1 (left / u')
            generalize min 1 (left / u') = z at h ⊢
            omega
          have hwl : left / u' ≤ left := Nat.div_le_self _ _
          have hwm : left / u' * u' ≤ left := Nat.div_mul_le_self _ _
          have hmod : left - left / u' * u' = left % u' := by rw [Nat.mul_comm]; have := Nat.div_add_mod left u'; omega
          refine ⟨fun σ' H' => Same H3 H' ∧ σ' = [some (.ref t), some (.int n), some (.int l), some (.ref f0), some (.int (left : Int)), some (.ref tp), some V.non, some (.int (u' : Int)), some (.int ((left / u' : Nat) : Int))], ?_, ?_⟩
          · refine ⟨_, rfl, _, rfl, _, _, rfl, rfl, ⟨by omega, by rw [Int.natAbs_natCast]; omega⟩, s5, ?_⟩
            rw [Int.natCast_ediv]
            rfl
          rintro σ2 H6 ⟨s6, rfl⟩
          refine ⟨fun σ' H' => σ' = [some (.ref t), some (.int n), some (.int l), some (.ref f0), some (.int (left : Int)), some (.ref tp), some V.non, some (.int (u' : Int)), some (.int ((left / u' : Nat) : Int))] ∧ ∃ H7 us, Same H3 H7 ∧ H' = upd H7 f0 (.lst (ys ++ us)) ∧ DpAll K H7 us (toDs (if 0 < left / u' then [Pt.loop 0 (left / u' : Nat) bd] else [])), ?_, ?_⟩
          · have a1 := (put (so.trans s6) (hone H6 s6) hpq).1
            refine ⟨_, rfl, .inl ⟨rfl, _, SqL.of a1⟩, _, rfl, by show 2 ≤ sizeLine; omega, fun t1 n1 => ?_⟩
            have z1 := same_upd (o := .tup [.int 0, .int ((left / u' : Nat) : Int)]) n1
            have w1 := upd_same (H := H6) (a := t1) (o := .tup [.int 0, .int ((left / u' : Nat) : Int)])
            generalize upd H6 t1 (.tup [.int 0, .int ((left / u' : Nat) : Int)]) = H7 at z1 w1 ⊢
            refine ⟨_, rfl, _, rfl, tp, _, _, _, rfl, rfl, seqT (s6.trans z1) hS', hat, by show 3 ≤ sizeLine; omega, fun t2 n2 => ?_⟩
            have z2 := same_upd (o := .tup [.str "loop", .ref t1, v3]) n2
            have w2 := upd_same (H := H7) (a := t2) (o := .tup [.str "loop", .ref t1, v3])
            generalize upd H7 t2 (.tup [.str "loop", .ref t1, v3]) = H8 at z2 w2 ⊢
            refine ⟨by show 1 ≤ sizeLine; omega, fun l1 n3 => ?_⟩
            have z3 := same_upd (o := .lst [.ref t2]) n3
            have w3 := upd_same (H := H8) (a := l1) (o := .lst [.ref t2])
            generalize upd H8 l1 (.lst [.ref t2]) = H9 at z3 w3 ⊢
            have z123 := z1.trans (z2.trans z3)
            refine ⟨_, rfl, _, _, rfl, ?_⟩
            have e1 : (if ((left / u' : Nat) : Int) < 1 then ((left / u' : Nat) : Int) else 1) = ((min 1 (left / u') : Nat) : Int) := by split <;> omega
            show rRep (.ref l1) (.int (if ((left / u' : Nat) : Int) < 1 then ((left / u' : Nat) : Int) else 1)) H9 _
            rw [e1]
            refine ⟨l1, _, _, rfl, rfl, w3, Int.le_trans (by decide) (Int.natCast_nonneg _), hmi, ?_, fun r nr => ?_⟩
            · rw [Int.toNat_natCast]
              show 1 * min 1 (left / u') ≤ sizeLine
              omega
            rw [Int.toNat_natCast, rep_one]
            have sr := same_upd (o := .lst (if 0 < left / u' then [V.ref t2] else [])) nr
            have hr' := upd_same (H := H9) (a := r) (o := .lst (if 0 < left / u' then [V.ref t2] else []))
            generalize upd H9 r (.lst (if 0 < left / u' then [V.ref t2] else [])) = HA at sr hr' ⊢
            refine ⟨f0, r, _, _, rfl, rfl, sr _ _ (z123 _ _ a1), hr', by split <;> simp <;> omega, ?_⟩
            refine ⟨rfl, HA, _, s6.trans (z123.trans sr), rfl, ?_⟩
            split
            · simp only [toDs, toD]
              exact .cons (.tup (SqT.of (sr _ _ (z3 _ _ w2))) (.cons (.str _) (.cons (.tup (SqT.of (sr _ _ (z3 _ _ (z2 _ _ w1)))) (.cons (.int _) (.cons (.int _) .nil))) (.cons (Dp.same (s6.trans (z123.trans sr)) g3) .nil)))) .nil
            · simp only [toDs]
              exact .nil
          rintro σ3 H7' ⟨rfl, H7, us, s7, rfl, hus⟩
          have hkq : ∀ q ∈ (if 0 < left / u' then [Pt.loop 0 (left / u' : Nat) bd] else []), dP (D0 + 1) q := by
            intro q hq
            split at hq
            · rw [List.mem_singleton.mp hq]
              exact ⟨count_w (by omega), hf, hb2, hb⟩
            · cases hq
          obtain ⟨a1, a2, a3⟩ := put (so.trans s7) hus hkq
          have hF7 := upd_same (H := H7) (a := f0) (o := .lst (ys ++ us))
          have hkt := Kt.upd (o := .lst (ys ++ us)) a1
          have hdv7 := Dp.kt hkt (Dp.same s7 hdv3) (dP_noL p _ hvp)
          have hul7 := DpAll.length hus
          rw [toDs_len] at hul7
          have hus1 : us.length ≤ 1 := by rw [hul7]; split <;> simp
          generalize upd H7 f0 (.lst (ys ++ us)) = H8 at a2 a3 hF7 hdv7 ⊢
          obtain ⟨xs8, v8, hS8, hat8, g8⟩ := hxt H8 hdv7
          refine ⟨fun σ' H' => ∃ ys', σ' = [some (.ref t), some (.int n), some (.int l), some (.ref f0), some (.int (left : Int)), some (.ref tp), some V.non, some (.int (u' : Int)), some (.int ((left / u' : Nat) : Int))] ∧ Same H H' ∧ H' f0 = some (.lst ys') ∧ DpAll K H' ys' (toDs (kp ++ frP n left p)), ?_, ?_⟩
          · refine ⟨_, rfl, .inl ⟨rfl, _, SqL.of hF7⟩, _, rfl, _, rfl, tp, _, _, _, rfl, rfl, hS8, hat8, _, rfl, _, rfl, _, rfl, _, rfl, _, _, rfl, rfl, ?_, _, _, rfl, rfl, ?_⟩
            · refine wide_mul (a := 104) (b := 800) ?_ ?_ (by decide) (by decide) (by decide)
              · rw [Int.natAbs_natCast]
                exact Nat.lt_of_le_of_lt (Nat.le_trans hwl hll) (by decide)
              · rw [Int.natAbs_natCast]
                exact hu8
            · have hsub : (left : Int) - ((left / u' : Nat) : Int) * (u' : Int) = ((left % u' : Nat) : Int) := by
                rw [← Int.natCast_mul, ← Int.ofNat_sub hwm, hmod]
              have hmle : left % u' ≤ left := Nat.mod_le _ _
              refine ⟨v8, bd, n, ((left % u' : Nat) : Int), by rw [← hsub]; rfl, g8, hb, by omega, hn, ⟨Int.natCast_nonneg _, by generalize left % u' = z at hmle ⊢; omega⟩, fun y H9 s9 hy => ?_⟩
              rw [Int.toNat_natCast] at hy
              obtain ⟨ty, zs, rfl, hSy, hay⟩ := tupDv hy
              have hlz := DpAll.length hay
              rw [toDs_len] at hlz
              have hfw := (fi_few (n := n) D0).1 bd hb (left % u')
              refine ⟨ty, zs, rfl, .inr hSy, fun lz nlz => ?_⟩
              have sz2 := same_upd (o := .lst zs) nlz
              have hlz2 := upd_same (H := H9) (a := lz) (o := .lst zs)
              generalize upd H9 lz (.lst zs) = HB at sz2 hlz2 ⊢
              have s89 := s9.trans sz2
              have hF9 := s89 _ _ hF7
              refine ⟨f0, lz, _, _, rfl, rfl, hF9, hlz2, by rw [List.length_append]; omega, ?_⟩
              have hktB := Kt.upd (o := .lst ((ys ++ us) ++ zs)) hF9
              refine ⟨_, rfl, fun b o hb => (upd_ne (ne_of_none hb nf0)).trans (s89 b o (a2 b o hb)), upd_same, ?_⟩
              rw [hfr left, ← List.append_assoc, toDs_app]
              refine DpAll.append (DpAll.kt hktB (DpAll.same s89 a3) (dPs_noL _ (D0 + 1) ?_)) (DpAll.kt hktB (DpAll.same sz2 hay) (dPs_noL _ D0 ((fi_dP (n := n) D0).1 bd hb _ (Nat.le_trans hmle hll))))
              intro q hq
              rcases List.mem_append.mp hq with z | z
              · exact hkv q z
              · exact hkq q z
          rintro σ4 H9 ⟨ys', rfl, s9, hF9, hd9⟩
          have hfl := (fi_few (n := n) (D0 + 1)).2 p hvp left
          refine hnx _ _ ⟨s9, ys', kp ++ frP n left p, 0, _, _, _, _, rfl, hF9, hd9, ?_, fun z => absurd z (by decide), by rw [List.length_append]; omega, by omega, by rw [hz, List.append_nil]; exact hmF⟩
          intro q hq
          rcases List.mem_append.mp hq with z | z
          · exact hkv q z
          · exact (fi_dP (n := n) (D0 + 1)).2 p hvp left hll q z
        | some m =>
          refine ⟨_, rfl, rfl, _, rfl, iteT ?_⟩
          refine ⟨_, rfl, _, rfl, _, _, rfl, rfl, _, rfl, ite_dec (fun g => ?_) fun g => ?_⟩
          · have hml : m ≤ left := by omega
            refine ⟨fun σ' H' => σ' = [some (.ref t), some (.int n), some (.int l), some (.ref f0), some (.int (left : Int)), some (.ref tp), some (.int (m : Int)), some (.int (u' : Int)), o8] ∧ ∃ H6, Same H3 H6 ∧ H' = upd H6 f0 (.lst (ys ++ if 0 < m then [.ref tp] else [])), ?_, ?_⟩
            · have a1 := (put (so.trans s5) (hone H5 s5) hpq).1
              refine ⟨_, rfl, .inl ⟨rfl, _, SqL.of a1⟩, _, rfl, by show 1 ≤ sizeLine; omega, fun l1 n1 => ?_⟩
              have z1 := same_upd (o := .lst [.ref tp]) n1
              have w1 := upd_same (H := H5) (a := l1) (o := .lst [.ref tp])
              generalize upd H5 l1 (.lst [.ref tp]) = H6 at z1 w1 ⊢
              refine ⟨_, rfl, _, _, rfl, ?_⟩
              have e1 : (if (m : Int) < 1 then (m : Int) else 1) = ((min 1 m : Nat) : Int) := by split <;> omega
              show rRep (.ref l1) (.int (if (m : Int) < 1 then (m : Int) else 1)) H6 _
              rw [e1]
              refine ⟨l1, _, _, rfl, rfl, w1, by omega, by omega, ?_, fun r nr => ?_⟩
              · rw [Int.toNat_natCast]
                show 1 * min 1 m ≤ sizeLine
                omega
              rw [Int.toNat_natCast, rep_one]
              have sr := same_upd (o := .lst (if 0 < m then [V.ref tp] else [])) nr
              have hr' := upd_same (H := H6) (a := r) (o := .lst (if 0 < m then [V.ref tp] else []))
              generalize upd H6 r (.lst (if 0 < m then [V.ref tp] else [])) = H7 at sr hr' ⊢
              refine ⟨f0, r, _, _, rfl, rfl, sr _ _ (z1 _ _ a1), hr', by split <;> simp <;> omega, ?_⟩
              exact ⟨rfl, H7, s5.trans (z1.trans sr), rfl⟩
            · rintro σ2 H6' ⟨rfl, H6, s6, rfl⟩
              refine ⟨_, rfl, _, rfl, _, _, rfl, rfl, ?_⟩
              by_cases hm0 : 0 < m
              · rw [if_pos hm0]
                exact next1 hs hml hm0 s6
              · rw [if_neg hm0]
                have m0 : m = 0 := by omega
                subst m0
                obtain ⟨_, a2, a3⟩ := put (us := []) (kq := []) (so.trans s6) (by simp only [toDs]; exact .nil) (fun q hq => by cases hq)
                rw [hs] at hm
                dsimp only at hm
                rw [if_neg (by omega), if_neg (by decide)] at hm
                rw [show kp ++ ([] : List Pt) = kp from List.append_nil kp] at a3
                show D'.nx [some (.ref t), some (.int n), some (.int l), some (.ref f0), some (.int ((left : Int) - ((0 : Nat) : Int))), some (.ref tp), some (.int ((0 : Nat) : Int)), some (.int (u' : Int)), o8] _
                rw [show ((left : Int) - ((0 : Nat) : Int)) = (left : Int) by omega]
                exact hnx _ _ ⟨a2, _, kp, left, _, _, _, _, rfl, upd_same, a3, hkv, fun _ => by omega, hk80, hll, hm⟩
          · have hlm : left < m := by omega
            have hnz0 := hnz (.inr ⟨m, hs, hlm⟩)
            have hmF : fiL n l.toNat ps = kp ++ frP n left p := by
              rw [hm, hs]
              dsimp only
              rw [if_pos hlm]
            have hu0 : 0 < u' := Nat.pos_of_ne_zero hnz0
            have hub := (st_le hn (D0 + 1)).2 bd hvb u' hu
            have hu8 : u' < 2 ^ 800 := Nat.lt_of_le_of_lt hub (big (by omega) (by omega))
            have hul := (Nat.log2_lt hnz0).mpr hu8
            have hmi : ((min 1 (left / u') : Nat) : Int) < 2 ^ 63 := by
              have h := Nat.min_le_left 1 (left / u')
              generalize min 1 (left / u') = z at h ⊢
              omega
            have hwl : left / u' ≤ left := Nat.div_le_self _ _
            have hwm : left / u' * u' ≤ left := Nat.div_mul_le_self _ _
            have hmod : left - left / u' * u' = left % u' := by rw [Nat.mul_comm]; have := Nat.div_add_mod left u'; omega
            refine ⟨fun σ' H' => Same H3 H' ∧ σ' = [some (.ref t), some (.int n), some (.int l), some (.ref f0), some (.int (left : Int)), some (.ref tp), some (V.int (m : Int)), some (.int (u' : Int)), some (.int ((left / u' : Nat) : Int))], ?_, ?_⟩
            · refine ⟨_, rfl, _, rfl, _, _, rfl, rfl, ⟨by omega, by rw [Int.natAbs_natCast]; omega⟩, s5, ?_⟩
              rw [Int.natCast_ediv]
              rfl
            rintro σ2 H6 ⟨s6, rfl⟩
            refine ⟨fun σ' H' => σ' = [some (.ref t), some (.int n), some (.int l), some (.ref f0), some (.int (left : Int)), some (.ref tp), some (V.int (m : Int)), some (.int (u' : Int)), some (.int ((left / u' : Nat) : Int))] ∧ ∃ H7 us, Same H3 H7 ∧ H' = upd H7 f0 (.lst (ys ++ us)) ∧ DpAll K H7 us (toDs (if 0 < left / u' then [Pt.loop 0 (left / u' : Nat) bd] else [])), ?_, ?_⟩
            · have a1 := (put (so.trans s6) (hone H6 s6) hpq).1
              refine ⟨_, rfl, .inl ⟨rfl, _, SqL.of a1⟩, _, rfl, by show 2 ≤ sizeLine; omega, fun t1 n1 => ?_⟩
              have z1 := same_upd (o := .tup [.int 0, .int ((left / u' : Nat) : Int)]) n1
              have w1 := upd_same (H := H6) (a := t1) (o := .tup [.int 0, .int ((left / u' : Nat) : Int)])
              generalize upd H6 t1 (.tup [.int 0, .int ((left / u' : Nat) : Int)]) = H7 at z1 w1 ⊢
              refine ⟨_, rfl, _, rfl, tp, _, _, _, rfl, rfl, seqT (s6.trans z1) hS', hat, by show 3 ≤ sizeLine; omega, fun t2 n2 => ?_⟩
              have z2 := same_upd (o := .tup [.str "loop", .ref t1, v3]) n2
              have w2 := upd_same (H := H7) (a := t2) (o := .tup [.str "loop", .ref t1, v3])
              generalize upd H7 t2 (.tup [.str "loop", .ref t1, v3]) = H8 at z2 w2 ⊢
              refine ⟨by show 1 ≤ sizeLine; omega, fun l1 n3 => ?_⟩
              have z3 := same_upd (o := .lst [.ref t2]) n3
              have w3 := upd_same (H := H8) (a := l1) (o := .lst [.ref t2])
              generalize upd H8 l1 (.lst [.ref t2]) = H9 at z3 w3 ⊢
              have z123 := z1.trans (z2.trans z3)
              refine ⟨_, rfl, _, _, rfl, ?_⟩
              have e1 : (if ((left / u' : Nat) : Int) < 1 then ((left / u' : Nat) : Int) else 1) = ((min 1 (left / u') : Nat) : Int) := by split <;> omega
              show rRep (.ref l1) (.int (if ((left / u' : Nat) : Int) < 1 then ((left / u' : Nat) : Int) else 1)) H9 _
              rw [e1]
              refine ⟨l1, _, _, rfl, rfl, w3, Int.le_trans (by decide) (Int.natCast_nonneg _), hmi, ?_, fun r nr => ?_⟩
              · rw [Int.toNat_natCast]
                show 1 * min 1 (left / u') ≤ sizeLine
                omega
              rw [Int.toNat_natCast, rep_one]
              have sr := same_upd (o := .lst (if 0 < left / u' then [V.ref t2] else [])) nr
              have hr' := upd_same (H := H9) (a := r) (o := .lst (if 0 < left / u' then [V.ref t2] else []))
              generalize upd H9 r (.lst (if 0 < left / u' then [V.ref t2] else [])) = HA at sr hr' ⊢
              refine ⟨f0, r, _, _, rfl, rfl, sr _ _ (z123 _ _ a1), hr', by split <;> simp <;> omega, ?_⟩
              refine ⟨rfl, HA, _, s6.trans (z123.trans sr), rfl, ?_⟩
              split
              · simp only [toDs, toD]
                exact .cons (.tup (SqT.of (sr _ _ (z3 _ _ w2))) (.cons (.str _) (.cons (.tup (SqT.of (sr _ _ (z3 _ _ (z2 _ _ w1)))) (.cons (.int _) (.cons (.int _) .nil))) (.cons (Dp.same (s6.trans (z123.trans sr)) g3) .nil)))) .nil
              · simp only [toDs]
                exact .nil
            rintro σ3 H7' ⟨rfl, H7, us, s7, rfl, hus⟩
            have hkq : ∀ q ∈ (if 0 < left / u' then [Pt.loop 0 (left / u' : Nat) bd] else []), dP (D0 + 1) q := by
              intro q hq
              split at hq
              · rw [List.mem_singleton.mp hq]
                exact ⟨count_w (by omega), hf, hb2, hb⟩
              · cases hq
            obtain ⟨a1, a2, a3⟩ := put (so.trans s7) hus hkq
            have hF7 := upd_same (H := H7) (a := f0) (o := .lst (ys ++ us))
            have hkt := Kt.upd (o := .lst (ys ++ us)) a1
            have hdv7 := Dp.kt hkt (Dp.same s7 hdv3) (dP_noL p _ hvp)
            have hul7 := DpAll.length hus
            rw [toDs_len] at hul7
            have hus1 : us.length ≤ 1 := by rw [hul7]; split <;> simp
            generalize upd H7 f0 (.lst (ys ++ us)) = H8 at a2 a3 hF7 hdv7 ⊢
            obtain ⟨xs8, v8, hS8, hat8, g8⟩ := hxt H8 hdv7
            refine ⟨fun σ' H' => ∃ ys', σ' = [some (.ref t), some (.int n), some (.int l), some (.ref f0), some (.int (left : Int)), some (.ref tp), some (V.int (m : Int)), some (.int (u' : Int)), some (.int ((left / u' : Nat) : Int))] ∧ Same H H' ∧ H' f0 = some (.lst ys') ∧ DpAll K H' ys' (toDs (kp ++ frP n left p)), ?_, ?_⟩
            · refine ⟨_, rfl, .inl ⟨rfl, _, SqL.of hF7⟩, _, rfl, _, rfl, tp, _, _, _, rfl, rfl, hS8, hat8, _, rfl, _, rfl, _, rfl, _, rfl, _, _, rfl, rfl, ?_, _, _, rfl, rfl, ?_⟩
              · refine wide_mul (a := 104) (b := 800) ?_ ?_ (by decide) (by decide) (by decide)
                · rw [Int.natAbs_natCast]
                  exact Nat.lt_of_le_of_lt (Nat.le_trans hwl hll) (by decide)
                · rw [Int.natAbs_natCast]
                  exact hu8
              · have hsub : (left : Int) - ((left / u' : Nat) : Int) * (u' : Int) = ((left % u' : Nat) : Int) := by
                  rw [← Int.natCast_mul, ← Int.ofNat_sub hwm, hmod]
                have hmle : left % u' ≤ left := Nat.mod_le _ _
                refine ⟨v8, bd, n, ((left % u' : Nat) : Int), by rw [← hsub]; rfl, g8, hb, by omega, hn, ⟨Int.natCast_nonneg _, by generalize left % u' = z at hmle ⊢; omega⟩, fun y H9 s9 hy => ?_⟩
                rw [Int.toNat_natCast] at hy
                obtain ⟨ty, zs, rfl, hSy, hay⟩ := tupDv hy
                have hlz := DpAll.length hay
                rw [toDs_len] at hlz
                have hfw := (fi_few (n := n) D0).1 bd hb (left % u')
                refine ⟨ty, zs, rfl, .inr hSy, fun lz nlz => ?_⟩
                have sz2 := same_upd (o := .lst zs) nlz
                have hlz2 := upd_same (H := H9) (a := lz) (o := .lst zs)
                generalize upd H9 lz (.lst zs) = HB at sz2 hlz2 ⊢
                have s89 := s9.trans sz2
                have hF9 := s89 _ _ hF7
                refine ⟨f0, lz, _, _, rfl, rfl, hF9, hlz2, by rw [List.length_append]; omega, ?_⟩
                have hktB := Kt.upd (o := .lst ((ys ++ us) ++ zs)) hF9
                refine ⟨_, rfl, fun b o hb => (upd_ne (ne_of_none hb nf0)).trans (s89 b o (a2 b o hb)), upd_same, ?_⟩
                rw [hfr left, ← List.append_assoc, toDs_app]
                refine DpAll.append (DpAll.kt hktB (DpAll.same s89 a3) (dPs_noL _ (D0 + 1) ?_)) (DpAll.kt hktB (DpAll.same sz2 hay) (dPs_noL _ D0 ((fi_dP (n := n) D0).1 bd hb _ (Nat.le_trans hmle hll))))
                intro q hq
                rcases List.mem_append.mp hq with z | z
                · exact hkv q z
                · exact hkq q z
            rintro σ4 H9 ⟨ys', rfl, s9, hF9, hd9⟩
            have hfl := (fi_few (n := n) (D0 + 1)).2 p hvp left
            refine hnx _ _ ⟨s9, ys', kp ++ frP n left p, 0, _, _, _, _, rfl, hF9, hd9, ?_, fun z => absurd z (by decide), by rw [List.length_append]; omega, by omega, by rw [hz, List.append_nil]; exact hmF⟩
            intro q hq
            rcases List.mem_append.mp hq with z | z
            · exact hkv q z
            · exact (fi_dP (n := n) (D0 + 1)).2 p hvp left hll q z
    · rintro σ H2 ⟨s2, ys, kp, left, o5, o6, o7, o8, rfl, hF2, hd2, hkv, hkl, hk80, hll, hm⟩
      rw [List.drop_of_length_le (by omega)] at hm
      simp only [fiL, List.append_nil] at hm
      rw [hm] at q
      refine ⟨_, rfl, f0, ys, rfl, .inl ⟨SqL.of hF2, fun tv ntv => ?_⟩⟩
      have st := same_upd (o := .tup ys) ntv
      exact q _ _ (s2.trans st) (.tup (SqT.of upd_same) (DpAll.same st hd2))
end
end L2.L70

set_option maxHeartbeats 1000000
set_option exponentiation.threshold 2000
namespace L2.L70
open PySem PySem.Spec PyProof.Rows LR L2.Lr L2.Cut
mutual
def szP : Pt → Nat
  | .one _ => 1
  | .loop _ _ bd => 1 + szL bd
  | .ever bd => 1 + szL bd
def szL : List Pt → Nat
  | [] => 0
  | p :: ps => szP p + szL ps
end
theorem szL_app : ∀ a b : List Pt, szL (a ++ b) = szL a + szL b
  | [], b => by simp [szL]
  | p :: a, b => by simp only [List.cons_append, szL, szL_app a b]; omega
def Sx : Nat → Nat
  | 0 => 1
  | D + 1 => 1 + 2 * Sx D
def ex : Nat → Nat
  | 0 => 0
  | D + 1 => 2 * Sx D + ex D
theorem szL_le {m : Nat} : ∀ {ps : List Pt}, (∀ p ∈ ps, szP p ≤ m) → szL ps ≤ ps.length * m
  | [], _ => by simp [szL]
  | p :: ps, h => by
    have h1 := h p (List.mem_cons_self ..)
    have h2 := szL_le fun q hq => h q (List.mem_cons_of_mem _ hq)
    simp only [szL, List.length_cons, Nat.succ_mul]
    omega
theorem dP_sz : ∀ {D : Nat} {p : Pt}, dP D p → szP p ≤ Sx D
  | 0, .one d, _ => by simp [szP, Sx]
  | D + 1, .one d, _ => by simp [szP, Sx]
  | D + 1, .loop a b bd, h => by
    have := szL_le fun q hq => dP_sz (h.2.2.2 q hq)
    have := Nat.mul_le_mul_right (Sx D) h.2.2.1
    simp only [szP, Sx]
    omega
  | D + 1, .ever bd, h => by
    have := szL_le fun q hq => dP_sz (h.2.2 q hq)
    have := Nat.mul_le_mul_right (Sx D) h.2.1
    simp only [szP, Sx]
    omega
  | 0, .loop _ _ _, h => h.elim
  | 0, .ever _, h => h.elim
theorem fi_sz {n : Int} : ∀ D : Nat, (∀ ps : List Pt, (∀ p ∈ ps, dP D p) → ∀ l, szL (fiL n l ps) ≤ szL ps + ex D) ∧ (∀ p, dP D p → ∀ l, szL (frP n l p) ≤ szP p + ex D) := by
  have list : ∀ D, (∀ p, dP D p → ∀ l, szL (frP n l p) ≤ szP p + ex D) → ∀ ps : List Pt, (∀ p ∈ ps, dP D p) → ∀ l, szL (fiL n l ps) ≤ szL ps + ex D := by
    intro D hP ps
    induction ps with
    | nil => intro _ l; simp [fiL, szL]
    | cons p ps ih =>
      intro hv l
      have hp := hP p (hv p (List.mem_cons_self ..))
      have ih := ih fun q hq => hv q (List.mem_cons_of_mem _ hq)
      unfold fiL
      simp only [szL]
      split
      · simp [szL]
      · split
        · have := hp l; omega
        · split
          · have := hp l; omega
          · split
            · rename_i m _ _ _
              have := ih (l - m); simp only [szL]; omega
            · have := ih l; omega
  intro D
  induction D with
  | zero =>
    have hP : ∀ p, dP 0 p → ∀ l, szL (frP n l p) ≤ szP p + ex 0 := by
      intro p hv l
      cases p with
      | one d => simp [frP, szL]
      | loop a b bd => exact hv.elim
      | ever bd => exact hv.elim
    exact ⟨list 0 hP, hP⟩
  | succ D ih =>
    have part : ∀ (bd : List Pt), bd.length ≤ 2 → (∀ p ∈ bd, dP D p) → ∀ l, szL ((if 0 < l / un n bd then [Pt.loop 0 (l / un n bd : Nat) bd] else []) ++ fiL n (l % un n bd) bd) ≤ 1 + szL bd + ex (D + 1) := by
      intro bd h2 hb l
      have := ih.1 bd hb (l % un n bd)
      have h3 := szL_le fun q hq => dP_sz (hb q hq)
      have h4 := Nat.mul_le_mul_right (Sx D) h2
      rw [szL_app]
      simp only [ex]
      split
      · simp only [szL, szP]; omega
      · simp only [szL]; omega
    have hP : ∀ p, dP (D + 1) p → ∀ l, szL (frP n l p) ≤ szP p + ex (D + 1) := by
      intro p hv l
      cases p with
      | one d => simp [frP, szL]
      | loop a b bd => simpa only [frP, szP] using part bd hv.2.2.1 hv.2.2.2 l
      | ever bd => simpa only [frP, szP] using part bd hv.2.1 hv.2.2 l
    exact ⟨list (D + 1) hP, hP⟩
theorem finL_mem : ∀ {ps : List Pt}, finL ps = true → ∀ p ∈ ps, finP p = true
  | [], _, p, h => by cases h
  | q :: ps, h, p, hp => by
    simp only [finL] at h
    obtain ⟨h1, h2⟩ := Bool.and_eq_true_iff.mp h
    cases hp with
    | head => exact h1
    | tail _ hp => exact finL_mem h2 p hp
/-- of the first steps none is without end -/
theorem fi_fin {n : Int} : ∀ D : Nat, (∀ ps : List Pt, (∀ p ∈ ps, dP D p) → ∀ l, ∀ q ∈ fiL n l ps, finP q = true) ∧ (∀ p, dP D p → ∀ l, ∀ q ∈ frP n l p, finP q = true) := by
  have list : ∀ D, (∀ p, dP D p → ∀ l, ∀ q ∈ frP n l p, finP q = true) → ∀ ps : List Pt, (∀ p ∈ ps, dP D p) → ∀ l, ∀ q ∈ fiL n l ps, finP q = true := by
    intro D hP ps
    induction ps with
    | nil => intro _ l q hq; simp [fiL] at hq
    | cons p ps ih =>
      intro hv l q hq
      have hd := hv p (List.mem_cons_self ..)
      have hp := hP p hd
      have ih := ih fun q hq => hv q (List.mem_cons_of_mem _ hq)
      unfold fiL at hq
      split at hq
      · cases hq
      · split at hq
        · exact hp l q hq
        · rename_i m hm
          split at hq
          · exact hp l q hq
          · split at hq
            · cases hq with
              | head =>
                cases p with
                | one d => rfl
                | loop a b bd =>
                  simp only [finP]
                  cases D with
                  | zero => exact hd.elim
                  | succ D => exact hd.2.1
                | ever bd =>
                  simp only [stP] at hm
                  split at hm
                  · cases hm; omega
                  · cases hm
              | tail _ hq => exact ih (l - m) q hq
            · exact ih l q hq
  intro D
  induction D with
  | zero =>
    have hP : ∀ p, dP 0 p → ∀ l, ∀ q ∈ frP n l p, finP q = true := by
      intro p hv l q hq
      cases p with
      | one d => simp [frP] at hq
      | loop a b bd => exact hv.elim
      | ever bd => exact hv.elim
    exact ⟨list 0 hP, hP⟩
  | succ D ih =>
    have part : ∀ (bd : List Pt), finL bd = true → (∀ p ∈ bd, dP D p) → ∀ l, ∀ q ∈ (if 0 < l / un n bd then [Pt.loop 0 (l / un n bd : Nat) bd] else []) ++ fiL n (l % un n bd) bd, finP q = true := by
      intro bd hf hb l q hq
      rcases List.mem_append.mp hq with m | m
      · split at m
        · rw [List.mem_singleton.mp m]
          simpa only [finP] using hf
        · cases m
      · exact ih.1 bd hb _ q m
    have hP : ∀ p, dP (D + 1) p → ∀ l, ∀ q ∈ frP n l p, finP q = true := by
      intro p hv l q hq
      cases p with
      | one d => simp [frP] at hq
      | loop a b bd => exact part bd hv.2.1 hv.2.2.2 l q (by simpa only [frP] using hq)
      | ever bd => exact part bd hv.1 hv.2.2 l q (by simpa only [frP] using hq)
    exact ⟨list (D + 1) hP, hP⟩
/-! ### the size as the program reckons it -/
def singSB : Bool := singles.all fun d => match d with
  | .tuple (.str w :: es) => !roundW w && singD w es
  | _ => false
theorem singS_ok : singSB = true := by decide +kernel
theorem single_size {m : Nat} {d : PyData} (h : d ∈ singles) : sizeD m d = 1 := by
  have z := List.all_eq_true.mp (show singles.all _ = true from singS_ok) d h
  split at z
  · rename_i w es
    obtain ⟨z1, z2⟩ := Bool.and_eq_true_iff.mp z
    have z1 : roundW w = false := by simpa using z1
    cases m <;> simp [sizeD, z1, z2]
  · cases z
theorem go_size {sz : PyData → Int} : ∀ {ps : List Pt} {acc : Nat}, (∀ p ∈ ps, sz (toD p) = (szP p : Int)) → acc + szL ps ≤ 60 → goL sz (acc : Int) (toDs ps) = ((acc + szL ps : Nat) : Int)
  | [], acc, _, _ => by simp [toDs, goL, szL]
  | p :: ps, acc, h, hb => by
    simp only [szL] at hb
    have h1 := h p (List.mem_cons_self ..)
    have ih := go_size (ps := ps) (acc := acc + szP p) (fun q hq => h q (List.mem_cons_of_mem _ hq)) (by omega)
    simp only [toDs, goL, szL]
    rw [h1, if_neg (by omega)]
    have e : (acc : Int) + (szP p : Int) = ((acc + szP p : Nat) : Int) := by omega
    rw [e, ih]
    omega
theorem szL_mem {p : Pt} : ∀ {ps : List Pt}, p ∈ ps → szP p ≤ szL ps
  | q :: ps, h => by
    simp only [szL]
    cases h with
    | head => omega
    | tail _ h => have := szL_mem h; omega
theorem last_two {a b : PyData} : lastD [a, b] = b := rfl
theorem last_one {b : PyData} : lastD [b] = b := rfl
theorem size_fin : ∀ {D m : Nat} {p : Pt}, D ≤ m → m ≤ 4 → dP D p → finP p = true → szP p ≤ 60 → sizeD m (toD p) = (szP p : Int)
  | D, m, .one d, _, _, h, _, _ => by
    have h : d ∈ singles := by cases D <;> exact h
    simp only [toD, szP]
    exact single_size h
  | D + 1, m + 1, .loop a b bd, hm, h4, h, hf, hb => by
    simp only [finP] at hf
    simp only [szP] at hb
    have ih : ∀ q ∈ bd, sizeD m (toD q) = (szP q : Int) := fun q hq => size_fin (D := D) (by omega) (by omega) (h.2.2.2 q hq) (finL_mem hf q hq) (by have := szL_mem hq; omega)
    have hg := go_size (acc := 0) ih (by omega)
    simp only [toD, sizeD]
    rw [if_pos (show roundW "loop" = true by decide +kernel)]
    have hh : headD (3 - m) "loop" [.tuple [.int a, .int b], .tuple (toDs bd)] = true := by
      show (!decide (("loop" : Str) = "forever") && (countD (.tuple [.int a, .int b]) && decide ((3 : Int) - m < 4))) = true
      rw [h.1, decide_eq_true (show (3 : Int) - m < 4 by omega)]
      decide +kernel
    rw [if_pos hh, last_two]
    show 1 + goL (sizeD m) 0 (toDs bd) = _
    have e : goL (sizeD m) 0 (toDs bd) = ((0 + szL bd : Nat) : Int) := hg
    rw [e]
    simp only [szP]
    omega
  | 0, m, .loop _ _ _, _, _, h, _, _ => h.elim
  | D + 1, 0, .loop _ _ _, hm, _, _, _, _ => by omega
  | D, m, .ever _, _, _, _, hf, _ => by simp [finP] at hf
theorem size_ever {D : Nat} {bd : List Pt} (hD : D ≤ 2) (h : dP (D + 1) (.ever bd)) (hb : szP (.ever bd) ≤ 60) : sizeD 4 (toD (.ever bd)) = (szP (.ever bd) : Int) := by
  obtain ⟨hf, h2, hd⟩ := h
  simp only [szP] at hb
  have ih : ∀ q ∈ bd, sizeD 3 (toD q) = (szP q : Int) := fun q hq => size_fin (D := D) (by omega) (by omega) (hd q hq) (finL_mem hf q hq) (by have := szL_mem hq; omega)
  have hg : goL (sizeD 3) 0 (toDs bd) = ((0 + szL bd : Nat) : Int) := go_size (acc := 0) ih (by omega)
  simp only [toD, sizeD]
  rw [if_pos (show roundW "forever" = true by decide +kernel)]
  have hh : headD (3 - (3 : Nat)) "forever" [.tuple (toDs bd)] = true := by
    show (decide (("forever" : Str) = "forever") && decide ((3 : Int) - (3 : Nat) = 0)) = true
    decide +kernel
  rw [if_pos hh, last_one]
  show 1 + goL (sizeD 3) 0 (toDs bd) = _
  rw [hg]
  simp only [szP]
  omega
theorem sing_sOk : ∀ d ∈ singles, sOk d := by
  intro d h
  have sz : sizeLine = 16777216 := sizeLine_eq
  have st : ∀ x : Str, x ∈ (["send", "take", "work", "c", "d", "e"] : List Str) → sOk (.str x) := fun x hx => by
    have : (["send", "take", "work", "c", "d", "e"] : List Str).all (fun x => decide (x.length ≤ 10) && PyData.strOk x) = true := by decide +kernel
    obtain ⟨z1, z2⟩ := Bool.and_eq_true_iff.mp (List.all_eq_true.mp this x hx)
    unfold sOk
    exact ⟨by have := of_decide_eq_true z1; omega, z2⟩
  simp only [singles, List.mem_cons, List.not_mem_nil, or_false] at h
  rcases h with rfl | rfl | rfl | rfl | rfl <;> (simp only [sOk, sOkAll, List.length_cons, List.length_nil]; refine ⟨by omega, ?_⟩)
  all_goals simp only [and_true, true_and]
  · exact ⟨by simpa only [sOk] using st "send" (by decide +kernel), by simpa only [sOk] using st "c" (by decide +kernel)⟩
  · exact ⟨by simpa only [sOk] using st "take" (by decide +kernel), by simpa only [sOk] using st "d" (by decide +kernel)⟩
  · simpa only [sOk] using st "work" (by decide +kernel)
  · exact ⟨by simpa only [sOk] using st "send" (by decide +kernel), by simpa only [sOk] using st "e" (by decide +kernel)⟩
  · simpa only [sOk] using st "work" (by decide +kernel)
theorem str_sOk {x : Str} (h : (decide (x.length ≤ 10) && PyData.strOk x) = true) : sOk (.str x) := by
  obtain ⟨z1, z2⟩ := Bool.and_eq_true_iff.mp h
  unfold sOk
  exact ⟨by have := of_decide_eq_true z1; have sz : sizeLine = 16777216 := sizeLine_eq; omega, z2⟩
mutual
theorem dP_sOk : ∀ (p : Pt) (D : Nat), dP D p → sOk (toD p)
  | .one d, D, h => by
    have h : d ∈ singles := by cases D <;> exact h
    simp only [toD]
    exact sing_sOk d h
  | .loop a b bd, D, h => by
    have sz : sizeLine = 16777216 := sizeLine_eq
    cases D with
    | zero => exact h.elim
    | succ D =>
      have ih := dPs_sOk bd D h.2.2.2
      simp only [toD, sOk, sOkAll, List.length_cons, List.length_nil, and_true, true_and]
      exact ⟨by omega, by simpa only [sOk] using str_sOk (x := "loop") (by decide +kernel), by omega, by rw [toDs_len]; have := h.2.2.1; omega, ih⟩
  | .ever bd, D, h => by
    have sz : sizeLine = 16777216 := sizeLine_eq
    cases D with
    | zero => exact h.elim
    | succ D =>
      have ih := dPs_sOk bd D h.2.2
      simp only [toD, sOk, sOkAll, List.length_cons, List.length_nil, and_true, true_and]
      exact ⟨by omega, by simpa only [sOk] using str_sOk (x := "forever") (by decide +kernel), by rw [toDs_len]; have := h.2.1; omega, ih⟩
theorem dPs_sOk : ∀ (ps : List Pt) (D : Nat), (∀ p ∈ ps, dP D p) → sOkAll (toDs ps)
  | [], _, _ => by simp [toDs, sOkAll]
  | p :: ps, D, h => by
    simp only [toDs, sOkAll]
    exact ⟨dP_sOk p D (h p (List.mem_cons_self ..)), dPs_sOk ps D fun q hq => h q (List.mem_cons_of_mem _ hq)⟩
end
/-! ### rows -/
theorem toDs_mem {d : PyData} {ps : List Pt} (h : d ∈ toDs ps) : ∃ p ∈ ps, d = toD p := by
  rw [toDs_map] at h
  obtain ⟨p, hp, e⟩ := List.mem_map.mp h
  exact ⟨p, hp, e.symm⟩
theorem fin_fore {D : Nat} {p : Pt} (hd : dP D p) (h : finP p = true) : foreverD (toD p) = false := by
  cases p with
  | one d =>
    obtain ⟨w, es, e, hk⟩ := kind_of (dP_v hd)
    rw [e]
    rcases hk with ⟨_, _, hw⟩ | ⟨_, _, _, z, _⟩ | ⟨_, z, _⟩
    · show decide (w = "forever") = false
      exact (Bool.or_eq_false_iff.mp hw).2
    · cases z
    · cases z
  | loop a b bd =>
    simp only [toD]
    show decide (("loop" : Str) = "forever") = false
    decide +kernel
  | ever bd => simp [finP] at h
theorem rowOk {ps : List Pt} (hd : ∀ p ∈ ps, dP 3 p) (hl : ps.length ≤ 60) (hz : szL ps ≤ 60) (hg : ∀ p ∈ ps.dropLast, finP p = true) : RowOk (toDs ps) := by
  have sz : sizeLine = 16777216 := sizeLine_eq
  refine ⟨?_, by rw [toDs_len]; omega, fun d h => ?_, ?_, ?_⟩
  · unfold sOk
    exact ⟨by rw [toDs_len]; omega, dPs_sOk ps 3 hd⟩
  · obtain ⟨p, hp, rfl⟩ := toDs_mem h
    obtain ⟨w, es, e, _⟩ := kind_of (dP_v (hd p hp))
    exact ⟨w, es, e⟩
  · have e : goL (sizeD 4) 0 (toDs ps) = ((0 + szL ps : Nat) : Int) := go_size (acc := 0) (fun p hp => by
      have hp6 : szP p ≤ 60 := Nat.le_trans (szL_mem hp) hz
      cases hf : finP p with
      | true => exact size_fin (D := 3) (by decide) (by decide) (hd p hp) hf hp6
      | false =>
        cases p with
        | one d => simp [finP] at hf
        | loop a b bd => have := (hd _ hp).2.1; simp only [finP] at hf; rw [hf] at this; cases this
        | ever bd => exact size_ever (D := 2) (by decide) (hd _ hp) hp6) (by omega)
    show goL (sizeD 4) 0 (toDs ps) ≤ 60
    rw [e]
    omega
  · unfold goesD
    rw [toDs_map, ← List.map_dropLast, List.all_map, List.all_eq_true]
    intro p hp
    show (!foreverD (toD p)) = true
    rw [fin_fore (hd p (List.dropLast_subset _ hp)) (hg p hp)]
    rfl
theorem rowOk_first {n : Int} {ps : List Pt} {l : Nat} (hd : ∀ p ∈ ps, dP 3 p) (hl : ps.length ≤ 3) (hz : szL ps ≤ 29) (h30 : l ≤ 10 ^ 30) : RowOk (toDs (fiL n l ps)) := by
  have h1 := (fi_few (n := n) 3).1 ps hd l
  have h2 := (fi_sz (n := n) 3).1 ps hd l
  have e : ex 3 = 22 := rfl
  exact rowOk ((fi_dP (n := n) 3).1 ps hd l h30) (by omega) (by omega) fun p hp => (fi_fin (n := n) 3).1 ps hd l p (List.dropLast_subset _ hp)
end L2.L70

set_option maxHeartbeats 1000000
set_option exponentiation.threshold 2000
namespace L2.L70
open PySem PySem.Spec PyProof.Rows LR L2.Lr L2.Cut
local macro_rules | `(tactic| walk_at "nx") => `(tactic| dsimp only [gName, tNext, tSeq, tAsg, List.set_cons_zero, List.set_cons_succ])
theorem scre : FnScope ["_law_row", "_law_n", "_law_steps", "_law_kept", "e"] ["_law_row", "_law_n", "_law_steps"] (defScope sLRe) := ⟨rfl, rfl, rfl, by decide +kernel, rfl, by decide +kernel, by decide +kernel⟩
def spRe (K : PySem.W.Frag) : Sp := fun vs H Q _ => ∃ x y z, vs = [x, y, z] ∧
  ((∃ ds, Dp K H x (.tuple ds) ∧ ∀ l H', Same H H' → H' l = some (.lst [.str "row", x]) → Q (.ref l) H') ∨
   ∃ ps dy dz, RowP K H x ps ∧ Dp K H y dy ∧ Dp K H z dz ∧
    ((betw 0 (10 ^ 30) dy = false ∧ ∀ l H', Same H H' → H' l = some (.lst [.str "number", y]) → Q (.ref l) H') ∨ (betw 0 (10 ^ 30) dy = true ∧ betw 0 (10 ^ 30) dz = false ∧ ∀ l H', Same H H' → H' l = some (.lst [.str "number", z]) → Q (.ref l) H')))
section
variable {P : Program} {w : World} {K : PySem.W.Frag} {mg : Str → Option Value} {base : Heap}
theorem ol_ref {k : Nat} {f fC : Addr} {fd dC : FuncData} (F : FnP K "_law_refused" sLRe f fd) (T : Txt K mg) (C : Def P w K mg base (L2.CX P w) k "cut" fC dC ["row", "n", "steps"] (spCut K)) : FnOk P w K mg base CX0 (k + 1) f fd ["_law_row", "_law_n", "_law_steps"] (spRe K) := by
  refine F.ok scre (fun vs H Q E h => ?_) (fun cdv A outer s H vs Q E hr h => ?_)
  · obtain ⟨x, y, z, rfl, _⟩ := h
    rfl
  · obtain ⟨x, y, z, rfl, h⟩ := h
    refine ⟨_, pss_cons (ps_set (i := 3) scre.nd rfl (Or.inl rfl) pe_non)
      (pss_cons (ps_try_cl (Wout := fun _ _ _ _ => False) rfl rfl scre.nd takes0 (fun W pn xe tk _ => pss_one (ps_expr (pe_callS C.ok hr (by rfl) C.g C.k C.b (fun σ => passAt tk σ) (pa_cons (pv 0) (pa_cons (pv 1) (pa_cons (pv 2) pa_nil))))))
        (.named (i := 4) rfl rfl ⟨rfl, by decide, .inl T.xB.g⟩ (fun a oe cls d pn hz hf => pss_one (ps_set (i := 3) scre.nd rfl (Or.inl rfl) (pe_lst (pa_cons pe_str (pa_cons (pe_xv hz hf (pv 4)) pa_nil)))))
        (.named (i := 4) rfl rfl ⟨rfl, by decide, .inl T.xN.g⟩ (fun a oe cls d pn hz hf => pss_one (ps_set (i := 3) scre.nd rfl (Or.inl rfl) (pe_lst (pa_cons pe_str (pa_cons (pe_xv hz hf (pv 4)) pa_nil)))))
        .nil)))
      (pss_one (ps_ret (pv 3)))), ?_⟩
    have e0 : start ["_law_row", "_law_n", "_law_steps", "_law_kept", "e"] [x, y, z] = [some x, some y, some z, none, none] := rfl
    rw [e0]
    refine go_seq (go_asg ?_)
    walk_at "nx"
    refine ⟨_, rfl, _, rfl, _, rfl, x, y, z, rfl, ?_⟩
    rcases h with ⟨ds, hd, q⟩ | ⟨ps, dy, dz, hR, hy, hz, h⟩
    · refine .inl ⟨ds, hd, fun dd H' s' hx => ⟨true, T.xB.e, fun _ a na => ?_, fun z => nomatch z⟩⟩
      refine ⟨_, rfl, rfl, CB K, dd, _, _, xV, rfl, rfl, T.xB.x, T.xB.nv, hx, rfl, by show 2 ≤ sizeLine; decide, fun l nl => ?_⟩
      exact ⟨_, rfl, q l _ (s'.trans (same_upd nl)) upd_same⟩
    · refine .inr ⟨ps, dy, dz, hR, hy, hz, ?_⟩
      rcases h with ⟨hb, q⟩ | ⟨hb, hc, q⟩
      · refine .inl ⟨hb, fun dd H' s' hx => ⟨false, T.nb, (fun z => nomatch z), fun _ => ⟨true, T.xN.e, fun _ a na => ?_, fun z => nomatch z⟩⟩⟩
        refine ⟨_, rfl, rfl, CN K, dd, _, _, xV, rfl, rfl, T.xN.x, T.xN.nv, hx, rfl, by show 2 ≤ sizeLine; decide, fun l nl => ?_⟩
        exact ⟨_, rfl, q l _ (s'.trans (same_upd nl)) upd_same⟩
      · refine .inr (.inl ⟨hb, hc, fun dd H' s' hx => ⟨false, T.nb, (fun z => nomatch z), fun _ => ⟨true, T.xN.e, fun _ a na => ?_, fun z => nomatch z⟩⟩⟩)
        refine ⟨_, rfl, rfl, CN K, dd, _, _, xV, rfl, rfl, T.xN.x, T.xN.nv, hx, rfl, by show 2 ≤ sizeLine; decide, fun l nl => ?_⟩
        exact ⟨_, rfl, q l _ (s'.trans (same_upd nl)) upd_same⟩
end
end L2.L70

set_option maxHeartbeats 1000000
set_option exponentiation.threshold 2000
namespace L2.L70
open PySem PySem.Spec PyProof.Rows LR L2.Lr L2.Cut
local macro_rules | `(tactic| walk_at "nx") => `(tactic| dsimp only [gName, tNext, tSeq, tAsg, List.set_cons_zero, List.set_cons_succ])
/-! ### shapes -/
mutual
theorem dP_lay : ∀ (p : Pt) (D : Nat), dP D p → (toD p).canLay0 = true ∧ (toD p).depth ≤ 2 * D + 1
  | .one d, D, h => by
    have h : d ∈ singles := by cases D <;> exact h
    simp only [toD]
    have z : singles.all (fun d => d.canLay0 && decide (d.depth ≤ 1)) = true := by decide +kernel
    obtain ⟨z1, z2⟩ := Bool.and_eq_true_iff.mp (List.all_eq_true.mp z d h)
    exact ⟨z1, by have := of_decide_eq_true z2; omega⟩
  | .loop a b bd, D, h => by
    cases D with
    | zero => exact h.elim
    | succ D =>
      obtain ⟨i1, i2⟩ := dPs_lay bd D h.2.2.2
      simp only [toD, PyData.canLay0, PyData.canLayAll0, PyData.depth, PyData.depthAll]
      refine ⟨by rw [i1]; decide +kernel, by omega⟩
  | .ever bd, D, h => by
    cases D with
    | zero => exact h.elim
    | succ D =>
      obtain ⟨i1, i2⟩ := dPs_lay bd D h.2.2
      simp only [toD, PyData.canLay0, PyData.canLayAll0, PyData.depth, PyData.depthAll]
      refine ⟨by rw [i1]; decide +kernel, by omega⟩
theorem dPs_lay : ∀ (ps : List Pt) (D : Nat), (∀ p ∈ ps, dP D p) → PyData.canLayAll0 (toDs ps) = true ∧ PyData.depthAll (toDs ps) ≤ 2 * D + 1
  | [], _, _ => by simp [toDs, PyData.canLayAll0, PyData.depthAll]
  | p :: ps, D, h => by
    obtain ⟨i1, i2⟩ := dP_lay p D (h p (List.mem_cons_self ..))
    obtain ⟨j1, j2⟩ := dPs_lay ps D fun q hq => h q (List.mem_cons_of_mem _ hq)
    simp only [toDs, PyData.canLayAll0, PyData.depthAll]
    exact ⟨by rw [i1, j1]; rfl, by omega⟩
end
theorem ds_shaped {ps : List Pt} {D : Nat} (hD : D ≤ 4) (h : ∀ p ∈ ps, dP D p) : SeqAt.shaped (.tuple (toDs ps)) = true := by
  obtain ⟨j1, j2⟩ := dPs_lay ps D h
  refine Bool.and_eq_true_iff.mpr ⟨by simpa only [PyData.canLay0] using j1, decide_eq_true ?_⟩
  simp only [PyData.depth]
  omega
def elOk (d : PyData) : Bool := d.canLay0 && decide (d.depth ≤ 1)
mutual
theorem el_ok {n : Int} : ∀ (p : Pt) (D : Nat), dP D p → ∀ i, elOk (elP n p i) = true
  | .one d, D, h, i => by
    have h : d ∈ singles := by cases D <;> exact h
    simp only [elP]
    exact List.all_eq_true.mp (show singles.all elOk = true by decide +kernel) d h
  | .loop a b bd, D, h, i => by
    cases D with
    | zero => exact h.elim
    | succ D => simp only [elP]; exact els_ok bd D h.2.2.2 _
  | .ever bd, D, h, i => by
    cases D with
    | zero => exact h.elim
    | succ D => simp only [elP]; exact els_ok bd D h.2.2 _
theorem els_ok {n : Int} : ∀ (ps : List Pt) (D : Nat), (∀ p ∈ ps, dP D p) → ∀ i, elOk (elL n ps i) = true
  | [], _, _, i => by simp only [elL]; decide +kernel
  | p :: ps, D, h, i => by
    simp only [elL]
    split
    · exact el_ok p D (h p (List.mem_cons_self ..)) i
    · split
      · exact el_ok p D (h p (List.mem_cons_self ..)) i
      · exact els_ok ps D (fun q hq => h q (List.mem_cons_of_mem _ hq)) _
end
theorem els_shaped {ds : List PyData} (h : ∀ d ∈ ds, elOk d = true) : SeqAt.shaped (.list ds) = true := by
  have z : PyData.canLayAll0 ds = true ∧ PyData.depthAll ds ≤ 1 := by
    induction ds with
    | nil => simp [PyData.canLayAll0, PyData.depthAll]
    | cons d ds ih =>
      obtain ⟨i1, i2⟩ := ih fun x hx => h x (List.mem_cons_of_mem _ hx)
      obtain ⟨j1, j2⟩ := Bool.and_eq_true_iff.mp (h d (List.mem_cons_self ..))
      have j2 := of_decide_eq_true j2
      simp only [PyData.canLayAll0, PyData.depthAll]
      exact ⟨by rw [j1, i1]; rfl, by omega⟩
  refine Bool.and_eq_true_iff.mpr ⟨by simpa only [PyData.canLay0] using z.1, decide_eq_true ?_⟩
  simp only [PyData.depth]
  omega
theorem op_els {n : Int} {ps : List Pt} {D : Nat} (h : ∀ p ∈ ps, dP D p) : ∀ d ∈ opL n 60 [] ps, elOk d = true := by
  intro d hd
  rw [op_ok (n := n) (k := 60) (by decide) ps [] (fun q hq => vP_wf (dP_v (h q hq))) (by decide)] at hd
  rw [List.nil_append] at hd
  obtain ⟨i, _, rfl⟩ := List.mem_map.mp hd
  exact els_ok ps D h i
/-! ### rows are equal -/
abbrev sEqO : Stmt := inClass (top 31) 3
theorem sceq : FnScope ["self", "other"] ["self", "other"] (defScope sEqO) := ⟨rfl, rfl, rfl, by decide +kernel, rfl, by decide +kernel, by decide +kernel⟩
def spEq (K : PySem.W.Frag) : Sp := fun vs H Q _ => ∃ p q y z m1 m2 ds, vs = [.ref p, .ref q] ∧ RowAt K H p y m1 ∧ RowAt K H q z m2 ∧ Dp K H y (.tuple ds) ∧ Dp K H z (.tuple ds) ∧ SeqAt.shaped (.tuple ds) = true ∧ Q (.bl true) H
section
variable {P : Program} {w : World} {K : PySem.W.Frag} {mg : Str → Option Value} {base : Heap}
theorem ok_eqR {f : Addr} {fd : FuncData} (F : FnM K "__eq__" "Row.__eq__" sEqO f fd) (T : Txt K mg) : FnOk P w K mg base CX0 1 f fd ["self", "other"] (spEq K) := by
  refine F.ok sceq (fun vs H Q E h => ?_) (fun cdv A outer s H vs Q E hr h => ?_)
  · obtain ⟨p, q, y, z, m1, m2, ds, rfl, _⟩ := h
    rfl
  · obtain ⟨p, q, y, z, m1, m2, ds, rfl, ⟨d1, h1⟩, ⟨d2, h2⟩, hy, hz, hsh, g⟩ := h
    have hu := hr.units
    refine ⟨_, pss_one (ps_ret (pe_and (pe_callB (C8.call_isC T.ic) (by rfl) T.p.isn boot_isinstance (pa_cons (pv 1) (pa_cons (pe_glob (v := .ref (CR K)) (by rfl) T.gR rfl) pa_nil))) (pe_one (pe_cmpR (op_eqD hu) (pe_fld (pv 0) rfl) (pe_fld (pv 1) rfl) (nomark _))))), ?_⟩
    have e0 : start ["self", "other"] [V.ref p, .ref q] = [some (.ref p), some (.ref q)] := rfl
    rw [e0]
    refine ⟨_, rfl, q, d2, _, rfl, h2, _, rfl, iteT ?_⟩
    refine ⟨_, rfl, p, CR K, d1, _, _, rfl, h1, T.cl, T.nP, flds_p _ _, _, rfl, q, CR K, d2, _, _, rfl, h2, T.cl, T.nP, flds_p _ _, ?_⟩
    refine ⟨_, _, hy, hz, hsh, hsh, ?_⟩
    rw [SeqAt.eqv_refl _ (SeqAt.canLay_of_shaped hsh)]
    exact g
end
theorem make_same {H H' : Hp} {x dx : Addr} {u1 u2 : HO} (hx : H x = none) (hdx : H dx = none) (keep : ∀ b o, upd (upd H dx u1) x u2 b = some o → b ≠ x → H' b = some o) : Same H H' := fun b o hb =>
  have n1 : b ≠ x := ne_of_none hb hx
  have n2 : b ≠ dx := ne_of_none hb hdx
  keep b o ((upd_ne n1).trans ((upd_ne n2).trans hb)) n1
theorem laid_same {H : Hp} {x dx : Addr} {u1 u2 : HO} (hx : H x = none) (hdx : H dx = none) : Same H (upd (upd H dx u1) x u2) := fun b o hb => (upd_ne (ne_of_none hb hx)).trans ((upd_ne (ne_of_none hb hdx)).trans hb)
structure PsOk (ps : List Pt) : Prop where
  d : ∀ q ∈ ps, dP 3 q
  l : ps.length ≤ 3
  z : szL ps ≤ 29
  g : ∀ p ∈ ps.dropLast, finP p = true
theorem psOk_fin {ps : List Pt} (h : ∀ q ∈ ps, dP 2 q) (hf : finL ps = true) (hl : ps.length ≤ 2) : PsOk ps := by
  have h1 := szL_le fun q hq => dP_sz (h q hq)
  have h2 := Nat.mul_le_mul_right (Sx 2) hl
  have e : Sx 2 = 7 := rfl
  exact ⟨fun q hq => dP_mono (h q hq), by omega, by omega, fun p hp => finL_mem hf p (List.dropLast_subset _ hp)⟩
theorem psOk_ever {ps bd : List Pt} (h : ∀ q ∈ ps, dP 2 q) (hf : finL ps = true) (hl : ps.length ≤ 2) (hb : ∀ q ∈ bd, dP 2 q) (hbf : finL bd = true) (hbl : bd.length ≤ 2) : PsOk (ps ++ [.ever bd]) := by
  have h1 := szL_le fun q hq => dP_sz (h q hq)
  have h2 := Nat.mul_le_mul_right (Sx 2) hl
  have h3 := szL_le fun q hq => dP_sz (hb q hq)
  have h4 := Nat.mul_le_mul_right (Sx 2) hbl
  have e : Sx 2 = 7 := rfl
  refine ⟨fun q hq => ?_, by rw [List.length_append]; show ps.length + 1 ≤ 3; omega, by rw [szL_app]; simp only [szL, szP]; omega, fun p hp => ?_⟩
  · rcases List.mem_append.mp hq with m | m
    · exact dP_mono (h q m)
    · rw [List.mem_singleton.mp m]
      exact ⟨hbf, hbl, hb⟩
  · rw [List.dropLast_concat] at hp
    exact finL_mem hf p hp
theorem PsOk.row {ps : List Pt} (o : PsOk ps) : RowOk (toDs ps) := rowOk o.d (by have := o.l; omega) (by have := o.z; omega) o.g
theorem PsOk.v {ps : List Pt} (o : PsOk ps) : vL 3 ps := ⟨by have := o.l; omega, fun q hq => dP_v (o.d q hq)⟩
/-- a turn of the law: the pool and the parts -/
structure Tn (K : PySem.W.Frag) (H0 : Hp) (pp : Addr) (v : V) (ps : List Pt) (H : Hp) : Prop where
  ad : Adv pp H0 H
  po : PoolAt H pp
  dp : Dp K H v (.tuple (toDs ps))
theorem Tn.same {K : PySem.W.Frag} {H0 H H' : Hp} {pp : Addr} {v : V} {ps : List Pt} (t : Tn K H0 pp v ps H) (s : Same H H') : Tn K H0 pp v ps H' := ⟨t.ad.same s, t.po.same s, Dp.same s t.dp⟩
theorem Tn.adv {K : PySem.W.Frag} {H0 H H' : Hp} {pp : Addr} {v : V} {ps : List Pt} {D : Nat} (t : Tn K H0 pp v ps H) (s : Adv pp H H') (po : PoolAt H' pp) (h : ∀ q ∈ ps, dP D q) : Tn K H0 pp v ps H' := ⟨t.ad.trans s, po, Dp.kt (t.po.kt s) t.dp (by simpa only [noL] using dPs_noL ps D h)⟩
theorem RowP.adv {K : PySem.W.Frag} {H H' : Hp} {pp r : Addr} {ps : List Pt} {D : Nat} (h : RowP K H (.ref r) ps) (po : PoolAt H pp) (s : Adv pp H H') (hd : ∀ q ∈ ps, dP D q) : RowP K H' (.ref r) ps := by
  obtain ⟨p, y, m, e, ⟨dx, h1⟩, h2⟩ := h
  exact ⟨p, y, m, e, ⟨dx, po.kt s _ _ h1 fun xs z => by cases z⟩, Dp.kt (po.kt s) h2 (by simpa only [noL] using dPs_noL ps D hd)⟩
abbrev NL : List Str := ["_law_script", "_law_k", "_law_pool_here", "_law_parts_here", "_law_n", "_law_row", "_law_total", "_law_about", "_law_steps", "_law_found", "_law_odd"]
theorem scla : FnScope NL ["_law_script"] (defScope sLaw) := ⟨rfl, rfl, rfl, by decide +kernel, rfl, by decide +kernel, by decide +kernel⟩
def spLaw (K : PySem.W.Frag) : Sp := fun vs H Q _ => ∃ (a : Addr) (ns : List Int), vs = [.ref a] ∧ SqL K H a (ns.map V.int) ∧ ns.length ≤ 63 ∧ ∀ H', Q (.bl true) H'
structure Dfs (P : Program) (w : World) (K : PySem.W.Frag) (mg : Str → Option Value) (base : Heap) (fP fT fA fM fD fO fR fC fS fI fE : Addr) (xP xT xA xM xD xO xR xC xS xI xE : FuncData) : Prop where
  dP : Def P w K mg base CX0 1 "_law_pool" fP xP ["_law_script", "_law_k"] (spPool K)
  dT : Def P w K mg base CX0 1 "_law_take" fT xT ["_law_pool_here", "_law_many_here"] spTake
  dA : Def P w K mg base CX0 5 "_law_parts" fA xA ["_law_pool_here", "_law_deep"] (spLPa K 2)
  dM : Def P w K mg base CX0 5 "_law_many" fM xM ["_law_parts_here", "_law_n"] (spStL K 3)
  dD : Def P w K mg base CX0 9 "_law_due" fD xD ["_law_parts_here", "_law_n", "_law_steps"] (spLDu K 3)
  dO : Def P w K mg base CX0 9 "_law_opened" fO xO ["_law_parts_here", "_law_n", "_law_most"] (spLOp K 3)
  dR : Def P w K mg base CX0 19 "_law_refused" fR xR ["_law_row", "_law_n", "_law_steps"] (spRe K)
  dC : Def P w K mg base (L2.CX P w) 18 "cut" fC xC ["row", "n", "steps"] (spCut K)
  dS : Def P w K mg base (L2.CX P w) 12 "steps_in_row" fS xS ["row", "n"] (spSir K)
  mR : Rm2 P w K mg base 16 fI xI
  eF : FnOk P w K mg base CX0 1 fE xE ["self", "other"] (spEq K)
  eB : Binds K xE ["self", "other"] []
  eD : Dun K (CR K) fE "__eq__"
  eN : PySem.W.findIn K (.ref (CR K)) "__ne__" = some (some (.builtin "object.__ne__"))
  eM : PySem.W.mroIn K (CR K) (.type "object") = some true
theorem pow30 : (10 : Int) ^ (Int.toNat 30) = 10 ^ 30 := by decide
theorem scal_opt (o : Option Nat) : scal (optN o) (optN o) = true := by cases o <;> rfl
section
variable {P : Program} {w : World} {K : PySem.W.Frag} {mg : Str → Option Value} {base : Heap}
theorem ok_law {f : Addr} {fd : FuncData} (F : FnP K "law" sLaw f fd) (T : Txt K mg) {fP fT fA fM fD fO fR fC fS fI fE : Addr} {xP xT xA xM xD xO xR xC xS xI xE : FuncData} (D : Dfs P w K mg base fP fT fA fM fD fO fR fC fS fI fE xP xT xA xM xD xO xR xC xS xI xE) :
    FnQ P w K mg base CX0 20 f fd ["_law_script"] (spLaw K) := by
  refine FnQ.of F scla (fun vs H Q E h => ?_) (fun cdv A outer s H vs Q E qA hr h => ?_)
  · obtain ⟨a, ns, rfl, _⟩ := h
    rfl
  · obtain ⟨a, ns, rfl, hS, hl, q⟩ := h
    have hu := hr.units
    have sz : sizeLine = 16777216 := sizeLine_eq
    have hr1 : Room 1 _ := hr.mono (by decide)
    have hr2 : Room 2 _ := hr.mono (by decide)
    have hr5 : Room 5 _ := hr.mono (by decide)
    have hr9 : Room 9 _ := hr.mono (by decide)
    have hr12 : Room 12 _ := hr.mono (by decide)
    have hr17 : Room 17 _ := hr.mono (by decide)
    have hr18 : Room 18 _ := hr.mono (by decide)
    refine ⟨_, PSs.nox (C8.pss_cut (ps_for PassesOwn.never rfl (pi_range1 (by rfl) T.range (pa_cons (pe_callB (call_max2 rfl) (by rfl) T.max boot_max (pa_cons pe_int (pa_cons (pe_callB (call_min2 rfl) (by rfl) T.min boot_min (pa_cons (pe_callB call_len (by rfl) T.p.len boot_len (pa_cons (pv 0) pa_nil)) (pa_cons pe_int pa_nil))) pa_nil))) pa_nil)) (pg_name (i := 1) scla.nd rfl (Or.inl rfl))
        (pss_cons (ps_set (i := 2) scla.nd rfl (Or.inl rfl) (pe_call D.dP.ok hr1 (by rfl) D.dP.g D.dP.k D.dP.b .nil pass0 (pa_cons (pv 0) (pa_cons (pv 1) pa_nil))))
        (C8.pss_cut (ps_par (i := 3) (j := 4) (by rfl) scla.nd rfl rfl (by decide) rfl rfl (pa_cons (pe_call D.dA.ok hr5 (by rfl) D.dA.g D.dA.k D.dA.b .nil pass0 (pa_cons (pv 2) (pa_cons pe_int pa_nil))) (pa_cons (pe_ix ix_list (pe_lst (pa_cons (pe_call D.dT.ok hr1 (by rfl) D.dT.g D.dT.k D.dT.b .nil pass0 (pa_cons (pv 2) (pa_cons pe_int pa_nil))) (pa_cons (pe_op op_pow pe_int pe_int) pa_nil))) (pe_op op_fdiv (pe_call D.dT.ok hr1 (by rfl) D.dT.g D.dT.k D.dT.b .nil pass0 (pa_cons (pv 2) (pa_cons pe_int pa_nil))) pe_int) (fun _ _ => rfl)) pa_nil)) (by rfl))
        (C8.pss_cut (ps_if (pt_cmpR op_eq (pe_call D.dT.ok hr1 (by rfl) D.dT.g D.dT.k D.dT.b .nil pass0 (pa_cons (pv 2) (pa_cons pe_int pa_nil))) pe_int (nomark _))
          (pss_one (ps_set (i := 3) scla.nd rfl (Or.inl rfl) (pe_op op_catA (pv 3) (pe_tup (pa_cons (pe_tup (pa_cons pe_str (pa_cons (pe_call D.dA.ok hr5 (by rfl) D.dA.g D.dA.k D.dA.b .nil pass0 (pa_cons (pv 2) (pa_cons pe_int pa_nil))) pa_nil))) pa_nil))))) pss_nil)
        (C8.pss_cut (ps_par (i := 5) (j := 6) (by rfl) scla.nd rfl rfl (by decide) rfl rfl (pa_cons (pe_make D.mR.m D.mR.ok hr17 (by rfl) T.gR D.mR.b .nil pass0 (pa_cons (pv 3) pa_nil)) (pa_cons (pe_call D.dM.ok hr5 (by rfl) D.dM.g D.dM.k D.dM.b .nil pass0 (pa_cons (pv 3) (pa_cons (pv 4) pa_nil))) pa_nil)) (by rfl))
        (C8.pss_cut (ps_if (pt_cmpR op_ne (pe_call D.dS.ok hr12 (by rfl) D.dS.g D.dS.k D.dS.b .nil passL (pa_cons (pv 5) (pa_cons (pv 4) pa_nil))) (pv 6) (nomark _)) (pss_one (ps_ret pe_bl)) pss_nil)
        (C8.pss_cut (ps_set (i := 7) scla.nd rfl (Or.inl rfl) (pe_ifExp (pt_cmpR op_isN (pv 6) pe_non (nomark _)) (pe_op op_pow pe_int pe_int) (pe_callB (call_min2 rfl) (by rfl) T.min boot_min (pa_cons (pe_op op_pow pe_int pe_int) (pa_cons (pe_op op_add (pv 6) (pe_call D.dT.ok hr1 (by rfl) D.dT.g D.dT.k D.dT.b .nil pass0 (pa_cons (pv 2) (pa_cons pe_int pa_nil)))) pa_nil)))))
        (C8.pss_cut (ps_for PassesOwn.never rfl (pi_list (pe_lst (pa_cons pe_int (pa_cons pe_int (pa_cons (pe_call D.dT.ok hr1 (by rfl) D.dT.g D.dT.k D.dT.b .nil pass0 (pa_cons (pv 2) (pa_cons pe_int pa_nil))) (pa_cons (pv 7) (pa_cons (pe_callB (call_max2 rfl) (by rfl) T.max boot_max (pa_cons pe_int (pa_cons (pe_op op_sub (pv 7) pe_int) pa_nil))) (pa_cons (pe_call D.dT.ok hr1 (by rfl) D.dT.g D.dT.k D.dT.b .nil pass0 (pa_cons (pv 2) (pa_cons (pe_op op_pow pe_int pe_int) pa_nil))) pa_nil)))))))) (pg_name (i := 8) scla.nd rfl (Or.inl rfl))
          (C8.pss_cut (ps_set (i := 9) scla.nd rfl (Or.inl rfl) (pe_call D.dC.ok hr18 (by rfl) D.dC.g D.dC.k D.dC.b .nil passL (pa_cons (pv 5) (pa_cons (pv 4) (pa_cons (pv 8) pa_nil)))))
          (C8.pss_cut (ps_if (PW.pt (pw_or (pt_cmpR (op_neD hu) (pe_fld (pv 9) rfl) (pe_call D.dD.ok hr9 (by rfl) D.dD.g D.dD.k D.dD.b .nil pass0 (pa_cons (pv 3) (pa_cons (pv 4) (pa_cons (pv 8) pa_nil)))) (nomark _)) (pw_or1 (pt_cmpR (op_neO (E := E0) D.eD D.eN D.eM D.eF hr2 D.eB pass0) (pv 9) (pe_make D.mR.m D.mR.ok hr17 (by rfl) T.gR D.mR.b .nil pass0 (pa_cons (pe_call D.dD.ok hr9 (by rfl) D.dD.g D.dD.k D.dD.b .nil pass0 (pa_cons (pv 3) (pa_cons (pv 4) (pa_cons (pv 8) pa_nil)))) pa_nil)) (nomark _))))) (pss_one (ps_ret pe_bl)) pss_nil)
          (C8.pss_cut (ps_if (pt_cmpR (op_neD hu) (pe_call D.dO.ok hr9 (by rfl) D.dO.g D.dO.k D.dO.b .nil pass0 (pa_cons (pe_fld (pv 9) rfl) (pa_cons (pv 4) (pa_cons pe_int pa_nil)))) (pe_slice sl_list (pe_call D.dO.ok hr9 (by rfl) D.dO.g D.dO.k D.dO.b .nil pass0 (pa_cons (pv 3) (pa_cons (pv 4) (pa_cons pe_int pa_nil)))) po_none (po_some (pe_callB (call_min2 rfl) (by rfl) T.min boot_min (pa_cons pe_int (pa_cons (pv 8) pa_nil))))) (nomark _)) (pss_one (ps_ret pe_bl)) pss_nil)
          (pss_one (ps_if (pt_cmpR op_ne (pe_call D.dS.ok hr12 (by rfl) D.dS.g D.dS.k D.dS.b .nil passL (pa_cons (pv 9) (pa_cons (pv 4) pa_nil))) (pe_ifExp (pt_cmpR op_isN (pv 6) pe_non (nomark _)) (pv 8) (pe_callB (call_min2 rfl) (by rfl) T.min boot_min (pa_cons (pv 8) (pa_cons (pv 6) pa_nil)))) (nomark _)) (pss_one (ps_ret pe_bl)) pss_nil))))))
        (C8.pss_cut (ps_if (PW.pt (pw_or (pt_cmpR (op_neD hu) (pe_fld (pv 5) rfl) (pv 3) (nomark _)) (pw_or1 (pt_cmpR (op_neS hu) (pe_call D.dR.ok hr (by rfl) D.dR.g D.dR.k D.dR.b .nil pass0 (pa_cons (pv 3) (pa_cons pe_non (pa_cons pe_non pa_nil)))) (pe_lst (pa_cons pe_str (pa_cons (pv 3) pa_nil))) (nomark _))))) (pss_one (ps_ret pe_bl)) pss_nil)
        (pss_one (ps_for PassesOwn.never rfl (pi_list (pe_lst (pa_cons (pe_un un_neg pe_int) (pa_cons (pe_op op_add (pe_op op_pow pe_int pe_int) pe_int) (pa_cons pe_non (pa_cons pe_bl pa_nil)))))) (pg_name (i := 10) scla.nd rfl (Or.inl rfl))
          (pss_one (ps_if (PW.pt (pw_or (pt_cmpR (op_neS hu) (pe_call D.dR.ok hr (by rfl) D.dR.g D.dR.k D.dR.b .nil pass0 (pa_cons (pv 5) (pa_cons (pv 10) (pa_cons pe_non pa_nil)))) (pe_lst (pa_cons pe_str (pa_cons (pv 10) pa_nil))) (nomark _)) (pw_or1 (pt_cmpR (op_neS hu) (pe_call D.dR.ok hr (by rfl) D.dR.g D.dR.k D.dR.b .nil pass0 (pa_cons (pv 5) (pa_cons (pv 4) (pa_cons (pv 10) pa_nil)))) (pe_lst (pa_cons pe_str (pa_cons (pv 10) pa_nil))) (nomark _))))) (pss_one (ps_ret pe_bl)) pss_nil)))))))))))))
      (pss_one (ps_ret pe_bl))), ?_⟩
    have e0 : start NL [V.ref a] = [some (.ref a), none, none, none, none, none, none, none, none, none, none] := rfl
    rw [e0]
    refine ⟨fun σ' H' => True, ?_, fun σ' H' _ => q H'⟩
    refine ⟨_, rfl, _, (ns.map V.int).length, rfl, Or.inl ⟨_, hS, rfl⟩, _, _, rfl, _, _, rfl, _, rfl, ?_, ?_, ?_⟩
    · split <;> split <;> omega
    · split <;> split <;> omega
    refine for_rangeD (lo := 0) (fun i σ H' => Same H H' ∧ ∃ o2 o3 o4 o5 o6 o7 o8 o9 o10, ∃ o1 : Option V, σ = [some (.ref a), o1, o2, o3, o4, o5, o6, o7, o8, o9, o10]) ⟨Same.refl H, none, none, none, none, none, none, none, none, none, none, rfl⟩ ?_ (fun σ H' _ => trivial)
    rintro D1 k σ H1 hrt hnx - - hk ⟨e1, o2, o3, o4, o5, o6, o7, o8, o9, o10, o1, rfl⟩
    have hk8 : k < 8 := by
      revert hk
      split <;> split <;> omega
    refine ⟨_, rfl, _, rfl, a, ns, 0 + (k : Int), rfl, e1.seq hS, by omega, by omega, by omega, fun pp H2 np s2 hp2 => ?_⟩
    walk_at "nx"
    -- the parts and n
    refine ⟨fun σ' H' => ∃ v ps n, σ' = [some (.ref a), some (.int (0 + (k : Int))), some (.ref pp), some v, some (.int n), o5, o6, o7, o8, o9, o10] ∧ Tn K H1 pp v ps H' ∧ okN n ∧ (∀ q ∈ ps, dP 2 q) ∧ finL ps = true ∧ ps.length ≤ 2, ?_, ?_⟩
    · refine ⟨_, rfl, pp, rfl, hp2, fun v ps H3 a3 po3 hd hps hf hl2 => ?_⟩
      have t3 : Tn K H1 pp v ps H3 := ⟨Same.adv s2 a3, po3, hd⟩
      refine ⟨_, rfl, pp, 7, rfl, po3, by decide, by decide, fun r H4 r0 r1 a4 po4 => ?_⟩
      have t4 := t3.adv a4 po4 hps
      refine ⟨_, _, rfl, rfl, ⟨by decide, by decide, by decide⟩, by show 2 ≤ sizeLine; omega, fun l nl => ?_⟩
      have sl := same_upd (o := .lst [V.int r, .int (10 ^ (Int.toNat 30))]) nl
      have hlw := upd_same (H := H4) (a := l) (o := .lst [V.int r, .int (10 ^ (Int.toNat 30))])
      have t5 := t4.same sl
      have nlp := po4.ne nl
      generalize upd H4 l (.lst [V.int r, .int (10 ^ (Int.toNat 30))]) = H5 at hlw t5 ⊢
      refine ⟨_, rfl, pp, 4, rfl, t5.po, by decide, by decide, fun r2 H6 r20 r21 a6 po6 => ?_⟩
      have t6 := t5.adv a6 po6 hps
      obtain ⟨n, hn, hat⟩ : ∃ n, okN n ∧ atI [V.int r, .int (10 ^ (Int.toNat 30))] (r2 / 3) = some (.int n) := by
        by_cases h3 : r2 < 3
        · refine ⟨r, ⟨r0, by omega⟩, ?_⟩
          rw [show r2 / 3 = 0 by omega]
          exact at0
        · refine ⟨10 ^ (Int.toNat 30), by rw [pow30]; exact ⟨by decide, by decide⟩, ?_⟩
          rw [show r2 / 3 = 1 by omega]
          exact at1
      exact ⟨_, _, rfl, rfl, ⟨by decide, by decide⟩, l, _, _, _, rfl, rfl, SqL.of (a6 _ _ hlw nlp), hat, _, _, rfl, v, ps, n, rfl, t6, hn, hps, hf, hl2⟩
    clear hp2 s2
    rintro σ1 H3 ⟨v0, ps0, n, rfl, t3, hn, hps, hf, hl2⟩
    -- without end
    refine ⟨fun σ' H' => ∃ v ps, σ' = [some (.ref a), some (.int (0 + (k : Int))), some (.ref pp), some v, some (.int n), o5, o6, o7, o8, o9, o10] ∧ Tn K H1 pp v ps H' ∧ PsOk ps, ?_, ?_⟩
    · refine ⟨_, rfl, pp, 3, rfl, t3.po, by decide, by decide, fun r H4 r0 r1 a4 po4 => ?_⟩
      have t4 := t3.adv a4 po4 hps
      refine ⟨rfl, _, rfl, int_if (fun h0 => ?_) fun h0 => ⟨_, _, rfl, t4, psOk_fin hps hf hl2⟩⟩
      refine ⟨_, rfl, _, rfl, pp, rfl, po4, fun v2 bd H5 a5 po5 hd2 hb hbf hbl => ?_⟩
      have t5 := t4.adv a5 po5 hps
      refine ⟨by show 2 ≤ sizeLine; omega, fun tu ntu => ?_⟩
      have s6 := same_upd (o := .tup [.str "forever", v2]) ntu
      have h6 := upd_same (H := H5) (a := tu) (o := .tup [.str "forever", v2])
      generalize upd H5 tu (.tup [.str "forever", v2]) = H6 at s6 h6 ⊢
      refine ⟨by show 1 ≤ sizeLine; omega, fun tv ntv => ?_⟩
      have s7 := same_upd (o := .tup [.ref tu]) ntv
      have h7 := upd_same (H := H6) (a := tv) (o := .tup [.ref tu])
      generalize upd H6 tv (.tup [.ref tu]) = H7 at s7 h7 ⊢
      have s67 := s6.trans s7
      have hy : Dp K H7 (.ref tv) (.tuple (toDs [.ever bd])) := by
        simp only [toDs, toD]
        exact .tup (SqT.of h7) (.cons (.tup (SqT.of (s7 _ _ h6)) (.cons (.str _) (.cons (Dp.same s67 hd2) .nil))) .nil)
      refine catP (Dp.same s67 t5.dp) hy (by rw [toDs_len, toDs_len]; show ps0.length + 1 ≤ sizeLine; omega) fun v3 H8 s8 hd8 => ?_
      rw [← toDs_app] at hd8
      have t8 := (t5.same s67).same s8
      have t9 : Tn K H1 pp v3 (ps0 ++ [.ever bd]) H8 := ⟨t8.ad, t8.po, hd8⟩
      exact ⟨v3, _, rfl, t9, psOk_ever hps hf hl2 hb hbf hbl⟩
    rintro σ1 H4 ⟨v, ps, rfl, t4, ok⟩
    clear t3
    have hwf : ∀ q ∈ ps, wfP q = true := fun q hq => vP_wf (dP_v (ok.d q hq))
    have rok := ok.row
    have shP : SeqAt.shaped (.tuple (toDs ps)) = true := ds_shaped (D := 3) (by decide) ok.d
    -- the row
    refine ⟨fun σ' H' => ∃ r, σ' = [some (.ref a), some (.int (0 + (k : Int))), some (.ref pp), some v, some (.int n), some (.ref r), some (optN (stL n ps)), o7, o8, o9, o10] ∧ Tn K H1 pp v ps H' ∧ RowP K H' (.ref r) ps, ?_, ?_⟩
    · refine ⟨_, rfl, fun r dr hr0 hdr hne => ?_⟩
      refine ⟨r, dr, v, toDs ps, rfl, upd_same, Dp.same (laid_same hr0 hdr) t4.dp, rok, fun H5 y keep hRa hy => ⟨rfl, ?_⟩⟩
      have s5 : Same H4 H5 := make_same hr0 hdr keep
      have hR : RowP K H5 (.ref r) ps := ⟨r, y, _, rfl, hRa, hy⟩
      have t5 := t4.same s5
      refine ⟨_, rfl, _, rfl, v, ps, n, rfl, t5.dp, ok.v, hn, fun H6 s6 => ?_⟩
      exact ⟨_, _, rfl, r, rfl, t5.same s6, hR.same s6⟩
    rintro σ1 H5 ⟨r, rfl, t5, hR5⟩
    clear t4
    -- its steps
    refine ⟨fun σ' H' => σ' = [some (.ref a), some (.int (0 + (k : Int))), some (.ref pp), some v, some (.int n), some (.ref r), some (optN (stL n ps)), o7, o8, o9, o10] ∧ Tn K H1 pp v ps H' ∧ RowP K H' (.ref r) ps, ?_, ?_⟩
    · refine ⟨_, rfl, _, rfl, _, ps, n, rfl, hR5, ok.v, hn, fun H6 s6 => ?_⟩
      refine ⟨_, rfl, scal_opt _, _, rfl, ?_⟩
      rw [decide_eq_true rfl]
      exact iteF ⟨rfl, t5.same s6, hR5.same s6⟩
    rintro σ1 H6 ⟨rfl, t6, hR6⟩
    clear t5 hR5
    -- about
    refine ⟨fun σ' H' => ∃ ab, σ' = [some (.ref a), some (.int (0 + (k : Int))), some (.ref pp), some v, some (.int n), some (.ref r), some (optN (stL n ps)), some (.int ab), o8, o9, o10] ∧ okN ab ∧ Tn K H1 pp v ps H' ∧ RowP K H' (.ref r) ps, ?_, ?_⟩
    · refine ⟨_, rfl, rfl, _, rfl, ?_⟩
      cases hst : stL n ps with
      | none =>
        refine iteT ⟨_, _, rfl, rfl, ⟨by decide, by decide, by decide⟩, _, rfl, ?_, t6, hR6⟩
        rw [pow30]
        exact ⟨by decide, by decide⟩
      | some m =>
        refine iteF ⟨_, _, rfl, rfl, ⟨by decide, by decide, by decide⟩, _, rfl, _, rfl, pp, 3, rfl, t6.po, by decide, by decide, fun r7 H7 r70 r71 a7 po7 => ?_⟩
        refine ⟨_, _, rfl, rfl, _, _, rfl, _, rfl, ?_, t6.adv a7 po7 ok.d, hR6.adv t6.po a7 ok.d⟩
        rw [pow30]
        split
        · exact ⟨by omega, by omega⟩
        · exact ⟨by decide, by decide⟩
    rintro σ1 H7 ⟨ab, rfl, ⟨ab0, ab1⟩, t7, hR7⟩
    clear t6 hR6
    -- the cuts
    refine ⟨fun σ' H' => ∃ o8 o9, σ' = [some (.ref a), some (.int (0 + (k : Int))), some (.ref pp), some v, some (.int n), some (.ref r), some (optN (stL n ps)), some (.int ab), o8, o9, o10] ∧ Tn K H1 pp v ps H' ∧ RowP K H' (.ref r) ps, ?_, ?_⟩
    · refine ⟨_, rfl, pp, 41, rfl, t7.po, by decide, by decide, fun x1 H8 x10 x11 a8 po8 => ?_⟩
      have t8 := t7.adv a8 po8 ok.d
      have hR8 := hR7.adv t7.po a8 ok.d
      refine ⟨_, rfl, _, rfl, _, _, rfl, rfl, _, _, rfl, _, rfl, _, _, rfl, rfl, ⟨by decide, by decide, by decide⟩, pp, _, rfl, t8.po, by rw [pow30]; decide, by rw [pow30]; decide, fun x2 H9 x20 x21 a9 po9 => ?_⟩
      have t9 := t8.adv a9 po9 ok.d
      have hR9 := hR8.adv t8.po a9 ok.d
      rw [pow30] at x21
      obtain ⟨mx, hmx, mx0, mx1⟩ : ∃ mx : Int, mx = (if ab - 2 > 0 then ab - 2 else 0) ∧ 0 ≤ mx ∧ mx ≤ 10 ^ 30 := ⟨_, rfl, by split <;> omega, by split <;> omega⟩
      rw [← hmx]
      refine ⟨by show 6 ≤ sizeLine; omega, fun l nl => ?_⟩
      have sl := same_upd (o := .lst [.int 0, .int 1, .int x1, .int ab, .int mx, .int x2]) nl
      have hlw := upd_same (H := H9) (a := l) (o := .lst [.int 0, .int 1, .int x1, .int ab, .int mx, .int x2])
      have t10 := t9.same sl
      have hR10 := hR9.same sl
      generalize upd H9 l (.lst [.int 0, .int 1, .int x1, .int ab, .int mx, .int x2]) = H10 at hlw t10 hR10 ⊢
      clear t7 t8 t9 hR7 hR8 hR9 sl
      refine ⟨l, rfl, ⟨_, SqL.of hlw⟩, ?_⟩
      refine for_listD (K := K) (a := l) (xs := [.int 0, .int 1, .int x1, .int ab, .int mx, .int x2]) (fun i σ H' => Same H10 H' ∧ ∃ o8 o9, σ = [some (.ref a), some (.int (0 + (k : Int))), some (.ref pp), some v, some (.int n), some (.ref r), some (optN (stL n ps)), some (.int ab), o8, o9, o10]) ⟨Same.refl _, _, _, rfl⟩ (fun i σ H' _ z => SqL.of (z.1 _ _ hlw)) ?_ (fun σ H' ⟨s', o8, o9, eq⟩ => ⟨o8, o9, eq, t10.same s', hR10.same s'⟩)
      rintro D2 i x σ H11 hrt2 hnx2 - - hi ⟨s11, o8, o9, rfl⟩
      obtain ⟨st, rfl, st0, st1⟩ : ∃ st : Int, x = .int st ∧ 0 ≤ st ∧ st ≤ 10 ^ 30 := by
        match i, hi with
        | 0, hi => cases hi; exact ⟨_, rfl, by decide, by decide⟩
        | 1, hi => cases hi; exact ⟨_, rfl, by decide, by decide⟩
        | 2, hi => cases hi; exact ⟨_, rfl, by omega, by omega⟩
        | 3, hi => cases hi; exact ⟨_, rfl, ab0, ab1⟩
        | 4, hi => cases hi; exact ⟨_, rfl, mx0, mx1⟩
        | 5, hi => cases hi; exact ⟨_, rfl, by omega, by omega⟩
      have l30 : st.toNat ≤ 10 ^ 30 := by omega
      have fd := (fi_dP (n := n) 3).1 ps ok.d st.toNat l30
      have fl := (fi_few (n := n) 3).1 ps ok.d st.toNat
      have ffew : (fiL n st.toNat ps).length ≤ 60 := by have := ok.l; omega
      have frow : RowOk (toDs (fiL n st.toNat ps)) := rowOk_first ok.d ok.l ok.z l30
      have shF : SeqAt.shaped (.tuple (toDs (fiL n st.toNat ps))) = true := ds_shaped (D := 3) (by decide) fd
      have t11 := t10.same s11
      have hR11 := hR10.same s11
      refine ⟨fun σ' H' => ∃ r2, σ' = [some (.ref a), some (.int (0 + (k : Int))), some (.ref pp), some v, some (.int n), some (.ref r), some (optN (stL n ps)), some (.int ab), some (.int st), some (.ref r2), o10] ∧ Same H11 H' ∧ RowP K H' (.ref r2) (fiL n st.toNat ps), ?_, ?_⟩
      · refine ⟨_, rfl, _, rfl, _, rfl, _, _, _, rfl, .inr ⟨ps, .int n, .int st, hR11, .int n, .int st, .inr (.inr ⟨n, st, rfl, rfl, hn, ⟨st0, st1⟩, ok.v, frow, fun r2 H12 s12 nr2 hR2 => ?_⟩)⟩⟩
        exact ⟨r2, rfl, s12, hR2⟩
      rintro σ2 H12 ⟨r2, rfl, s12, hF12⟩
      have t12 := t11.same s12
      clear t11 hR11
      refine ⟨fun σ' H' => σ' = [some (.ref a), some (.int (0 + (k : Int))), some (.ref pp), some v, some (.int n), some (.ref r), some (optN (stL n ps)), some (.int ab), some (.int st), some (.ref r2), o10] ∧ Same H12 H', ?_, ?_⟩
      · obtain ⟨p2, y2, m2, e2, ⟨dx2, h2⟩, hd2⟩ := id hF12
        cases e2
        refine ⟨_, rfl, r2, CR K, dx2, _, _, rfl, h2, T.cl, T.nP, flds_p _ _, _, rfl, _, rfl, _, rfl, v, ps, n, st, rfl, t12.dp, ok.d, by have := ok.l; omega, hn, ⟨st0, st1⟩, fun v3 H13 s13 hd13 => ?_⟩
        refine ⟨_, _, Dp.same s13 hd2, hd13, shF, shF, _, rfl, ?_⟩
        rw [SeqAt.eqv_refl _ (SeqAt.canLay_of_shaped shF)]
        refine iteF ?_
        refine ⟨_, rfl, _, rfl, _, rfl, _, rfl, v, ps, n, st, rfl, Dp.same s13 t12.dp, ok.d, by have := ok.l; omega, hn, ⟨st0, st1⟩, fun v4 H14 s14 hd14 => ?_⟩
        refine fun r3 dr3 hr3 hdr3 hne3 => ?_
        refine ⟨r3, dr3, v4, _, rfl, upd_same, Dp.same (laid_same hr3 hdr3) hd14, frow, fun H15 y3 keep hRa hd3 => ⟨rfl, ?_⟩⟩
        have s15 : Same H14 H15 := make_same hr3 hdr3 keep
        obtain ⟨dx3, h3⟩ := hRa
        have s25 := s13.trans (s14.trans s15)
        refine ⟨r2, dx2, _, r3, dx3, _, rfl, s25 _ _ h2, rfl, h3, ?_⟩
        refine ⟨r2, r3, y2, y3, m2, _, _, rfl, ⟨dx2, s25 _ _ h2⟩, ⟨dx3, h3⟩, Dp.same s25 hd2, hd3, shF, true, rfl, _, rfl, iteF ?_⟩
        exact ⟨rfl, s25⟩
      rintro σ3 H13 ⟨rfl, s13⟩
      have t13 := t12.same s13
      have hF13 := hF12.same s13
      clear t12 hF12
      refine ⟨fun σ' H' => σ' = [some (.ref a), some (.int (0 + (k : Int))), some (.ref pp), some v, some (.int n), some (.ref r), some (optN (stL n ps)), some (.int ab), some (.int st), some (.ref r2), o10] ∧ Same H13 H', ?_, ?_⟩
      · obtain ⟨p2, y2, m2, e2, ⟨dx2, h2⟩, hd2⟩ := id hF13
        cases e2
        refine ⟨_, rfl, r2, CR K, dx2, _, _, rfl, h2, T.cl, T.nP, flds_p _ _, _, rfl, y2, _, n, rfl, hd2, fd, ffew, hn, fun l1 xs1 H14 s14 nl1 hl1 hd1 no1 => ?_⟩
        refine ⟨_, rfl, _, rfl, v, ps, n, rfl, Dp.same s14 t13.dp, ok.d, by have := ok.l; omega, hn, fun l2 xs2 H15 s15 nl2 hl2 hd2' no2 => ?_⟩
        refine ⟨_, rfl, _, _, rfl, _, rfl, l2, xs2, rfl, SqL.of hl2, fun l3 nl3 => ?_⟩
        have hmin : (if st < 60 then st else 60 : Int).toNat = min 60 st.toNat := by split <;> omega
        rw [cutV_to (by split <;> omega), hmin]
        have s16 := same_upd (o := .lst (xs2.take (min 60 st.toNat))) nl3
        have h16 := upd_same (H := H15) (a := l3) (o := .lst (xs2.take (min 60 st.toNat)))
        generalize upd H15 l3 (.lst (xs2.take (min 60 st.toNat))) = H16 at s16 h16 ⊢
        have eop := op_first (n := n) (k := 60) (left := st.toNat) (by decide) hwf (fun q hq => vP_wf (dP_v (fd q hq)))
        have shE : SeqAt.shaped (.list (opL n 60 [] (fiL n st.toNat ps))) = true := els_shaped (op_els (D := 3) fd)
        refine ⟨.list (opL n 60 [] (fiL n st.toNat ps)), .list (opL n 60 [] (fiL n st.toNat ps)), .lst (SqL.of (s16 _ _ (s15 _ _ hl1))) (DpAll.same (s15.trans s16) hd1), .lst (SqL.of h16) (by rw [eop]; exact DpAll.same s16 (DpAll.take _ hd2')), shE, shE, _, rfl, ?_⟩
        rw [SeqAt.eqv_refl _ (SeqAt.canLay_of_shaped shE)]
        exact iteF ⟨rfl, s14.trans (s15.trans s16)⟩
      rintro σ4 H14 ⟨rfl, s14⟩
      have hF14 := hF13.same s14
      have s114 := s11.trans (s12.trans (s13.trans s14))
      refine ⟨_, rfl, _, rfl, _, _, n, rfl, hF14, ⟨ffew, fun q hq => dP_v (fd q hq)⟩, hn, fun H15 s15 => ?_⟩
      have est := (fi_ok (n := n) ps st.toNat hwf).1
      rw [est]
      refine ⟨_, rfl, rfl, _, rfl, ?_⟩
      cases hst : stL n ps with
      | none =>
        have e : lenF n st.toNat ps = st.toNat := by simp [lenF, hst]
        rw [e]
        refine iteT ⟨_, rfl, rfl, _, rfl, ?_⟩
        refine int_ne (fun h0 => absurd (Int.toNat_of_nonneg st0) h0) fun _ => ?_
        exact hnx2 _ _ ⟨s114.trans s15, _, _, by rw [hst]⟩
      | some m =>
        have e : lenF n st.toNat ps = min st.toNat m := by simp [lenF, hst]
        rw [e]
        refine iteF ⟨_, rfl, _, rfl, _, _, rfl, rfl, _, rfl, ?_⟩
        refine int_ne (fun h0 => absurd (show ((min st.toNat m : Nat) : Int) = (if (m : Int) < st then (m : Int) else st) by split <;> omega) h0) fun _ => ?_
        exact hnx2 _ _ ⟨s114.trans s15, _, _, by rw [hst]⟩
    rintro σ1 H8 ⟨p8, p9, rfl, t8, hR8⟩
    clear t7 hR7
    -- what was handed in
    obtain ⟨tv, vs, rfl, hSv, hav⟩ := tupDv t8.dp
    refine ⟨fun σ' H' => σ' = [some (.ref a), some (.int (0 + (k : Int))), some (.ref pp), some (.ref tv), some (.int n), some (.ref r), some (optN (stL n ps)), some (.int ab), p8, p9, o10] ∧ Tn K H1 pp (.ref tv) ps H' ∧ RowP K H' (.ref r) ps, ?_, ?_⟩
    · obtain ⟨p2, y2, m2, e2, ⟨dx2, h2⟩, hd2⟩ := id hR8
      cases e2
      refine ⟨_, rfl, r, CR K, dx2, _, _, rfl, h2, T.cl, T.nP, flds_p _ _, _, rfl, _, _, hd2, t8.dp, shP, shP, _, rfl, ?_⟩
      rw [SeqAt.eqv_refl _ (SeqAt.canLay_of_shaped shP)]
      refine iteF ?_
      refine ⟨_, rfl, _, _, _, rfl, .inl ⟨_, t8.dp, fun l1 H9 s9 hl1 => ?_⟩⟩
      refine ⟨_, rfl, by show 2 ≤ sizeLine; omega, fun l2 nl2 => ?_⟩
      have s10 := same_upd (o := .lst [.str "row", .ref tv]) nl2
      refine ⟨l1, l2, _, rfl, rfl, SqL.of (s10 _ _ hl1), SqL.of upd_same, fun u hu => ?_, _, rfl, iteF ?_⟩
      · rcases List.mem_cons.mp hu with rfl | hu
        · exact .inl rfl
        · rw [List.mem_singleton.mp hu]
          exact .inr ⟨_, rfl⟩
      · exact ⟨rfl, t8.same (s9.trans s10), hR8.same (s9.trans s10)⟩
    rintro σ1 H9 ⟨rfl, t9, hR9⟩
    clear t8 hR8
    -- other things
    refine ⟨_, rfl, _, _, rfl, rfl, ⟨by decide, by decide, by decide⟩, _, _, rfl, rfl, by show 4 ≤ sizeLine; omega, fun l nl => ?_⟩
    have sl := same_upd (o := .lst [.int (-1), .int (10 ^ (Int.toNat 30) + 1), .non, .bl true]) nl
    have hlw := upd_same (H := H9) (a := l) (o := .lst [.int (-1), .int (10 ^ (Int.toNat 30) + 1), .non, .bl true])
    have t10 := t9.same sl
    have hR10 := hR9.same sl
    generalize upd H9 l (.lst [.int (-1), .int (10 ^ (Int.toNat 30) + 1), .non, .bl true]) = H10 at hlw t10 hR10 ⊢
    clear t9 hR9 sl
    refine ⟨l, rfl, ⟨_, SqL.of hlw⟩, ?_⟩
    refine for_listD (K := K) (a := l) (xs := [.int (-1), .int (10 ^ (Int.toNat 30) + 1), .non, .bl true]) (fun i σ H' => Same H10 H' ∧ ∃ o10, σ = [some (.ref a), some (.int (0 + (k : Int))), some (.ref pp), some (.ref tv), some (.int n), some (.ref r), some (optN (stL n ps)), some (.int ab), p8, p9, o10]) ⟨Same.refl _, _, rfl⟩ (fun i σ H' _ z => SqL.of (z.1 _ _ hlw)) ?_ (fun σ H' ⟨s', o10, eq⟩ => hnx _ _ ⟨e1.trans (Adv.new np (t10.same s').ad), _, _, _, _, _, _, _, _, _, _, eq⟩)
    rintro D2 i x σ H11 hrt2 hnx2 - - hi ⟨s11, q10, rfl⟩
    obtain ⟨dx, hdx, hfx, hbx⟩ : ∃ d, (∀ H', Dp K H' x d) ∧ flatB x = true ∧ betw 0 (10 ^ 30) d = false := by
      match i, hi with
      | 0, hi => cases hi; exact ⟨.int (-1), fun _ => .int _, rfl, by decide +kernel⟩
      | 1, hi => cases hi; exact ⟨.int _, fun _ => .int _, rfl, by decide +kernel⟩
      | 2, hi => cases hi; exact ⟨.none, fun _ => .non, rfl, by decide +kernel⟩
      | 3, hi => cases hi; exact ⟨.bool true, fun _ => .bl _, rfl, by decide +kernel⟩
    have hbn : betw 0 (10 ^ 30) (.int n) = true := by
      show (decide (0 ≤ n) && decide (n ≤ 10 ^ 30)) = true
      rw [decide_eq_true hn.1, decide_eq_true hn.2]
      rfl
    have flat : ∀ u ∈ [V.str "number", x], flatB u = true ∨ ∃ r, u = .ref r := fun u hu => by
      rcases List.mem_cons.mp hu with rfl | hu
      · exact .inl rfl
      · rw [List.mem_singleton.mp hu]
        exact .inl hfx
    have hR11 := hR10.same s11
    refine ⟨_, rfl, _, rfl, _, _, _, rfl, .inr ⟨ps, dx, .none, hR11, hdx _, .non, .inl ⟨hbx, fun l1 H12 s12 hl1 => ?_⟩⟩⟩
    refine ⟨_, rfl, by show 2 ≤ sizeLine; omega, fun l2 nl2 => ?_⟩
    have s13 := same_upd (o := .lst [.str "number", x]) nl2
    refine ⟨l1, l2, _, rfl, rfl, SqL.of (s13 _ _ hl1), SqL.of upd_same, flat, _, rfl, iteF ?_⟩
    generalize upd H12 l2 (.lst [.str "number", x]) = H13 at s13 ⊢
    refine ⟨_, rfl, _, rfl, _, rfl, _, _, _, rfl, .inr ⟨ps, .int n, dx, hR11.same (s12.trans s13), .int n, hdx _, .inr ⟨hbn, hbx, fun l3 H14 s14 hl3 => ?_⟩⟩⟩
    refine ⟨_, rfl, by show 2 ≤ sizeLine; omega, fun l4 nl4 => ?_⟩
    have s15 := same_upd (o := .lst [.str "number", x]) nl4
    refine ⟨l3, l4, _, rfl, rfl, SqL.of (s15 _ _ hl3), SqL.of upd_same, flat, _, rfl, iteF ?_⟩
    exact hnx2 _ _ ⟨s11.trans ((s12.trans s13).trans (s14.trans s15)), _, rfl⟩
end
end L2.L70

set_option maxHeartbeats 0
namespace L2.L70
open PySem PySem.Spec PyProof.Rows LR L2.Lr
def insB (K : PySem.W.Frag) : Bool := He.eqO (PySem.W.findIn K (.ref (CR K)) "__class__") (some (some (.builtin "object.__class__"))) && (He.eqO (PySem.W.specialIn K (.builtin "object.__class__") "__get__") (some (some (.builtin "getset_descriptor.__get__"))) &&
  (decide (PySem.W.takesIn K (.builtin "object.__class__") = some true) && (decide (PySem.W.mroIn K (CR K) (.type "object") = some true) && decide (PySem.W.kitOne K (.ref (CR K)) (.ref (CR K)) = some true))))
def xtB (K : PySem.W.Frag) (x : Str) (C : Addr) : Bool := He.eqO (PySem.W.nsIn K mainGlobals x) (some (some (.ref C))) && (xcB K xV C && (He.eqO (PySem.W.findIn K (.ref C) "value") (some none) && (He.eqO (PySem.W.findIn K (.ref C) "__init__") (some (some (.ref (fV K)))) &&
  decide (PySem.W.exmOne K (.ref C) (.ref C) = some true))))
def dfA (K : PySem.W.Frag) : Addr := He.dflAt ("Row", some "__init__") 0 K
def fE (K : PySem.W.Frag) : Addr := He.ma K (CR K) "__eq__"
def eqB (K : PySem.W.Frag) : Bool := dunB K (CR K) (fE K) "__eq__" && (He.eqO (PySem.W.findIn K (.ref (CR K)) "__ne__") (some (some (.builtin "object.__ne__"))) && (decide (PySem.W.kitOne K (.type "tuple") (.ref (CR K)) = some false) && (decide (PySem.W.exmOne K (.ref (CN K)) (.ref (CB K)) = some false) && decide (PySem.W.typeIn K (.ref (fV K)) = some (.type "function")))))
def chkB (K : PySem.W.Frag) : Bool := insB K && (xtB K "BadRow" (CB K) && (xtB K "BadCount" (CC K) && (xtB K "BadNumber" (CN K) && eqB K)))
def dF (x : Str) (st : Stmt) : He.DefD := ⟨(x, none), x, x, defArgs st, defBody st, defScope st, [], []⟩
def fn : List He.DefD := [⟨("RoomError", some "__init__"), "__init__", "RoomError.__init__", defArgs sRoom, defBody sRoom, defScope sRoom, [], []⟩, ⟨("Row", some "__init__"), "__init__", "Row.__init__", defArgs sIni, defBody sIni, defScope sIni, [.adr dfA], []⟩, ⟨("Row", some "__eq__"), "__eq__", "Row.__eq__", defArgs sEqO, defBody sEqO, defScope sEqO, [], []⟩,
  dF "is_word" sWord, dF "is_integer" sInt, dF "is_between" sBetw, dF "check_number" sNum, dF "is_count" sCount, dF "rounds" sRnd, dF "_check_count" sCkC, dF "are_parts_of_row" sApr, dF "check_row" sCkR, dF "is_round" sRound, dF "inner_parts" sInn, dF "_how_many" sHow, dF "_size_of" sSize, dF "_is_head" sHead, dF "_is_single" sSing, dF "_goes_on_last" sGoes, dF "steps_of" sStL, dF "first_parts" sFiL, dF "_first_rounds" sFrP, dF "_steps_of_part" sStP, dF "cut" sCut, dF "steps_in_row" sSir, dF "_law_pool" sPool, dF "_law_take" sTake, dF "_law_count" sLCo, dF "_law_parts" sLPa, dF "_law_rounds" sLRo, dF "_law_many" sLMa, dF "_law_due" sLDu, dF "_law_opened" sLOp, dF "_law_refused" sLRe, dF "law" sLaw]
def fa : List He.Fa := [.glo "is_word", .glo "is_integer", .glo "is_between", .glo "check_number", .glo "is_count", .glo "rounds", .glo "_check_count", .glo "are_parts_of_row", .glo "check_row", .glo "is_round", .glo "inner_parts", .glo "_how_many", .glo "_size_of", .glo "_is_head", .glo "_is_single", .glo "_goes_on_last", .glo "steps_of", .glo "first_parts", .glo "_first_rounds", .glo "_steps_of_part", .glo "cut", .glo "steps_in_row", .glo "_law_pool", .glo "_law_take", .glo "_law_count", .glo "_law_parts", .glo "_law_rounds", .glo "_law_many", .glo "_law_due", .glo "_law_opened", .glo "_law_refused", .glo "law", .glo "Row", .cls "Row", .noat "Row" "parts", .noat "Row" "size", .mkr "Row", .int "LARGEST_NUMBER" (10 ^ 30), .int "MOST_PARTS" 60, .int "MOST_LOOPS" 4, .int "MOST_AT_ONCE" 9, .int "LONGEST_WORK" 99, .int "NO_ROW" 61, .int "LONGEST_WORD" 8, .free "isinstance", .free "len", .free "int", .free "bool", .free "tuple", .free "str", .free "all", .free "list", .free "range", .free "max", .free "min", .free "divmod"]
abbrev RR : PySem.W.OpenRow := PySem.W.OpenLaw.row PySem.Challenge.rw_leastrooms_k70_whole_programs_cut
abbrev hk : PySem.W.Hook := hookE 5 chkB fa fn
def ob (s : PySem.W.SharedT) : Bool × He.AlD := obsEG 5 chkB fa fn (HandSHeadRun.getT s)
theorem ob_eq (s : PySem.W.SharedT) : ob s = hk.obs s.abs := obsEG_eq (HandSHeadRun.getT_eq s)
def looseS : List String := ["RoomError", "BadCount", "BadRow", "BadNumber", "FIGURES", "figures_of", "LONGEST_WORD", "LARGEST_NUMBER", "is_word", "is_integer", "is_between", "check_number", "LONGEST_TEXT", "is_count", "rounds", "format_count", "count_of", "_check_count", "_written", "read_count", "_read_freely", "MOST_PARTS", "MOST_LOOPS", "MOST_AT_ONCE", "LONGEST_WORK", "NO_ROW", "Row", "loop", "are_parts_of_row", "check_row", "is_round", "inner_parts", "_row_of", "_how_many", "_size_of", "_is_head", "_is_single", "_goes_on_last", "_text_of", "_text_of_part", "steps_of", "first_parts", "_first_rounds", "_steps_of_part", "cut", "steps_in_row", "_law_pool", "_law_take", "_law_count", "_law_parts", "_law_rounds", "_law_many", "_law_due", "_law_opened", "_law_refused"]
def loose : List Str := looseS.map Str.ofString
theorem run (w : World) : HandSHeadRun.RunEq RR (PySem.W.view RR.prog [63]) hk ob 16000 loose w := by
  intro os
  kernel_rfl
end L2.L70

set_option maxHeartbeats 0
namespace L2.L70
open PySem PySem.Spec PyProof.Rows LR L2.Lr
theorem ini_binds {K : PySem.W.Frag} {f DFL : Addr} {fd : FuncData} (F : FunD K "__init__" "Row.__init__" (defArgs sIni) (defBody sIni) (defScope sIni) [.ref DFL] [] f fd) : Binds K fd ["self", "parts"] [] := by
  obtain ⟨ds, v, b⟩ := F.binds1 (ps := ["self", "parts"]) 2 1 (by simp) rfl fun T kV doc pm an cdv ct us its h1 h2 => match us, its, h1, h2 with
    | [a, b], [d], _, _ => ⟨_, rfl, rfl⟩
  cases v
  exact b
theorem xtB_ok {K : PySem.W.Frag} {h : Heap} {mg : Str → Option Value} {x : Str} {C : Addr} (X : K.In h) (G : h.Ns mainGlobals mg) (q : xtB K x C = true) : Xt K mg x C := by
  obtain ⟨x1, q⟩ := He.ba q
  obtain ⟨x2, q⟩ := He.ba q
  obtain ⟨x3, q⟩ := He.ba q
  obtain ⟨x4, x5⟩ := He.ba q
  exact ⟨PySem.W.mg_of X G (He.eqO_ok x1), xcB_ok x2, He.eqO_ok x3, He.eqO_ok x4, of_decide_eq_true x5⟩
def noS : Sp := fun _ _ _ _ => False
theorem no_fn {P : Program} {w : World} {K : PySem.W.Frag} {mg : Str → Option Value} {base : Heap} {CX : CXT} {k : Nat} {f : Addr} {fd : FuncData} {ps : List Str} : FnOk P w K mg base CX k f fd ps noS := ⟨fun _ _ _ _ h => h.elim, fun _ _ _ _ _ _ _ _ _ _ _ _ _ h => h.elim⟩
theorem facts {P : Program} {w : World} {K : PySem.W.Frag} {h : Heap} {mg : Str → Option Value} {f : Addr} (X : K.In h) (G : h.Ns mainGlobals mg) (hfa : mg ("law" : Str) = some (.ref f)) (c : chkB K = true) (s : He.SaysD fa fn K) :
    ∃ fd : FuncData, (∀ (s : Shared) (v : Value), BindsTo s fd ⟨[v], []⟩ [("_law_script", v)]) ∧ ∀ base : Heap, K.In base → base.Ns mainGlobals mg → FnQ P w K mg base CX0 20 f fd ["_law_script"] (spLaw K) := by
  obtain ⟨c1, c⟩ := He.ba c
  obtain ⟨c2, c⟩ := He.ba c
  obtain ⟨c3, c⟩ := He.ba c
  obtain ⟨c4, c⟩ := He.ba c
  obtain ⟨q1, c⟩ := He.ba c
  obtain ⟨q2, c⟩ := He.ba c
  obtain ⟨q3, c⟩ := He.ba c
  obtain ⟨q4, q5⟩ := He.ba c
  obtain ⟨i1, i⟩ := He.ba c1
  obtain ⟨i2, i⟩ := He.ba i
  obtain ⟨i3, i⟩ := He.ba i
  obtain ⟨i4, i5⟩ := He.ba i
  have g : ∀ (i : Nat) (x : Str), fa[i]? = some (.glo x) → mg x = some (.ref (He.ga K x)) := fun i x e => He.glo_ok X G (s.fact i (f := .glo x) e)
  have cl : Cls K (CR K) := He.cls_ok (s.fact 33 (f := .cls "Row") rfl)
  have T0 : Prg mg := {
    isn := He.free_ok X G (s.fact 44)
    len := He.free_ok X G (s.fact 45)
    int := He.free_ok X G (s.fact 46)
    bool := He.free_ok X G (s.fact 47)
    tuple := He.free_ok X G (s.fact 48)
    str := He.free_ok X G (s.fact 49)
    far := He.int_ok X G (s.fact 37)
    most := He.int_ok X G (s.fact 38)
    deep := He.int_ok X G (s.fact 39)
    once := He.int_ok X G (s.fact 40)
    long := He.int_ok X G (s.fact 41)
    norow := He.int_ok X G (s.fact 42)
    }
  have T : Txt K mg := {
    p := T0
    xB := xtB_ok X G c2
    xC := xtB_ok X G c3
    xN := xtB_ok X G c4
    nb := of_decide_eq_true q4
    tI := of_decide_eq_true q5
    gR := g 32 "Row" rfl
    cl := cl
    nP := He.noat_ok (s.fact 34 (f := .noat "Row" "parts") rfl)
    nS := He.noat_ok (s.fact 35 (f := .noat "Row" "size") rfl)
    ic := ⟨cl, He.eqO_ok i1, He.eqO_ok i2, of_decide_eq_true i3, of_decide_eq_true i4, of_decide_eq_true i5⟩
    all := He.free_ok X G (s.fact 50)
    list := He.free_ok X G (s.fact 51)
    range := He.free_ok X G (s.fact 52)
    max := He.free_ok X G (s.fact 53)
    min := He.free_ok X G (s.fact 54)
    divmod := He.free_ok X G (s.fact 55)
    }
  have kt := of_decide_eq_true q3
  have Mm : Mk K (CR K) (He.ma K (CR K) "__init__") := He.mkr_ok (s.fact 36 (f := .mkr "Row") rfl)
  obtain ⟨t2, hlw⟩ := He.int_ok X G (s.fact 43 (f := .int "LONGEST_WORD" 8) rfl)
  obtain ⟨x0, F0⟩ := s.def_ 0
  obtain ⟨x1, F1⟩ := s.def_ 1
  obtain ⟨x2, F2⟩ := s.def_ 2
  obtain ⟨x3, F3⟩ := s.def_ 3
  obtain ⟨x4, F4⟩ := s.def_ 4
  obtain ⟨x5, F5⟩ := s.def_ 5
  obtain ⟨x6, F6⟩ := s.def_ 6
  obtain ⟨x7, F7⟩ := s.def_ 7
  obtain ⟨x8, F8⟩ := s.def_ 8
  obtain ⟨x9, F9⟩ := s.def_ 9
  obtain ⟨x10, F10⟩ := s.def_ 10
  obtain ⟨x11, F11⟩ := s.def_ 11
  obtain ⟨x12, F12⟩ := s.def_ 12
  obtain ⟨x13, F13⟩ := s.def_ 13
  obtain ⟨x14, F14⟩ := s.def_ 14
  obtain ⟨x15, F15⟩ := s.def_ 15
  obtain ⟨x16, F16⟩ := s.def_ 16
  obtain ⟨x17, F17⟩ := s.def_ 17
  obtain ⟨x18, F18⟩ := s.def_ 18
  obtain ⟨x19, F19⟩ := s.def_ 19
  obtain ⟨x20, F20⟩ := s.def_ 20
  obtain ⟨x21, F21⟩ := s.def_ 21
  obtain ⟨x22, F22⟩ := s.def_ 22
  obtain ⟨x23, F23⟩ := s.def_ 23
  obtain ⟨x24, F24⟩ := s.def_ 24
  obtain ⟨x25, F25⟩ := s.def_ 25
  obtain ⟨x26, F26⟩ := s.def_ 26
  obtain ⟨x27, F27⟩ := s.def_ 27
  obtain ⟨x28, F28⟩ := s.def_ 28
  obtain ⟨x29, F29⟩ := s.def_ 29
  obtain ⟨x30, F30⟩ := s.def_ 30
  obtain ⟨x31, F31⟩ := s.def_ 31
  obtain ⟨x32, F32⟩ := s.def_ 32
  obtain ⟨x33, F33⟩ := s.def_ 33
  obtain ⟨x34, F34⟩ := s.def_ 34
  cases hfa.symm.trans (g 31 "law" rfl)
  have b := FunD.bindsA (ps := ["_law_script"]) F34 fun _ _ _ _ _ _ us hl => match us, hl with | [_], _ => rfl
  refine ⟨x34, fun s v => b s [v] rfl, fun base _ _ => ?_⟩
  have bI := ini_binds (DFL := dfA K) F1
  have Z : Rm P w K mg base x0 := ⟨ok_room F0, F0.bindsN fun _ _ _ _ _ _ us hl => match us, hl with | [_, _], _ => rfl⟩
  have Wd : Def P w K mg base CX0 1 "is_word" _ x3 ["thing"] (spWord K) := ⟨ok_word F3 T0 hlw, g 0 _ rfl, F3.kp, F3.bindsN fun _ _ _ _ _ _ us hl => match us, hl with | [_], _ => rfl⟩
  have In : Def P w K mg base CX0 1 "is_integer" _ x4 ["thing"] (spInt K) := ⟨ok_int F4 T0, g 1 _ rfl, F4.kp, F4.bindsN fun _ _ _ _ _ _ us hl => match us, hl with | [_], _ => rfl⟩
  have Bw : Def P w K mg base CX0 2 "is_between" _ x5 ["thing", "low", "high"] (spBetw K) := ⟨ok_betw F5 In, g 2 _ rfl, F5.kp, F5.bindsN fun _ _ _ _ _ _ us hl => match us, hl with | [_, _, _], _ => rfl⟩
  have Ct : Def P w K mg base CX0 3 "is_count" _ x7 ["thing"] (spCount K) := ⟨ok_count F7 T0 Bw, g 4 _ rfl, F7.kp, F7.bindsN fun _ _ _ _ _ _ us hl => match us, hl with | [_], _ => rfl⟩
  have Rd : Def P w K mg base CX0 1 "is_round" _ x12 ["part"] (spRound K) := ⟨ok_round F12, g 9 _ rfl, F12.kp, F12.bindsN fun _ _ _ _ _ _ us hl => match us, hl with | [_], _ => rfl⟩
  have Hd : Def P w K mg base CX0 4 "_is_head" _ x16 ["part", "depth"] (spHead K) := ⟨ok_head F16 T0 Ct, g 13 _ rfl, F16.kp, F16.bindsN fun _ _ _ _ _ _ us hl => match us, hl with | [_, _], _ => rfl⟩
  have Sg : Def P w K mg base CX0 3 "_is_single" _ x17 ["part"] (spSing K) := ⟨ok_sing F17 T0 Bw Wd, g 14 _ rfl, F17.kp, F17.bindsN fun _ _ _ _ _ _ us hl => match us, hl with | [_], _ => rfl⟩
  have Gs : Def P w K mg base CX0 1 "_goes_on_last" _ x18 ["parts"] (spGoes K) := ⟨ok_goes F18 T, g 15 _ rfl, F18.kp, F18.bindsN fun _ _ _ _ _ _ us hl => match us, hl with | [_], _ => rfl⟩
  have S0 : Def P w K mg base CX0 5 "_size_of" _ x15 ["part", "depth"] (spSize K 0) := ⟨ok_size0 F15 T0 (k := 4) (by decide) Rd Hd Sg, g 12 _ rfl, F15.kp, F15.bindsN fun _ _ _ _ _ _ us hl => match us, hl with | [_, _], _ => rfl⟩
  have H0 : Def P w K mg base CX0 6 "_how_many" _ x14 ["parts", "depth"] (spHow K 0) := ⟨ok_how F14 T0 S0, g 11 _ rfl, F14.kp, F14.bindsN fun _ _ _ _ _ _ us hl => match us, hl with | [_, _], _ => rfl⟩
  have S1 : Def P w K mg base CX0 7 "_size_of" _ x15 ["part", "depth"] (spSize K 1) := ⟨ok_sizeS F15 T0 (k := 6) (by decide) Rd Hd Sg H0, g 12 _ rfl, F15.kp, F15.bindsN fun _ _ _ _ _ _ us hl => match us, hl with | [_, _], _ => rfl⟩
  have H1 : Def P w K mg base CX0 8 "_how_many" _ x14 ["parts", "depth"] (spHow K 1) := ⟨ok_how F14 T0 S1, g 11 _ rfl, F14.kp, F14.bindsN fun _ _ _ _ _ _ us hl => match us, hl with | [_, _], _ => rfl⟩
  have S2 : Def P w K mg base CX0 9 "_size_of" _ x15 ["part", "depth"] (spSize K 2) := ⟨ok_sizeS F15 T0 (k := 8) (by decide) Rd Hd Sg H1, g 12 _ rfl, F15.kp, F15.bindsN fun _ _ _ _ _ _ us hl => match us, hl with | [_, _], _ => rfl⟩
  have H2 : Def P w K mg base CX0 10 "_how_many" _ x14 ["parts", "depth"] (spHow K 2) := ⟨ok_how F14 T0 S2, g 11 _ rfl, F14.kp, F14.bindsN fun _ _ _ _ _ _ us hl => match us, hl with | [_, _], _ => rfl⟩
  have S3 : Def P w K mg base CX0 11 "_size_of" _ x15 ["part", "depth"] (spSize K 3) := ⟨ok_sizeS F15 T0 (k := 10) (by decide) Rd Hd Sg H2, g 12 _ rfl, F15.kp, F15.bindsN fun _ _ _ _ _ _ us hl => match us, hl with | [_, _], _ => rfl⟩
  have H3 : Def P w K mg base CX0 12 "_how_many" _ x14 ["parts", "depth"] (spHow K 3) := ⟨ok_how F14 T0 S3, g 11 _ rfl, F14.kp, F14.bindsN fun _ _ _ _ _ _ us hl => match us, hl with | [_, _], _ => rfl⟩
  have S4 : Def P w K mg base CX0 13 "_size_of" _ x15 ["part", "depth"] (spSize K 4) := ⟨ok_sizeS F15 T0 (k := 12) (by decide) Rd Hd Sg H3, g 12 _ rfl, F15.kp, F15.bindsN fun _ _ _ _ _ _ us hl => match us, hl with | [_, _], _ => rfl⟩
  have H4 : Def P w K mg base CX0 14 "_how_many" _ x14 ["parts", "depth"] (spHow K 4) := ⟨ok_how F14 T0 S4, g 11 _ rfl, F14.kp, F14.bindsN fun _ _ _ _ _ _ us hl => match us, hl with | [_, _], _ => rfl⟩
  have Ap : Def P w K mg base CX0 15 "are_parts_of_row" _ x10 ["thing"] (spApr K) := ⟨ok_apr F10 T (k := 14) (by decide) H4 Gs, g 7 _ rfl, F10.kp, F10.bindsN fun _ _ _ _ _ _ us hl => match us, hl with | [_], _ => rfl⟩
  have MR : Rm2 P w K mg base 16 (He.ma K (CR K) "__init__") x1 := ⟨Mm, ok_row (DFL := dfA K) (dV := x0) F1 T (k := 14) (by decide) H4 Ap, bI⟩
  have N0 : Def P w K mg base CX0 3 "check_number" _ x6 ["n"] spNum0 := ⟨ok_num0 F6 T Bw, g 3 _ rfl, F6.kp, F6.bindsN fun _ _ _ _ _ _ us hl => match us, hl with | [_], _ => rfl⟩
  have NX : Def P w K mg base (L2.CX P w) 3 "check_number" _ x6 ["n"] (spNumX K) := ⟨ok_numX F6 T Bw Z, g 3 _ rfl, F6.kp, F6.bindsN fun _ _ _ _ _ _ us hl => match us, hl with | [_], _ => rfl⟩
  have Kc : Def P w K mg base CX0 4 "_check_count" _ x9 ["count"] (spCk0 K) := ⟨ok_ckc0 F9 T Ct, g 6 _ rfl, F9.kp, F9.bindsN fun _ _ _ _ _ _ us hl => match us, hl with | [_], _ => rfl⟩
  have Rn : Def P w K mg base CX0 5 "rounds" _ x8 ["count", "n"] (spRnd K) := ⟨ok_rnd F8 T Kc N0, g 5 _ rfl, F8.kp, F8.bindsN fun _ _ _ _ _ _ us hl => match us, hl with | [_, _], _ => rfl⟩
  have Ii : Def P w K mg base CX0 1 "inner_parts" _ x13 ["part"] (spInn K) := ⟨ok_inn F13, g 10 _ rfl, F13.kp, F13.bindsN fun _ _ _ _ _ _ us hl => match us, hl with | [_], _ => rfl⟩
  have P0 : Def P w K mg base CX0 2 "_steps_of_part" _ x22 ["part", "n"] (spStP K 0) := ⟨ok_stP0 F22 (k := 1) (by decide) Rd, g 19 _ rfl, F22.kp, F22.bindsN fun _ _ _ _ _ _ us hl => match us, hl with | [_, _], _ => rfl⟩
  have Lk0 : Def P w K mg base CX0 3 "steps_of" _ x19 ["parts", "n"] (spStL K 0) := ⟨ok_stL F19 P0, g 16 _ rfl, F19.kp, F19.bindsN fun _ _ _ _ _ _ us hl => match us, hl with | [_, _], _ => rfl⟩
  have Lk05 : Def P w K mg base CX0 5 "steps_of" _ x19 ["parts", "n"] (spStL K 0) := ⟨Lk0.ok.mono (by decide), g 16 _ rfl, F19.kp, F19.bindsN fun _ _ _ _ _ _ us hl => match us, hl with | [_, _], _ => rfl⟩
  have P1 : Def P w K mg base CX0 6 "_steps_of_part" _ x22 ["part", "n"] (spStP K 1) := ⟨ok_stPS (D := 0) (by decide) F22 (k := 5) (by decide) Rd Ii Lk05 Rn, g 19 _ rfl, F22.kp, F22.bindsN fun _ _ _ _ _ _ us hl => match us, hl with | [_, _], _ => rfl⟩
  have Lk1 : Def P w K mg base CX0 7 "steps_of" _ x19 ["parts", "n"] (spStL K 1) := ⟨ok_stL F19 P1, g 16 _ rfl, F19.kp, F19.bindsN fun _ _ _ _ _ _ us hl => match us, hl with | [_, _], _ => rfl⟩
  have P2 : Def P w K mg base CX0 8 "_steps_of_part" _ x22 ["part", "n"] (spStP K 2) := ⟨ok_stPS (D := 1) (by decide) F22 (k := 7) (by decide) Rd Ii Lk1 Rn, g 19 _ rfl, F22.kp, F22.bindsN fun _ _ _ _ _ _ us hl => match us, hl with | [_, _], _ => rfl⟩
  have Lk2 : Def P w K mg base CX0 9 "steps_of" _ x19 ["parts", "n"] (spStL K 2) := ⟨ok_stL F19 P2, g 16 _ rfl, F19.kp, F19.bindsN fun _ _ _ _ _ _ us hl => match us, hl with | [_, _], _ => rfl⟩
  have P3 : Def P w K mg base CX0 10 "_steps_of_part" _ x22 ["part", "n"] (spStP K 3) := ⟨ok_stPS (D := 2) (by decide) F22 (k := 9) (by decide) Rd Ii Lk2 Rn, g 19 _ rfl, F22.kp, F22.bindsN fun _ _ _ _ _ _ us hl => match us, hl with | [_, _], _ => rfl⟩
  have Lk3 : Def P w K mg base CX0 11 "steps_of" _ x19 ["parts", "n"] (spStL K 3) := ⟨ok_stL F19 P3, g 16 _ rfl, F19.kp, F19.bindsN fun _ _ _ _ _ _ us hl => match us, hl with | [_, _], _ => rfl⟩
  have R0 : Def P w K mg base CX0 2 "_first_rounds" _ x21 ["part", "n", "left"] (spFrP K 0) := ⟨ok_frP0 F21 (k := 1), g 18 _ rfl, F21.kp, F21.bindsN fun _ _ _ _ _ _ us hl => match us, hl with | [_, _, _], _ => rfl⟩
  have G0 : Def P w K mg base CX0 3 "first_parts" _ x20 ["parts", "n", "steps"] (spFiL K 0) := ⟨ok_fiL (D := 0) (by decide) F20 (k := 2) P0 R0, g 17 _ rfl, F20.kp, F20.bindsN fun _ _ _ _ _ _ us hl => match us, hl with | [_, _, _], _ => rfl⟩
  have Lr1 : Def P w K mg base CX0 3 "steps_of" _ x19 ["parts", "n"] (spStL K 0) := ⟨Lk0.ok.mono (by decide), g 16 _ rfl, F19.kp, F19.bindsN fun _ _ _ _ _ _ us hl => match us, hl with | [_, _], _ => rfl⟩
  have Gr1 : Def P w K mg base CX0 3 "first_parts" _ x20 ["parts", "n", "steps"] (spFiL K 0) := ⟨G0.ok.mono (by decide), g 17 _ rfl, F20.kp, F20.bindsN fun _ _ _ _ _ _ us hl => match us, hl with | [_, _, _], _ => rfl⟩
  have R1 : Def P w K mg base CX0 4 "_first_rounds" _ x21 ["part", "n", "left"] (spFrP K 1) := ⟨ok_frPS (D := 0) (by decide) F21 T (k := 3) (by decide) Ii Lr1 Gr1, g 18 _ rfl, F21.kp, F21.bindsN fun _ _ _ _ _ _ us hl => match us, hl with | [_, _, _], _ => rfl⟩
  have Pg1 : Def P w K mg base CX0 6 "_steps_of_part" _ x22 ["part", "n"] (spStP K 1) := ⟨P1.ok.mono (by decide), g 19 _ rfl, F22.kp, F22.bindsN fun _ _ _ _ _ _ us hl => match us, hl with | [_, _], _ => rfl⟩
  have Rg1 : Def P w K mg base CX0 6 "_first_rounds" _ x21 ["part", "n", "left"] (spFrP K 1) := ⟨R1.ok.mono (by decide), g 18 _ rfl, F21.kp, F21.bindsN fun _ _ _ _ _ _ us hl => match us, hl with | [_, _, _], _ => rfl⟩
  have G1 : Def P w K mg base CX0 7 "first_parts" _ x20 ["parts", "n", "steps"] (spFiL K 1) := ⟨ok_fiL (D := 1) (by decide) F20 (k := 6) Pg1 Rg1, g 17 _ rfl, F20.kp, F20.bindsN fun _ _ _ _ _ _ us hl => match us, hl with | [_, _, _], _ => rfl⟩
  have Lr2 : Def P w K mg base CX0 7 "steps_of" _ x19 ["parts", "n"] (spStL K 1) := ⟨Lk1.ok.mono (by decide), g 16 _ rfl, F19.kp, F19.bindsN fun _ _ _ _ _ _ us hl => match us, hl with | [_, _], _ => rfl⟩
  have Gr2 : Def P w K mg base CX0 7 "first_parts" _ x20 ["parts", "n", "steps"] (spFiL K 1) := ⟨G1.ok.mono (by decide), g 17 _ rfl, F20.kp, F20.bindsN fun _ _ _ _ _ _ us hl => match us, hl with | [_, _, _], _ => rfl⟩
  have R2 : Def P w K mg base CX0 8 "_first_rounds" _ x21 ["part", "n", "left"] (spFrP K 2) := ⟨ok_frPS (D := 1) (by decide) F21 T (k := 7) (by decide) Ii Lr2 Gr2, g 18 _ rfl, F21.kp, F21.bindsN fun _ _ _ _ _ _ us hl => match us, hl with | [_, _, _], _ => rfl⟩
  have Pg2 : Def P w K mg base CX0 8 "_steps_of_part" _ x22 ["part", "n"] (spStP K 2) := ⟨P2.ok.mono (by decide), g 19 _ rfl, F22.kp, F22.bindsN fun _ _ _ _ _ _ us hl => match us, hl with | [_, _], _ => rfl⟩
  have Rg2 : Def P w K mg base CX0 8 "_first_rounds" _ x21 ["part", "n", "left"] (spFrP K 2) := ⟨R2.ok.mono (by decide), g 18 _ rfl, F21.kp, F21.bindsN fun _ _ _ _ _ _ us hl => match us, hl with | [_, _, _], _ => rfl⟩
  have G2 : Def P w K mg base CX0 9 "first_parts" _ x20 ["parts", "n", "steps"] (spFiL K 2) := ⟨ok_fiL (D := 2) (by decide) F20 (k := 8) Pg2 Rg2, g 17 _ rfl, F20.kp, F20.bindsN fun _ _ _ _ _ _ us hl => match us, hl with | [_, _, _], _ => rfl⟩
  have Lr3 : Def P w K mg base CX0 9 "steps_of" _ x19 ["parts", "n"] (spStL K 2) := ⟨Lk2.ok.mono (by decide), g 16 _ rfl, F19.kp, F19.bindsN fun _ _ _ _ _ _ us hl => match us, hl with | [_, _], _ => rfl⟩
  have Gr3 : Def P w K mg base CX0 9 "first_parts" _ x20 ["parts", "n", "steps"] (spFiL K 2) := ⟨G2.ok.mono (by decide), g 17 _ rfl, F20.kp, F20.bindsN fun _ _ _ _ _ _ us hl => match us, hl with | [_, _, _], _ => rfl⟩
  have R3 : Def P w K mg base CX0 10 "_first_rounds" _ x21 ["part", "n", "left"] (spFrP K 3) := ⟨ok_frPS (D := 2) (by decide) F21 T (k := 9) (by decide) Ii Lr3 Gr3, g 18 _ rfl, F21.kp, F21.bindsN fun _ _ _ _ _ _ us hl => match us, hl with | [_, _, _], _ => rfl⟩
  have Pg3 : Def P w K mg base CX0 10 "_steps_of_part" _ x22 ["part", "n"] (spStP K 3) := ⟨P3.ok.mono (by decide), g 19 _ rfl, F22.kp, F22.bindsN fun _ _ _ _ _ _ us hl => match us, hl with | [_, _], _ => rfl⟩
  have Rg3 : Def P w K mg base CX0 10 "_first_rounds" _ x21 ["part", "n", "left"] (spFrP K 3) := ⟨R3.ok.mono (by decide), g 18 _ rfl, F21.kp, F21.bindsN fun _ _ _ _ _ _ us hl => match us, hl with | [_, _, _], _ => rfl⟩
  have G3 : Def P w K mg base CX0 11 "first_parts" _ x20 ["parts", "n", "steps"] (spFiL K 3) := ⟨ok_fiL (D := 3) (by decide) F20 (k := 10) Pg3 Rg3, g 17 _ rfl, F20.kp, F20.bindsN fun _ _ _ _ _ _ us hl => match us, hl with | [_, _, _], _ => rfl⟩
  have G17 : Def P w K mg base CX0 17 "first_parts" _ x20 ["parts", "n", "steps"] (spFiL K 3) := ⟨G3.ok.mono (by decide), g 17 _ rfl, F20.kp, F20.bindsN fun _ _ _ _ _ _ us hl => match us, hl with | [_, _, _], _ => rfl⟩
  have Kr : Def P w K mg base (L2.CX P w) 3 "check_row" _ x11 ["row"] (spCkR K) := ⟨ok_ckr F11 T kt Z, g 8 _ rfl, F11.kp, F11.bindsN fun _ _ _ _ _ _ us hl => match us, hl with | [_], _ => rfl⟩
  have Cu : Def P w K mg base (L2.CX P w) 18 "cut" _ x23 ["row", "n", "steps"] (spCut K) := ⟨ok_cut F23 T (k := 17) (by decide) Kr NX G17 MR, g 20 _ rfl, F23.kp, F23.bindsN fun _ _ _ _ _ _ us hl => match us, hl with | [_, _, _], _ => rfl⟩
  have Si : Def P w K mg base (L2.CX P w) 12 "steps_in_row" _ x24 ["row", "n"] (spSir K) := ⟨ok_sir F24 T (k := 11) (by decide) Kr NX Lk3, g 21 _ rfl, F24.kp, F24.bindsN fun _ _ _ _ _ _ us hl => match us, hl with | [_, _], _ => rfl⟩
  have Po : Def P w K mg base CX0 1 "_law_pool" _ x25 ["_law_script", "_law_k"] (spPool K) := ⟨ol_pool F25 T, g 22 _ rfl, F25.kp, F25.bindsN fun _ _ _ _ _ _ us hl => match us, hl with | [_, _], _ => rfl⟩
  have Ta : Def P w K mg base CX0 1 "_law_take" _ x26 ["_law_pool_here", "_law_many_here"] spTake := ⟨ol_take F26 T, g 23 _ rfl, F26.kp, F26.bindsN fun _ _ _ _ _ _ us hl => match us, hl with | [_, _], _ => rfl⟩
  have Co : Def P w K mg base CX0 2 "_law_count" _ x27 ["_law_pool_here"] (spLCo K) := ⟨ol_cnt F27 Ta, g 24 _ rfl, F27.kp, F27.bindsN fun _ _ _ _ _ _ us hl => match us, hl with | [_], _ => rfl⟩
  have A0 : Def P w K mg base CX0 3 "_law_parts" _ x28 ["_law_pool_here", "_law_deep"] (spLPa K 0) := ⟨ol_parts (D := 0) (by decide) F28 T (k := 2) (fS := CR K) (dS := x0) (by decide) Ta Co (.inl rfl), g 25 _ rfl, F28.kp, F28.bindsN fun _ _ _ _ _ _ us hl => match us, hl with | [_, _], _ => rfl⟩
  have A1 : Def P w K mg base CX0 4 "_law_parts" _ x28 ["_law_pool_here", "_law_deep"] (spLPa K 1) := ⟨ol_parts (D := 1) (by decide) F28 T (k := 3) (by decide) Ta Co (.inr ⟨0, rfl, A0⟩), g 25 _ rfl, F28.kp, F28.bindsN fun _ _ _ _ _ _ us hl => match us, hl with | [_, _], _ => rfl⟩
  have A2 : Def P w K mg base CX0 5 "_law_parts" _ x28 ["_law_pool_here", "_law_deep"] (spLPa K 2) := ⟨ol_parts (D := 2) (by decide) F28 T (k := 4) (by decide) Ta Co (.inr ⟨1, rfl, A1⟩), g 25 _ rfl, F28.kp, F28.bindsN fun _ _ _ _ _ _ us hl => match us, hl with | [_, _], _ => rfl⟩
  have Lr : Def P w K mg base CX0 1 "_law_rounds" _ x29 ["_law_count_here", "_law_n"] (spRnd K) := ⟨ol_rnd F29 T, g 26 _ rfl, F29.kp, F29.bindsN fun _ _ _ _ _ _ us hl => match us, hl with | [_, _], _ => rfl⟩
  have Mn : Def P w K mg base CX0 1 "_law_many" _ x30 ["_law_parts_here", "_law_n"] noS := ⟨no_fn, g 27 _ rfl, F30.kp, F30.bindsN fun _ _ _ _ _ _ us hl => match us, hl with | [_, _], _ => rfl⟩
  have M0 : Def P w K mg base CX0 2 "_law_many" _ x30 ["_law_parts_here", "_law_n"] (spStL K 0) := ⟨ol_many (D := 0) (by decide) F30 T (k := 1) (by decide) Lr (fun _ h => by cases h) Mn, g 27 _ rfl, F30.kp, F30.bindsN fun _ _ _ _ _ _ us hl => match us, hl with | [_, _], _ => rfl⟩
  have M1 : Def P w K mg base CX0 3 "_law_many" _ x30 ["_law_parts_here", "_law_n"] (spStL K 1) := ⟨ol_many (D := 1) (by decide) F30 T (k := 2) (by decide) Lr (fun _ h => by cases h; rfl) M0, g 27 _ rfl, F30.kp, F30.bindsN fun _ _ _ _ _ _ us hl => match us, hl with | [_, _], _ => rfl⟩
  have M2 : Def P w K mg base CX0 4 "_law_many" _ x30 ["_law_parts_here", "_law_n"] (spStL K 2) := ⟨ol_many (D := 2) (by decide) F30 T (k := 3) (by decide) Lr (fun _ h => by cases h; rfl) M1, g 27 _ rfl, F30.kp, F30.bindsN fun _ _ _ _ _ _ us hl => match us, hl with | [_, _], _ => rfl⟩
  have M3 : Def P w K mg base CX0 5 "_law_many" _ x30 ["_law_parts_here", "_law_n"] (spStL K 3) := ⟨ol_many (D := 3) (by decide) F30 T (k := 4) (by decide) Lr (fun _ h => by cases h; rfl) M2, g 27 _ rfl, F30.kp, F30.bindsN fun _ _ _ _ _ _ us hl => match us, hl with | [_, _], _ => rfl⟩
  have On : Def P w K mg base CX0 5 "_law_opened" _ x32 ["_law_parts_here", "_law_n", "_law_most"] noS := ⟨no_fn, g 29 _ rfl, F32.kp, F32.bindsN fun _ _ _ _ _ _ us hl => match us, hl with | [_, _, _], _ => rfl⟩
  have M05 : Def P w K mg base CX0 5 "_law_many" _ x30 ["_law_parts_here", "_law_n"] (spStL K 0) := ⟨M0.ok.mono (by decide), g 27 _ rfl, F30.kp, F30.bindsN fun _ _ _ _ _ _ us hl => match us, hl with | [_, _], _ => rfl⟩
  have O0 : Def P w K mg base CX0 6 "_law_opened" _ x32 ["_law_parts_here", "_law_n", "_law_most"] (spLOp K 0) := ⟨ol_open (D := 0) (by decide) F32 T (k := 5) (by decide) Lr M05 (fun _ h => by cases h) On, g 29 _ rfl, F32.kp, F32.bindsN fun _ _ _ _ _ _ us hl => match us, hl with | [_, _, _], _ => rfl⟩
  have Mo1 : Def P w K mg base CX0 6 "_law_many" _ x30 ["_law_parts_here", "_law_n"] (spStL K 0) := ⟨M0.ok.mono (by decide), g 27 _ rfl, F30.kp, F30.bindsN fun _ _ _ _ _ _ us hl => match us, hl with | [_, _], _ => rfl⟩
  have O1 : Def P w K mg base CX0 7 "_law_opened" _ x32 ["_law_parts_here", "_law_n", "_law_most"] (spLOp K 1) := ⟨ol_open (D := 1) (by decide) F32 T (k := 6) (by decide) Lr Mo1 (fun _ h => by cases h; rfl) O0, g 29 _ rfl, F32.kp, F32.bindsN fun _ _ _ _ _ _ us hl => match us, hl with | [_, _, _], _ => rfl⟩
  have Mo2 : Def P w K mg base CX0 7 "_law_many" _ x30 ["_law_parts_here", "_law_n"] (spStL K 1) := ⟨M1.ok.mono (by decide), g 27 _ rfl, F30.kp, F30.bindsN fun _ _ _ _ _ _ us hl => match us, hl with | [_, _], _ => rfl⟩
  have O2 : Def P w K mg base CX0 8 "_law_opened" _ x32 ["_law_parts_here", "_law_n", "_law_most"] (spLOp K 2) := ⟨ol_open (D := 2) (by decide) F32 T (k := 7) (by decide) Lr Mo2 (fun _ h => by cases h; rfl) O1, g 29 _ rfl, F32.kp, F32.bindsN fun _ _ _ _ _ _ us hl => match us, hl with | [_, _, _], _ => rfl⟩
  have Mo3 : Def P w K mg base CX0 8 "_law_many" _ x30 ["_law_parts_here", "_law_n"] (spStL K 2) := ⟨M2.ok.mono (by decide), g 27 _ rfl, F30.kp, F30.bindsN fun _ _ _ _ _ _ us hl => match us, hl with | [_, _], _ => rfl⟩
  have O3 : Def P w K mg base CX0 9 "_law_opened" _ x32 ["_law_parts_here", "_law_n", "_law_most"] (spLOp K 3) := ⟨ol_open (D := 3) (by decide) F32 T (k := 8) (by decide) Lr Mo3 (fun _ h => by cases h; rfl) O2, g 29 _ rfl, F32.kp, F32.bindsN fun _ _ _ _ _ _ us hl => match us, hl with | [_, _, _], _ => rfl⟩
  have Dn : Def P w K mg base CX0 5 "_law_due" _ x31 ["_law_parts_here", "_law_n", "_law_steps"] noS := ⟨no_fn, g 28 _ rfl, F31.kp, F31.bindsN fun _ _ _ _ _ _ us hl => match us, hl with | [_, _, _], _ => rfl⟩
  have D0 : Def P w K mg base CX0 6 "_law_due" _ x31 ["_law_parts_here", "_law_n", "_law_steps"] (spLDu K 0) := ⟨ol_due (D := 0) (by decide) F31 T (k := 5) (by decide) M05 (fun _ h => by cases h) Dn, g 28 _ rfl, F31.kp, F31.bindsN fun _ _ _ _ _ _ us hl => match us, hl with | [_, _, _], _ => rfl⟩
  have Md1 : Def P w K mg base CX0 6 "_law_many" _ x30 ["_law_parts_here", "_law_n"] (spStL K 1) := ⟨M1.ok.mono (by decide), g 27 _ rfl, F30.kp, F30.bindsN fun _ _ _ _ _ _ us hl => match us, hl with | [_, _], _ => rfl⟩
  have D1 : Def P w K mg base CX0 7 "_law_due" _ x31 ["_law_parts_here", "_law_n", "_law_steps"] (spLDu K 1) := ⟨ol_due (D := 1) (by decide) F31 T (k := 6) (by decide) Md1 (fun _ h => by cases h; rfl) D0, g 28 _ rfl, F31.kp, F31.bindsN fun _ _ _ _ _ _ us hl => match us, hl with | [_, _, _], _ => rfl⟩
  have Md2 : Def P w K mg base CX0 7 "_law_many" _ x30 ["_law_parts_here", "_law_n"] (spStL K 2) := ⟨M2.ok.mono (by decide), g 27 _ rfl, F30.kp, F30.bindsN fun _ _ _ _ _ _ us hl => match us, hl with | [_, _], _ => rfl⟩
  have D2 : Def P w K mg base CX0 8 "_law_due" _ x31 ["_law_parts_here", "_law_n", "_law_steps"] (spLDu K 2) := ⟨ol_due (D := 2) (by decide) F31 T (k := 7) (by decide) Md2 (fun _ h => by cases h; rfl) D1, g 28 _ rfl, F31.kp, F31.bindsN fun _ _ _ _ _ _ us hl => match us, hl with | [_, _, _], _ => rfl⟩
  have Md3 : Def P w K mg base CX0 8 "_law_many" _ x30 ["_law_parts_here", "_law_n"] (spStL K 3) := ⟨M3.ok.mono (by decide), g 27 _ rfl, F30.kp, F30.bindsN fun _ _ _ _ _ _ us hl => match us, hl with | [_, _], _ => rfl⟩
  have D3 : Def P w K mg base CX0 9 "_law_due" _ x31 ["_law_parts_here", "_law_n", "_law_steps"] (spLDu K 3) := ⟨ol_due (D := 3) (by decide) F31 T (k := 8) (by decide) Md3 (fun _ h => by cases h; rfl) D2, g 28 _ rfl, F31.kp, F31.bindsN fun _ _ _ _ _ _ us hl => match us, hl with | [_, _, _], _ => rfl⟩
  have Rf : Def P w K mg base CX0 19 "_law_refused" _ x33 ["_law_row", "_law_n", "_law_steps"] (spRe K) := ⟨ol_ref (k := 18) F33 T Cu, g 30 _ rfl, F33.kp, F33.bindsN fun _ _ _ _ _ _ us hl => match us, hl with | [_, _, _], _ => rfl⟩
  exact ok_law F34 T ⟨Po, Ta, A2, M3, D3, O3, Rf, Cu, Si, MR, ok_eqR F2 T, F2.bindsN fun _ _ _ _ _ _ us hl => match us, hl with | [_, _], _ => rfl, dunB_ok q1, He.eqO_ok q2, of_decide_eq_true i4⟩
end L2.L70
open PySem PySem.W PySem.Calls PyProof.Rows
theorem PySem.Challenge.cw_leastrooms_k70_whole_programs_cut_holds : PySem.Challenge.rw_leastrooms_k70_whole_programs_cut.Holds := by
  w_on; o_law
  refine HandSHeadRun.head_any (r := OpenLaw.row PySem.Challenge.rw_leastrooms_k70_whole_programs_cut) (q := view (OpenLaw.row PySem.Challenge.rw_leastrooms_k70_whole_programs_cut).prog [63]) (H := L2.L70.hk) (ob := L2.L70.ob) (M := 16000) (loose := L2.L70.loose) (d := HandSHeadRun.topDef (OpenLaw.row PySem.Challenge.rw_leastrooms_k70_whole_programs_cut).prog 63) (kwd := []) L2.L70.ob_eq
    (by kernel_rfl) (fun s => by kernel_rfl) L2.L70.run (by kernel_rfl) (by kernel_rfl) (by kernel_rfl) (by rfl) (by first | assumption | decide +kernel) (by decide +kernel) ⟨rfl, rfl, rfl, rfl, rfl, by decide +kernel⟩ ?hw ?hc
  case hw => w_witness2
  case hc =>
    refine L2.Lr.walk_ofQ (l := PySem.Challenge.rw_leastrooms_k70_whole_programs_cut) (n := 63) (k := 20) (x := "_law_script") (CX := L2.CX0) rfl (by decide) (by kernel_rfl) ⟨rfl, by decide, by decide⟩ ?F (fun _ _ _ _ z => z)
    intro w mg fa h Y G hmg0
    obtain ⟨K, KX, c1, c2⟩ := Y
    have hmg : mg ("law" : PySem.Str) = some (.ref fa) := by
      have e : (HandSHeadRun.topDef (OpenLaw.row PySem.Challenge.rw_leastrooms_k70_whole_programs_cut).prog 63).name = ("law" : PySem.Str) := by kernel_rfl
      rw [← e]
      exact hmg0
    obtain ⟨fd, hb, hF⟩ := L2.L70.facts (P := (PySem.Challenge.rw_leastrooms_k70_whole_programs_cut).prog) (w := w) KX G hmg c1 c2
    exact ⟨K, fd, L2.L70.spLaw K, KX, hb, fun H a ns hl hS => ⟨a, ns, rfl, hS, hl, fun _ => rfl⟩, hF⟩
