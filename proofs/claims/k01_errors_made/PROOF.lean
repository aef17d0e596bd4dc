import PyProof.Rows.All
import Wide.All
import OpenK.AllK
import Wide.FinOn
import HandS.ForExc
import HandS.ExcInit
import HandS.ExcIs
import HandS.ExcField
import HandS.Defaults
import HandS.IsInst
import HandS.ExcValue
import HandS.ForMost
import HandS.Walk
import PySem.Challenge.RW_cellplaces_k01_errors_made
set_option Elab.async false
set_option linter.all false
set_option maxRecDepth 100000
set_option maxHeartbeats 4000000
/-! An own exception class called with one keyword: the maker takes it and lets it be, the own __init__ gets it. -/
namespace KwE
open PySem PySem.W PySem.Calls PyProof.Rows PySem.HandSPX
section
variable {prog : Program} {w : World} {A : Around} {E : Value → Shared → Prop} {R : Result → Shared → Prop} {hp : Heap} {gs : Array GenState} {dr : Drawn} {tk : Nat} {os : OsState}
variable {nm q : Str} {C N fI : Addr} {bs bm bmB : List Value} {hd : Bool} {sn : List Str} {sub : List Value} {ab : Bool} {col : Option Bool} {dd : Option Addr} {k0 k1 k2 k3 k5 : Option Value} {B new_ init_ : String} {us : List Value} {kn : Str} {kv : Value}
/-- what the class's line says of the base's names -/
structure Line (B : String) (C : Addr) (bm : List Value) : Prop where
  b : (Value.ref C :: bm).contains (.type B) = true
  a : (Value.ref C :: bm).contains (.type "AttributeError") = false
  n : (Value.ref C :: bm).contains (.type "NameError") = false
theorem Line.of (F : ExcBaseFacts B new_ init_ bmB) (same : ∀ X : String, bm.contains (.type X) = bmB.contains (.type X)) : Line B C bm := by
  constructor <;> rw [List.contains_cons, same]
  · rw [F.hasB, Bool.or_true]
  · rw [F.noAttr]; rfl
  · rw [F.noName]; rfl
/-- the maker's own check -/
theorem maker_ok {M : Model} {Q : Unit → Shared → Prop} (F : ExcBaseFacts B new_ init_ bmB) (L : Line B C bm) (at_ : hp.get? C = some (excClassObj nm q C N bs bm hd sn sub ab col dd k0 k1 k2 k3 k5 new_)) (h : Q () ⟨hp, gs, dr, tk, os⟩) :
    wpAny M A (checkBuiltinCall new_ ⟨.ref C :: us, [(kn, kv)]⟩) Q E ⟨hp, gs, dr, tk, os⟩ := by
  have star := F.noStar
  simp only [checkBuiltinCall, F.newKind, F.newSplit, F.newRow]
  repeat' first
    | refine wpAny_loadPart_at at_ ?_
    | (refine wpAny_isSubtype_exc at_ ?_
       rw [L.b])
    | refine wpAny_staticBase_exc at_ ?_
    | refine wpAny_madeBy_exc at_ ?_
    | simp only [bne_self_eq_false, Bool.false_eq_true, if_false]
    | wp_step
  exact h
/-- the maker: a tuple of the plain arguments, then the exception over it -/
theorem maker_does (F : ExcBaseFacts B new_ init_ bmB) (L : Line B C bm) (at_ : hp.get? C = some (excClassObj nm q C N bs bm hd sn sub ab col dd k0 k1 k2 k3 k5 new_)) (short : us.length ≤ sizeLine)
    (h : R (.ok (.ret (.ref (hp.objs.size + 1)))) ⟨(hp.push (kdv_tup us)).push (excO C hp.objs.size), gs, dr, tk, os⟩) : codeAny (model prog w) A (.builtin new_ ⟨.ref C :: us, [(kn, kv)]⟩) R ⟨hp, gs, dr, tk, os⟩ := by
  have ends := F.ends
  refine codeAny_builtinAt F.entry ?_
  unfold Builtin.«BaseException.__new__»
  refine PySem.wpAt_bind ?_
  show PySem.wpAt _ _ _ (stack >>= _) _ _ _
  refine PySem.wpAt_bind (PySem.wpAt_stack ?_)
  intro _ _
  refine PySem.wpAt_of_wpAny ?_
  wp_walk
  refine PySem.wpAt_of_wpAny ?_
  rw [F.owner]
  repeat' first
    | with_reducible refine wpAny_madeHere_exc F.canon at_ ?_
    | with_reducible refine wpAny_loadPart_at at_ ?_
    | (with_reducible refine wpAny_isSubtype_exc at_ ?_
       first
         | rw [L.b]
         | rw [L.a]
         | rw [L.n])
    | wp_step
  show R _ _
  rw [Heap.size_push]
  exact h
/-- type.__call__: the maker, then the own __init__ -/
theorem class_does {Q : PySem.Fin → Shared → Prop} (F : ExcBaseFacts B new_ init_ bmB) (L : Line B C bm) (at_ : hp.get? C = some (excClassObj nm q C N bs bm hd sn sub ab col dd k0 k1 k2 k3 k5 new_)) (short : us.length ≤ sizeLine)
    (ini : W.Looks (model prog w) hp (typeLookup (.ref C) "__init__") (some (.ref fI))) (bind : ∀ self, W.Looks (model prog w) hp (bindSpecial (.ref fI) self) (.ref fI, [self]))
    (h : codeAny (model prog w) A (.call (.ref fI) ⟨.ref (hp.objs.size + 1) :: us, [(kn, kv)]⟩)
      (fun r s' => match r with | .ok (.ret v) => v = .none ∧ Q (.done (.ret (.ref (hp.objs.size + 1)))) s' | .ok _ => False | .error e => E e s') ⟨(hp.push (kdv_tup us)).push (excO C hp.objs.size), gs, dr, tk, os⟩) :
    wpAny (model prog w) A (Builtin.«type.__call__» ⟨.ref C :: us, [(kn, kv)]⟩) Q E ⟨hp, gs, dr, tk, os⟩ := by
  have kept : ∀ b o, hp.get? b = some o → ((hp.push (kdv_tup us)).push (excO C hp.objs.size)).get? b = some o := fun _ _ z => Heap.get?_push_of_some _ (Heap.get?_push_of_some _ z)
  have there : ((hp.push (kdv_tup us)).push (excO C hp.objs.size)).get? (hp.objs.size + 1) = some (excO C hp.objs.size) := by heap_get
  have own_ : (Value.ref C :: bm).contains (.ref C) = true := by simp
  repeat' first
    | with_reducible refine wpAny_loadPart_at at_ ?_
    | with_reducible refine wpAny_madeBy_exc at_ ?_
    | wp_step
  refine codeAny_call_builtin_code (Code.quiet_builtin _ F.quiet) (maker_ok F L at_ (maker_does F L at_ short ?_))
  show wpAny _ _ _ _ _ _
  unfold isInstance
  repeat' first
    | with_reducible refine wpAny_loadPart_at there ?_
    | (with_reducible refine wpAny_isSubtype_exc (kept _ _ at_) ?_
       rw [own_])
    | wp_step
  show wpAny _ _ (typeLookup (.ref C) _) _ _ _
  refine (ini.keeps kept).at (wpAny_holding (wpAny_bind (((bind _).keeps kept).at (wpAny_bind (wpAny_call (codeAny_mono h ?_))))))
  intro r s' z
  match r, z with
  | .error _, z => exact z
  | .ok (.ret _), ⟨rfl, z⟩ =>
    first
      | exact wpAny_pure (wpAny_pure z)
      | (wp_walk; exact z)
/-- C(.., kn=kv) -/
theorem call_kw (F : ExcBaseFacts B new_ init_ bmB) (same : ∀ X : String, bm.contains (.type X) = bmB.contains (.type X)) (at_ : hp.get? C = some (excClassObj nm q C N bs bm hd sn sub ab col dd k0 k1 k2 k3 k5 new_)) (short : us.length ≤ sizeLine)
    (ini : W.Looks (model prog w) hp (typeLookup (.ref C) "__init__") (some (.ref fI))) (bind : ∀ self, W.Looks (model prog w) hp (bindSpecial (.ref fI) self) (.ref fI, [self]))
    (h : codeAny (model prog w) (A.under (.builtin "type.__call__" ⟨.ref C :: us, [(kn, kv)]⟩)) (.call (.ref fI) ⟨.ref (hp.objs.size + 1) :: us, [(kn, kv)]⟩) (InitBack (hp.objs.size + 1) R) ⟨(hp.push (kdv_tup us)).push (excO C hp.objs.size), gs, dr, tk, os⟩) :
    codeAny (model prog w) A (.call (.ref C) ⟨us, [(kn, kv)]⟩) R ⟨hp, gs, dr, tk, os⟩ := by
  have g1 := tc_lookup
  have g2 := tc_bind (.ref C)
  have g3 := tc_sub
  have ty : (⟨hp, gs, dr, tk, os⟩ : Shared).TypeIs (.ref C) "type" := ⟨_, at_, rfl⟩
  have chk : ∀ {A' : Around} {E' : Value → Shared → Prop} {Q : Unit → Shared → Prop}, Q () ⟨hp, gs, dr, tk, os⟩ → wpAny (model prog w) A' (checkBuiltinCall "type.__call__" ⟨.ref C :: us, [(kn, kv)]⟩) Q E' ⟨hp, gs, dr, tk, os⟩ := by
    intro A' E' Q z
    simp only [checkBuiltinCall, tc_kind, tc_split]
    repeat (any_goals (first | assumption | with_reducible refine wpAny_loadPart_at at_ ?_ | with_reducible refine wpAny_onRaise ?_ | with_reducible refine wpAny_map ?_ | wp_step))
  refine codeAny_of_tree ?_
  show wpAny _ _ (callAny (.ref C) _) _ _ _
  repeat (any_goals (first | assumption | with_reducible refine wpAny_loadPart_at at_ ?_ | wp_step))
  refine ⟨rfl, codeAny_call_builtin_at (Code.quiet_builtin _ (by decide +kernel)) entry_typeCall (chk (class_does F (.of F same) at_ short ini bind (codeAny_mono h ?_)))⟩
  intro r s' z
  rcases r with _ | (_ | _ | _ | _) <;> exact z
end
end KwE

set_option Elab.async false
set_option linter.all false
set_option maxRecDepth 100000
set_option maxHeartbeats 4000000
namespace PySem.W
open PySem PySem.Spec PySem.Calls PyProof.Rows
section
variable {prog : Program} {w : World} {A : Around} {E : Value → Shared → Prop} {s : Shared} {K : Frag} {x D : Addr} {ox : Obj} {od : Option Obj}
/-- a data descriptor of the class goes ahead of the object's own dict -/
theorem found_data {C : Addr} {name : Str} {at_ get : Value} (hc : (clsIn K C).isSome = true) (h1 : findIn K (.ref C) name = some (some at_)) (h2 : specialIn K at_ "__get__" = some (some get)) (h3 : takesIn K at_ = some true) : findObj K C od name = some (.bind get at_) := by
  cases z : clsIn K C with
  | none => rw [z] at hc; cases hc
  | some cd => simp [findObj, z, h1, h2, h3]
/-- x.__class__ of an exception of an own class, whatever attributes it has -/
theorem class_of_exc {Q : Option Value → Shared → Prop} (T : L2.ExcC K D) (X : K.In s.heap) (I : InstAt s.heap x ox D od) (h : Q (some (.ref D)) { s with toks := s.toks + 1 }) : wpAny (model prog w) A (getAttr? (.ref x) "__class__") Q E s := by
  have has : (clsIn K D).isSome = true := by
    obtain ⟨cd, z, _⟩ := any_some T.hd
    rw [z]
    rfl
  obtain ⟨hp, gs, dr, tk, os⟩ := s
  have kind := I.type (M := model prog w)
  have get_ := looks_findIn (M := model prog w) X T.hg
  have hook := looks_findIn (M := model prog w) X T.hk
  have find_ := looks_find (M := model prog w) X I (found_data (od := od) has T.ha T.hn T.ht)
  have base_ : Looks (model prog w) hp (isInstance (.ref x) (.type "BaseException")) true := kind.andThen (looks_subIn X T.hs)
  have other : (Value.builtin "BaseException.__getattribute__" == Value.builtin "object.__getattribute__") = false := by decide +kernel
  unfold getAttr? getAttrBy? getAttrBy
  refine wpAny_bind (wpAny_mkText (wpAny_bind (wpAny_attempt (wpAny_holding (wpAny_bind (kind.at (wpAny_bind (get_.at ?_))))))))
  show wpAny _ _ (if (onTheHeap (Value.ref D) && Value.builtin "BaseException.__getattribute__" == Value.builtin "object.__getattribute__") = true then _ else _) _ _ _
  rw [other, Bool.and_false, if_neg Bool.false_ne_true]
  unfold getAttrByItsOwn hookBefore
  rw [if_pos (show onTheHeap (Value.ref D) = true from rfl)]
  refine wpAny_bind (hook.at (wpAny_bind (wpAny_attempt (wpAny_holding ?_))))
  unfold callGetattribute
  rw [show (false && onTheHeap (Value.builtin "BaseException.__getattribute__")) = false from rfl, if_neg Bool.false_ne_true]
  unfold boundAndCalled
  rw [PySem.F.excAttr_ValueError.ga.bind (.ref x)]
  refine wpAny_bind (wpAny_pure ?_)
  show wpAny _ _ (call (.builtin "BaseException.__getattribute__") [.ref x, .str "__class__" tk]) _ _ _
  refine wpAny_call (codeAny_call_builtin PySem.F.excAttr_ValueError.ga.plain PySem.F.entry_bexc_ga (@check_slot (model prog w) _ _ ⟨hp, gs, dr, tk + 1, os⟩ "BaseException.__getattribute__" "BaseException" "__getattribute__" (.ref x) [.str "__class__" tk] [] _ (by decide +kernel) (by decide +kernel) base_ (PySem.F.args_bexc_ga (.ref x) (.str "__class__" tk)) ?_))
  unfold Builtin.«object.__getattribute__»
  refine wpAny_bind (wpAny_of_eq (a := ((Value.ref x : Value), [Value.str "__class__" tk])) (by first | rfl | (simp only [slotArgs]; rfl)) (wpAny_bind (wpAny_pure (wpAny_bind (kind.at (wpAny_bind (find_.at ?_)))))))
  show wpAny _ _ (holding [Value.builtin "object.__class__"] (call (.builtin "getset_descriptor.__get__") [.builtin "object.__class__", .ref x, .ref D]) >>= ret) _ _ _
  refine wpAny_bind (wpAny_holding (wpAny_call (class_get (s := ⟨hp, gs, dr, tk + 1, os⟩) (ox := ox) (od := od) X I T.hm (wpAny_pure ?_))))
  show wpAny _ _ (handedOut (.ref D)) _ _ _
  rw [handedOut_of (v := .ref D) rfl]
  first
    | exact wpAny_pure (wpAny_pure h)
    | exact wpAny_pure (wpAny_bind (wpAny_pure (wpAny_pure h)))
    | exact wpAny_pure h
/-- isinstance may ask such an exception -/
theorem kit_exc (T : L2.ExcC K D) : KitX K (.ref x) (.ref D) (fun h => InstAt h x ox D od) := by
  have written : ∃ o, K.lookup D = some o ∧ ∀ h : Heap, K.In h → h.get? D = some o := by
    obtain ⟨cd, z, _⟩ := any_some T.hd
    unfold clsIn at z
    split at z
    · exact ⟨_, by assumption, fun h X => X _ _ (by assumption)⟩
    · cases z
  have plain : ∀ {M : Model} {h : Heap}, K.In h → Looks M h (isType (.ref D)) true := by
    intro M h X A' Q' E' s' k q
    obtain ⟨cd, z, _⟩ := any_some T.hd
    unfold clsIn at z
    split at z
    · rename_i ho
      unfold isType loadHead
      exact wpAny_bind (wpAny_loadPart (k _ _ (X _ _ ho)) (wpAny_pure q))
    · cases z
  refine ⟨fun _ _ _ I => I.type, fun _ _ X _ => plain X, fun h tp dd its n sl X htp => ?_, fun X I k => class_of_exc T X I k⟩
  refine Bool.eq_false_iff.mpr fun q => ?_
  obtain rfl : D = tp := Value.ref.inj (beq_iff_eq.mp q)
  obtain ⟨cd, z, _⟩ := any_some T.hd
  unfold clsIn at z
  split at z
  · rename_i ho
    cases (X _ _ ho).symm.trans htp
  · cases z
end
end PySem.W
namespace L2
open PySem PySem.Spec PyProof.Rows
/-- an exception object of the own class at C: with its attributes, or bare -/
inductive ExT (H : Hp) (e C : Addr) : List (Str × V) → Prop where
  | own {d : Addr} {fs : List (Str × V)} (h1 : H e = some (exo e C (some d))) (h2 : H d = some (exd d fs)) : ExT H e C fs
  | bare (h : H e = some (ExO (.ref C) e)) : ExT H e C []
theorem ExT.same {H H' : Hp} {e C : Addr} {fs : List (Str × V)} (S : Same H H') : ExT H e C fs → ExT H' e C fs
  | .own h1 h2 => .own (S _ _ h1) (S _ _ h2)
  | .bare h => .bare (S _ _ h)
section
variable {X : Cx} {pins : List (Addr × Obj)} {σ : St} {H : Hp} {s : Shared} {e C : Addr} {fs : List (Str × V)}
theorem ExT.inst (I : Inv X pins σ H s) (h : ExT H e C fs) : ∃ ox od, PySem.W.InstAt s.heap e ox C od ∧ (∀ f v, fs.lookup f = some v → ∃ o u, od = some o ∧ PySem.W.lookIn f o = some (some u) ∧ RelV v u) := by
  cases h with
  | own h1 h2 =>
    obtain ⟨t1, ho⟩ := exo_at I.hok h1
    obtain ⟨mA, hns, rel⟩ := exd_at I.hok h2
    obtain ⟨od, hod, hl⟩ := lookIn_ns hns
    refine ⟨_, some od, ⟨ho, rfl, rfl, hod⟩, fun f v hf => ?_⟩
    obtain ⟨u, hu, ru⟩ := RelO.some_of (v := v) (o := mA f) (by rw [← hf]; exact rel f)
    exact ⟨od, u, rfl, by rw [hl, hu], ru⟩
  | bare h =>
    have z : ObjOk X.prog X.w H s.heap e (ExO (.ref C) e) := I.hok _ _ h
    obtain ⟨⟨oe, vs, ho, hz, hd, _, _, _⟩, _, _⟩ := z
    refine ⟨oe, none, ⟨ho, hz.1, by unfold PySem.W.notCls; rw [hd], by rw [hz.2]; trivial⟩, fun f v hf => by cases hf⟩
end
/-- isinstance(e, c) of an exception that is a value -/
def rIsX (K : PySem.W.Frag) : List V → Hp → VK → Prop := fun xs H Q => ∃ (e D : Addr) (fs : List (Str × V)) (c : V) (u : Value) (b : Bool), xs = [.ref e, c] ∧ ClsV c u ∧ ExT H e D fs ∧ ExcC K D ∧ PySem.W.kitOne K (.ref D) u = some b ∧ Q (.bl b) H
theorem call_isX {X : Cx} : CallR X (.builtin "isinstance") (rIsX X.K) := by
  intro pins s σ H xs us Q I r h
  obtain ⟨e, D, fs, c, u, b, rfl, k, ex, T, hk, q⟩ := h
  obtain ⟨u1, u2, rfl, r1, r2⟩ := vals2 r
  have e2 := k.eq r2
  subst e2
  obtain rfl : u1 = Value.ref e := r1
  obtain ⟨ox, od, J, _⟩ := ex.inst I
  exact PySem.W.kia_one (PySem.W.kit_exc T) I.kIn J hk (fun z => nomatch z) fun tk => ⟨.bl b, H, I.tok tk, rfl, q⟩
/-- e.f of an exception that is a value -/
def tFldE (K : PySem.W.Frag) (te : TE) (f : Str) : TE := fun σ H Q => te σ H fun x H1 => ∃ (e C : Addr) (fs : List (Str × V)) (v : V), x = .ref e ∧ ExT H1 e C fs ∧ ExcC K C ∧ PySem.W.findIn K (.ref C) f = some none ∧ fs.lookup f = some v ∧ Q v H1
theorem pe_fldE {X : Cx} {e : Expr} {te : TE} {pos : Pos} {n : Str} (he : PE X e te) (hb : attributeBase e n X.env (eval e X.env) = eval e X.env := by rfl) : PE X (.Attribute e n pos) (tFldE X.K te n) := by
  refine ⟨fun pins s σ H Q I h => ?_⟩
  refine attr_of hb (thn (he.run pins s σ H _ I h) fun u s1 hh => ?_)
  obtain ⟨x, H1, I1, rx, e, C, fs, v, rfl, ex, T, hno, l, q⟩ := hh
  obtain rfl : u = Value.ref e := rx
  obtain ⟨ox, od, J, lk⟩ := ex.inst I1
  obtain ⟨o, u, rfl, hu, ru⟩ := lk _ _ l
  exact HandSPX.exc_get I1.kIn J T.hg T.hk T.hs (PySem.W.findObj_own T.hd hno rfl hu) (handed_of ru) ⟨v, H1, I1.tok _, ru, q⟩
/-- __init__(self, f): self.f = f -/
def spExI (K : PySem.W.Frag) (f : Str) : Sp := fun vs H Q _ => ∃ (a C : Addr) (y : V), vs = [.ref a, y] ∧ OexC K C ∧ PySem.W.findIn K (.ref C) f = some none ∧ H a = some (exo a C none) ∧
  ∀ dx, H dx = none → dx ≠ a → Q .non (upd (upd H dx (exd dx [(f, y)])) a (exo a C (some dx)))
/-- C called, its __init__ as above: the new exception's one attribute is y -/
theorem run_mko {X : Cx} {C fI : Addr} {f : Str} {k : Nat} {fd : FuncData} {ps : List Str} {pins : List (Addr × Obj)} {σ : St} {H1 : Hp} {s1 : Shared} {Q : VK} {us : List Value} {kw : List (Str × Value)} {y : V} {u : Value} (T : OexC X.K C) (iC : PySem.W.findIn X.K (.ref C) "__init__" = some (some (.ref fI)))
    (tI : PySem.W.typeIn X.K (.ref fI) = some (.type "function")) (noF : PySem.W.findIn X.K (.ref C) f = some none) (F1 : FnOk X.prog X.w X.K X.mg X.base CX0 k fI fd ps (spExI X.K f)) (hr : Room (k + 1) X.A) (hkw : kw = [] ∨ ∃ q, kw = [q]) (hus : us.length ≤ sizeLine)
    (hb : ∀ (self : Value) (s' : Shared), X.K.In s'.heap → BindsTo s' fd ⟨self :: us, kw⟩ (ps.zip [self, u])) (ry : RelV y u) (I1 : Inv X pins σ H1 s1)
    (q : ∀ a H', Same H1 H' → H1 a = none → ExT H' a C [(f, y)] → Q (.ref a) H') : wpAny (model X.prog X.w) X.A (call (.ref C) us kw) (EP X pins σ Q) X.xe s1 := by
  obtain ⟨nm, qn, N, bs, bm, sn, sub, ab, col, dd, k0, k1, k2, k3, k5, hC, hbm⟩ := T.cls
  obtain ⟨hp, g, dr, tk, os⟩ := s1
  have hsz : hp.objs.size ≤ hp.objs.size + 1 := Nat.le_succ _
  have hn : H1 (hp.objs.size + 1) = none := I1.hok.fresh hsz
  have kk : ∀ b o, hp.get? b = some o → ((hp.push (PySem.W.kdv_tup us)).push (PySem.HandSPX.excO C hp.objs.size)).get? b = some o := fun b o e => Heap.get?_push_of_some _ (Heap.get?_push_of_some _ e)
  have hget : ((hp.push (PySem.W.kdv_tup us)).push (PySem.HandSPX.excO C hp.objs.size)).get? (hp.objs.size + 1) = some (PySem.HandSPX.excO C hp.objs.size) := by heap_get
  have I2 : Inv X pins σ (upd H1 (hp.objs.size + 1) (exo (hp.objs.size + 1) C none)) ⟨(hp.push (PySem.W.kdv_tup us)).push (PySem.HandSPX.excO C hp.objs.size), g, dr, tk, os⟩ :=
    I1.laid (t' := tk) (a := hp.objs.size + 1) (o := exo (hp.objs.size + 1) C none) (h' := (hp.push (PySem.W.kdv_tup us)).push (PySem.HandSPX.excO C hp.objs.size)) kk hsz (exo_ok hget)
  have hq : spExI X.K f [V.ref (hp.objs.size + 1), y] (upd H1 (hp.objs.size + 1) (exo (hp.objs.size + 1) C none)) (fun v H2 => v = .non ∧ Q (.ref (hp.objs.size + 1)) H2) E0 := by
    refine ⟨_, C, y, rfl, T, noF, upd_same, fun dx hd ne => ⟨rfl, q _ _ (fun b o e => ?_) hn (.own upd_same (by rw [upd_ne ne, upd_same]))⟩⟩
    have hb1 : b ≠ hp.objs.size + 1 := ne_of_none e hn
    have hd1 : H1 dx = none := by
      rw [upd_ne ne] at hd
      exact hd
    rw [upd_ne hb1, upd_ne (ne_of_none e hd1), upd_ne hb1]
    exact e
  have r2 : Vals [V.ref (hp.objs.size + 1), y] [Value.ref (hp.objs.size + 1), u] := .cons rfl (.cons ry .nil)
  have fin : ∀ (r : Result) (s' : Shared), CR CX0 X.stack X.prog X.w (upd H1 (hp.objs.size + 1) (exo (hp.objs.size + 1) C none)) ⟨(hp.push (PySem.W.kdv_tup us)).push (PySem.HandSPX.excO C hp.objs.size), g, dr, tk, os⟩ (fun v H2 => v = .non ∧ Q (.ref (hp.objs.size + 1)) H2) E0 r s' →
      PySem.W.InitBack (hp.objs.size + 1) (fun r s' => match r with | .ok (.ret v) => EP X pins σ Q v s' | .ok _ => False | .error er => X.xe er s') r s' := fun r s' hq' => by
    cases r with
    | error er => exact False.elim hq'
    | ok fl =>
      cases fl with
      | ret uu =>
        obtain ⟨v, H', I3, rv, ev, q3⟩ := I2.after hq'
        subst ev
        exact ⟨rv, ⟨V.ref (hp.objs.size + 1), H', I3, rfl, q3⟩⟩
      | next => exact False.elim hq'
      | brk => exact False.elim hq'
      | cont => exact False.elim hq'
  rcases hkw with rfl | ⟨⟨kn, kv⟩, rfl⟩
  · refine wpAny_call (codeAny_mono (PySem.HandSPX.call_own F.excBase_ValueError (fun Y => PySem.HandSPX.refsVE_contains Y bm hbm) (I1.kIn _ _ hC) (PySem.W.looks_findIn I1.kIn iC) (fun self => PySem.W.bind_fn I1.kIn self tI) hus
      (codeAny_mono (F1.run _ X.stack _ _ ⟨Value.ref (hp.objs.size + 1) :: us, []⟩ [Value.ref (hp.objs.size + 1), u] _ _ E0 (hr.make C us []) (I2.env0.make C us []) (hb _ _ I2.kIn) r2 hq) fin)) fun r s' z => ?_)
    rcases r with e | (v | _ | _ | _) <;> exact z
  · refine wpAny_call (codeAny_mono (KwE.call_kw F.excBase_ValueError (fun Y => PySem.HandSPX.refsVE_contains Y bm hbm) (I1.kIn _ _ hC) hus (PySem.W.looks_findIn I1.kIn iC) (fun self => PySem.W.bind_fn I1.kIn self tI)
      (codeAny_mono (F1.run _ X.stack _ _ ⟨Value.ref (hp.objs.size + 1) :: us, [(kn, kv)]⟩ [Value.ref (hp.objs.size + 1), u] _ _ E0 (hr.make C us [(kn, kv)]) (I2.env0.make C us [(kn, kv)]) (hb _ _ I2.kIn) r2 hq) fin)) fun r s' z => ?_)
    rcases r with e | (v | _ | _ | _) <;> exact z
end L2

set_option Elab.async false
set_option linter.all false
set_option maxRecDepth 100000
set_option maxHeartbeats 4000000
namespace L2
open PySem PySem.Spec PyProof.Rows
/-- an own exception class at C, called x, whose __init__ sets the one attribute f (None where it is not given) -/
structure ExM (P : Program) (w : World) (K : PySem.W.Frag) (mg : Str → Option Value) (base : Heap) (x : Str) (C : Addr) (f : Str) : Prop where
  mgC : mg x = some (.ref C)
  oex : OexC K C
  xc : ExcC K C
  noF : PySem.W.findIn K (.ref C) f = some none
  hmk : ∃ (fI : Addr) (fd : FuncData) (ps : List Str), PySem.W.findIn K (.ref C) "__init__" = some (some (.ref fI)) ∧ PySem.W.typeIn K (.ref fI) = some (.type "function") ∧ FnOk P w K mg base CX0 1 fI fd ps (spExI K f) ∧
    (∀ (self u : Value) (s' : Shared), K.In s'.heap → BindsTo s' fd ⟨[self, u], []⟩ (ps.zip [self, u])) ∧ (∀ (self u : Value) (s' : Shared), K.In s'.heap → BindsTo s' fd ⟨[self], [(f, u)]⟩ (ps.zip [self, u])) ∧
    (∀ (self : Value) (s' : Shared), K.In s'.heap → BindsTo s' fd ⟨[self], []⟩ (ps.zip [self, .none]))
/-- an own exception class at C, called x, without an __init__ of its own -/
structure ExB (K : PySem.W.Frag) (mg : Str → Option Value) (x : Str) (C : Addr) : Prop where
  mgC : mg x = some (.ref C)
  xc : ExcC K C
  kC : PySem.W.keepIn K (.ref C) = true
  is : ∃ bmB, ExcBaseFacts "ValueError" "ValueError.__new__" "ValueError.__init__" bmB ∧ PySem.W.excIn K C bmB "ValueError.__new__" = true
/-- the new exception's one attribute -/
def tMk1 (C : Addr) (f : Str) (te : TE) : TE := fun σ H Q => te σ H fun y H1 => ∀ a H', Same H1 H' → H1 a = none → ExT H' a C [(f, y)] → Q (.ref a) H'
def tMk0 (C : Addr) : TE := fun _ H Q => ∀ a H', Same H H' → H a = none → ExT H' a C [] → Q (.ref a) H'
theorem one_line : (1 : Nat) ≤ sizeLine := by rw [sizeLine_eq]; omega
section
variable {X : Cx} {x f : Str} {C : Addr} {e : Expr} {te : TE} {p pos kpos : Pos}
theorem pe_ex1 (T : ExM X.prog X.w X.K X.mg X.base x C f) (hr : Room 2 X.A) (hg : Gl X x) (he : PE X e te) (hdb : (x == ("__debug__" : Str)) = false := by decide) (hs : starEach [e] X.env = (false, eval e X.env) :: starEach [] X.env := by rfl)
    (hpl : (backTo pos (starEach [] X.env)).any (·.1) = false := by rfl) : PE X (.Call (.Name x p) [e] [] pos) (tMk1 C f te) := by
  obtain ⟨fI, fd, ps, iC, tI, F1, b2, bK, b1⟩ := T.hmk
  refine ⟨fun pins s σ H Q I h => ?_⟩
  refine wpAny_Call_Name_kw (ld_glob I hg T.mgC ?_ hdb)
  refine PySem.W.callWith_K (h₀ := X.base) I.ok.mod.kin T.oex.kC ?_ hs hpl
  rw [hs]
  show wpAny _ _ (spliced ((false, eval e X.env) :: backTo pos (starEach [] X.env))) _ _ s
  refine Calls.spliced_cons (thn (he.run pins s σ H _ I h) fun u s1 hh => ?_)
  obtain ⟨y, H1, I1, ry, q⟩ := hh
  refine Calls.spliced_nil ⟨I1.kIn, ?_⟩
  show wpAny _ _ (call (.ref C) [u]) _ _ _
  exact run_mko T.oex iC tI T.noF F1 hr (.inl rfl) one_line (fun self s' X' => b2 self u s' X') ry I1 q
theorem pe_exK (T : ExM X.prog X.w X.K X.mg X.base x C f) (hr : Room 2 X.A) (hg : Gl X x) (he : PE X e te) (hdb : (x == ("__debug__" : Str)) = false := by decide)
    (hall : (backToKw pos (keywordEach [⟨some f, e, kpos⟩] X.env)).all (·.1.isSome) = true := by rfl) (hks : (backToKw pos (keywordEach [⟨some f, e, kpos⟩] X.env)).filterMap (·.1) = [f] := by rfl)
    (hpl : ((backTo pos (starEach [] X.env)).any (·.1) || (backToKw pos (keywordEach [⟨some f, e, kpos⟩] X.env)).any (·.1.isNone)) = false := by rfl) : PE X (.Call (.Name x p) [] [⟨some f, e, kpos⟩] pos) (tMk1 C f te) := by
  obtain ⟨fI, fd, ps, iC, tI, F1, b2, bK, b1⟩ := T.hmk
  refine ⟨fun pins s σ H Q I h => ?_⟩
  refine wpAny_Call_Name_kw (ld_glob I hg T.mgC ?_ hdb)
  refine PySem.W.callWith_KW0 (h₀ := X.base) I.ok.mod.kin T.oex.kC hall ?_ hpl
  show wpAny _ _ (evalAll ((do let v ← eval e X.env; standAt pos; pure v) :: [])) _ _ s
  refine wpAny_evalAll_cons (wpAny_bind (thn (he.run pins s σ H _ I h) fun u s1 hh => wpAny_bind (wpAny_standAt (wpAny_pure ?_))))
  obtain ⟨y, H1, I1, ry, q⟩ := hh
  refine wpAny_evalAll_nil ⟨I1.kIn, ?_⟩
  rw [hks]
  show wpAny _ _ (call (.ref C) [] [(f, u)]) _ _ _
  exact run_mko (us := []) T.oex iC tI T.noF F1 hr (.inr ⟨_, rfl⟩) (Nat.zero_le _) (fun self s' X' => bK self u s' X') ry I1 q
theorem pe_ex0 (T : ExM X.prog X.w X.K X.mg X.base x C f) (hr : Room 2 X.A) (hg : Gl X x) (hdb : (x == ("__debug__" : Str)) = false := by decide) : PE X (.Call (.Name x p) [] [] pos) (tMk1 C f (tC .non)) := by
  obtain ⟨fI, fd, ps, iC, tI, F1, b2, bK, b1⟩ := T.hmk
  refine ⟨fun pins s σ H Q I h => ?_⟩
  refine wpAny_Call_Name_kw (ld_glob I hg T.mgC ?_ hdb)
  exact PySem.W.callWith_K0 I.kIn T.oex.kC (run_mko (us := []) (y := .non) (u := .none) T.oex iC tI T.noF F1 hr (.inl rfl) (Nat.zero_le _) (fun self s' X' => b1 self s' X') rfl I h)
theorem pe_exB (T : ExB X.K X.mg x C) (hg : Gl X x) (hdb : (x == ("__debug__" : Str)) = false := by decide) : PE X (.Call (.Name x p) [] [] pos) (tMk0 C) := by
  obtain ⟨bmB, F, q⟩ := T.is
  refine ⟨fun pins s σ H Q I h => ?_⟩
  refine wpAny_Call_Name_kw (ld_glob I hg T.mgC ?_ hdb)
  refine PySem.W.callWith_K0 I.kIn T.kC ?_
  show wpAny _ _ (call (.ref C) []) _ _ _
  obtain ⟨bm, N, nm, qn, bs, hdct, sn, sub, ab, col, dd, k0, k1, k2, k3, k5, mN, hC, hN, hni, T'⟩ := exc_obj I.kIn q
  refine wpAny_call_exc_subT F T' hC hN hni (fun h' a hm => ?_) (Nat.zero_le _)
  have hn : H a = none := I.hok.gone hm.new
  obtain ⟨t, ht, _, _⟩ := hm.there
  exact ⟨.ref a, upd H a (ExO (.ref C) a), I.laidN hm.keeps hm.new hn (exO_ok ht ⟨rfl, rfl⟩ rfl rfl rfl (show 4 < 6 by decide)), rfl, h a _ (fun b o q => by rw [upd_ne (ne_of_none q hn)]; exact q) hn (.bare upd_same)⟩
end

end L2

set_option Elab.async false
set_option linter.all false
set_option maxRecDepth 100000
set_option maxHeartbeats 400000
namespace L2
open PySem PySem.Spec PyProof.Rows
def exArgs (f : Str) (p1 p2 p3 : Pos) : Arguments := { posonlyargs := [], args := [{ arg := "self", annotation := none, pos := p1 }, { arg := f, annotation := none, pos := p2 }], vararg := none, kwonlyargs := [], kw_defaults := [], kwarg := none, defaults := [.Constant .none 0 p3] }
def exBody (f : Str) (q1 q2 q3 q4 : Pos) : List Stmt := [.Assign [.Attribute (.Name "self" q1) f q2] (.Name f q3) q4]
def exScope (f : Str) : Scope := { kind := .function, names := [(PySem.Str.ofString "self", .local), (f, .local)], isGenerator := false, isCoroutine := false, more := [] }
section
variable {P : Program} {w : World} {K : PySem.W.Frag} {mg : Str → Option Value} {base : Heap} {x qual : Str} {C fI : Addr} {fd : FuncData} {p1 p2 p3 q1 q2 q3 q4 : Pos}
theorem one_none {its : List Value} (h : Vals [.non] its) : its = [.none] := by
  cases h with
  | cons r n =>
    cases n
    cases r
    rfl

theorem scEx_value : FnScope ["self", "value"] ["self", "value"] (exScope "value") := ⟨rfl, rfl, rfl, by decide +kernel, rfl, by decide +kernel, by decide +kernel⟩
theorem okEx_value (F : FunD K "__init__" qual (exArgs "value" p1 p2 p3) (exBody "value" q1 q2 q3 q4) (exScope "value") [.non] [] fI fd) : FnOk P w K mg base CX0 1 fI fd ["self", "value"] (spExI K "value") := by
  refine F.ok scEx_value (fun vs H Q E h => ?_) (fun cdv A outer s H vs Q E hr h => ?_)
  · obtain ⟨a, C, y, rfl, _⟩ := h
    rfl
  · obtain ⟨a, C, y, rfl, T, noF, ha, k⟩ := h
    exact ⟨_, pss_one (ps_ost (pv 0) (pv 1)), ⟨_, rfl, _, rfl, a, C, rfl, T, noF, .inl ⟨ha, k⟩⟩⟩
theorem bindEx_value (F : FunD K "__init__" qual (exArgs "value" p1 p2 p3) (exBody "value" q1 q2 q3 q4) (exScope "value") [.non] [] fI fd) :
    (∀ (self u : Value) (s' : Shared), K.In s'.heap → BindsTo s' fd ⟨[self, u], []⟩ ((["self", "value"] : List Str).zip [self, u])) ∧ (∀ (self u : Value) (s' : Shared), K.In s'.heap → BindsTo s' fd ⟨[self], [("value", u)]⟩ ((["self", "value"] : List Str).zip [self, u])) ∧
    (∀ (self : Value) (s' : Shared), K.In s'.heap → BindsTo s' fd ⟨[self], []⟩ ((["self", "value"] : List Str).zip [self, .none])) := by
  obtain ⟨oc, od, dV, kV, doc, pm, an, cdv, ct, osl, rfl, lk, hcd, hD, hK⟩ := F.ex
  rcases hD with ⟨e, _⟩ | ⟨_, T, o, its, m, rfl, lT, oT, rT⟩
  · cases e
  · obtain rfl := one_none rT
    refine ⟨fun self u s' X => BindsTo.of_looks fun M => ?_, fun self u s' X => BindsTo.of_looks fun M => ?_, fun self s' X => BindsTo.of_looks fun M => ?_⟩
    · have e : ∃ k, bindArgs (PySem.W.fnOf "__init__" qual (exArgs "value" p1 p2 p3) (exBody "value" q1 q2 q3 q4) (exScope "value") (.ref T) kV doc pm an cdv ct) ⟨[self, u], []⟩ = seqItems? (.ref T) >>= k ∧ k (some [Value.none].toArray) = pure ((["self", "value"] : List Str).zip [self, u]) := ⟨_, rfl, rfl⟩
      obtain ⟨k, e1, e2⟩ := e
      rw [e1]
      exact looks_items X lT oT (.of_pure e2)
    · have e : ∃ k, bindArgs (PySem.W.fnOf "__init__" qual (exArgs "value" p1 p2 p3) (exBody "value" q1 q2 q3 q4) (exScope "value") (.ref T) kV doc pm an cdv ct) ⟨[self], [("value", u)]⟩ = seqItems? (.ref T) >>= k ∧ k (some [Value.none].toArray) = pure ((["self", "value"] : List Str).zip [self, u]) := ⟨_, rfl, rfl⟩
      obtain ⟨k, e1, e2⟩ := e
      rw [e1]
      exact looks_items X lT oT (.of_pure e2)
    · have e : ∃ k, bindArgs (PySem.W.fnOf "__init__" qual (exArgs "value" p1 p2 p3) (exBody "value" q1 q2 q3 q4) (exScope "value") (.ref T) kV doc pm an cdv ct) ⟨[self], []⟩ = seqItems? (.ref T) >>= k ∧ k (some [Value.none].toArray) = pure ((["self", "value"] : List Str).zip [self, .none]) := ⟨_, rfl, rfl⟩
      obtain ⟨k, e1, e2⟩ := e
      rw [e1]
      exact looks_items X lT oT (.of_pure e2)
theorem exm_value (gC : mg x = some (.ref C)) (oex : OexC K C) (xc : ExcC K C) (noF : PySem.W.findIn K (.ref C) "value" = some none) (iC : PySem.W.findIn K (.ref C) "__init__" = some (some (.ref fI))) (tI : PySem.W.typeIn K (.ref fI) = some (.type "function"))
    (F : FunD K "__init__" qual (exArgs "value" p1 p2 p3) (exBody "value" q1 q2 q3 q4) (exScope "value") [.non] [] fI fd) : ExM P w K mg base x C "value" :=
  ⟨gC, oex, xc, noF, fI, fd, _, iC, tI, okEx_value F, bindEx_value F⟩

theorem scEx_name : FnScope ["self", "name"] ["self", "name"] (exScope "name") := ⟨rfl, rfl, rfl, by decide +kernel, rfl, by decide +kernel, by decide +kernel⟩
theorem okEx_name (F : FunD K "__init__" qual (exArgs "name" p1 p2 p3) (exBody "name" q1 q2 q3 q4) (exScope "name") [.non] [] fI fd) : FnOk P w K mg base CX0 1 fI fd ["self", "name"] (spExI K "name") := by
  refine F.ok scEx_name (fun vs H Q E h => ?_) (fun cdv A outer s H vs Q E hr h => ?_)
  · obtain ⟨a, C, y, rfl, _⟩ := h
    rfl
  · obtain ⟨a, C, y, rfl, T, noF, ha, k⟩ := h
    exact ⟨_, pss_one (ps_ost (pv 0) (pv 1)), ⟨_, rfl, _, rfl, a, C, rfl, T, noF, .inl ⟨ha, k⟩⟩⟩
theorem bindEx_name (F : FunD K "__init__" qual (exArgs "name" p1 p2 p3) (exBody "name" q1 q2 q3 q4) (exScope "name") [.non] [] fI fd) :
    (∀ (self u : Value) (s' : Shared), K.In s'.heap → BindsTo s' fd ⟨[self, u], []⟩ ((["self", "name"] : List Str).zip [self, u])) ∧ (∀ (self u : Value) (s' : Shared), K.In s'.heap → BindsTo s' fd ⟨[self], [("name", u)]⟩ ((["self", "name"] : List Str).zip [self, u])) ∧
    (∀ (self : Value) (s' : Shared), K.In s'.heap → BindsTo s' fd ⟨[self], []⟩ ((["self", "name"] : List Str).zip [self, .none])) := by
  obtain ⟨oc, od, dV, kV, doc, pm, an, cdv, ct, osl, rfl, lk, hcd, hD, hK⟩ := F.ex
  rcases hD with ⟨e, _⟩ | ⟨_, T, o, its, m, rfl, lT, oT, rT⟩
  · cases e
  · obtain rfl := one_none rT
    refine ⟨fun self u s' X => BindsTo.of_looks fun M => ?_, fun self u s' X => BindsTo.of_looks fun M => ?_, fun self s' X => BindsTo.of_looks fun M => ?_⟩
    · have e : ∃ k, bindArgs (PySem.W.fnOf "__init__" qual (exArgs "name" p1 p2 p3) (exBody "name" q1 q2 q3 q4) (exScope "name") (.ref T) kV doc pm an cdv ct) ⟨[self, u], []⟩ = seqItems? (.ref T) >>= k ∧ k (some [Value.none].toArray) = pure ((["self", "name"] : List Str).zip [self, u]) := ⟨_, rfl, rfl⟩
      obtain ⟨k, e1, e2⟩ := e
      rw [e1]
      exact looks_items X lT oT (.of_pure e2)
    · have e : ∃ k, bindArgs (PySem.W.fnOf "__init__" qual (exArgs "name" p1 p2 p3) (exBody "name" q1 q2 q3 q4) (exScope "name") (.ref T) kV doc pm an cdv ct) ⟨[self], [("name", u)]⟩ = seqItems? (.ref T) >>= k ∧ k (some [Value.none].toArray) = pure ((["self", "name"] : List Str).zip [self, u]) := ⟨_, rfl, rfl⟩
      obtain ⟨k, e1, e2⟩ := e
      rw [e1]
      exact looks_items X lT oT (.of_pure e2)
    · have e : ∃ k, bindArgs (PySem.W.fnOf "__init__" qual (exArgs "name" p1 p2 p3) (exBody "name" q1 q2 q3 q4) (exScope "name") (.ref T) kV doc pm an cdv ct) ⟨[self], []⟩ = seqItems? (.ref T) >>= k ∧ k (some [Value.none].toArray) = pure ((["self", "name"] : List Str).zip [self, .none]) := ⟨_, rfl, rfl⟩
      obtain ⟨k, e1, e2⟩ := e
      rw [e1]
      exact looks_items X lT oT (.of_pure e2)
theorem exm_name (gC : mg x = some (.ref C)) (oex : OexC K C) (xc : ExcC K C) (noF : PySem.W.findIn K (.ref C) "name" = some none) (iC : PySem.W.findIn K (.ref C) "__init__" = some (some (.ref fI))) (tI : PySem.W.typeIn K (.ref fI) = some (.type "function"))
    (F : FunD K "__init__" qual (exArgs "name" p1 p2 p3) (exBody "name" q1 q2 q3 q4) (exScope "name") [.non] [] fI fd) : ExM P w K mg base x C "name" :=
  ⟨gC, oex, xc, noF, fI, fd, _, iC, tI, okEx_name F, bindEx_name F⟩

theorem scEx_place : FnScope ["self", "place"] ["self", "place"] (exScope "place") := ⟨rfl, rfl, rfl, by decide +kernel, rfl, by decide +kernel, by decide +kernel⟩
theorem okEx_place (F : FunD K "__init__" qual (exArgs "place" p1 p2 p3) (exBody "place" q1 q2 q3 q4) (exScope "place") [.non] [] fI fd) : FnOk P w K mg base CX0 1 fI fd ["self", "place"] (spExI K "place") := by
  refine F.ok scEx_place (fun vs H Q E h => ?_) (fun cdv A outer s H vs Q E hr h => ?_)
  · obtain ⟨a, C, y, rfl, _⟩ := h
    rfl
  · obtain ⟨a, C, y, rfl, T, noF, ha, k⟩ := h
    exact ⟨_, pss_one (ps_ost (pv 0) (pv 1)), ⟨_, rfl, _, rfl, a, C, rfl, T, noF, .inl ⟨ha, k⟩⟩⟩
theorem bindEx_place (F : FunD K "__init__" qual (exArgs "place" p1 p2 p3) (exBody "place" q1 q2 q3 q4) (exScope "place") [.non] [] fI fd) :
    (∀ (self u : Value) (s' : Shared), K.In s'.heap → BindsTo s' fd ⟨[self, u], []⟩ ((["self", "place"] : List Str).zip [self, u])) ∧ (∀ (self u : Value) (s' : Shared), K.In s'.heap → BindsTo s' fd ⟨[self], [("place", u)]⟩ ((["self", "place"] : List Str).zip [self, u])) ∧
    (∀ (self : Value) (s' : Shared), K.In s'.heap → BindsTo s' fd ⟨[self], []⟩ ((["self", "place"] : List Str).zip [self, .none])) := by
  obtain ⟨oc, od, dV, kV, doc, pm, an, cdv, ct, osl, rfl, lk, hcd, hD, hK⟩ := F.ex
  rcases hD with ⟨e, _⟩ | ⟨_, T, o, its, m, rfl, lT, oT, rT⟩
  · cases e
  · obtain rfl := one_none rT
    refine ⟨fun self u s' X => BindsTo.of_looks fun M => ?_, fun self u s' X => BindsTo.of_looks fun M => ?_, fun self s' X => BindsTo.of_looks fun M => ?_⟩
    · have e : ∃ k, bindArgs (PySem.W.fnOf "__init__" qual (exArgs "place" p1 p2 p3) (exBody "place" q1 q2 q3 q4) (exScope "place") (.ref T) kV doc pm an cdv ct) ⟨[self, u], []⟩ = seqItems? (.ref T) >>= k ∧ k (some [Value.none].toArray) = pure ((["self", "place"] : List Str).zip [self, u]) := ⟨_, rfl, rfl⟩
      obtain ⟨k, e1, e2⟩ := e
      rw [e1]
      exact looks_items X lT oT (.of_pure e2)
    · have e : ∃ k, bindArgs (PySem.W.fnOf "__init__" qual (exArgs "place" p1 p2 p3) (exBody "place" q1 q2 q3 q4) (exScope "place") (.ref T) kV doc pm an cdv ct) ⟨[self], [("place", u)]⟩ = seqItems? (.ref T) >>= k ∧ k (some [Value.none].toArray) = pure ((["self", "place"] : List Str).zip [self, u]) := ⟨_, rfl, rfl⟩
      obtain ⟨k, e1, e2⟩ := e
      rw [e1]
      exact looks_items X lT oT (.of_pure e2)
    · have e : ∃ k, bindArgs (PySem.W.fnOf "__init__" qual (exArgs "place" p1 p2 p3) (exBody "place" q1 q2 q3 q4) (exScope "place") (.ref T) kV doc pm an cdv ct) ⟨[self], []⟩ = seqItems? (.ref T) >>= k ∧ k (some [Value.none].toArray) = pure ((["self", "place"] : List Str).zip [self, .none]) := ⟨_, rfl, rfl⟩
      obtain ⟨k, e1, e2⟩ := e
      rw [e1]
      exact looks_items X lT oT (.of_pure e2)
theorem exm_place (gC : mg x = some (.ref C)) (oex : OexC K C) (xc : ExcC K C) (noF : PySem.W.findIn K (.ref C) "place" = some none) (iC : PySem.W.findIn K (.ref C) "__init__" = some (some (.ref fI))) (tI : PySem.W.typeIn K (.ref fI) = some (.type "function"))
    (F : FunD K "__init__" qual (exArgs "place" p1 p2 p3) (exBody "place" q1 q2 q3 q4) (exScope "place") [.non] [] fI fd) : ExM P w K mg base x C "place" :=
  ⟨gC, oex, xc, noF, fI, fd, _, iC, tI, okEx_place F, bindEx_place F⟩
end
end L2

set_option Elab.async false
set_option linter.all false
set_option maxRecDepth 100000
set_option maxHeartbeats 1000000
namespace L2
open PySem PySem.Spec PyProof.Rows
/-- a def's promise where no repr is under way around it -/
structure FnG (P : Program) (w : World) (K : PySem.W.Frag) (mg : Str → Option Value) (base : Heap) (k : Nat) (f : Addr) (fd : FuncData) (ps : List Str) (sp : Sp) : Prop where
  len : ∀ vs H Q E, sp vs H Q E → vs.length = ps.length
  go : ∀ (A : Around) (outer : List Env) (s : Shared) (H : Hp) (args : Args) (us : List Value) (vs : List V) (Q : VK) (E : XK), A.guards = some [] → Room k A → Env0 P w K mg base A outer s H → BindsTo s fd args (ps.zip us) → Vals vs us →
    sp vs H Q E → codeAny (model P w) A (.call (.ref f) args) (CR CX0 outer P w H s Q E) s
theorem FnOk.toG {P : Program} {w : World} {K : PySem.W.Frag} {mg : Str → Option Value} {base : Heap} {k : Nat} {f : Addr} {fd : FuncData} {ps : List Str} {sp : Sp} (F : FnOk P w K mg base CX0 k f fd ps sp) : FnG P w K mg base k f fd ps sp :=
  ⟨F.len, fun A outer s H args us vs Q E _ => F.run A outer s H args us vs Q E⟩
section
variable {P : Program} {w : World} {K : PySem.W.Frag} {mg : Str → Option Value} {base : Heap}
theorem Fun.okG {x qual : Str} {st : Stmt} {f : Addr} {fd : FuncData} {N ps : List Str} {k : Nat} {sp : Sp} (F : Fun K x qual st f fd) (S : FnScope N ps (defScope st)) (len : ∀ vs H Q E, sp vs H Q E → vs.length = ps.length)
    (body : ∀ (cdv : Value) (A : Around) (outer : List Env) (s : Shared) (H : Hp) (vs : List V) (Q : VK) (E : XK), A.guards = some [] → Room k (A.deeper (envOfC qual (defScope st) s.heap.objs.size f cdv)) → sp vs H Q E →
      ∃ t, PSs (cxOf CX0 P w K mg base N qual (defScope st) f cdv A outer s H E).nox (defBody st) t ∧ t { nx := fun _ H' => Q .non H', rt := Q } (start N vs) H) : FnG P w K mg base (k + 1) f fd ps sp := by
  obtain ⟨oc, od, kV, doc, pm, an, cdv, ct, osl, rfl, lk, hcd⟩ := F.ex
  refine ⟨len, fun A outer s H args us vs Q E gA hr e0 hb r hsp => ?_⟩
  have kept : ∀ b o, base.get? b = some o → s.heap.get? b = some o := fun b o e => (e0.bs b o e).1
  have kinds : ∀ y ∈ ps.zip us, (defScope st).names.lookup y.1 = some .local ∨ ((defScope st).names.lookup y.1 = some .cell ∧ ((cellsFrom (s.heap.objs.size + 1) (defScope st).names []).lookup y.1).isSome = true) := by
    rintro ⟨n, v⟩ hy
    exact (S.par n (List.of_mem_zip hy).1).imp id fun q => ⟨q, PySem.W.cellsFrom_some _ _ _ (.inl q)⟩
  obtain ⟨t, ht, hq⟩ := body cdv A outer s H vs Q E gA (hr.deeper _) hsp
  refine codeAny_call_function hr.depth (e0.mod.kin.keeps kept _ _ lk) rfl S.co S.gen rfl (PySem.W.codeRec_of (e0.mod.kin.keeps kept) hcd) (hb _ _ _ _ (wpAny_newFunctionEnv_cells S.kind kinds ?_))
  intro env he s1 x
  subst he
  refine ⟨(e0.mod.nolimit.keeps kept).keeps x.toInCall.keep, codeAny_func (wpAny_mono (ht.nox.run [] s1 (start N vs) H _ (inv_start S hr.hd e0 (len _ _ _ _ hsp) r x) hq) (fun fl s' hs => ?_) fun _ _ z => z)⟩
  have done : ∀ {σ' : St} {H' : Hp} {v : V} {u : Value}, Inv (cxOf CX0 P w K mg base N qual (defScope st) f cdv A outer s H E) [] σ' H' s' → RelV v u → Q v H' → CE outer P w H s Q u s' :=
    fun {σ' H' v u} J rv q => ⟨v, H', J.os, J.bare, J.base, J.hok, rv, q⟩
  match fl, hs with
  | .ret _, ⟨_, _, _, J, rv, q⟩ => exact done J rv q
  | .next, ⟨_, _, J, q⟩ => exact done (v := V.non) (u := Value.none) J rfl q
  | .brk, ⟨_, _, _, q⟩ => exact q.elim
  | .cont, ⟨_, _, _, q⟩ => exact q.elim
end
/-- the script alone may be tracked, as a thing known to the object; then the law's call -/
theorem call_lawG {P : Program} {w : World} {K : PySem.W.Frag} {mg mb : Str → Option Value} {k : Nat} {fa a : Addr} {fd : FuncData} {x : Str} {sp : Sp} {s₁ : Shared} {vs : List Value} {ns : List Int}
    (KX : K.In s₁.heap) (hns : s₁.heap.Ns mainGlobals mg) (hb : s₁.heap.Ns builtinsNs mb) (hbb : ∀ x : Str, x ≠ "__name__" → mb x = bootBuiltins x) (hlim : s₁.heap.NoLimit) (hg : s₁.gens = #[])
    (ha : s₁.heap.get? a = some { cls := .type "list", data := .seq vs.toArray }) (hi : IntsAre vs ns) (hl : ns.length ≤ sizeLine) (hr : Room k callerA)
    (F : ∀ base : Heap, K.In base → base.Ns mainGlobals mg → FnG P w K mg base k fa fd [x] sp) (hbind : ∀ (s : Shared) (u : Value), BindsTo s fd ⟨[u], []⟩ [(x, u)])
    (hsp : ∀ H : Hp, SqL K H a (ns.map V.int) → (∀ b u, H b = some u → ∃ o xs, u = .frz o (.lst xs)) → sp [.ref a] H (fun v _ => v = .bl true) fun _ _ _ => False) :
    codeAny (model P w) callerA (.call (.ref fa) ⟨[.ref a], []⟩) (fun r s' => r = .ok (.ret (.bool true)) ∧ OldK s₁.heap s'.heap ∧ s'.os = s₁.os ∧ AllBare s'.gens) s₁ := by
  have rv := vals_ints hi
  have from_ : ∀ H : Hp, SqL K H a (ns.map V.int) → HOk P w H s₁.heap → (∀ b u, H b = some u → b = a ∧ K.lookup a = none ∧ ∃ o xs, u = .frz o (.lst xs)) →
      codeAny (model P w) callerA (.call (.ref fa) ⟨[.ref a], []⟩) (fun r s' => r = .ok (.ret (.bool true)) ∧ OldK s₁.heap s'.heap ∧ s'.os = s₁.os ∧ AllBare s'.gens) s₁ := by
    intro H hS hok only
    have un_ : ∀ {b : Addr}, b ≠ a → H b = none := fun {b} n => by
      rcases q : H b with _ | u
      · rfl
      · exact absurd (only b u q).1 n
    have nsK : ∀ {b : Addr} {m : Str → Option Value}, s₁.heap.Ns b m → (hidT s₁.heap H).Ns b m := fun {b m} hn => by
      obtain ⟨o, es, ep, e, d, r⟩ := hn
      refine ⟨o, es, ep, hidT_get e (un_ fun z => ?_), d, r⟩
      rw [z, ha] at e
      obtain rfl := Option.some.inj e
      cases d
    have hKb : K.In (hidT s₁.heap H) := fun b o e => hidT_get (KX b o e) (by
      rcases q : H b with _ | u
      · rfl
      · obtain ⟨z, n, _⟩ := only b u q
        rw [z, n] at e
        cases e)
    obtain ⟨mc, c1, c2⟩ := hlim
    have e0 : Env0 P w K mg (hidT s₁.heap H) callerA [] s₁ H :=
      ⟨rfl, ⟨hKb, nsK hns, ⟨mb, nsK hb, hbb⟩, ⟨mc, nsK c1, c2⟩⟩, fun b o e => of_hidT e, Nat.le_of_eq (hidT_size _ _), trivial, fun b z => (List.not_mem_nil z).elim, hok, .of_eq hg⟩
    refine codeAny_mono ((F _ hKb (nsK hns)).go callerA [] s₁ H ⟨[.ref a], []⟩ [.ref a] [.ref a] _ _ rfl hr e0 (hbind s₁ (.ref a)) (.cons rfl .nil) (hsp H hS fun b u q => (only b u q).2.2)) fun r s' h => ?_
    match r, h with
    | .ok (.ret u), ⟨v, H', os, bare, un, hok', r', q⟩ =>
      obtain rfl : v = .bl true := q
      obtain rfl : u = Value.bool true := r'
      refine ⟨rfl, OldK.of_keep fun b o e => ?_, os, bare⟩
      rcases z : H b with _ | u
      · exact un.keep b o e z (fun y => List.not_mem_nil y) (fun y => List.not_mem_nil y)
      · obtain ⟨_, _, ob, xs, rfl⟩ := only b u z
        have e1 := (hok b _ z).1
        rw [e] at e1
        obtain rfl := Option.some.inj e1
        exact (hok' b _ (un.frzs b o _ z)).1
  rcases hk : K.lookup a with _ | o
  · refine from_ (fun b => if b = a then some (.frz { cls := .type "list", data := .seq vs.toArray } (.lst (ns.map V.int))) else none) (.inl (.inr ⟨_, if_pos rfl⟩)) (fun b u z => ?_) fun b u z => ?_
    all_goals
      (try dsimp only at z)
      by_cases n : b = a
      · rw [if_pos n] at z
        obtain rfl := Option.some.inj z
        first
          | exact ⟨n, hk, _, _, rfl⟩
          | (subst n; exact ⟨ha, by rw [List.length_map]; exact hl, vs, _, rv, ha⟩)
      · rw [if_neg n] at z
        cases z
  · have e := KX a o hk
    rw [ha] at e
    obtain rfl := Option.some.inj e
    exact from_ (fun _ => none) (.inr ⟨_, vs.toArray, _, hk, rfl, rfl, rfl, by rw [List.size_toArray, hi.length]; exact hl, by simpa using rv⟩) (fun b u z => by cases (show (none : Option HO) = some u from z)) fun b u z => by cases z
/-- the goal that the head leaves, from the law's promise -/
theorem walk_ofG {l : PySem.W.OpenLaw} {n k : Nat} {q : Program} {loose : List Str} {XP : (Str → Option Value) → Heap → Prop} {YP : World → Heap → Prop} {d : DefRec} {K : Params → PySem.W.Frag} {sp : World → Sp} {x : Str}
    (hn : l.most = some n) (hn2 : n ≤ sizeLine) (hdf : d.params.defaults = []) (hr : Room k callerA) (hY : ∀ (w : World) (h : Heap), YP w h → (K w.params).In h)
    (F : ∀ (w : World) (mg : Str → Option Value) (fa : Addr) (h : Heap), (K w.params).In h → h.Ns mainGlobals mg → mg d.name = some (.ref fa) →
      ∃ fd : FuncData, (∀ (s : Shared) (u : Value), BindsTo s fd ⟨[u], []⟩ [(x, u)]) ∧ ∀ base : Heap, (K w.params).In base → base.Ns mainGlobals mg → FnG l.prog w (K w.params) mg base k fa fd [x] (sp w))
    (hsp : ∀ (w : World) (H : Hp) (a : Addr) (ns : List Int), ns.length ≤ n → SqL (K w.params) H a (ns.map V.int) → (∀ b u, H b = some u → ∃ o xs, u = .frz o (.lst xs)) → sp w [.ref a] H (fun v _ => v = .bl true) fun _ _ _ => False) :
    PySem.W.WalkO q loose XP YP l.row.toRowW d [] (fun f vs => PySem.call f vs) := by
  refine Att.attach_call hn hdf ?_
  intro w s₀ s₁ mg mb fa o pm cd doc a vs ns G Y ho hd hcd hmg hobj hints hlen hg
  obtain ⟨fd, hb, hF⟩ := F w mg fa _ (hY w _ Y) G.T.g hmg
  exact call_lawG (hY w _ Y) G.T.g G.T.b G.T.builtins G.T.nolimit hg hobj hints (Nat.le_trans hlen hn2) hr hF hb fun H hS o => hsp w H a ns hlen hS o
end L2

set_option Elab.async false
set_option linter.all false
set_option maxRecDepth 100000
set_option maxHeartbeats 1000000
namespace L2
open PySem PySem.Spec PyProof.Rows
/-- the looks that ExcC and OexC want, as one Bool each -/
def xcB (K : PySem.W.Frag) (D : Addr) : Bool :=
  decide (PySem.W.findIn K (.ref D) "__getattribute__" = some (some (.builtin "BaseException.__getattribute__"))) && decide (PySem.W.findIn K (.ref D) "__getattr__" = some none) && decide (PySem.W.subIn K (.ref D) (.type "BaseException") = some true) && PySem.W.hasDictIn K D &&
  decide (PySem.W.findIn K (.ref D) "__class__" = some (some (.builtin "object.__class__"))) && decide (PySem.W.specialIn K (.builtin "object.__class__") "__get__" = some (some (.builtin "getset_descriptor.__get__"))) && decide (PySem.W.takesIn K (.builtin "object.__class__") = some true) && decide (PySem.W.mroIn K D (.type "object") = some true)
theorem xc_of {K : PySem.W.Frag} {D : Addr} (h : xcB K D = true) : ExcC K D := by
  simp only [xcB, Bool.and_eq_true, decide_eq_true_eq] at h
  obtain ⟨⟨⟨⟨⟨⟨⟨h1, h2⟩, h3⟩, h4⟩, h5⟩, h6⟩, h7⟩, h8⟩ := h
  exact ⟨h1, h2, h3, h4, h5, h6, h7, h8⟩
def oexB (K : PySem.W.Frag) (C : Addr) : Bool :=
  (match K.lookup C with
  | some ⟨.type "type", _, .cls cd, sl⟩ => (match cd.mro, sl.toList with
    | .ref C' :: bm, [_, _, _, _, some (.builtin n), _] => C' == C && n == "ValueError.__new__" && cd.hasDict && !cd.hasDel && PySem.HandSPX.refsVE bm
    | _, _ => false)
  | _ => false) && decide (PySem.W.findIn K (.ref C) "__setattr__" = some (some (.builtin "object.__setattr__"))) && decide (PySem.W.subIn K (.ref C) (.type "BaseException") = some true) && decide (PySem.W.typeIn K (.ref C) = some (.type "type")) && PySem.W.keepIn K (.ref C)
theorem oex_of {K : PySem.W.Frag} {C : Addr} (h : oexB K C = true) : OexC K C := by
  simp only [oexB, Bool.and_eq_true, decide_eq_true_eq] at h
  obtain ⟨⟨⟨⟨q, h2⟩, h3⟩, h4⟩, h5⟩ := h
  refine ⟨?_, h2, h3, h4, h5⟩
  split at q
  · rename_i dd cd sl ho
    split at q
    · rename_i C' bm k0 k1 k2 k3 n k5 hm hs
      simp only [Bool.and_eq_true, beq_iff_eq, Bool.not_eq_true'] at q
      obtain ⟨⟨⟨⟨rfl, rfl⟩, hd⟩, hdel⟩, ht⟩ := q
      obtain ⟨nm, bs, mro, ns, qn, hD, sn, sub, ab, col, del⟩ := cd
      obtain ⟨l⟩ := sl
      dsimp only at hm hdel hd hs
      subst hm hdel hd hs
      exact ⟨nm, qn, ns, bs, bm, sn, sub, ab, col, dd, k0, k1, k2, k3, k5, ho, ht⟩
    · cases q
  · cases q
/-- isinstance between own classes at cs: each is of itself alone -/
def apartB (K : PySem.W.Frag) (cs : List Addr) : Bool :=
  (List.range cs.length).all fun i => (List.range cs.length).all fun j => match cs[i]?, cs[j]? with
    | some c, some d => decide (PySem.W.kitOne K (.ref c) (.ref d) = some (decide (j = i)))
    | _, _ => false
theorem apart_of {K : PySem.W.Frag} {cs : List Addr} (h : apartB K cs = true) {i j : Nat} {c d : Addr} (hi : cs[i]? = some c) (hj : cs[j]? = some d) : PySem.W.kitOne K (.ref c) (.ref d) = some (decide (j = i)) := by
  have li := (List.getElem?_eq_some_iff.mp hi).1
  have lj := (List.getElem?_eq_some_iff.mp hj).1
  have h1 := List.all_eq_true.mp (List.all_eq_true.mp h i (List.mem_range.mpr li)) j (List.mem_range.mpr lj)
  rw [hi, hj] at h1
  exact of_decide_eq_true h1
def allB (cs : List Addr) (f : Addr → Bool) : Bool := cs.all f
theorem allB_of {cs : List Addr} {f : Addr → Bool} (h : allB cs f = true) {i : Nat} {c : Addr} (hi : cs[i]? = some c) : f c = true := List.all_eq_true.mp h c (List.mem_of_getElem? hi)
theorem Same.upd {H : Hp} {p : Addr} {o : HO} (h : H p = none) : Same H (L2.upd H p o) := fun b u q => by
  rw [upd_ne (ne_of_none q h)]
  exact q
/-- isinstance(x, C), x a name that holds an exception, C an own class or a built-in type -/
def tIsi (K : PySem.W.Frag) (i : Nat) (u : Value) : TE := fun σ H Q => ∃ e D fs b, σ[i]? = some (some (V.ref e)) ∧ ExT H e D fs ∧ ExcC K D ∧ PySem.W.kitOne K (.ref D) u = some b ∧ Q (.bl b) H
section
variable {X : Cx} {x y : Str} {C : Addr} {p q r pos : Pos} {i : Nat}
theorem pe_isi (hm : X.mg "isinstance" = none) (gC : X.mg y = some (.ref C)) (hN : X.N[i]? = some x := by rfl) (hv : Vis X.env.scope x := by first | exact Or.inl rfl | exact Or.inr (Or.inl rfl) | exact Or.inr (Or.inr rfl)) (hg : Gl X "isinstance" := by rfl) (hy : Gl X y := by rfl)
    (hd : (x == ("__debug__" : Str)) = false := by decide) (hcd : (x == ("__classdict__" : Str)) = false := by decide) (hd2 : (y == ("__debug__" : Str)) = false := by decide)
    (he : starEach (Expr.Name x q :: [Expr.Name y r]) X.env = (false, eval (Expr.Name x q) X.env) :: starEach [Expr.Name y r] X.env := by rfl) (hpl : (backTo pos (starEach [Expr.Name y r] X.env)).any (·.1) = false := by rfl)
    (he2 : starEach [Expr.Name y r] X.env = (false, eval (Expr.Name y r) X.env) :: starEach [] X.env := by rfl) :
    PE X (.Call (.Name "isinstance" p) [.Name x q, .Name y r] [] pos) (tIsi X.K i (.ref C)) := by
  refine ⟨fun pins s σ H Q I h => ?_⟩
  obtain ⟨e, D, fs, b, hs, ex, T, hk, hq⟩ := h
  exact (pe_callB (t := tCons (tVar i) (tCons (tC (.ref C)) tNil)) call_isX hg hm (by decide +kernel) (pa_cons (pv i hN hv hd hcd) (pa_cons (pe_glob hy gC rfl hd2) pa_nil) )).run pins s σ H Q I ⟨_, hs, e, D, fs, _, _, b, rfl, .own C, ex, T, hk, hq⟩
theorem pe_isiT {n : String} (hm : X.mg "isinstance" = none) (hmy : X.mg y = none) (hvy : bootBuiltins y = some (.type n)) (hN : X.N[i]? = some x := by rfl) (hv : Vis X.env.scope x := by first | exact Or.inl rfl | exact Or.inr (Or.inl rfl) | exact Or.inr (Or.inr rfl)) (hg : Gl X "isinstance" := by rfl) (hy : Gl X y := by rfl)
    (hd : (x == ("__debug__" : Str)) = false := by decide) (hcd : (x == ("__classdict__" : Str)) = false := by decide) (hn2 : y ≠ "__name__" := by decide) (hd2 : (y == ("__debug__" : Str)) = false := by decide)
    (he : starEach (Expr.Name x q :: [Expr.Name y r]) X.env = (false, eval (Expr.Name x q) X.env) :: starEach [Expr.Name y r] X.env := by rfl) (hpl : (backTo pos (starEach [Expr.Name y r] X.env)).any (·.1) = false := by rfl)
    (he2 : starEach [Expr.Name y r] X.env = (false, eval (Expr.Name y r) X.env) :: starEach [] X.env := by rfl) :
    PE X (.Call (.Name "isinstance" p) [.Name x q, .Name y r] [] pos) (tIsi X.K i (.type n)) := by
  refine ⟨fun pins s σ H Q I h => ?_⟩
  obtain ⟨e, D, fs, b, hs, ex, T, hk, hq⟩ := h
  exact (pe_callB (t := tCons (tVar i) (tCons (tC (.ty n)) tNil)) call_isX hg hm (by decide +kernel) (pa_cons (pv i hN hv hd hcd) (pa_cons (pe_bltn hy hmy hvy rfl hn2 hd2) pa_nil) )).run pins s σ H Q I ⟨_, hs, e, D, fs, _, _, b, rfl, .ty n, ex, T, hk, hq⟩
end
end L2

set_option Elab.async false
set_option linter.all false
set_option maxRecDepth 100000
set_option maxHeartbeats 1000000
namespace L2
open PySem PySem.Spec PyProof.Rows
/-- v shows as the data d: data without dicts, or a flat dict -/
inductive Shw (K : PySem.W.Frag) (H : Hp) : V → PyData → Prop where
  | dp {v : V} {d : PyData} (h : Dp K H v d) (n : d.hasDict = false) : Shw K H v d
  | d0 {q : Addr} (h : H q = some (.dK [])) : Shw K H (.ref q) (.dict [])
  | d1 {q : Addr} {x : Str} {i : Int} (h : H q = some (.dK [(.inr x, .int i)])) : Shw K H (.ref q) (.dict [(.str x, .int i)])
section
variable {X : Cx} {pins : List (Addr × Obj)} {σ : St} {H : Hp} {s : Shared}
theorem Shw.reads (I : Inv X pins σ H s) {v : V} {d : PyData} {u : Value} (h : Shw X.K H v d) (r : RelV v u) : ∃ as, Reads s.heap u d as ∧ (d.hasDict = true → sysModules ∉ as) := by
  cases h with
  | dp h n =>
    obtain ⟨as, q⟩ := Dp.reads I d v u h r
    exact ⟨as, q, fun z => by rw [n] at z; cases z⟩
  | @d0 q h =>
    obtain rfl : u = Value.ref q := r
    obtain ⟨_, ne, vs, kv, o, es, ep, ho, ex, hd, _, ps, _⟩ := dk_of I.hok h
    cases kv
    have e0 : es.toList = [] := by
      cases hl : es.toList with
      | nil => rfl
      | cons a l => rw [hl] at ps; cases ps
    refine ⟨_, Reads.dict (kvs := []) ho ex.1 hd (by rw [e0]; exact .nil) (by rw [e0]; exact .nil), fun _ hm => ?_⟩
    have hm' : sysModules ∈ [q] := by simpa using hm
    have e : sysModules = q := by simpa using hm'
    rw [← e] at ne
    exact absurd ne (by decide)
  | @d1 q x i h =>
    obtain rfl : u = Value.ref q := r
    obtain ⟨_, ne, vs, kv, o, es, ep, ho, ex, hd, _, ps, _⟩ := dk_of I.hok h
    cases kv with
    | @cons _ kw _ vs' hk kt =>
      cases kt
      obtain ⟨k, w'⟩ := kw
      obtain ⟨ek, ri⟩ := hk
      dsimp only at ek ri
      subst ek
      obtain ⟨t', rfl⟩ := (show ∃ t, w' = Value.int i t from ri)
      generalize hl : es.toList = l at ps
      cases ps with
      | @cons a _ l' _ k1 k2 pl =>
        cases pl
        rcases keyIs_shape (show keyIs (.inr x) a.key = true from k1) with ⟨_, _, z, _⟩ | ⟨y, ty, z, e2⟩
        · cases z
        · cases z
          refine ⟨_, Reads.dict (kvs := [(.str x, .int i)]) ho ex.1 hd (by rw [hl]; exact .cons (by show Reads s.heap a.key (.str x) _; rw [e2]; exact .str x ty) .nil) (by rw [hl]; exact .cons (by show Reads s.heap a.val (.int i) _; rw [k2]; exact .int i t') .nil), fun _ hm => ?_⟩
          have e : sysModules = q := by simpa using hm
          rw [← e] at ne
          exact absurd ne (by decide)
theorem Shw.readsAll (I : Inv X pins σ H s) {v : V} {d : PyData} (h : Shw X.K H v d) : ∀ (n : Nat) {us : List Value}, Vals (List.replicate n v) us → ∃ as, ReadsAll s.heap us (List.replicate n d) as ∧ (d.hasDict = true → sysModules ∉ as)
  | 0, _, .nil => ⟨_, .nil, fun _ hm => by cases hm⟩
  | n + 1, _, .cons r rs => by
    obtain ⟨as, q1, n1⟩ := Shw.reads I h r
    obtain ⟨bs, q2, n2⟩ := Shw.readsAll I h n rs
    exact ⟨_, .cons q1 q2, fun z hm => (List.mem_append.mp hm).elim (n1 z) (n2 z)⟩
end
theorem hasDict_rep (d : PyData) : ∀ n : Nat, PyData.hasDictAll (List.replicate n d) = true → d.hasDict = true
  | 0, h => by cases h
  | n + 1, h => by
    have h' : (d.hasDict || PyData.hasDictAll (List.replicate n d)) = true := h
    rcases Bool.or_eq_true_iff.mp h' with q | q
    · exact q
    · exact hasDict_rep d n q
theorem showable_rep {d : PyData} (h : d.showable = true) : ∀ n : Nat, PyData.showableAll (List.replicate n d) = true
  | 0 => rfl
  | n + 1 => by
    show (d.showable && PyData.showableAll (List.replicate n d)) = true
    rw [h, showable_rep h n]
    rfl
theorem depth_rep {d : PyData} : ∀ n : Nat, PyData.depthAll (List.replicate n d) ≤ d.depth
  | 0 => Nat.zero_le _
  | n + 1 => Nat.max_le.mpr ⟨Nat.le_refl _, depth_rep n⟩
/-- repr(xs), xs a list of one thing again and again -/
def rReprR (K : PySem.W.Frag) : List V → Hp → VK → Prop := fun xs H Q => ∃ (p : Addr) (n : Nat) (v : V) (d : PyData), xs = [.ref p] ∧ H p = some (.lst (List.replicate (n + 1) v)) ∧ Shw K H v d ∧ d.showable = true ∧ d.depth ≤ 20 ∧ (PyData.list (List.replicate (n + 1) d)).shown.length ≤ sizeLine ∧
  Q (.str (PyData.list (List.replicate (n + 1) d)).shown) H
theorem call_reprR {X : Cx} (hg : X.A.guards = some []) (hu : X.A.units + 64 < cLine) : CallR X (.builtin "repr") (rReprR X.K) := by
  intro pins s σ H xs us Q I r h
  obtain ⟨p, n, v, d, rfl, hp, hv, hs, hd, hz, q⟩ := h
  match us, r with
  | [_], .cons rp .nil =>
    obtain rfl := rp
    obtain ⟨_, its, m, rv, _, he⟩ := I.lstM hp
    obtain ⟨as, ra, na⟩ := Shw.readsAll I hv (n + 1) rv
    have hz' : (listText (PyData.shownAll (List.replicate (n + 1) d))).length ≤ sizeLine := by simpa only [PyData.shown] using hz
    obtain ⟨bs, hb, hk⟩ := ReprAllK.of_readsAll (prog := X.prog) (w := X.w) ra (showable_rep hs (n + 1)) (fun z => na (hasDict_rep d _ z)) (fun t ht => Nat.le_trans (listText_mem_le ht) hz')
    have out : Reads s.heap (.ref p) (.list (List.replicate (n + 1) d)) _ := .list he rfl rfl ra
    have dle : PyData.depthAll (List.replicate (n + 1) d) ≤ 20 := Nat.le_trans (depth_rep _) hd
    have hna : p ∉ bs := not_mem_of_deeper out (by simp only [PyData.depth]; omega) hb
    match its, rv, he, hk with
    | x :: l, _, he, hk =>
      refine call_repr_slot (T := "list") (idr := "list.__repr__") (by omega) ⟨_, he, rfl⟩ PySem.F.slot_list_repr.toG ?_
      refine call_list_reprK he rfl rfl hna (by simpa using hk.length_eq) (fun i y e => hk.item i y (by simpa using e)) hg (fun b _ => Clear.nil b) (by show X.A.units + 1 + _ < cLine; omega) (fun _ _ e => e) (fun h' u tk k => ?_) hz'
      exact ⟨_, _, rfl, .str (PyData.list (List.replicate (n + 1) d)).shown, H, I.kept (t' := tk) k, ⟨u, by simp only [PyData.shown]⟩, q⟩
/-- a text n times -/
def mulS (z : Str) (n : Int) : Str := if n < 1 then Str.empty else if (n == 1 || z.length == 0) = true then z else ⟨(List.replicate n.toNat z.cps).foldl (· ++ ·) #[]⟩
theorem op_mul_str {X : Cx} : OpR X (binaryOp .Mult) (fun x y H Q => ∃ (z : Str) (n : Int), x = .str z ∧ y = .int n ∧ 0 ≤ n ∧ n < 64 ∧ z.length ≤ 1000 ∧ (mulS z n).length ≤ sizeLine ∧ Q (.str (mulS z n)) H) := by
  intro pins s σ H x y v u Q I rx ry h
  obtain ⟨z, n, rfl, rfl, h0, h1, hz, hs, q⟩ := h
  obtain ⟨t, rfl⟩ := rx
  obtain ⟨t', rfl⟩ := ry
  refine PySem.P.mul_str (by rw [decide_eq_false (by omega), decide_eq_false (by omega)]; rfl) (fun h2 _ h3 => ?_) (fun h2 _ => ?_) ?_
  · have h4 : (2 ^ 63 - 1) / 64 ≤ ((2 ^ 63 - 1) / n : Int) := Int.le_ediv_of_mul_le (by omega) (by omega)
    omega
  · have h5 : z.length * n.toNat ≤ 1000 * 64 := Nat.mul_le_mul hz (by omega)
    unfold Builtin.Str.tooLong
    rw [sizeLine_eq]
    exact decide_eq_false (by omega)
  · unfold mulS at q hs
    by_cases c1 : n < 1
    · rw [if_pos c1] at q ⊢
      exact ⟨by decide, .str Str.empty, H, I.tok _, ⟨_, rfl⟩, q⟩
    · rw [if_neg c1] at q hs ⊢
      by_cases c2 : (n == 1 || z.length == 0) = true
      · rw [if_pos c2] at q ⊢
        exact ⟨.str z, H, I, ⟨_, rfl⟩, q⟩
      · rw [if_neg c2] at q hs ⊢
        exact ⟨hs, .str _, H, I.tok _, ⟨_, rfl⟩, q⟩
end L2

set_option Elab.async false
set_option linter.all false
set_option maxRecDepth 100000
set_option maxHeartbeats 1000000
namespace L2
open PySem PySem.Spec PyProof.Rows
/-- a new object at p, all else as it was: what is wanted of it -/
def NewQ (H : Hp) (o : HO) (Q : VK) : Prop := ∀ p H', Same H H' → H p = none → H' p = some o → Q (.ref p) H'
theorem NewQ.at {H : Hp} {o : HO} {Q : VK} (h : NewQ H o Q) {p : Addr} (n : H p = none) : Q (.ref p) (L2.upd H p o) := h p _ (Same.upd n) n upd_same
def tLstS (t : TA) : TE := fun σ H Q => t σ H fun xs H1 => xs.length ≤ sizeLine ∧ NewQ H1 (.lst xs) Q
def tTupS (t : TA) : TE := fun σ H Q => t σ H fun xs H1 => xs.length ≤ sizeLine ∧ NewQ H1 (.tup xs) Q
def rCatS : R2 := fun x y H Q => ∃ l b xs zs, x = .ref l ∧ y = .ref b ∧ H l = some (.lst xs) ∧ H b = some (.lst zs) ∧ xs.length + zs.length ≤ sizeLine ∧ NewQ H (.lst (xs ++ zs)) Q
def rRepS : R2 := fun x y H Q => ∃ l k xs, x = .ref l ∧ y = .int k ∧ H l = some (.lst xs) ∧ -(2 ^ 63) ≤ k ∧ k < 2 ^ 63 ∧ xs.length * k.toNat ≤ sizeLine ∧ NewQ H (.lst (List.replicate k.toNat xs).flatten) Q
def rSlW (K : PySem.W.Frag) : V → Option Int → Option Int → Hp → VK → Prop := fun x lo hi H Q => ∃ a xs, x = .ref a ∧ SqL K H a xs ∧ NewQ H (.lst (cutV xs lo hi)) Q
section
variable {X : Cx} {es : List Expr} {t : TA} {pos : Pos}
theorem pe_lstS (h : PA X es t) : PE X (.List es pos) (tLstS t) :=
  ⟨fun pins s σ H Q I hq => wpAny_List_spliced (thn (h.run pos pins s σ H _ I hq) fun us s1 ⟨xs, H1, I1, r, z, q⟩ => ⟨by rw [← r.length]; exact z,
    .ref s1.heap.objs.size, _, I1.laid (t' := s1.toks) (o := .lst xs) (fun _ _ e => Heap.get?_push_of_some _ e) (Nat.le_refl _) ⟨z, us, 0, r, Heap.get?_push_size _ rfl⟩, rfl, q.at I1.fresh⟩)⟩
theorem pe_tupS {x1} (h : PA X es t) : PE X (.Tuple es x1 pos) (tTupS t) :=
  ⟨fun pins s σ H Q I hq => wpAny_Tuple_spliced (thn (h.run pos pins s σ H _ I hq) fun us s1 ⟨xs, H1, I1, r, z, q⟩ => ⟨by rw [← r.length]; exact z,
    .ref s1.heap.objs.size, _, I1.laid (t' := s1.toks) (o := .tup xs) (fun _ _ e => Heap.get?_push_of_some _ e) (Nat.le_refl _) ⟨z, us, r, ⟨_, Heap.get?_push_size _ rfl, rfl, _, rfl⟩⟩, rfl, q.at I1.fresh⟩)⟩
theorem op_catS : OpR X (binaryOp .Add) rCatS := fun pins s σ H x y v u Q I rx ry ⟨l, b, xs, zs, e1, e2, h1, h2, hz, q⟩ => op_cat pins s σ H x y v u Q I rx ry ⟨l, b, xs, zs, e1, e2, h1, h2, hz, fun _ n => q.at n⟩
theorem op_repS : OpR X (binaryOp .Mult) rRepS := fun pins s σ H x y v u Q I rx ry ⟨l, k, xs, e1, e2, h1, h2, h3, hz, q⟩ => op_rep pins s σ H x y v u Q I rx ry ⟨l, k, xs, e1, e2, h1, h2, h3, hz, fun _ n => q.at n⟩
theorem sl_listS : SlR X (rSlW X.K) := fun pins s σ H x v vl vu lo hi sl Q I rx hs hl hh ⟨a, xs, e, h, q⟩ => sl_list pins s σ H x v vl vu lo hi sl Q I rx hs hl hh ⟨a, xs, e, h, fun _ n => q.at n⟩
/-- {} with text or int keys -/
theorem pe_dnewS : PE X (.Dict [] [] pos) (fun _ H Q => NewQ H (.dK []) Q) := ⟨fun pins s σ H Q I h => pe_dnewK.run pins s σ H Q I fun _ n => NewQ.at h n⟩
end
theorem Same.lst {H H' : Hp} {a : Addr} {o : HO} (S : Same H H') (h : H a = some o) : H' a = some o := S _ _ h
end L2

set_option Elab.async false
set_option linter.all false
set_option maxRecDepth 100000
set_option maxHeartbeats 1000000
namespace E1
open PySem L2
def top (i : Nat) : Stmt := PySem.Challenge.pw_cellplaces_k01_errors_made.main.body.getD i (.Pass ⟨0, 0, 0, 0⟩)
abbrev sClasses : Stmt := top 19
abbrev sFields : Stmt := top 20
abbrev sPlaced : Stmt := top 21
abbrev sThing : Stmt := top 22
abbrev sMade : Stmt := top 23
abbrev sByName : Stmt := top 24
abbrev sLaw : Stmt := top 25
/-- the sixteen classes in the law's order, and CellError -/
structure Cs where
  b : Addr
  c0 : Addr
  c1 : Addr
  c2 : Addr
  c3 : Addr
  c4 : Addr
  c5 : Addr
  c6 : Addr
  c7 : Addr
  c8 : Addr
  c9 : Addr
  c10 : Addr
  c11 : Addr
  c12 : Addr
  c13 : Addr
  c14 : Addr
  c15 : Addr
def Cs.l (c : Cs) : List Addr := [c.c0, c.c1, c.c2, c.c3, c.c4, c.c5, c.c6, c.c7, c.c8, c.c9, c.c10, c.c11, c.c12, c.c13, c.c14, c.c15]
def Cs.f (c : Cs) : List (Addr × Str) := [(c.c0, "value"), (c.c1, "value"), (c.c2, "value"), (c.c3, "value"), (c.c4, "value"), (c.c5, "value"), (c.c6, "value"), (c.c7, "value"), (c.c8, "value"), (c.c9, "value"), (c.c10, "value"), (c.c11, "name"), (c.c12, "place")]
/-- what the top has written -/
structure Txt (P : Program) (w : World) (K : PySem.W.Frag) (mg : Str → Option Value) (base : Heap) (c : Cs) : Prop where
  m0 : ExM P w K mg base "InvalidText" c.c0 "value"
  m1 : ExM P w K mg base "InvalidForm" c.c1 "value"
  m2 : ExM P w K mg base "InvalidLetter" c.c2 "value"
  m3 : ExM P w K mg base "InvalidNumber" c.c3 "value"
  m4 : ExM P w K mg base "InvalidLoops" c.c4 "value"
  m5 : ExM P w K mg base "InvalidShape" c.c5 "value"
  m6 : ExM P w K mg base "InvalidValues" c.c6 "value"
  m7 : ExM P w K mg base "InvalidCell" c.c7 "value"
  m8 : ExM P w K mg base "InvalidSides" c.c8 "value"
  m9 : ExM P w K mg base "InvalidTable" c.c9 "value"
  m10 : ExM P w K mg base "InvalidWalk" c.c10 "value"
  m11 : ExM P w K mg base "ShortLoop" c.c11 "name"
  m12 : ExM P w K mg base "NoRoom" c.c12 "place"
  m13 : ExB K mg "MismatchedShapes" c.c13
  m14 : ExB K mg "SharedPlaces" c.c14
  m15 : ExB K mg "NothingToUndo" c.c15
  mb : ExB K mg "CellError" c.b
  xc : ∀ (i : Nat) (D : Addr), c.l[i]? = some D → ExcC K D
  nof : ∀ (i : Nat) (q : Addr × Str), c.f[i]? = some q → PySem.W.findIn K (.ref q.1) q.2 = some none
  ap : ∀ (i j : Nat) (D E : Addr), c.l[i]? = some D → c.l[j]? = some E → PySem.W.kitOne K (.ref D) (.ref E) = some (decide (j = i))
  un : ∀ (i : Nat) (D : Addr), c.l[i]? = some D → PySem.W.kitOne K (.ref D) (.ref c.b) = some true ∧ PySem.W.kitOne K (.ref D) (.type "ValueError") = some true
  bn : ∀ (j : Nat) (E : Addr), c.l[j]? = some E → PySem.W.kitOne K (.ref c.b) (.ref E) = some false
  bv : PySem.W.kitOne K (.ref c.b) (.type "ValueError") = some true
  isi : mg "isinstance" = none
  ve : mg "ValueError" = none
  enum : mg "enumerate" = none
  range : mg "range" = none
  len : mg "len" = none
  int_ : mg "int" = none
  max_ : mg "max" = none
  sum_ : mg "sum" = none
  repr_ : mg "repr" = none
  list_ : mg "list" = none
/-! ### the promises -/
/-- e is asked against the sixteen: the answers bs -/
def Asked (K : PySem.W.Frag) (c : Cs) (D : Addr) (bs : Nat → Bool) : Prop := ∀ (j : Nat) (E : Addr), c.l[j]? = some E → PySem.W.kitOne K (.ref D) (.ref E) = some (bs j)
def bl16 (bs : Nat → Bool) : List V := (List.range 16).map fun j => V.bl (bs j)
def spClasses (K : PySem.W.Frag) (c : Cs) : Sp := fun vs H Q _ => ∃ (e D : Addr) (fs : List (Str × V)) (bs : Nat → Bool), vs = [.ref e] ∧ ExT H e D fs ∧ ExcC K D ∧ Asked K c D bs ∧
  ∀ H' p, Same H H' → H p = none → H' p = some (.lst (bl16 bs)) → Q (.ref p) H'
section
variable {P : Program} {w : World} {K : PySem.W.Frag} {mg : Str → Option Value} {base : Heap} {c : Cs}
theorem scC : FnScope ["_law_error", "_law_found"] ["_law_error"] (defScope sClasses) := ⟨rfl, rfl, rfl, by decide +kernel, rfl, by decide +kernel, by decide +kernel⟩
theorem ok_classes {f : Addr} {fd : FuncData} (F : Fun K "_law_classes" "_law_classes" sClasses f fd) (T : Txt P w K mg base c) : FnOk P w K mg base CX0 1 f fd ["_law_error"] (spClasses K c) := by
  refine F.ok scC (fun vs H Q E h => ?_) (fun cdv A outer s H vs Q E hr h => ?_)
  · obtain ⟨e, D, fs, bs, rfl, _⟩ := h
    rfl
  · obtain ⟨e, D, fs, bs, rfl, ex, xc, ask, k⟩ := h
    refine ⟨_, pss_cons (ps_set (i := 1) scC.nd rfl (Or.inl rfl) (pe_lstS (pa_cons (pe_isi (i := 0) T.isi T.m0.mgC) (pa_cons (pe_isi (i := 0) T.isi T.m1.mgC) (pa_cons (pe_isi (i := 0) T.isi T.m2.mgC) pa_nil)))))
      (pss_cons (ps_set (i := 1) scC.nd rfl (Or.inl rfl) (pe_op op_catS (pv 1) (pe_lstS (pa_cons (pe_isi (i := 0) T.isi T.m3.mgC) (pa_cons (pe_isi (i := 0) T.isi T.m4.mgC) (pa_cons (pe_isi (i := 0) T.isi T.m5.mgC) pa_nil))))))
      (pss_cons (ps_set (i := 1) scC.nd rfl (Or.inl rfl) (pe_op op_catS (pv 1) (pe_lstS (pa_cons (pe_isi (i := 0) T.isi T.m6.mgC) (pa_cons (pe_isi (i := 0) T.isi T.m7.mgC) pa_nil)))))
      (pss_cons (ps_set (i := 1) scC.nd rfl (Or.inl rfl) (pe_op op_catS (pv 1) (pe_lstS (pa_cons (pe_isi (i := 0) T.isi T.m8.mgC) (pa_cons (pe_isi (i := 0) T.isi T.m9.mgC) (pa_cons (pe_isi (i := 0) T.isi T.m10.mgC) pa_nil))))))
      (pss_cons (ps_set (i := 1) scC.nd rfl (Or.inl rfl) (pe_op op_catS (pv 1) (pe_lstS (pa_cons (pe_isi (i := 0) T.isi T.m11.mgC) (pa_cons (pe_isi (i := 0) T.isi T.m12.mgC) (pa_cons (pe_isi (i := 0) T.isi T.m13.mgC) pa_nil))))))
      (pss_one (ps_ret (pe_op op_catS (pv 1) (pe_lstS (pa_cons (pe_isi (i := 0) T.isi T.m14.mgC) (pa_cons (pe_isi (i := 0) T.isi T.m15.mgC) pa_nil)))))))))), ?_⟩
    refine ⟨e, D, fs, _, rfl, ex, xc, ask 0 _ rfl, e, D, fs, _, rfl, ex, xc, ask 1 _ rfl, e, D, fs, _, rfl, ex, xc, ask 2 _ rfl, (by show 3 ≤ sizeLine; decide), fun p0 H0 S0 n0 h0 => ?_⟩
    have ex0 := ex.same S0
    refine ⟨_, rfl, e, D, fs, _, rfl, ex0, xc, ask 3 _ rfl, e, D, fs, _, rfl, ex0, xc, ask 4 _ rfl, e, D, fs, _, rfl, ex0, xc, ask 5 _ rfl, (by show 3 ≤ sizeLine; decide), fun q1 G1 R1 m1 i1 => ?_⟩
    refine ⟨_, _, _, _, rfl, rfl, R1 _ _ h0, i1, (by show 6 ≤ sizeLine; decide), fun p1 H1 Z1 n1 h1 => ?_⟩
    have S1 := (S0.trans R1).trans Z1
    have ex1 := ex.same S1
    refine ⟨_, rfl, e, D, fs, _, rfl, ex1, xc, ask 6 _ rfl, e, D, fs, _, rfl, ex1, xc, ask 7 _ rfl, (by show 2 ≤ sizeLine; decide), fun q2 G2 R2 m2 i2 => ?_⟩
    refine ⟨_, _, _, _, rfl, rfl, R2 _ _ h1, i2, (by show 8 ≤ sizeLine; decide), fun p2 H2 Z2 n2 h2 => ?_⟩
    have S2 := (S1.trans R2).trans Z2
    have ex2 := ex.same S2
    refine ⟨_, rfl, e, D, fs, _, rfl, ex2, xc, ask 8 _ rfl, e, D, fs, _, rfl, ex2, xc, ask 9 _ rfl, e, D, fs, _, rfl, ex2, xc, ask 10 _ rfl, (by show 3 ≤ sizeLine; decide), fun q3 G3 R3 m3 i3 => ?_⟩
    refine ⟨_, _, _, _, rfl, rfl, R3 _ _ h2, i3, (by show 11 ≤ sizeLine; decide), fun p3 H3 Z3 n3 h3 => ?_⟩
    have S3 := (S2.trans R3).trans Z3
    have ex3 := ex.same S3
    refine ⟨_, rfl, e, D, fs, _, rfl, ex3, xc, ask 11 _ rfl, e, D, fs, _, rfl, ex3, xc, ask 12 _ rfl, e, D, fs, _, rfl, ex3, xc, ask 13 _ rfl, (by show 3 ≤ sizeLine; decide), fun q4 G4 R4 m4 i4 => ?_⟩
    refine ⟨_, _, _, _, rfl, rfl, R4 _ _ h3, i4, (by show 14 ≤ sizeLine; decide), fun p4 H4 Z4 n4 h4 => ?_⟩
    have S4 := (S3.trans R4).trans Z4
    have ex4 := ex.same S4
    refine ⟨_, rfl, e, D, fs, _, rfl, ex4, xc, ask 14 _ rfl, e, D, fs, _, rfl, ex4, xc, ask 15 _ rfl, (by show 2 ≤ sizeLine; decide), fun q5 G5 R5 m5 i5 => ?_⟩
    refine ⟨_, _, _, _, rfl, rfl, R5 _ _ h4, i5, (by show 16 ≤ sizeLine; decide), fun p5 H5 Z5 n5 h5 => ?_⟩
    have S5 := (S4.trans R5).trans Z5
    exact k _ _ S5 ((S4.trans R5).free n5) h5
end
/-- thirteen exceptions with the field y each, a new list of them -/
def spMade (c : Cs) : Sp := fun vs H Q _ => ∃ y : V, vs = [y] ∧ ∀ H' p (es : List Addr), Same H H' → H p = none → H' p = some (.lst (es.map V.ref)) → Paired (fun e q => ExT H' e q.1 [(q.2, y)]) es c.f → Q (.ref p) H'
section
variable {P : Program} {w : World} {K : PySem.W.Frag} {mg : Str → Option Value} {base : Heap} {c : Cs}
theorem scMade : FnScope ["_law_thing_here", "_law_found"] ["_law_thing_here"] (defScope sMade) := ⟨rfl, rfl, rfl, by decide +kernel, rfl, by decide +kernel, by decide +kernel⟩
theorem ok_Made {f : Addr} {fd : FuncData} (F : Fun K "_law_made" "_law_made" sMade f fd) (T : Txt P w K mg base c) : FnOk P w K mg base CX0 3 f fd ["_law_thing_here"] (spMade c) := by
  refine F.ok scMade (fun vs H Q E h => ?_) (fun cdv A outer s H vs Q E hr h => ?_)
  · obtain ⟨y, rfl, _⟩ := h
    rfl
  · obtain ⟨y, rfl, k⟩ := h
    refine ⟨_, pss_cons (ps_set (i := 1) scMade.nd rfl (Or.inl rfl) (pe_lstS (pa_cons (pe_ex1 T.m0 hr rfl (pv 0)) (pa_cons (pe_ex1 T.m1 hr rfl (pv 0)) (pa_cons (pe_ex1 T.m2 hr rfl (pv 0)) (pa_cons (pe_ex1 T.m3 hr rfl (pv 0)) pa_nil)))))) (pss_cons (ps_set (i := 1) scMade.nd rfl (Or.inl rfl) (pe_op op_catS (pv 1) (pe_lstS (pa_cons (pe_ex1 T.m4 hr rfl (pv 0)) (pa_cons (pe_ex1 T.m5 hr rfl (pv 0)) (pa_cons (pe_ex1 T.m6 hr rfl (pv 0)) (pa_cons (pe_ex1 T.m7 hr rfl (pv 0)) pa_nil))))))) (pss_one (ps_ret (pe_op op_catS (pv 1) (pe_lstS (pa_cons (pe_ex1 T.m8 hr rfl (pv 0)) (pa_cons (pe_ex1 T.m9 hr rfl (pv 0)) (pa_cons (pe_ex1 T.m10 hr rfl (pv 0)) (pa_cons (pe_ex1 T.m11 hr rfl (pv 0)) (pa_cons (pe_ex1 T.m12 hr rfl (pv 0)) pa_nil)))))))))), ?_⟩
    refine ⟨_, rfl, fun a0 A0 S0 _ x0 => ?_⟩
    refine ⟨_, rfl, fun a1 A1 S1 _ x1 => ?_⟩
    have tA1 := S0.trans S1
    refine ⟨_, rfl, fun a2 A2 S2 _ x2 => ?_⟩
    have tA2 := tA1.trans S2
    refine ⟨_, rfl, fun a3 A3 S3 _ x3 => ?_⟩
    have tA3 := tA2.trans S3
    refine ⟨(by show 4 ≤ sizeLine; decide), fun q0 B0 R0 m0 i0 => ?_⟩
    have tB0 := tA3.trans R0
    refine ⟨_, rfl, _, rfl, fun a4 A4 S4 _ x4 => ?_⟩
    have tA4 := tB0.trans S4
    refine ⟨_, rfl, fun a5 A5 S5 _ x5 => ?_⟩
    have tA5 := tA4.trans S5
    refine ⟨_, rfl, fun a6 A6 S6 _ x6 => ?_⟩
    have tA6 := tA5.trans S6
    refine ⟨_, rfl, fun a7 A7 S7 _ x7 => ?_⟩
    have tA7 := tA6.trans S7
    refine ⟨(by show 4 ≤ sizeLine; decide), fun q1 B1 R1 m1 i1 => ?_⟩
    have tB1 := tA7.trans R1
    refine ⟨_, _, _, _, rfl, rfl, ((((S4.trans S5).trans S6).trans S7).trans R1) _ _ i0, i1, (by show 8 ≤ sizeLine; decide), fun p1 C1 Z1 n1 h1 => ?_⟩
    have tC1 := tB1.trans Z1
    refine ⟨_, rfl, _, rfl, fun a8 A8 S8 _ x8 => ?_⟩
    have tA8 := tC1.trans S8
    refine ⟨_, rfl, fun a9 A9 S9 _ x9 => ?_⟩
    have tA9 := tA8.trans S9
    refine ⟨_, rfl, fun a10 A10 S10 _ x10 => ?_⟩
    have tA10 := tA9.trans S10
    refine ⟨_, rfl, fun a11 A11 S11 _ x11 => ?_⟩
    have tA11 := tA10.trans S11
    refine ⟨_, rfl, fun a12 A12 S12 _ x12 => ?_⟩
    have tA12 := tA11.trans S12
    refine ⟨(by show 5 ≤ sizeLine; decide), fun q2 B2 R2 m2 i2 => ?_⟩
    have tB2 := tA12.trans R2
    refine ⟨_, _, _, _, rfl, rfl, (((((S8.trans S9).trans S10).trans S11).trans S12).trans R2) _ _ h1, i2, (by show 13 ≤ sizeLine; decide), fun p2 C2 Z2 n2 h2 => ?_⟩
    have tC2 := tB2.trans Z2
    refine k _ _ [a0, a1, a2, a3, a4, a5, a6, a7, a8, a9, a10, a11, a12] tC2 (tB2.free n2) h2 ?_
    exact .cons (((((((((((((((((x0.same S1).same S2).same S3).same R0).same S4).same S5).same S6).same S7).same R1).same Z1).same S8).same S9).same S10).same S11).same S12).same R2).same Z2) (.cons ((((((((((((((((x1.same S2).same S3).same R0).same S4).same S5).same S6).same S7).same R1).same Z1).same S8).same S9).same S10).same S11).same S12).same R2).same Z2) (.cons (((((((((((((((x2.same S3).same R0).same S4).same S5).same S6).same S7).same R1).same Z1).same S8).same S9).same S10).same S11).same S12).same R2).same Z2) (.cons ((((((((((((((x3.same R0).same S4).same S5).same S6).same S7).same R1).same Z1).same S8).same S9).same S10).same S11).same S12).same R2).same Z2) (.cons ((((((((((((x4.same S5).same S6).same S7).same R1).same Z1).same S8).same S9).same S10).same S11).same S12).same R2).same Z2) (.cons (((((((((((x5.same S6).same S7).same R1).same Z1).same S8).same S9).same S10).same S11).same S12).same R2).same Z2) (.cons ((((((((((x6.same S7).same R1).same Z1).same S8).same S9).same S10).same S11).same S12).same R2).same Z2) (.cons (((((((((x7.same R1).same Z1).same S8).same S9).same S10).same S11).same S12).same R2).same Z2) (.cons ((((((x8.same S9).same S10).same S11).same S12).same R2).same Z2) (.cons (((((x9.same S10).same S11).same S12).same R2).same Z2) (.cons ((((x10.same S11).same S12).same R2).same Z2) (.cons (((x11.same S12).same R2).same Z2) (.cons ((x12.same R2).same Z2) (.nil)))))))))))))
theorem scByName : FnScope ["_law_thing_here", "_law_found"] ["_law_thing_here"] (defScope sByName) := ⟨rfl, rfl, rfl, by decide +kernel, rfl, by decide +kernel, by decide +kernel⟩
theorem ok_ByName {f : Addr} {fd : FuncData} (F : Fun K "_law_by_name" "_law_by_name" sByName f fd) (T : Txt P w K mg base c) : FnOk P w K mg base CX0 3 f fd ["_law_thing_here"] (spMade c) := by
  refine F.ok scByName (fun vs H Q E h => ?_) (fun cdv A outer s H vs Q E hr h => ?_)
  · obtain ⟨y, rfl, _⟩ := h
    rfl
  · obtain ⟨y, rfl, k⟩ := h
    refine ⟨_, pss_cons (ps_set (i := 1) scByName.nd rfl (Or.inl rfl) (pe_lstS (pa_cons (pe_exK T.m0 hr rfl (pv 0)) (pa_cons (pe_exK T.m1 hr rfl (pv 0)) (pa_cons (pe_exK T.m2 hr rfl (pv 0)) pa_nil))))) (pss_cons (ps_set (i := 1) scByName.nd rfl (Or.inl rfl) (pe_op op_catS (pv 1) (pe_lstS (pa_cons (pe_exK T.m3 hr rfl (pv 0)) (pa_cons (pe_exK T.m4 hr rfl (pv 0)) (pa_cons (pe_exK T.m5 hr rfl (pv 0)) pa_nil)))))) (pss_cons (ps_set (i := 1) scByName.nd rfl (Or.inl rfl) (pe_op op_catS (pv 1) (pe_lstS (pa_cons (pe_exK T.m6 hr rfl (pv 0)) (pa_cons (pe_exK T.m7 hr rfl (pv 0)) (pa_cons (pe_exK T.m8 hr rfl (pv 0)) pa_nil)))))) (pss_cons (ps_set (i := 1) scByName.nd rfl (Or.inl rfl) (pe_op op_catS (pv 1) (pe_lstS (pa_cons (pe_exK T.m9 hr rfl (pv 0)) (pa_cons (pe_exK T.m10 hr rfl (pv 0)) pa_nil))))) (pss_one (ps_ret (pe_op op_catS (pv 1) (pe_lstS (pa_cons (pe_exK T.m11 hr rfl (pv 0)) (pa_cons (pe_exK T.m12 hr rfl (pv 0)) pa_nil))))))))), ?_⟩
    refine ⟨_, rfl, fun a0 A0 S0 _ x0 => ?_⟩
    refine ⟨_, rfl, fun a1 A1 S1 _ x1 => ?_⟩
    have tA1 := S0.trans S1
    refine ⟨_, rfl, fun a2 A2 S2 _ x2 => ?_⟩
    have tA2 := tA1.trans S2
    refine ⟨(by show 3 ≤ sizeLine; decide), fun q0 B0 R0 m0 i0 => ?_⟩
    have tB0 := tA2.trans R0
    refine ⟨_, rfl, _, rfl, fun a3 A3 S3 _ x3 => ?_⟩
    have tA3 := tB0.trans S3
    refine ⟨_, rfl, fun a4 A4 S4 _ x4 => ?_⟩
    have tA4 := tA3.trans S4
    refine ⟨_, rfl, fun a5 A5 S5 _ x5 => ?_⟩
    have tA5 := tA4.trans S5
    refine ⟨(by show 3 ≤ sizeLine; decide), fun q1 B1 R1 m1 i1 => ?_⟩
    have tB1 := tA5.trans R1
    refine ⟨_, _, _, _, rfl, rfl, (((S3.trans S4).trans S5).trans R1) _ _ i0, i1, (by show 6 ≤ sizeLine; decide), fun p1 C1 Z1 n1 h1 => ?_⟩
    have tC1 := tB1.trans Z1
    refine ⟨_, rfl, _, rfl, fun a6 A6 S6 _ x6 => ?_⟩
    have tA6 := tC1.trans S6
    refine ⟨_, rfl, fun a7 A7 S7 _ x7 => ?_⟩
    have tA7 := tA6.trans S7
    refine ⟨_, rfl, fun a8 A8 S8 _ x8 => ?_⟩
    have tA8 := tA7.trans S8
    refine ⟨(by show 3 ≤ sizeLine; decide), fun q2 B2 R2 m2 i2 => ?_⟩
    have tB2 := tA8.trans R2
    refine ⟨_, _, _, _, rfl, rfl, (((S6.trans S7).trans S8).trans R2) _ _ h1, i2, (by show 9 ≤ sizeLine; decide), fun p2 C2 Z2 n2 h2 => ?_⟩
    have tC2 := tB2.trans Z2
    refine ⟨_, rfl, _, rfl, fun a9 A9 S9 _ x9 => ?_⟩
    have tA9 := tC2.trans S9
    refine ⟨_, rfl, fun a10 A10 S10 _ x10 => ?_⟩
    have tA10 := tA9.trans S10
    refine ⟨(by show 2 ≤ sizeLine; decide), fun q3 B3 R3 m3 i3 => ?_⟩
    have tB3 := tA10.trans R3
    refine ⟨_, _, _, _, rfl, rfl, ((S9.trans S10).trans R3) _ _ h2, i3, (by show 11 ≤ sizeLine; decide), fun p3 C3 Z3 n3 h3 => ?_⟩
    have tC3 := tB3.trans Z3
    refine ⟨_, rfl, _, rfl, fun a11 A11 S11 _ x11 => ?_⟩
    have tA11 := tC3.trans S11
    refine ⟨_, rfl, fun a12 A12 S12 _ x12 => ?_⟩
    have tA12 := tA11.trans S12
    refine ⟨(by show 2 ≤ sizeLine; decide), fun q4 B4 R4 m4 i4 => ?_⟩
    have tB4 := tA12.trans R4
    refine ⟨_, _, _, _, rfl, rfl, ((S11.trans S12).trans R4) _ _ h3, i4, (by show 13 ≤ sizeLine; decide), fun p4 C4 Z4 n4 h4 => ?_⟩
    have tC4 := tB4.trans Z4
    refine k _ _ [a0, a1, a2, a3, a4, a5, a6, a7, a8, a9, a10, a11, a12] tC4 (tB4.free n4) h4 ?_
    exact .cons (((((((((((((((((((((x0.same S1).same S2).same R0).same S3).same S4).same S5).same R1).same Z1).same S6).same S7).same S8).same R2).same Z2).same S9).same S10).same R3).same Z3).same S11).same S12).same R4).same Z4) (.cons ((((((((((((((((((((x1.same S2).same R0).same S3).same S4).same S5).same R1).same Z1).same S6).same S7).same S8).same R2).same Z2).same S9).same S10).same R3).same Z3).same S11).same S12).same R4).same Z4) (.cons (((((((((((((((((((x2.same R0).same S3).same S4).same S5).same R1).same Z1).same S6).same S7).same S8).same R2).same Z2).same S9).same S10).same R3).same Z3).same S11).same S12).same R4).same Z4) (.cons (((((((((((((((((x3.same S4).same S5).same R1).same Z1).same S6).same S7).same S8).same R2).same Z2).same S9).same S10).same R3).same Z3).same S11).same S12).same R4).same Z4) (.cons ((((((((((((((((x4.same S5).same R1).same Z1).same S6).same S7).same S8).same R2).same Z2).same S9).same S10).same R3).same Z3).same S11).same S12).same R4).same Z4) (.cons (((((((((((((((x5.same R1).same Z1).same S6).same S7).same S8).same R2).same Z2).same S9).same S10).same R3).same Z3).same S11).same S12).same R4).same Z4) (.cons ((((((((((((x6.same S7).same S8).same R2).same Z2).same S9).same S10).same R3).same Z3).same S11).same S12).same R4).same Z4) (.cons (((((((((((x7.same S8).same R2).same Z2).same S9).same S10).same R3).same Z3).same S11).same S12).same R4).same Z4) (.cons ((((((((((x8.same R2).same Z2).same S9).same S10).same R3).same Z3).same S11).same S12).same R4).same Z4) (.cons (((((((x9.same S10).same R3).same Z3).same S11).same S12).same R4).same Z4) (.cons ((((((x10.same R3).same Z3).same S11).same S12).same R4).same Z4) (.cons (((x11.same S12).same R4).same Z4) (.cons ((x12.same R4).same Z4) (.nil)))))))))))))
end
end E1

set_option Elab.async false
set_option linter.all false
set_option maxRecDepth 100000
set_option maxHeartbeats 1000000
namespace E1
open PySem L2
/-- the fields of thirteen such exceptions -/
def spFields (c : Cs) : Sp := fun vs H Q _ => ∃ (p : Addr) (es : List Addr) (y : V), vs = [.ref p] ∧ H p = some (.lst (es.map V.ref)) ∧ Paired (fun e q => ExT H e q.1 [(q.2, y)]) es c.f ∧ NewQ H (.lst (List.replicate 13 y)) Q
/-- sixteen exceptions, each of the class that its place says -/
def spPlaced (c : Cs) : Sp := fun vs H Q _ => ∃ (p : Addr) (es : List Addr), vs = [.ref p] ∧ H p = some (.lst (es.map V.ref)) ∧ Paired (fun e C => ∃ fs, ExT H e C fs) es c.l ∧ ∀ H', Same H H' → Q (.bl true) H'
theorem paired_get {α β : Type} {R : α → β → Prop} : ∀ {xs : List α} {ys : List β}, Paired R xs ys → ∀ (i : Nat) (x : α), xs[i]? = some x → ∃ y, ys[i]? = some y ∧ R x y
  | _, _, .nil, i, x, h => by simp at h
  | _, _, .cons r t, 0, x, h => by
    obtain rfl : _ = x := by simpa using h
    exact ⟨_, rfl, r⟩
  | _, _, .cons r t, i + 1, x, h => by
    obtain ⟨y, h1, h2⟩ := paired_get t i x (by simpa using h)
    exact ⟨y, by simpa using h1, h2⟩
theorem paired_cons {α β : Type} {R : α → β → Prop} {xs : List α} {y : β} {ys : List β} (h : Paired R xs (y :: ys)) : ∃ x xs', xs = x :: xs' ∧ R x y ∧ Paired R xs' ys := by
  cases h with
  | cons r t => exact ⟨_, _, rfl, r, t⟩
theorem paired_nil {α β : Type} {R : α → β → Prop} {xs : List α} (h : Paired R xs ([] : List β)) : xs = [] := by
  cases h
  rfl
section
variable {P : Program} {w : World} {K : PySem.W.Frag} {mg : Str → Option Value} {base : Heap} {c : Cs}
theorem scF : FnScope ["_law_errors", "_law_error"] ["_law_errors"] (defScope sFields) := ⟨rfl, rfl, rfl, by decide +kernel, rfl, by decide +kernel, by decide +kernel⟩
theorem ok_fields {f : Addr} {fd : FuncData} (F : Fun K "_law_fields" "_law_fields" sFields f fd) (T : Txt P w K mg base c) : FnOk P w K mg base CX0 1 f fd ["_law_errors"] (spFields c) := by
  refine F.ok scF (fun vs H Q E h => ?_) (fun cdv A outer s H vs Q E hr h => ?_)
  · obtain ⟨p, es, y, rfl, _⟩ := h
    rfl
  · obtain ⟨p, es, y, rfl, hp, hx, k⟩ := h
    refine ⟨_, pss_one (ps_ret (pe_op op_catS
      (pe_lc (own := [("_law_error", 1)]) (g := gName 1) (tt := tYes) (te := tFldE K (tVar 1) "value") rfl scF.nd (pi_list (pe_slice sl_listS (pv 0) po_none (po_some pe_int))) (blkOk_by (own := [("_law_error", 1)]) (N := ["_law_errors", "_law_error"]) (sc := defScope sFields) (by decide +kernel))
        (fun _ _ _ _ _ => pg_name (i := 1) scF.nd rfl (Or.inl rfl)) (fun _ _ _ _ _ => pts_nil) (fun _ _ _ _ _ => by exact (pe_fldE (pv 1))))
      (pe_lstS (pa_cons (pe_fldE (pe_ix ix_list (pv 0) pe_int (fun _ _ => rfl))) (pa_cons (pe_fldE (pe_ix ix_list (pv 0) pe_int (fun _ _ => rfl))) pa_nil))))), ?_⟩
    obtain ⟨e0, es, rfl, x0, hx⟩ := paired_cons hx
    obtain ⟨e1, es, rfl, x1, hx⟩ := paired_cons hx
    obtain ⟨e2, es, rfl, x2, hx⟩ := paired_cons hx
    obtain ⟨e3, es, rfl, x3, hx⟩ := paired_cons hx
    obtain ⟨e4, es, rfl, x4, hx⟩ := paired_cons hx
    obtain ⟨e5, es, rfl, x5, hx⟩ := paired_cons hx
    obtain ⟨e6, es, rfl, x6, hx⟩ := paired_cons hx
    obtain ⟨e7, es, rfl, x7, hx⟩ := paired_cons hx
    obtain ⟨e8, es, rfl, x8, hx⟩ := paired_cons hx
    obtain ⟨e9, es, rfl, x9, hx⟩ := paired_cons hx
    obtain ⟨e10, es, rfl, x10, hx⟩ := paired_cons hx
    obtain ⟨e11, es, rfl, x11, hx⟩ := paired_cons hx
    obtain ⟨e12, es, rfl, x12, hx⟩ := paired_cons hx
    obtain rfl := paired_nil hx
    refine ⟨_, rfl, _, rfl, p, _, rfl, SqL.of hp, fun a A S n ha => ?_⟩
    have ha : A a = some (.lst [.ref e0, .ref e1, .ref e2, .ref e3, .ref e4, .ref e5, .ref e6, .ref e7, .ref e8, .ref e9, .ref e10]) := ha
    have key : ∀ (i : Nat) (x : V), ([.ref e0, .ref e1, .ref e2, .ref e3, .ref e4, .ref e5, .ref e6, .ref e7, .ref e8, .ref e9, .ref e10] : List V)[i]? = some x → ∃ e C, x = .ref e ∧ ExT H e C [("value", y)] ∧ ExcC K C ∧ PySem.W.findIn K (.ref C) "value" = some none := by
      intro i x hi
      match i, hi with
      | 0, hi => cases hi; exact ⟨e0, c.c0, rfl, x0, T.xc 0 _ rfl, T.nof 0 _ rfl⟩
      | 1, hi => cases hi; exact ⟨e1, c.c1, rfl, x1, T.xc 1 _ rfl, T.nof 1 _ rfl⟩
      | 2, hi => cases hi; exact ⟨e2, c.c2, rfl, x2, T.xc 2 _ rfl, T.nof 2 _ rfl⟩
      | 3, hi => cases hi; exact ⟨e3, c.c3, rfl, x3, T.xc 3 _ rfl, T.nof 3 _ rfl⟩
      | 4, hi => cases hi; exact ⟨e4, c.c4, rfl, x4, T.xc 4 _ rfl, T.nof 4 _ rfl⟩
      | 5, hi => cases hi; exact ⟨e5, c.c5, rfl, x5, T.xc 5 _ rfl, T.nof 5 _ rfl⟩
      | 6, hi => cases hi; exact ⟨e6, c.c6, rfl, x6, T.xc 6 _ rfl, T.nof 6 _ rfl⟩
      | 7, hi => cases hi; exact ⟨e7, c.c7, rfl, x7, T.xc 7 _ rfl, T.nof 7 _ rfl⟩
      | 8, hi => cases hi; exact ⟨e8, c.c8, rfl, x8, T.xc 8 _ rfl, T.nof 8 _ rfl⟩
      | 9, hi => cases hi; exact ⟨e9, c.c9, rfl, x9, T.xc 9 _ rfl, T.nof 9 _ rfl⟩
      | 10, hi => cases hi; exact ⟨e10, c.c10, rfl, x10, T.xc 10 _ rfl, T.nof 10 _ rfl⟩
      | i + 11, hi => cases hi
    refine ⟨a, rfl, ⟨_, SqL.of ha⟩, fun D nD => ?_⟩
    refine lc_it walk_list (fun i H' => Same A H' ∧ H' D = some (.lst (List.replicate i y))) ⟨Same.upd nD, upd_same⟩ (fun i H' _ ⟨q, _⟩ => SqL.of (q _ _ ha)) ?_ ?_
    · rintro i x H1 H1' hi ⟨q, hD⟩ ⟨rfl, hx⟩
      obtain ⟨e, C, rfl, ex, xc, nf⟩ := key i x hx
      refine ⟨rfl, ?_⟩
      refine ⟨_, rfl, e, C, _, y, rfl, (ex.same S).same q, xc, nf, rfl, _, hD, ?_, ?_, ?_⟩
      · rw [List.length_replicate]
        have h11 : i < 11 := hi
        exact Nat.lt_of_lt_of_le h11 (by decide)
      · intro b o hb
        rw [upd_ne (ne_of_none hb nD)]
        exact q _ _ hb
      · rw [upd_same, ← List.replicate_succ']
    · rintro H1 ⟨q, hD⟩
      have q0 := S.trans q
      refine ⟨_, rfl, p, _, _, _, rfl, rfl, SqL.of (q0 _ _ hp), rfl, e11, c.c11, _, y, rfl, x11.same q0, T.xc 11 _ rfl, T.nof 11 _ rfl, rfl, ?_⟩
      refine ⟨_, rfl, p, _, _, _, rfl, rfl, SqL.of (q0 _ _ hp), rfl, e12, c.c12, _, y, rfl, x12.same q0, T.xc 12 _ rfl, T.nof 12 _ rfl, rfl, (by show 2 ≤ sizeLine; decide), fun b B R nb hb => ?_⟩
      refine ⟨_, _, _, _, rfl, rfl, R _ _ hD, hb, (by show 11 + 2 ≤ sizeLine; decide), fun r G Z nr hr' => ?_⟩
      exact k _ _ ((q0.trans R).trans Z) ((q0.trans R).free nr) hr'
end
end E1

set_option Elab.async false
set_option linter.all false
set_option maxRecDepth 100000
set_option maxHeartbeats 1000000
namespace E1
open PySem L2
/-- a def of the text, as its callers see it -/
structure DefOk (P : Program) (w : World) (K : PySem.W.Frag) (mg : Str → Option Value) (base : Heap) (k : Nat) (x : Str) (ps : List Str) (sp : Sp) : Prop where
  ex : ∃ (f : Addr) (fd : FuncData), mg x = some (.ref f) ∧ PySem.W.keepIn K (.ref f) = true ∧ FnOk P w K mg base CX0 k f fd ps sp ∧ Binds K fd ps []
theorem canLay_bools (l : List Bool) : PyData.canLayAll0 (l.map PyData.bool) = true := by
  induction l with
  | nil => rfl
  | cons b l ih => simpa [PyData.canLayAll0, PyData.canLay0] using ih
theorem depth_bools (l : List Bool) : PyData.depthAll (l.map PyData.bool) = 0 := by
  induction l with
  | nil => rfl
  | cons b l ih =>
    show max (PyData.depth (.bool b)) (PyData.depthAll (l.map PyData.bool)) = 0
    rw [ih]
    rfl
theorem shaped_bools (l : List Bool) : SeqAt.shaped (.list (l.map PyData.bool)) = true := by
  have h1 : PyData.canLay0 (.list (l.map PyData.bool)) = true := by simpa [PyData.canLay0] using canLay_bools l
  have h2 : PyData.depth (.list (l.map PyData.bool)) ≤ 64 := by
    simp only [PyData.depth]
    rw [depth_bools]
    decide
  show (PyData.canLay0 _ && decide (PyData.depth _ ≤ 64)) = true
  rw [h1, decide_eq_true h2]
  rfl
theorem dp_bools {K : PySem.W.Frag} {H : Hp} (l : List Bool) : DpAll K H (l.map V.bl) (l.map PyData.bool) := by
  induction l with
  | nil => exact .nil
  | cons b l ih => exact .cons (.bl b) ih
theorem eqv_bools (l : List Bool) : PyData.eqv (.list (l.map PyData.bool)) (.list (l.map PyData.bool)) = true :=
  SeqAt.eqv_refl _ (by simpa [PyData.canLay0] using canLay_bools l)
section
variable {P : Program} {w : World} {K : PySem.W.Frag} {mg : Str → Option Value} {base : Heap} {c : Cs}
theorem scP : FnScope ["_law_errors", "_law_at", "_law_error", "_law_spot"] ["_law_errors"] (defScope sPlaced) := ⟨rfl, rfl, rfl, by decide +kernel, rfl, by decide +kernel, by decide +kernel⟩
theorem ok_placed {f : Addr} {fd : FuncData} (F : Fun K "_law_placed" "_law_placed" sPlaced f fd) (T : Txt P w K mg base c) (DC : DefOk P w K mg base 1 "_law_classes" ["_law_error"] (spClasses K c)) : FnOk P w K mg base CX0 2 f fd ["_law_errors"] (spPlaced c) := by
  obtain ⟨fC, fdC, gC, kC, GC, bC⟩ := DC.ex
  refine F.ok scP (fun vs H Q E h => ?_) (fun cdv A outer s H vs Q E hr h => ?_)
  · obtain ⟨p, es, rfl, _⟩ := h
    rfl
  · obtain ⟨p, es, rfl, hp, hx, k⟩ := h
    refine ⟨_, pss_cons (ps_for PassesOwn.never rfl (pi_enum (by rfl) T.enum (pa_cons (pv 0) pa_nil)) (pg_tup rfl (pgs_cons (pg_name (i := 1) scP.nd rfl (Or.inr rfl)) (pgs_cons (pg_name (i := 2) scP.nd rfl (Or.inl rfl)) pgs_nil)))
        (pss_cons (ps_if (PW.pt (pw_or (pt_not (pt_val (pe_isi (i := 2) T.isi T.mb.mgC))) (pw_or1 (pt_not (pt_val (pe_isiT (i := 2) T.isi T.ve PyProof.Rows.Boot.«ValueError»)))))) (pss_one (ps_ret pe_bl)) pss_nil)
        (pss_one (ps_if (pt_cmpR (op_neD hr.units) (pe_call GC hr rfl gC kC bC .nil pass0 (pa_cons (pv 2) pa_nil))
          (pe_lc (own := [("_law_spot", 3)]) (g := gName 3) (tt := tYes) (te := tOp rEq (tVar 3) (tVar 1)) rfl scP.nd (pi_range1 rfl T.range (pa_cons pe_int pa_nil)) (blkOk_by (own := [("_law_spot", 3)]) (N := ["_law_errors", "_law_at", "_law_error", "_law_spot"]) (sc := defScope sPlaced) (by decide +kernel))
            (fun _ _ _ _ _ => pg_name (i := 3) scP.nd rfl (Or.inl rfl)) (fun _ _ _ _ _ => pts_nil) (fun _ _ _ _ _ => by exact (pe_cmpR op_eq (pv 3) (pv 1) (nomark _)))) (nomark _)) (pss_one (ps_ret pe_bl)) pss_nil))))
      (pss_one (ps_ret pe_bl)), ?_⟩
    have len16 : es.length = 16 := hx.length
    refine ⟨_, rfl, p, _, rfl, SqL.of hp, for_it walk_enum (fun _ σ H' => (∃ u v, σ = [some (.ref p), u, v, none]) ∧ Same H H') ⟨⟨_, _, rfl⟩, Same.refl H⟩ (fun i σ H' _ ⟨_, q⟩ => SqL.of (q _ _ hp)) ?_ ?_⟩
    · rintro i x σ H1 H1' hi ⟨⟨u, v, rfl⟩, q⟩ ⟨T', a, b, rfl, nT, rfl, ha, hb⟩
      obtain rfl : V.int (i : Nat) = a := Option.some.inj ha
      rw [List.length_map] at hi
      have hb' : (es.map V.ref)[i]? = some b := hb
      rw [List.getElem?_map] at hb'
      obtain ⟨e, he, rfl⟩ := Option.map_eq_some_iff.mp hb'
      obtain ⟨D, hD, fs, ex0⟩ := paired_get hx i e he
      have q1 := q.trans (Same.upd (o := .tup [.int (i : Nat), .ref e]) nT)
      have ex := ex0.same q1
      have xc := T.xc i D hD
      obtain ⟨k1, k2⟩ := T.un i D hD
      refine ⟨T', _, rfl, SqT.of upd_same, rfl, _, _, rfl, _, _, rfl, rfl, ?_⟩
      refine ⟨e, D, fs, true, rfl, ex, xc, k1, true, rfl, ?_⟩
      refine iteF ?_
      refine ⟨e, D, fs, true, rfl, ex, xc, k2, true, rfl, ?_⟩
      refine iteF ?_
      refine ⟨_, rfl, e, D, fs, fun j => decide (j = i), rfl, ex, xc, fun j E hE => T.ap i j D E hD hE, fun B r S nr hr' => ?_⟩
      have hr2 : (B r = some (.lst (bl16 fun j => decide (j = i)))) := hr'
      refine ⟨16, rfl, by decide, by decide, fun G nG => ?_⟩
      refine lc_it walk_range (fun j H' => Same B H' ∧ H' G = some (.lst ((List.range j).map fun t => V.bl (decide (t = i))))) ⟨Same.upd nG, upd_same⟩ (fun _ _ _ _ => trivial) ?_ ?_
      · rintro j x H2 H2' hj ⟨q2, hG⟩ ⟨rfl, rfl⟩
        refine ⟨rfl, ?_⟩
        refine iteT (B := True) ?_
        refine ⟨_, rfl, _, rfl, rfl, _, hG, ?_, ?_, ?_⟩
        · rw [List.length_map, List.length_range]
          have h16 : j < 16 := hj
          exact Nat.lt_trans h16 (by decide)
        · intro b o hb
          rw [upd_ne (ne_of_none hb nG)]
          exact q2 _ _ hb
        · rw [upd_same, List.range_succ, List.map_append]
          have ej : decide (V.int (0 + (j : Int)) = V.int (i : Int)) = decide (j = i) := by
            by_cases h : j = i
            · subst h
              simp
            · have h2 : ¬ V.int (0 + (j : Int)) = V.int (i : Int) := fun z => h (by injection z; omega)
              rw [decide_eq_false h, decide_eq_false h2]
          show some (HO.lst (_ ++ [V.bl (decide (V.int (0 + (j : Int)) = V.int (i : Int)))])) = _
          rw [ej]
          rfl
      · rintro H2 ⟨q2, hG⟩
        have e1 : bl16 (fun j => decide (j = i)) = ((List.range 16).map fun j => decide (j = i)).map V.bl := by
          unfold bl16
          rw [List.map_map]
          rfl
        have e2 : ((List.range 16).map fun t => V.bl (decide (t = i))) = ((List.range 16).map fun j => decide (j = i)).map V.bl := by
          rw [List.map_map]
          rfl
        have hG' : H2 G = some (.lst ((List.range 16).map fun t => V.bl (decide (t = i)))) := hG
        rw [e2] at hG'
        rw [e1] at hr2
        refine ⟨_, _, .lst (SqL.of (q2 _ _ hr2)) (dp_bools _), .lst (SqL.of hG') (dp_bools _), shaped_bools _, shaped_bools _, ?_⟩
        rw [eqv_bools]
        refine ⟨false, rfl, ?_⟩
        refine iteF ?_
        exact ⟨⟨_, _, rfl⟩, (q1.trans S).trans q2⟩
    · rintro σ H1 ⟨⟨u, v, rfl⟩, q⟩
      exact k _ q
end
end E1

set_option Elab.async false
set_option linter.all false
set_option maxRecDepth 100000
set_option maxHeartbeats 1000000
namespace E1
open PySem L2
/-- what is put into the fields: the law's menu, with numbers below 10 ** 30, and its lists with «later» behind -/
inductive Thing (H : Hp) : V → Prop where
  | int (i : Int) (h : i.natAbs < 10 ^ 30) : Thing H (.int i)
  | non : Thing H .non
  | bl (b : Bool) : Thing H (.bl b)
  | str (z : Str) (h : z ∈ (["", "z", "zz", "zzz", "zzzz", "value"] : List Str)) : Thing H (.str z)
  | l0 {l : Addr} (e : H l = some (.lst [])) : Thing H (.ref l)
  | l1 {l : Addr} (i : Int) (h : i.natAbs < 10 ^ 30) (e : H l = some (.lst [.int i])) : Thing H (.ref l)
  | l2 {l q : Addr} (i : Int) (h : i.natAbs < 10 ^ 30) (e : H l = some (.lst [.ref q, .non])) (eq : H q = some (.lst [.int i])) : Thing H (.ref l)
  | t0 {l : Addr} (e : H l = some (.tup [])) : Thing H (.ref l)
  | t1 {l : Addr} (i : Int) (h : i.natAbs < 10 ^ 30) (e : H l = some (.tup [.int i, .str "a"])) : Thing H (.ref l)
  | d0 {l : Addr} (e : H l = some (.dK [])) : Thing H (.ref l)
  | d1 {l : Addr} (i : Int) (h : i.natAbs < 10 ^ 30) (e : H l = some (.dK [(.inr "a", .int i)])) : Thing H (.ref l)
  | m0 {l : Addr} (e : H l = some (.lst [.str "later"])) : Thing H (.ref l)
  | m1 {l : Addr} (i : Int) (h : i.natAbs < 10 ^ 30) (e : H l = some (.lst [.int i, .str "later"])) : Thing H (.ref l)
  | m2 {l q : Addr} (i : Int) (h : i.natAbs < 10 ^ 30) (e : H l = some (.lst [.ref q, .non, .str "later"])) (eq : H q = some (.lst [.int i])) : Thing H (.ref l)
theorem Thing.same {H H' : Hp} {v : V} (S : Same H H') : Thing H v → Thing H' v
  | .int i h => .int i h
  | .non => .non
  | .bl b => .bl b
  | .str z h => .str z h
  | .l0 e => .l0 (S _ _ e)
  | .l1 i h e => .l1 i h (S _ _ e)
  | .l2 i h e q => .l2 i h (S _ _ e) (S _ _ q)
  | .t0 e => .t0 (S _ _ e)
  | .t1 i h e => .t1 i h (S _ _ e)
  | .d0 e => .d0 (S _ _ e)
  | .d1 i h e => .d1 i h (S _ _ e)
  | .m0 e => .m0 (S _ _ e)
  | .m1 i h e => .m1 i h (S _ _ e)
  | .m2 i h e q => .m2 i h (S _ _ e) (S _ _ q)
structure Okd (d : PyData) : Prop where
  sh : d.showable = true
  dp : d.depth ≤ 20
  lv : d.leavesShort 40 = true
  wt : d.weight ≤ 300
theorem okd_int {i : Int} (h : i.natAbs < 10 ^ 30) : Okd (.int i) := by
  have hl : i.natAbs.log2 < 100 := by
    by_cases z : i.natAbs = 0
    · rw [z]
      decide
    · exact (Nat.log2_lt z).mpr (Nat.lt_trans h (by decide))
  refine ⟨?_, ?_, ?_, ?_⟩
  · show decide (i.natAbs.log2 < 1920) = true
    exact decide_eq_true (by omega)
  · show 0 ≤ 20
    decide
  · have e := int_text_length_le10 (k := 30) (by decide) h
    have e2 : (PyData.shown (.int i)).length ≤ 40 := by
      show (Str.ofString (toString i)).length ≤ 40
      rw [ofString_length]
      omega
    show decide ((PyData.shown (.int i)).length ≤ 40) = true
    exact decide_eq_true e2
  · show (if i == 0 then 0 else i.natAbs.log2 + 1) ≤ 300
    split <;> omega
theorem wt_int {i : Int} (h : i.natAbs < 10 ^ 30) : PyData.weight (.int i) ≤ 110 := by
  have hl : i.natAbs.log2 < 100 := by
    by_cases z : i.natAbs = 0
    · rw [z]
      decide
    · exact (Nat.log2_lt z).mpr (Nat.lt_trans h (by decide))
  show (if i == 0 then 0 else i.natAbs.log2 + 1) ≤ 110
  split <;> omega
theorem lv_a : PyData.leavesShort 40 (.str "a") = true := by decide +kernel
theorem lv_later : PyData.leavesShort 40 (.str "later") = true := by decide +kernel
theorem wt_a : PyData.weight (.str "a") = 1 := by decide +kernel
theorem wt_later : PyData.weight (.str "later") = 5 := by decide +kernel
theorem Thing.shows {K : PySem.W.Frag} {H : Hp} {v : V} (h : Thing H v) : ∃ d, (∀ H', Same H H' → Shw K H' v d) ∧ Okd d := by
  have later : ∀ {H' : Hp}, Dp K H' (.str "later") (.str "later") := .str _
  cases h with
  | int i h => exact ⟨_, fun H' S => .dp (.int i) rfl, okd_int h⟩
  | non => exact ⟨_, fun H' S => .dp .non rfl, ⟨rfl, by decide, rfl, by decide⟩⟩
  | bl b => exact ⟨_, fun H' S => .dp (.bl b) rfl, ⟨rfl, by show 0 ≤ 20; decide, rfl, by show 0 ≤ 300; decide⟩⟩
  | str z h =>
    refine ⟨_, fun H' S => .dp (.str z) rfl, ⟨rfl, by show 0 ≤ 20; decide, ?_, ?_⟩⟩
    · have a : ∀ z ∈ (["", "z", "zz", "zzz", "zzzz", "value"] : List Str), PyData.leavesShort 40 (.str z) = true := by decide +kernel
      exact a z h
    · have a : ∀ z ∈ (["", "z", "zz", "zzz", "zzzz", "value"] : List Str), PyData.weight (.str z) ≤ 300 := by decide +kernel
      exact a z h
  | l0 e => exact ⟨_, fun H' S => .dp (.lst (SqL.of (S _ _ e)) .nil) rfl, ⟨rfl, by decide, rfl, by decide⟩⟩
  | l1 i h e =>
    have o := okd_int h
    have ow := wt_int h
    refine ⟨.list [.int i], fun H' S => .dp (.lst (SqL.of (S _ _ e)) (.cons (.int i) .nil)) rfl, ⟨?_, by show 1 ≤ 20; decide, ?_, ?_⟩⟩
    · simp [PyData.showable, PyData.showableAll, PyData.showableKv, show PyData.showable (.int i) = true from o.sh] <;> exact of_decide_eq_true o.sh
    · simp only [PyData.leavesShort, PyData.leavesShortAll, PyData.leavesShortKv, Bool.and_true, Bool.and_eq_true, true_and, and_true]
      first | exact o.lv | exact ⟨o.lv, lv_later⟩ | exact ⟨o.lv, lv_a⟩ | exact ⟨lv_a, o.lv⟩
    · have wn : PyData.weight .none = 0 := rfl
      have wa := wt_a
      have wl := wt_later
      simp only [PyData.weight, PyData.weightAll, PyData.weightKv] at ow wn wa wl ⊢
      omega
  | l2 i h e q =>
    have o := okd_int h
    have ow := wt_int h
    refine ⟨.list [.list [.int i], .none], fun H' S => .dp (.lst (SqL.of (S _ _ e)) (.cons (.lst (SqL.of (S _ _ q)) (.cons (.int i) .nil)) (.cons .non .nil))) rfl, ⟨?_, by show 2 ≤ 20; decide, ?_, ?_⟩⟩
    · simp [PyData.showable, PyData.showableAll, PyData.showableKv, show PyData.showable (.int i) = true from o.sh] <;> exact of_decide_eq_true o.sh
    · simp only [PyData.leavesShort, PyData.leavesShortAll, PyData.leavesShortKv, Bool.and_true, Bool.and_eq_true, true_and, and_true]
      first | exact o.lv | exact ⟨o.lv, lv_later⟩ | exact ⟨o.lv, lv_a⟩ | exact ⟨lv_a, o.lv⟩
    · have wn : PyData.weight .none = 0 := rfl
      have wa := wt_a
      have wl := wt_later
      simp only [PyData.weight, PyData.weightAll, PyData.weightKv] at ow wn wa wl ⊢
      omega
  | t0 e => exact ⟨_, fun H' S => .dp (.tup (.inl (Rd.of (S _ _ e))) .nil) rfl, ⟨rfl, by decide, rfl, by decide⟩⟩
  | t1 i h e =>
    have o := okd_int h
    have ow := wt_int h
    refine ⟨.tuple [.int i, .str "a"], fun H' S => .dp (.tup (.inl (Rd.of (S _ _ e))) (.cons (.int i) (.cons (.str _) .nil))) rfl, ⟨?_, by show 1 ≤ 20; decide, ?_, ?_⟩⟩
    · simp [PyData.showable, PyData.showableAll, PyData.showableKv, show PyData.showable (.int i) = true from o.sh] <;> exact of_decide_eq_true o.sh
    · simp only [PyData.leavesShort, PyData.leavesShortAll, PyData.leavesShortKv, Bool.and_true, Bool.and_eq_true, true_and, and_true]
      first | exact o.lv | exact ⟨o.lv, lv_later⟩ | exact ⟨o.lv, lv_a⟩ | exact ⟨lv_a, o.lv⟩
    · have wn : PyData.weight .none = 0 := rfl
      have wa := wt_a
      have wl := wt_later
      simp only [PyData.weight, PyData.weightAll, PyData.weightKv] at ow wn wa wl ⊢
      omega
  | d0 e => exact ⟨_, fun H' S => .d0 (S _ _ e), ⟨rfl, by decide, rfl, by decide⟩⟩
  | d1 i h e =>
    have o := okd_int h
    have ow := wt_int h
    refine ⟨.dict [(.str "a", .int i)], fun H' S => .d1 (S _ _ e), ⟨?_, by show 1 ≤ 20; decide, ?_, ?_⟩⟩
    · simp [PyData.showable, PyData.showableAll, PyData.showableKv, show PyData.showable (.int i) = true from o.sh] <;> exact of_decide_eq_true o.sh
    · simp only [PyData.leavesShort, PyData.leavesShortAll, PyData.leavesShortKv, Bool.and_true, Bool.and_eq_true, true_and, and_true]
      first | exact o.lv | exact ⟨o.lv, lv_later⟩ | exact ⟨o.lv, lv_a⟩ | exact ⟨lv_a, o.lv⟩
    · have wn : PyData.weight .none = 0 := rfl
      have wa := wt_a
      have wl := wt_later
      simp only [PyData.weight, PyData.weightAll, PyData.weightKv] at ow wn wa wl ⊢
      omega
  | m0 e => exact ⟨_, fun H' S => .dp (.lst (SqL.of (S _ _ e)) (.cons later .nil)) rfl, ⟨rfl, by decide, by decide +kernel, by decide +kernel⟩⟩
  | m1 i h e =>
    have o := okd_int h
    have ow := wt_int h
    refine ⟨.list [.int i, .str "later"], fun H' S => .dp (.lst (SqL.of (S _ _ e)) (.cons (.int i) (.cons later .nil))) rfl, ⟨?_, by show 1 ≤ 20; decide, ?_, ?_⟩⟩
    · simp [PyData.showable, PyData.showableAll, PyData.showableKv, show PyData.showable (.int i) = true from o.sh] <;> exact of_decide_eq_true o.sh
    · simp only [PyData.leavesShort, PyData.leavesShortAll, PyData.leavesShortKv, Bool.and_true, Bool.and_eq_true, true_and, and_true]
      first | exact o.lv | exact ⟨o.lv, lv_later⟩ | exact ⟨o.lv, lv_a⟩ | exact ⟨lv_a, o.lv⟩
    · have wn : PyData.weight .none = 0 := rfl
      have wa := wt_a
      have wl := wt_later
      simp only [PyData.weight, PyData.weightAll, PyData.weightKv] at ow wn wa wl ⊢
      omega
  | m2 i h e q =>
    have o := okd_int h
    have ow := wt_int h
    refine ⟨.list [.list [.int i], .none, .str "later"], fun H' S => .dp (.lst (SqL.of (S _ _ e)) (.cons (.lst (SqL.of (S _ _ q)) (.cons (.int i) .nil)) (.cons .non (.cons later .nil)))) rfl, ⟨?_, by show 2 ≤ 20; decide, ?_, ?_⟩⟩
    · simp [PyData.showable, PyData.showableAll, PyData.showableKv, show PyData.showable (.int i) = true from o.sh] <;> exact of_decide_eq_true o.sh
    · simp only [PyData.leavesShort, PyData.leavesShortAll, PyData.leavesShortKv, Bool.and_true, Bool.and_eq_true, true_and, and_true]
      first | exact o.lv | exact ⟨o.lv, lv_later⟩ | exact ⟨o.lv, lv_a⟩ | exact ⟨lv_a, o.lv⟩
    · have wn : PyData.weight .none = 0 := rfl
      have wa := wt_a
      have wl := wt_later
      simp only [PyData.weight, PyData.weightAll, PyData.weightKv] at ow wn wa wl ⊢
      omega
end E1

set_option Elab.async false
set_option linter.all false
set_option maxRecDepth 100000
set_option maxHeartbeats 1000000
namespace E1
open PySem L2
/-- a list of the menu, as it is made -/
def KdL (H : Hp) (v : V) : Prop := ∃ l, v = .ref l ∧ (H l = some (.lst []) ∨ (∃ i : Int, i.natAbs < 10 ^ 30 ∧ H l = some (.lst [.int i])) ∨ ∃ (q : Addr) (i : Int), i.natAbs < 10 ^ 30 ∧ H l = some (.lst [.ref q, .non]) ∧ H q = some (.lst [.int i]))
/-- no list -/
def KdN (H : Hp) (v : V) : Prop := (∃ i, v = .int i) ∨ v = .non ∨ (∃ b, v = .bl b) ∨ (∃ z, v = .str z) ∨ (∃ l xs, v = .ref l ∧ H l = some (.tup xs)) ∨ ∃ l kvs, v = .ref l ∧ H l = some (.dK kvs)
theorem KdL.same {H H' : Hp} {v : V} (S : Same H H') (h : KdL H v) : KdL H' v := by
  obtain ⟨l, rfl, h⟩ := h
  refine ⟨l, rfl, h.imp (S _ _) (Or.imp (fun ⟨i, z, e⟩ => ⟨i, z, S _ _ e⟩) fun ⟨q, i, z, e, f⟩ => ⟨q, i, z, S _ _ e, S _ _ f⟩)⟩
theorem KdN.same {H H' : Hp} {v : V} (S : Same H H') (h : KdN H v) : KdN H' v :=
  h.imp id (Or.imp id (Or.imp id (Or.imp id (Or.imp (fun ⟨l, xs, e, f⟩ => ⟨l, xs, e, S _ _ f⟩) fun ⟨l, xs, e, f⟩ => ⟨l, xs, e, S _ _ f⟩))))
theorem KdN.ty {K : PySem.W.Frag} {H : Hp} {v : V} (h : KdN H v) : ∃ t, TyX K H v t ∧ PySem.W.kitOne K t (.type "list") = some false := by
  rcases h with ⟨i, rfl⟩ | rfl | ⟨b, rfl⟩ | ⟨z, rfl⟩ | ⟨l, xs, rfl, e⟩ | ⟨l, xs, rfl, e⟩
  · exact ⟨_, .base (.int i), kit_ty (by decide +kernel)⟩
  · exact ⟨_, .base .non, kit_ty (by decide +kernel)⟩
  · exact ⟨_, .base (.bl b), kit_ty (by decide +kernel)⟩
  · exact ⟨_, .base (.str z), kit_ty (by decide +kernel)⟩
  · exact ⟨_, .base (.tup e), kit_ty (by decide +kernel)⟩
  · exact ⟨_, .base (.dK e), kit_ty (by decide +kernel)⟩
theorem KdL.later {H : Hp} {v : V} (h : KdL H v) : ∃ l xs, v = .ref l ∧ H l = some (.lst xs) ∧ xs.length ≤ 5 ∧ Thing (L2.upd H l (.lst (xs ++ [.str "later"]))) v := by
  obtain ⟨l, rfl, e | ⟨i, z, e⟩ | ⟨q, i, z, e, f⟩⟩ := h
  · exact ⟨l, _, rfl, e, by decide, .m0 upd_same⟩
  · exact ⟨l, _, rfl, e, by show 1 ≤ 5; decide, .m1 i z upd_same⟩
  · exact ⟨l, _, rfl, e, by show 2 ≤ 5; decide, .m2 i z upd_same (by rw [upd_ne (ne_of f e (by intro y; cases y))]; exact f)⟩
/-- the number that the menu is made of -/
abbrev M (n : Int) : Int := n.fmod ((10 : Int) ^ (30 : Int).toNat)
def spThing : Sp := fun vs H Q _ => ∃ n a : Int, vs = [.int n, .int a] ∧ ∀ H' v, Same H H' → Thing H' v → KdL H' v ∨ KdN H' v → Q v H'
section
variable {P : Program} {w : World} {K : PySem.W.Frag} {mg : Str → Option Value} {base : Heap} {c : Cs}
theorem scT : FnScope ["_law_cell", "_law_at", "_law_many", "_law_values"] ["_law_cell", "_law_at"] (defScope sThing) := ⟨rfl, rfl, rfl, by decide +kernel, rfl, by decide +kernel, by decide +kernel⟩
theorem ok_thing {f : Addr} {fd : FuncData} (F : Fun K "_law_thing" "_law_thing" sThing f fd) (T : Txt P w K mg base c) : FnOk P w K mg base CX0 1 f fd ["_law_cell", "_law_at"] spThing := by
  refine F.ok scT (fun vs H Q E h => ?_) (fun cdv A outer s H vs Q E hr h => ?_)
  · obtain ⟨n, a, rfl, _⟩ := h
    rfl
  · obtain ⟨n, a, rfl, k⟩ := h
    refine ⟨_, pss_cons (ps_set (i := 2) scT.nd rfl (Or.inl rfl) (pe_op op_modN (pe_callTy call_int1 (by rfl) T.int_ (by decide +kernel) (pa_cons (pv 0) pa_nil)) (pe_op op_pow pe_int pe_int)))
      (pss_cons (ps_set (i := 3) scT.nd rfl (Or.inl rfl) (pe_lstS (pa_cons (pv 2) (pa_cons (pe_op op_sub pe_int (pv 2)) (pa_cons pe_non (pa_cons pe_bl (pa_cons pe_bl (pa_cons pe_str (pa_cons (pe_op op_mul_str pe_str (pe_op op_modN (pv 2) pe_int)) (pa_cons (pe_lstS pa_nil) (pa_cons (pe_lstS (pa_cons (pv 2) pa_nil)) (pa_cons (pe_tupS pa_nil) (pa_cons (pe_tupS (pa_cons (pv 2) (pa_cons pe_str pa_nil))) pa_nil)))))))))))))
      (pss_cons (ps_set (i := 3) scT.nd rfl (Or.inl rfl) (pe_op op_catS (pv 3) (pe_lstS (pa_cons pe_dnewS (pa_cons (pe_disp (pps_cons pe_str (pv 2) pps_nil) (by rfl) (by rfl) (fun z => by cases z) (by decide)) (pa_cons (pe_lstS (pa_cons (pe_lstS (pa_cons (pv 2) pa_nil)) (pa_cons pe_non pa_nil))) (pa_cons pe_str pa_nil)))))))
      (pss_one (ps_ret (pe_ix ix_list (pv 3) (pe_op op_modN (pe_op op_add (pv 2) (pv 1)) (pe_callB call_len_seq (by rfl) T.len PySem.boot_len (pa_cons (pv 3) pa_nil))) (fun _ _ => rfl)))))), ?_⟩
    refine ⟨_, rfl, .inl ⟨n, rfl, _, _, rfl, rfl, ⟨by decide, by decide, by decide⟩, _, _, rfl, rfl, (by show ((10 : Int) ^ (30 : Int).toNat) ≠ 0; decide), ?_⟩⟩
    have m0 : 0 ≤ M n := Int.fmod_nonneg_of_pos _ (by decide)
    have m1 : M n < (10 : Int) ^ (30 : Int).toNat := Int.fmod_lt_of_pos _ (by decide)
    have mb : (M n).natAbs < 10 ^ 30 := by
      have e : ((10 : Int) ^ (30 : Int).toNat) = 1000000000000000000000000000000 := by decide
      rw [e] at m1
      show (M n).natAbs < 1000000000000000000000000000000
      omega
    have mn : (0 - (M n)).natAbs < 10 ^ 30 := by
      have e : (0 - (M n)).natAbs = (M n).natAbs := by omega
      rw [e]
      exact mb
    have z0 : 0 ≤ (M n).fmod 5 := Int.fmod_nonneg_of_pos _ (by decide)
    have z1 : (M n).fmod 5 < 5 := Int.fmod_lt_of_pos _ (by decide)
    have zs : mulS "z" ((M n).fmod 5) ∈ (["", "z", "zz", "zzz", "zzzz", "value"] : List Str) ∧ (mulS "z" ((M n).fmod 5)).length ≤ sizeLine := by
      have five : (M n).fmod 5 = 0 ∨ (M n).fmod 5 = 1 ∨ (M n).fmod 5 = 2 ∨ (M n).fmod 5 = 3 ∨ (M n).fmod 5 = 4 := by omega
      rcases five with e | e | e | e | e <;> rw [e] <;> exact ⟨by decide +kernel, by decide +kernel⟩
    refine ⟨_, rfl, _, rfl, _, _, rfl, rfl, _, rfl, _, _, rfl, rfl, (by show (5 : Int) ≠ 0; decide), "z", (M n).fmod 5, rfl, rfl, z0, by omega, by decide, zs.2, ?_⟩
    refine ⟨Nat.zero_le _, fun p1 H1 S1 n1 h1 => ?_⟩
    refine ⟨_, rfl, (by show 1 ≤ sizeLine; decide), fun p2 H2 S2 n2 h2 => ?_⟩
    refine ⟨Nat.zero_le _, fun p3 H3 S3 n3 h3 => ?_⟩
    refine ⟨_, rfl, (by show 2 ≤ sizeLine; decide), fun p4 H4 S4 n4 h4 => ?_⟩
    refine ⟨(by show 11 ≤ sizeLine; decide), fun p5 H5 S5 n5 h5 => ?_⟩
    refine ⟨_, rfl, fun p6 H6 S6 n6 h6 p7 n7 => ?_⟩
    refine ⟨_, rfl, upd_same, [(.inr "a", .int (M n))], rfl, (by show 1 ≤ 15; decide), ?_⟩
    have S7 : Same H6 (L2.upd (L2.upd H6 p7 (.dK [])) p7 (.dK (mergeK [] [(.inr "a", .int (M n))]))) := by
      rw [upd_upd]
      exact Same.upd n7
    have h7 : (L2.upd (L2.upd H6 p7 (.dK [])) p7 (.dK (mergeK [] [(.inr "a", .int (M n))]))) p7 = some (.dK [(.inr "a", .int (M n))]) := upd_same
    generalize (L2.upd (L2.upd H6 p7 (.dK [])) p7 (.dK (mergeK [] [(.inr "a", .int (M n))]))) = H7 at S7 h7 ⊢
    refine ⟨_, rfl, (by show 1 ≤ sizeLine; decide), fun p8 H8 S8 n8 h8 => ?_⟩
    refine ⟨(by show 2 ≤ sizeLine; decide), fun p9 H9 S9 n9 h9 => ?_⟩
    refine ⟨(by show 4 ≤ sizeLine; decide), fun p10 H10 S10 n10 h10 => ?_⟩
    have S510 := ((((S6.trans S7).trans S8).trans S9).trans S10)
    refine ⟨_, _, _, _, rfl, rfl, S510 _ _ h5, h10, (by show 11 + 4 ≤ sizeLine; decide), fun p11 H11 S11 n11 h11 => ?_⟩
    have j0 : 0 ≤ ((M n) + a).fmod 15 := Int.fmod_nonneg_of_pos _ (by decide)
    have j1 : ((M n) + a).fmod 15 < 15 := Int.fmod_lt_of_pos _ (by decide)
    obtain ⟨t, ht⟩ := Int.eq_ofNat_of_zero_le j0
    have t15 : t < 15 := by omega
    have T10 := S10.trans S11
    have T9 := S9.trans T10
    have T8 := S8.trans T9
    have T7 := S7.trans T8
    have T6 := S6.trans T7
    have T5 := S5.trans T6
    have T4 := S4.trans T5
    have T3 := S3.trans T4
    have T2 := S2.trans T3
    have T1 := S1.trans T2
    have pick : ∃ v, ([V.int (M n), .int (0 - (M n)), .non, .bl true, .bl false, .str "", .str (mulS "z" ((M n).fmod 5)), .ref p1, .ref p2, .ref p3, .ref p4, .ref p6, .ref p7, .ref p9, .str "value"] : List V)[t]? = some v ∧ Thing H11 v ∧ (KdL H11 v ∨ KdN H11 v) := by
      match t, t15 with
      | 0, _ => exact ⟨_, rfl, .int _ mb, .inr (.inl ⟨_, rfl⟩)⟩
      | 1, _ => exact ⟨_, rfl, .int _ mn, .inr (.inl ⟨_, rfl⟩)⟩
      | 2, _ => exact ⟨_, rfl, .non, .inr (.inr (.inl rfl))⟩
      | 3, _ => exact ⟨_, rfl, .bl _, .inr (.inr (.inr (.inl ⟨_, rfl⟩)))⟩
      | 4, _ => exact ⟨_, rfl, .bl _, .inr (.inr (.inr (.inl ⟨_, rfl⟩)))⟩
      | 5, _ => exact ⟨_, rfl, .str _ (by decide +kernel), .inr (.inr (.inr (.inr (.inl ⟨_, rfl⟩))))⟩
      | 6, _ => exact ⟨_, rfl, .str _ zs.1, .inr (.inr (.inr (.inr (.inl ⟨_, rfl⟩))))⟩
      | 7, _ => exact ⟨_, rfl, .l0 (T2 _ _ h1), .inl ⟨_, rfl, .inl (T2 _ _ h1)⟩⟩
      | 8, _ => exact ⟨_, rfl, .l1 (M n) mb (T3 _ _ h2), .inl ⟨_, rfl, .inr (.inl ⟨(M n), mb, T3 _ _ h2⟩)⟩⟩
      | 9, _ => exact ⟨_, rfl, .t0 (T4 _ _ h3), .inr (.inr (.inr (.inr (.inr (.inl ⟨_, _, rfl, T4 _ _ h3⟩)))))⟩
      | 10, _ => exact ⟨_, rfl, .t1 (M n) mb (T5 _ _ h4), .inr (.inr (.inr (.inr (.inr (.inl ⟨_, _, rfl, T5 _ _ h4⟩)))))⟩
      | 11, _ => exact ⟨_, rfl, .d0 (T7 _ _ h6), .inr (.inr (.inr (.inr (.inr (.inr ⟨_, _, rfl, T7 _ _ h6⟩)))))⟩
      | 12, _ => exact ⟨_, rfl, .d1 (M n) mb (T8 _ _ h7), .inr (.inr (.inr (.inr (.inr (.inr ⟨_, _, rfl, T8 _ _ h7⟩)))))⟩
      | 13, _ => exact ⟨_, rfl, .l2 (M n) mb (T10 _ _ h9) (T9 _ _ h8), .inl ⟨_, rfl, .inr (.inr ⟨_, (M n), mb, T10 _ _ h9, T9 _ _ h8⟩)⟩⟩
      | 14, _ => exact ⟨_, rfl, .str _ (by decide +kernel), .inr (.inr (.inr (.inr (.inl ⟨_, rfl⟩))))⟩
      | n + 15, h => omega
    obtain ⟨v, hv, th, kd⟩ := pick
    refine ⟨_, rfl, _, rfl, _, rfl, _, _, rfl, rfl, _, rfl, p11, _, rfl, .inl (SqL.of h11), _, _, rfl, rfl, by show (15 : Int) ≠ 0; decide, p11, _, (t : Int), v, rfl, congrArg V.int ht, SqL.of h11, atI_nat hv, ?_⟩
    exact k _ _ T1 th kd
end
end E1

set_option Elab.async false
set_option linter.all false
set_option maxRecDepth 100000
set_option maxHeartbeats 2000000
namespace E1
open PySem L2
/-- the script: it stands still, whatever is made or changed beside it -/
def ScrAt (K : PySem.W.Frag) (H : Hp) (a : Addr) (xs : List V) : Prop := (∃ o, H a = some (.frz o (.lst xs))) ∨ ∃ (o : Obj) (its : Array Value) (n : Nat), K.lookup a = some o ∧ o.cls = .type "list" ∧ o.dict = none ∧ o.data = .seq its n ∧ its.size ≤ sizeLine ∧ Vals xs its.toList
theorem ScrAt.sq {K : PySem.W.Frag} {H : Hp} {a : Addr} {xs : List V} (h : ScrAt K H a xs) : SqL K H a xs := h.imp (fun h => .inr h) id
theorem ScrAt.same {K : PySem.W.Frag} {H H' : Hp} {a : Addr} {xs : List V} (S : Same H H') (h : ScrAt K H a xs) : ScrAt K H' a xs := h.imp (fun ⟨o, e⟩ => ⟨o, S _ _ e⟩) id
theorem ScrAt.put {K : PySem.W.Frag} {H : Hp} {a l : Addr} {xs ys zs : List V} (hl : H l = some (.lst ys)) (h : ScrAt K H a xs) : ScrAt K (L2.upd H l (.lst zs)) a xs :=
  h.imp (fun ⟨o, e⟩ => ⟨o, by rw [upd_ne (ne_of e hl (by intro z; cases z))]; exact e⟩) id
theorem scr_of {K : PySem.W.Frag} {H : Hp} {a : Addr} {xs : List V} (h : SqL K H a xs) (only : ∀ b u, H b = some u → ∃ o xs, u = .frz o (.lst xs)) : ScrAt K H a xs := by
  rcases h with (h | h) | h
  · obtain ⟨o, ys, e⟩ := only _ _ h
    cases e
  · exact .inl h
  · exact .inr h

theorem cut_len (xs : List V) (lo hi : Option Int) : (cutV xs lo hi).length ≤ xs.length := by
  unfold cutV
  rw [List.length_take, List.length_drop]
  omega
theorem cut_ints (ns : List Int) (lo hi : Option Int) : ∃ ms : List Int, cutV (ns.map V.int) lo hi = ms.map V.int :=
  ⟨(ns.drop (HT.sIx (ns.map V.int).length 0 lo)).take (HT.sIx (ns.map V.int).length (ns.map V.int).length hi - HT.sIx (ns.map V.int).length 0 lo), by unfold cutV; rw [← List.map_drop, ← List.map_take]⟩
theorem ExT.put {H : Hp} {e C l : Addr} {fs : List (Str × V)} {ys : List V} {o : HO} (hl : H l = some (.lst ys)) : ExT H e C fs → ExT (L2.upd H l o) e C fs
  | .own h1 h2 => .own (by rw [upd_ne (ne_of h1 hl (by intro z; cases (show HO.ext _ = HO.lst ys from z)))]; exact h1) (by rw [upd_ne (ne_of h2 hl (by intro z; cases (show HO.ext _ = HO.lst ys from z)))]; exact h2)
  | .bare h => .bare (by rw [upd_ne (ne_of h hl (by intro z; cases (show HO.ext _ = HO.lst ys from z)))]; exact h)
theorem paired_imp {α β : Type} {R S : α → β → Prop} (f : ∀ a b, R a b → S a b) : ∀ {xs : List α} {ys : List β}, Paired R xs ys → Paired S xs ys
  | _, _, .nil => .nil
  | _, _, .cons r t => .cons (f _ _ r) (paired_imp f t)
theorem paired_map {α β γ : Type} {R : α → β → Prop} {S : α → γ → Prop} (g : β → γ) (f : ∀ a b, R a b → S a (g b)) : ∀ {xs : List α} {ys : List β}, Paired R xs ys → Paired S xs (ys.map g)
  | _, _, .nil => .nil
  | _, _, .cons r t => .cons (f _ _ r) (paired_map g f t)
theorem paired_app {α β : Type} {R : α → β → Prop} : ∀ {xs xs' : List α} {ys ys' : List β}, Paired R xs ys → Paired R xs' ys' → Paired R (xs ++ xs') (ys ++ ys')
  | _, _, _, _, .nil, h => h
  | _, _, _, _, .cons r t, h => .cons r (paired_app t h)
theorem lv_rep {d : PyData} (h : d.leavesShort 40 = true) : ∀ n : Nat, PyData.leavesShortAll 40 (List.replicate n d) = true
  | 0 => rfl
  | n + 1 => by
    show (d.leavesShort 40 && PyData.leavesShortAll 40 (List.replicate n d)) = true
    rw [h, lv_rep h n]
    rfl
theorem wt_rep {d : PyData} (h : d.weight ≤ 300) : ∀ n : Nat, PyData.weightAll (List.replicate n d) ≤ n * 301
  | 0 => Nat.le_refl _
  | n + 1 => by
    have ih := wt_rep h n
    show d.weight + 1 + PyData.weightAll (List.replicate n d) ≤ (n + 1) * 301
    omega
theorem size26 {d : PyData} (o : Okd d) : (PyData.list (List.replicate 26 d)).shown.length ≤ sizeLine := by
  have h1 := PyData.shown_le 40 (by decide) (.list (List.replicate 26 d)) (by simpa only [PyData.leavesShort] using lv_rep o.lv 26)
  have h2 := wt_rep o.wt 26
  have h3 : PyData.weight (.list (List.replicate 26 d)) ≤ 26 * 301 := by simpa only [PyData.weight] using h2
  rw [sizeLine_eq]
  omega
/-- if repr(_law_fields(errors) + _law_fields(by_name)) != repr([thing] * 26): return False -/
def tRep (K : PySem.W.Frag) (c : Cs) : TS := tIfS (tTest (tOp rNe (tCB (rReprR K) (tCons (tOp rCatS (tCall (spFields c) [] E0 (tCons (tVar 3) tNil)) (tCall (spFields c) [] E0 (tCons (tVar 4) tNil))) tNil)) (tCB (rReprR K) (tCons (tOp rRepS (tLstS (tCons (tVar 2) tNil)) (tC (.int 26))) tNil))))
  (tRet (tC (.bl false))) tNext
theorem tRep_ok {K : PySem.W.Frag} {c : Cs} {D : Ends} {σ : St} {H : Hp} {v : V} {p q : Addr} {es fs : List Addr} (e2 : σ[2]? = some (some v)) (e3 : σ[3]? = some (some (.ref p))) (e4 : σ[4]? = some (some (.ref q))) (hp : H p = some (.lst (es.map V.ref))) (hq : H q = some (.lst (fs.map V.ref)))
    (xp : Paired (fun e q => ExT H e q.1 [(q.2, v)]) es c.f) (xq : Paired (fun e q => ExT H e q.1 [(q.2, v)]) fs c.f) (th : Thing H v) (k : ∀ H', Same H H' → D.nx σ H') : tRep K c D σ H := by
  obtain ⟨d, sh, ok⟩ := th.shows (K := K)
  refine ⟨_, e3, p, es, v, rfl, hp, xp, fun r1 I1 q1 _ k1 => ?_⟩
  refine ⟨_, e4, q, fs, v, rfl, q1 _ _ hq, paired_imp (fun _ _ h => h.same q1) xq, fun r2 I2 q2 _ k2 => ?_⟩
  refine ⟨r1, r2, _, _, rfl, rfl, q2 _ _ k1, k2, (by show 13 + 13 ≤ sizeLine; decide), fun r3 I3 q3 _ k3 => ?_⟩
  have s3 := (q1.trans q2).trans q3
  refine ⟨r3, 25, v, d, rfl, k3, sh _ s3, ok.sh, ok.dp, size26 ok, ?_⟩
  refine ⟨_, e2, (by show 1 ≤ sizeLine; decide), fun r4 I4 q4 _ k4 => ?_⟩
  refine ⟨r4, 26, [v], rfl, rfl, k4, by decide, by decide, (by show 1 * 26 ≤ sizeLine; decide), fun r5 I5 q5 _ k5 => ?_⟩
  have s5 := (s3.trans q4).trans q5
  refine ⟨r5, 25, v, d, rfl, k5, sh _ s5, ok.sh, ok.dp, size26 ok, rfl, ?_⟩
  refine ⟨false, by rw [decide_eq_true rfl]; rfl, ?_⟩
  exact iteF (k _ s5)
def spLaw (K : PySem.W.Frag) : Sp := fun vs H Q _ => ∃ (a : Addr) (ns : List Int), vs = [.ref a] ∧ ScrAt K H a (ns.map V.int) ∧ ns.length ≤ 63 ∧ ∀ H', Q (.bl true) H'
section
variable {P : Program} {w : World} {K : PySem.W.Frag} {mg : Str → Option Value} {base : Heap} {c : Cs}
theorem scL : FnScope ["_law_script", "_law_at", "_law_thing_here", "_law_errors", "_law_by_name_here", "_law_bare", "_law_some", "_law_field"] ["_law_script"] (defScope sLaw) := ⟨rfl, rfl, rfl, by decide +kernel, rfl, by decide +kernel, by decide +kernel⟩
theorem ok_law {f : Addr} {fd : FuncData} (F : Fun K "law" "law" sLaw f fd) (T : Txt P w K mg base c) (DC : DefOk P w K mg base 1 "_law_classes" ["_law_error"] (spClasses K c)) (DF : DefOk P w K mg base 1 "_law_fields" ["_law_errors"] (spFields c)) (DP : DefOk P w K mg base 2 "_law_placed" ["_law_errors"] (spPlaced c))
    (DT : DefOk P w K mg base 1 "_law_thing" ["_law_cell", "_law_at"] spThing) (DM : DefOk P w K mg base 3 "_law_made" ["_law_thing_here"] (spMade c)) (DN : DefOk P w K mg base 3 "_law_by_name" ["_law_thing_here"] (spMade c)) : FnG P w K mg base 4 f fd ["_law_script"] (spLaw K) := by
  obtain ⟨fC, fdC, gC, kC, GC, bC⟩ := DC.ex
  obtain ⟨fF, fdF, gF, kF, GF, bF⟩ := DF.ex
  obtain ⟨fP, fdP, gP, kP, GP, bP⟩ := DP.ex
  obtain ⟨fT, fdT, gT, kT, GT, bT⟩ := DT.ex
  obtain ⟨fM, fdM, gM, kM, GM, bM⟩ := DM.ex
  obtain ⟨fN, fdN, gN, kN, GN, bN⟩ := DN.ex
  refine F.okG scL (fun vs H Q E h => ?_) (fun cdv A outer s H vs Q E gA hr h => ?_)
  · obtain ⟨a, ns, rfl, _⟩ := h
    rfl
  · obtain ⟨a, ns, rfl, hS, hlen, k⟩ := h
    have h1 : Room 1 (A.deeper (PyProof.Rows.envOfC "law" (defScope sLaw) s.heap.objs.size f cdv)) := hr.mono (by decide)
    have h2 : Room 2 (A.deeper (PyProof.Rows.envOfC "law" (defScope sLaw) s.heap.objs.size f cdv)) := hr.mono (by decide)
    refine ⟨_, pss_cons (ps_if (PW.pt (pw_or (pt_cmpR op_in_seq pe_bl (pe_call GC h1 rfl gC kC bC .nil pass0 (pa_cons (pe_exB T.mb rfl) pa_nil)) (by rfl))
          (pw_or1 (pt_not (pt_val (pe_callB call_isX (by rfl) T.isi (by decide +kernel) (pa_cons (pe_exB T.mb rfl) (pa_cons (pe_bltn (v := .ty "ValueError") (by rfl) T.ve PyProof.Rows.Boot.«ValueError» rfl) pa_nil)))))))) (pss_one (ps_ret pe_bl)) pss_nil)
      (pss_cons (ps_for PassesOwn.never rfl (pi_range1 rfl T.range (pa_cons (pe_callB (call_max2 rfl) (by rfl) T.max_ (by decide +kernel) (pa_cons pe_int (pa_cons (pe_callB call_len_seq (by rfl) T.len PySem.boot_len (pa_cons (pe_slice sl_listS (pv 0) po_none (po_some pe_int)) pa_nil)) pa_nil))) pa_nil)) (pg_name (i := 1) scL.nd rfl (Or.inl rfl))
        (pss_cons (ps_set (i := 2) scL.nd rfl (Or.inl rfl) (pe_call GT h1 rfl gT kT bT .nil pass0 (pa_cons (pe_callB (cr_sum rfl) (by rfl) T.sum_ (by decide +kernel) (pa_cons (pe_slice sl_listS (pv 0) (po_some (pv 1)) (po_some (pe_op op_add (pv 1) pe_int))) pa_nil)) (pa_cons (pv 1) pa_nil))))
        (pss_cons (ps_par (i := 3) (j := 4) (by rfl) scL.nd rfl rfl (by decide) rfl rfl (pa_cons (pe_call GM hr rfl gM kM bM .nil pass0 (pa_cons (pv 2) pa_nil)) (pa_cons (pe_call GN hr rfl gN kN bN .nil pass0 (pa_cons (pv 2) pa_nil)) pa_nil)) (by rfl))
        (pss_cons (ps_set (i := 5) scL.nd rfl (Or.inl rfl) (pe_lstS (pa_cons (pe_ex0 T.m0 h2 rfl) (pa_cons (pe_ex0 T.m1 h2 rfl) (pa_cons (pe_ex0 T.m2 h2 rfl) (pa_cons (pe_ex0 T.m3 h2 rfl) (pa_cons (pe_ex0 T.m4 h2 rfl) (pa_cons (pe_ex0 T.m5 h2 rfl) pa_nil))))))))
        (pss_cons (ps_set (i := 5) scL.nd rfl (Or.inl rfl) (pe_op op_catS (pv 5) (pe_lstS (pa_cons (pe_ex0 T.m6 h2 rfl) (pa_cons (pe_ex0 T.m7 h2 rfl) (pa_cons (pe_ex0 T.m8 h2 rfl) (pa_cons (pe_ex0 T.m9 h2 rfl) (pa_cons (pe_ex0 T.m10 h2 rfl) (pa_cons (pe_ex0 T.m11 h2 rfl) pa_nil)))))))))
        (pss_cons (ps_expr (pe_bm PySem.F.plainAttrs_list PySem.F.slot_list_append PySem.F.type_list_append mt_append (pv 5) (pa_cons (pe_ex0 T.m12 h2 rfl) pa_nil)))
        (pss_cons (ps_for PassesOwn.never rfl (pi_tup (pe_tupS (pa_cons (pv 3) (pa_cons (pv 4) (pa_cons (pv 5) pa_nil))))) (pg_name (i := 6) scL.nd rfl (Or.inl rfl))
          (pss_one (ps_if (pt_not (pt_val (pe_call GP h2 rfl gP kP bP .nil pass0 (pa_cons (pe_op op_catS (pv 6) (pe_lstS (pa_cons (pe_exB T.m13 rfl) (pa_cons (pe_exB T.m14 rfl) (pa_cons (pe_exB T.m15 rfl) pa_nil))))) pa_nil)))) (pss_one (ps_ret pe_bl)) pss_nil)))
        (pss_cons (ps_if (pt_cmpR op_ne (pe_callB (call_reprR gA hr.units) (by rfl) T.repr_ (by decide +kernel) (pa_cons (pe_op op_catS (pe_call GF h1 rfl gF kF bF .nil pass0 (pa_cons (pv 3) pa_nil)) (pe_call GF h1 rfl gF kF bF .nil pass0 (pa_cons (pv 4) pa_nil))) pa_nil))
            (pe_callB (call_reprR gA hr.units) (by rfl) T.repr_ (by decide +kernel) (pa_cons (pe_op op_repS (pe_lstS (pa_cons (pv 2) pa_nil)) pe_int) pa_nil)) (nomark _)) (pss_one (ps_ret pe_bl)) pss_nil)
        (pss_cons (ps_if (pt_cmpR (op_neD hr.units) (pe_lc (own := [("_law_field", 7)]) (g := gName 7) (tt := tTest (tOp (fun x y H Q => y = .non ∧ Q (.bl (!decide (x = .non))) H) (tVar 7) (tC .non))) (te := tVar 7) rfl scL.nd (pi_list (pe_call GF h1 rfl gF kF bF .nil pass0 (pa_cons (pv 5) pa_nil))) (blkOk_by (own := [("_law_field", 7)]) (N := ["_law_script", "_law_at", "_law_thing_here", "_law_errors", "_law_by_name_here", "_law_bare", "_law_some", "_law_field"]) (sc := defScope sLaw) (by decide +kernel))
            (fun _ _ _ _ _ => pg_name (i := 7) scL.nd rfl (Or.inl rfl)) (fun _ _ _ _ _ => by exact (pts_one (pt_cmpR op_notN (pv 7) pe_non (nomark _)))) (fun _ _ _ _ _ => by exact (pv 7))) (pe_lstS pa_nil) (nomark _)) (pss_one (ps_ret pe_bl)) pss_nil)
        (pss_one (ps_if (pt_val (pe_callB call_isi (by rfl) T.isi (by decide +kernel) (pa_cons (pv 2) (pa_cons (pe_bltn (v := .ty "list") (by rfl) T.list_ (by decide +kernel) rfl) pa_nil))))
          (pss_cons (ps_expr (pe_bm PySem.F.plainAttrs_list PySem.F.slot_list_append PySem.F.type_list_append mt_append (pv 2) (pa_cons pe_str pa_nil)))
          (pss_one (ps_if (pt_cmpR op_ne (pe_callB (call_reprR gA hr.units) (by rfl) T.repr_ (by decide +kernel) (pa_cons (pe_op op_catS (pe_call GF h1 rfl gF kF bF .nil pass0 (pa_cons (pv 3) pa_nil)) (pe_call GF h1 rfl gF kF bF .nil pass0 (pa_cons (pv 4) pa_nil))) pa_nil))
            (pe_callB (call_reprR gA hr.units) (by rfl) T.repr_ (by decide +kernel) (pa_cons (pe_op op_repS (pe_lstS (pa_cons (pv 2) pa_nil)) pe_int) pa_nil)) (nomark _)) (pss_one (ps_ret pe_bl)) pss_nil))) pss_nil)))))))))))
      (pss_one (ps_ret pe_bl))), ?_⟩
    refine fun a0 A0 S0 n0 x0 => ?_
    refine ⟨a0, c.b, [], fun _ => false, rfl, x0, T.mb.xc, fun j E hE => T.bn j E hE, fun B0 r0 R0 m0 hr0 => ?_⟩
    refine ⟨r0, _, rfl, .inl (SqL.of hr0), rfl, by decide +kernel, ?_⟩
    refine ⟨false, by decide +kernel, ?_⟩
    refine iteF ?_
    refine fun a1 A1 S1 n1 x1 => ?_
    refine ⟨a1, c.b, [], .ty "ValueError", .type "ValueError", true, rfl, .ty _, x1, T.mb.xc, T.bv, true, rfl, ?_⟩
    refine iteF ?_
    have scr1 := (((hS.same S0).same R0).same S1)
    refine ⟨_, rfl, 20, rfl, a, _, rfl, scr1.sq, fun p2 A2 S2 n2 hp2 => ?_⟩
    have cl : (cutV (ns.map V.int) none (some 20)).length ≤ 63 := Nat.le_trans (cut_len _ _ _) (by rw [List.length_map]; exact hlen)
    refine ⟨p2, _, rfl, .inl (SqL.of hp2), 1, _, rfl, _, rfl, ?_, ?_, ?_⟩
    · split <;> omega
    · split <;> omega
    refine for_it walk_range (fun _ σ H' => (∃ s1 s2 s3 s4 s5 s6, σ = [some (.ref a), s1, s2, s3, s4, s5, s6, none]) ∧ ScrAt K H' a (ns.map V.int)) ⟨⟨_, _, _, _, _, _, rfl⟩, scr1.same S2⟩ (fun _ _ _ _ _ => trivial) ?_ ?_
    · rintro i x σ H1 H1' hi ⟨⟨s1, s2, s3, s4, s5, s6, rfl⟩, scr⟩ ⟨rfl, rfl⟩
      obtain ⟨ms, hms⟩ := cut_ints ns (some (0 + (i : Int))) (some (0 + (i : Int) + 1))
      refine ⟨_, rfl, _, rfl, _, rfl, _, rfl, _, _, rfl, rfl, _, rfl, a, _, rfl, scr.sq, fun p3 A3 S3 n3 hp3 => ?_⟩
      rw [hms] at hp3
      refine ⟨p3, ms, rfl, SqL.of hp3, _, rfl, _, _, rfl, fun B1 v R1 th kd => ?_⟩
      refine ⟨_, rfl, v, rfl, fun B2 p4 es1 R2 n4 h4 x4 => ?_⟩
      refine ⟨_, rfl, v, rfl, fun B3 p5 es2 R3 n5 h5 x5 => ?_⟩
      refine ⟨_, _, rfl, ?_⟩
      refine fun e0 C0 U0 _ y0 e1 C1 U1 _ y1 e2 C2 U2 _ y2 e3 C3 U3 _ y3 e4 C4 U4 _ y4 e5 C5 U5 _ y5 => ?_
      refine ⟨(by show 6 ≤ sizeLine; decide), fun p6 G6 Z6 n6 h6 => ?_⟩
      refine ⟨_, rfl, fun e6 C6 U6 _ y6 e7 C7 U7 _ y7 e8 C8 U8 _ y8 e9 C9 U9 _ y9 e10 C10 U10 _ y10 e11 C11 U11 _ y11 => ?_⟩
      refine ⟨(by show 6 ≤ sizeLine; decide), fun p7 G7 Z7 n7 h7 => ?_⟩
      have W11 := Z7
      have W10 := U11.trans W11
      have W9 := U10.trans W10
      have W8 := U9.trans W9
      have W7 := U8.trans W8
      have W6 := U7.trans W7
      have V6 := U6.trans W6
      have V5 := Z6.trans V6
      have V4 := U5.trans V5
      have V3 := U4.trans V4
      have V2 := U3.trans V3
      have V1 := U2.trans V2
      have V0 := U1.trans V1
      have VV := U0.trans V0
      refine ⟨_, _, _, _, rfl, rfl, V6 _ _ h6, h7, (by show 6 + 6 ≤ sizeLine; decide), fun p8 G8 Z8 n8 h8 => ?_⟩
      refine ⟨_, rfl, .inl ⟨rfl, _, SqL.of h8⟩, fun e12 C12 U12 _ y12 => ?_⟩
      refine ⟨p8, _, .ref e12, rfl, rfl, U12 _ _ h8, (by show 12 < sizeLine; decide), ?_⟩
      have h8' := U12 _ _ h8
      have SG : Same G7 (L2.upd C12 p8 (.lst (([V.ref e0, .ref e1, .ref e2, .ref e3, .ref e4, .ref e5] ++ [V.ref e6, .ref e7, .ref e8, .ref e9, .ref e10, .ref e11]) ++ [.ref e12]))) := fun b o hb => by
        rw [upd_ne (ne_of_none hb n8)]
        exact U12 _ _ (Z8 _ _ hb)
      have y12' := ExT.put (o := .lst (([V.ref e0, .ref e1, .ref e2, .ref e3, .ref e4, .ref e5] ++ [V.ref e6, .ref e7, .ref e8, .ref e9, .ref e10, .ref e11]) ++ [.ref e12])) h8' y12
      have h9 := upd_same (H := C12) (a := p8) (o := .lst (([V.ref e0, .ref e1, .ref e2, .ref e3, .ref e4, .ref e5] ++ [V.ref e6, .ref e7, .ref e8, .ref e9, .ref e10, .ref e11]) ++ [.ref e12]))
      have x9 : Paired (fun e q => ExT (L2.upd C12 p8 (.lst (([V.ref e0, .ref e1, .ref e2, .ref e3, .ref e4, .ref e5] ++ [V.ref e6, .ref e7, .ref e8, .ref e9, .ref e10, .ref e11]) ++ [.ref e12]))) e q.1 [(q.2, .non)]) [e0, e1, e2, e3, e4, e5, e6, e7, e8, e9, e10, e11, e12] c.f :=
        .cons ((y0.same V0).same SG) (.cons ((y1.same V1).same SG) (.cons ((y2.same V2).same SG) (.cons ((y3.same V3).same SG) (.cons ((y4.same V4).same SG) (.cons ((y5.same V5).same SG) (.cons ((y6.same W6).same SG) (.cons ((y7.same W7).same SG) (.cons ((y8.same W8).same SG) (.cons ((y9.same W9).same SG) (.cons ((y10.same W10).same SG) (.cons ((y11.same W11).same SG) (.cons y12' .nil))))))))))))
      generalize (L2.upd C12 p8 (.lst (([V.ref e0, .ref e1, .ref e2, .ref e3, .ref e4, .ref e5] ++ [V.ref e6, .ref e7, .ref e8, .ref e9, .ref e10, .ref e11]) ++ [.ref e12]))) = G9 at SG h9 x9 ⊢
      have q3 := VV.trans SG
      have q2 := R3.trans q3
      have q1 := R2.trans q2
      have scr9 : ScrAt K G9 a (ns.map V.int) := ((scr.same S3).same R1).same q1
      have th9 : Thing G9 v := th.same q1
      have f4 := q2 _ _ h4
      have f5 := q3 _ _ h5
      have g4 : Paired (fun e q => ExT G9 e q.1 [(q.2, v)]) es1 c.f := paired_imp (fun _ _ h => h.same q2) x4
      have g5 : Paired (fun e q => ExT G9 e q.1 [(q.2, v)]) es2 c.f := paired_imp (fun _ _ h => h.same q3) x5
      have kd9 : KdL G9 v ∨ KdN G9 v := kd.imp (fun h => h.same q1) fun h => h.same q1
      refine ⟨_, rfl, _, rfl, _, rfl, (by show 3 ≤ sizeLine; decide), fun t1 J1 b1 m1 hW => ?_⟩
      have key : ∀ (j : Nat) (y : V), ([V.ref p4, .ref p5, .ref p8] : List V)[j]? = some y → ∃ px es, y = .ref px ∧ J1 px = some (.lst (es.map V.ref)) ∧ Paired (fun e C => ∃ fs, ExT J1 e C fs) es (c.f.map (·.1)) := by
        intro j y hj
        match j, hj with
        | 0, hj => cases hj; exact ⟨p4, es1, rfl, b1 _ _ f4, paired_map _ (fun _ _ h => ⟨_, h.same b1⟩) g4⟩
        | 1, hj => cases hj; exact ⟨p5, es2, rfl, b1 _ _ f5, paired_map _ (fun _ _ h => ⟨_, h.same b1⟩) g5⟩
        | 2, hj => cases hj; exact ⟨p8, [e0, e1, e2, e3, e4, e5, e6, e7, e8, e9, e10, e11, e12], rfl, b1 _ _ h9, paired_map _ (fun _ _ h => ⟨_, h.same b1⟩) x9⟩
        | j + 3, hj => cases hj
      refine ⟨t1, rfl, ⟨_, .inl (Rd.of hW)⟩, for_it walk_tup (fun _ σ H' => (∃ z, σ = [some (.ref a), some (.int (0 + (i : Int))), some v, some (.ref p4), some (.ref p5), some (.ref p8), z, none]) ∧ Same J1 H') ⟨⟨_, rfl⟩, Same.refl J1⟩ (fun j σ H' _ hh => .inl (Rd.of (hh.2 _ _ hW))) ?_ ?_⟩
      · rintro j y σ2 H2 H2' hj ⟨⟨z, rfl⟩, q⟩ ⟨rfl, hy⟩
        obtain ⟨px, es, rfl, hpx, hes⟩ := key j y hy
        refine ⟨_, rfl, fun f13 F13 w13 _ z13 f14 F14 w14 _ z14 f15 F15 w15 _ z15 => ?_⟩
        refine ⟨(by show 3 ≤ sizeLine; decide), fun p9 F16 w16 _ h16 => ?_⟩
        have u15 := w15.trans w16
        have u14 := w14.trans u15
        have u13 := w13.trans u14
        have elen : es.length = 13 := hes.length
        refine ⟨px, p9, _, _, rfl, rfl, u13 _ _ (q _ _ hpx), h16, (by rw [List.length_map, elen]; show 13 + 3 ≤ sizeLine; decide), fun p10 F17 w17 n17 h17 => ?_⟩
        have v16 := w16.trans w17
        have v15 := w15.trans v16
        have v14 := w14.trans v15
        have v13 := (q.trans w13).trans v14
        refine ⟨p10, es ++ [f13, f14, f15], rfl, by rw [List.map_append]; exact h17, ?_, fun F18 w18 => ?_⟩
        · have pa : Paired (fun e C => ∃ fs, ExT F17 e C fs) es (c.f.map (·.1)) := paired_imp (fun _ _ h => by obtain ⟨fs, h⟩ := h; exact ⟨fs, h.same v13⟩) hes
          have pz : Paired (fun e C => ∃ fs, ExT F17 e C fs) [f13, f14, f15] [c.c13, c.c14, c.c15] := .cons ⟨_, z13.same v14⟩ (.cons ⟨_, z14.same v15⟩ (.cons ⟨_, z15.same v16⟩ .nil))
          exact paired_app pa pz
        · refine ⟨true, rfl, ?_⟩
          refine iteF ?_
          exact ⟨⟨_, rfl⟩, v13.trans w18⟩
      · rintro σ2 H2 ⟨⟨z, rfl⟩, q⟩
        have d9 := b1.trans q
        refine tRep_ok (v := v) (p := p4) (q := p5) (es := es1) (fs := es2) rfl rfl rfl (d9 _ _ f4) (d9 _ _ f5) (paired_imp (fun _ _ h => h.same d9) g4) (paired_imp (fun _ _ h => h.same d9) g5) (th9.same d9) fun H3 d10 => ?_
        have d11 := d9.trans d10
        refine ⟨_, rfl, p8, [e0, e1, e2, e3, e4, e5, e6, e7, e8, e9, e10, e11, e12], .non, rfl, d11 _ _ h9, paired_imp (fun _ _ h => h.same d11) x9, fun r6 I6 d12 _ k6 => ?_⟩
        refine ⟨r6, rfl, ⟨_, SqL.of k6⟩, fun DD nD => ?_⟩
        refine lc_it walk_list (fun j H' => Same I6 H' ∧ H' DD = some (.lst [])) ⟨Same.upd nD, upd_same⟩ (fun j H' _ hh => SqL.of (hh.1 _ _ k6)) ?_ ?_
        · rintro j y H4 H4' hj hh ⟨rfl, hy⟩
          obtain rfl : y = .non := by
            have hy' : (List.replicate 13 V.non)[j]? = some y := hy
            have := List.mem_of_getElem? hy'
            exact (List.mem_replicate.mp this).2
          refine ⟨rfl, _, rfl, rfl, false, by decide, ?_⟩
          exact iteF hh
        · rintro H4 ⟨d13, hD⟩
          refine ⟨Nat.zero_le _, fun r7 I7 d14 _ k7 => ?_⟩
          refine ⟨.list [], .list [], .lst (SqL.of (d14 _ _ hD)) .nil, .lst (SqL.of k7) .nil, by decide +kernel, by decide +kernel, false, by decide +kernel, ?_⟩
          refine iteF ?_
          have d15 := ((d11.trans d12).trans d13).trans d14
          rcases kd9 with kl | kn
          · obtain ⟨l, xs, rfl, hl, hx5, thl⟩ := (kl.same d15).later
            refine ⟨_, rfl, _, .ty "list", _, .type "list", true, rfl, .ty _, .base (.lst hl), kit_ty (by decide +kernel), true, rfl, ?_⟩
            refine iteT ?_
            refine ⟨_, rfl, .inl ⟨rfl, _, SqL.of hl⟩, l, xs, _, rfl, rfl, hl, Nat.lt_of_le_of_lt hx5 (by decide), ?_⟩
            have nl : ∀ {p : Addr} {es : List Addr}, I7 p = some (.lst (es.map V.ref)) → es.length = 13 → p ≠ l := fun {p es} hp he z => by
              rw [z, hl] at hp
              injection hp with hp
              injection hp with hp
              rw [hp, List.length_map, he] at hx5
              omega
            refine tRep_ok (v := .ref l) (p := p4) (q := p5) (es := es1) (fs := es2) rfl rfl rfl (by rw [upd_ne (nl (d15 _ _ f4) g4.length)]; exact d15 _ _ f4) (by rw [upd_ne (nl (d15 _ _ f5) g5.length)]; exact d15 _ _ f5)
              (paired_imp (fun _ _ h => ExT.put hl (h.same d15)) g4) (paired_imp (fun _ _ h => ExT.put hl (h.same d15)) g5) thl fun H8 d16 => ?_
            exact ⟨⟨_, _, _, _, _, _, rfl⟩, ((scr9.same d15).put hl).same d16⟩
          · obtain ⟨t, ty, hk⟩ := (kn.same d15).ty (K := K)
            refine ⟨_, rfl, v, .ty "list", t, .type "list", false, rfl, .ty _, ty, hk, false, rfl, ?_⟩
            refine iteF ?_
            exact ⟨⟨_, _, _, _, _, _, rfl⟩, scr9.same d15⟩
    · rintro σ H1 ⟨⟨s1, s2, s3, s4, s5, s6, rfl⟩, scr⟩
      exact k _
end
end E1

set_option Elab.async false
set_option linter.all false
set_option maxRecDepth 100000
set_option maxHeartbeats 2000000
namespace E1
open PySem L2
theorem bare_mk {K : PySem.W.Frag} {h : Heap} {mg : Str → Option Value} {x : Str} {C : Addr} {bm : List Value} (X : K.In h) (G : h.Ns mainGlobals mg) (F : ExcBaseFacts "ValueError" "ValueError.__new__" "ValueError.__init__" bm) (a : PySem.W.nsIn K mainGlobals x = some (some (.ref C))) (xe : xcB K C = true) (k : PySem.W.keepIn K (.ref C) = true) (q : PySem.W.excIn K C bm "ValueError.__new__" = true) : ExB K mg x C :=
  ⟨PySem.W.mg_of X G a, xc_of xe, k, bm, F, q⟩
section
variable {P : Program} {w : World} {K : PySem.W.Frag} {h base : Heap} {mg : Str → Option Value} {C f T : Addr} {od an od2 : Option Addr} {sl sl2 : Array (Option Value)} {oc kV doc pm cd ct oc2 : Value} {n : Nat}
abbrev sI0 : Stmt := inClass (top 2) 0
theorem mk0 (X : K.In h) (G : h.Ns mainGlobals mg) (a : PySem.W.nsIn K mainGlobals "InvalidText" = some (some (.ref C))) (i : PySem.W.findIn K (.ref C) "__init__" = some (some (.ref f))) (t : PySem.W.typeIn K (.ref f) = some (.type "function"))
    (l : K.lookup f = some ⟨oc, od, .func (PySem.W.fnOf "__init__" "InvalidText.__init__" (defArgs sI0) (defBody sI0) (defScope sI0) (.ref T) kV doc pm an cd ct), sl⟩) (c : PySem.W.codeIn K cd "InvalidText.__init__" = true) (d : K.lookup T = some ⟨oc2, od2, .seq #[.none] n, sl2⟩) (k : PySem.W.keepIn K (.ref f) = true)
    (oe : oexB K C = true) (xe : xcB K C = true) (nf : PySem.W.findIn K (.ref C) "value" = some none) : ExM P w K mg base "InvalidText" C "value" :=
  exm_value (PySem.W.mg_of X G a) (oex_of oe) (xc_of xe) nf i t ⟨⟨oc, od, .ref T, kV, doc, pm, an, cd, ct, sl, rfl, l, c, .inr ⟨by simp, T, _, [.none], n, rfl, d, rfl, .cons rfl .nil⟩, .inl rfl⟩, k⟩
abbrev sI1 : Stmt := inClass (top 3) 0
theorem mk1 (X : K.In h) (G : h.Ns mainGlobals mg) (a : PySem.W.nsIn K mainGlobals "InvalidForm" = some (some (.ref C))) (i : PySem.W.findIn K (.ref C) "__init__" = some (some (.ref f))) (t : PySem.W.typeIn K (.ref f) = some (.type "function"))
    (l : K.lookup f = some ⟨oc, od, .func (PySem.W.fnOf "__init__" "InvalidForm.__init__" (defArgs sI1) (defBody sI1) (defScope sI1) (.ref T) kV doc pm an cd ct), sl⟩) (c : PySem.W.codeIn K cd "InvalidForm.__init__" = true) (d : K.lookup T = some ⟨oc2, od2, .seq #[.none] n, sl2⟩) (k : PySem.W.keepIn K (.ref f) = true)
    (oe : oexB K C = true) (xe : xcB K C = true) (nf : PySem.W.findIn K (.ref C) "value" = some none) : ExM P w K mg base "InvalidForm" C "value" :=
  exm_value (PySem.W.mg_of X G a) (oex_of oe) (xc_of xe) nf i t ⟨⟨oc, od, .ref T, kV, doc, pm, an, cd, ct, sl, rfl, l, c, .inr ⟨by simp, T, _, [.none], n, rfl, d, rfl, .cons rfl .nil⟩, .inl rfl⟩, k⟩
abbrev sI2 : Stmt := inClass (top 4) 0
theorem mk2 (X : K.In h) (G : h.Ns mainGlobals mg) (a : PySem.W.nsIn K mainGlobals "InvalidLetter" = some (some (.ref C))) (i : PySem.W.findIn K (.ref C) "__init__" = some (some (.ref f))) (t : PySem.W.typeIn K (.ref f) = some (.type "function"))
    (l : K.lookup f = some ⟨oc, od, .func (PySem.W.fnOf "__init__" "InvalidLetter.__init__" (defArgs sI2) (defBody sI2) (defScope sI2) (.ref T) kV doc pm an cd ct), sl⟩) (c : PySem.W.codeIn K cd "InvalidLetter.__init__" = true) (d : K.lookup T = some ⟨oc2, od2, .seq #[.none] n, sl2⟩) (k : PySem.W.keepIn K (.ref f) = true)
    (oe : oexB K C = true) (xe : xcB K C = true) (nf : PySem.W.findIn K (.ref C) "value" = some none) : ExM P w K mg base "InvalidLetter" C "value" :=
  exm_value (PySem.W.mg_of X G a) (oex_of oe) (xc_of xe) nf i t ⟨⟨oc, od, .ref T, kV, doc, pm, an, cd, ct, sl, rfl, l, c, .inr ⟨by simp, T, _, [.none], n, rfl, d, rfl, .cons rfl .nil⟩, .inl rfl⟩, k⟩
abbrev sI3 : Stmt := inClass (top 5) 0
theorem mk3 (X : K.In h) (G : h.Ns mainGlobals mg) (a : PySem.W.nsIn K mainGlobals "InvalidNumber" = some (some (.ref C))) (i : PySem.W.findIn K (.ref C) "__init__" = some (some (.ref f))) (t : PySem.W.typeIn K (.ref f) = some (.type "function"))
    (l : K.lookup f = some ⟨oc, od, .func (PySem.W.fnOf "__init__" "InvalidNumber.__init__" (defArgs sI3) (defBody sI3) (defScope sI3) (.ref T) kV doc pm an cd ct), sl⟩) (c : PySem.W.codeIn K cd "InvalidNumber.__init__" = true) (d : K.lookup T = some ⟨oc2, od2, .seq #[.none] n, sl2⟩) (k : PySem.W.keepIn K (.ref f) = true)
    (oe : oexB K C = true) (xe : xcB K C = true) (nf : PySem.W.findIn K (.ref C) "value" = some none) : ExM P w K mg base "InvalidNumber" C "value" :=
  exm_value (PySem.W.mg_of X G a) (oex_of oe) (xc_of xe) nf i t ⟨⟨oc, od, .ref T, kV, doc, pm, an, cd, ct, sl, rfl, l, c, .inr ⟨by simp, T, _, [.none], n, rfl, d, rfl, .cons rfl .nil⟩, .inl rfl⟩, k⟩
abbrev sI4 : Stmt := inClass (top 6) 0
theorem mk4 (X : K.In h) (G : h.Ns mainGlobals mg) (a : PySem.W.nsIn K mainGlobals "InvalidLoops" = some (some (.ref C))) (i : PySem.W.findIn K (.ref C) "__init__" = some (some (.ref f))) (t : PySem.W.typeIn K (.ref f) = some (.type "function"))
    (l : K.lookup f = some ⟨oc, od, .func (PySem.W.fnOf "__init__" "InvalidLoops.__init__" (defArgs sI4) (defBody sI4) (defScope sI4) (.ref T) kV doc pm an cd ct), sl⟩) (c : PySem.W.codeIn K cd "InvalidLoops.__init__" = true) (d : K.lookup T = some ⟨oc2, od2, .seq #[.none] n, sl2⟩) (k : PySem.W.keepIn K (.ref f) = true)
    (oe : oexB K C = true) (xe : xcB K C = true) (nf : PySem.W.findIn K (.ref C) "value" = some none) : ExM P w K mg base "InvalidLoops" C "value" :=
  exm_value (PySem.W.mg_of X G a) (oex_of oe) (xc_of xe) nf i t ⟨⟨oc, od, .ref T, kV, doc, pm, an, cd, ct, sl, rfl, l, c, .inr ⟨by simp, T, _, [.none], n, rfl, d, rfl, .cons rfl .nil⟩, .inl rfl⟩, k⟩
abbrev sI5 : Stmt := inClass (top 8) 0
theorem mk5 (X : K.In h) (G : h.Ns mainGlobals mg) (a : PySem.W.nsIn K mainGlobals "InvalidShape" = some (some (.ref C))) (i : PySem.W.findIn K (.ref C) "__init__" = some (some (.ref f))) (t : PySem.W.typeIn K (.ref f) = some (.type "function"))
    (l : K.lookup f = some ⟨oc, od, .func (PySem.W.fnOf "__init__" "InvalidShape.__init__" (defArgs sI5) (defBody sI5) (defScope sI5) (.ref T) kV doc pm an cd ct), sl⟩) (c : PySem.W.codeIn K cd "InvalidShape.__init__" = true) (d : K.lookup T = some ⟨oc2, od2, .seq #[.none] n, sl2⟩) (k : PySem.W.keepIn K (.ref f) = true)
    (oe : oexB K C = true) (xe : xcB K C = true) (nf : PySem.W.findIn K (.ref C) "value" = some none) : ExM P w K mg base "InvalidShape" C "value" :=
  exm_value (PySem.W.mg_of X G a) (oex_of oe) (xc_of xe) nf i t ⟨⟨oc, od, .ref T, kV, doc, pm, an, cd, ct, sl, rfl, l, c, .inr ⟨by simp, T, _, [.none], n, rfl, d, rfl, .cons rfl .nil⟩, .inl rfl⟩, k⟩
abbrev sI6 : Stmt := inClass (top 10) 0
theorem mk6 (X : K.In h) (G : h.Ns mainGlobals mg) (a : PySem.W.nsIn K mainGlobals "InvalidValues" = some (some (.ref C))) (i : PySem.W.findIn K (.ref C) "__init__" = some (some (.ref f))) (t : PySem.W.typeIn K (.ref f) = some (.type "function"))
    (l : K.lookup f = some ⟨oc, od, .func (PySem.W.fnOf "__init__" "InvalidValues.__init__" (defArgs sI6) (defBody sI6) (defScope sI6) (.ref T) kV doc pm an cd ct), sl⟩) (c : PySem.W.codeIn K cd "InvalidValues.__init__" = true) (d : K.lookup T = some ⟨oc2, od2, .seq #[.none] n, sl2⟩) (k : PySem.W.keepIn K (.ref f) = true)
    (oe : oexB K C = true) (xe : xcB K C = true) (nf : PySem.W.findIn K (.ref C) "value" = some none) : ExM P w K mg base "InvalidValues" C "value" :=
  exm_value (PySem.W.mg_of X G a) (oex_of oe) (xc_of xe) nf i t ⟨⟨oc, od, .ref T, kV, doc, pm, an, cd, ct, sl, rfl, l, c, .inr ⟨by simp, T, _, [.none], n, rfl, d, rfl, .cons rfl .nil⟩, .inl rfl⟩, k⟩
abbrev sI7 : Stmt := inClass (top 11) 0
theorem mk7 (X : K.In h) (G : h.Ns mainGlobals mg) (a : PySem.W.nsIn K mainGlobals "InvalidCell" = some (some (.ref C))) (i : PySem.W.findIn K (.ref C) "__init__" = some (some (.ref f))) (t : PySem.W.typeIn K (.ref f) = some (.type "function"))
    (l : K.lookup f = some ⟨oc, od, .func (PySem.W.fnOf "__init__" "InvalidCell.__init__" (defArgs sI7) (defBody sI7) (defScope sI7) (.ref T) kV doc pm an cd ct), sl⟩) (c : PySem.W.codeIn K cd "InvalidCell.__init__" = true) (d : K.lookup T = some ⟨oc2, od2, .seq #[.none] n, sl2⟩) (k : PySem.W.keepIn K (.ref f) = true)
    (oe : oexB K C = true) (xe : xcB K C = true) (nf : PySem.W.findIn K (.ref C) "value" = some none) : ExM P w K mg base "InvalidCell" C "value" :=
  exm_value (PySem.W.mg_of X G a) (oex_of oe) (xc_of xe) nf i t ⟨⟨oc, od, .ref T, kV, doc, pm, an, cd, ct, sl, rfl, l, c, .inr ⟨by simp, T, _, [.none], n, rfl, d, rfl, .cons rfl .nil⟩, .inl rfl⟩, k⟩
abbrev sI8 : Stmt := inClass (top 12) 0
theorem mk8 (X : K.In h) (G : h.Ns mainGlobals mg) (a : PySem.W.nsIn K mainGlobals "InvalidSides" = some (some (.ref C))) (i : PySem.W.findIn K (.ref C) "__init__" = some (some (.ref f))) (t : PySem.W.typeIn K (.ref f) = some (.type "function"))
    (l : K.lookup f = some ⟨oc, od, .func (PySem.W.fnOf "__init__" "InvalidSides.__init__" (defArgs sI8) (defBody sI8) (defScope sI8) (.ref T) kV doc pm an cd ct), sl⟩) (c : PySem.W.codeIn K cd "InvalidSides.__init__" = true) (d : K.lookup T = some ⟨oc2, od2, .seq #[.none] n, sl2⟩) (k : PySem.W.keepIn K (.ref f) = true)
    (oe : oexB K C = true) (xe : xcB K C = true) (nf : PySem.W.findIn K (.ref C) "value" = some none) : ExM P w K mg base "InvalidSides" C "value" :=
  exm_value (PySem.W.mg_of X G a) (oex_of oe) (xc_of xe) nf i t ⟨⟨oc, od, .ref T, kV, doc, pm, an, cd, ct, sl, rfl, l, c, .inr ⟨by simp, T, _, [.none], n, rfl, d, rfl, .cons rfl .nil⟩, .inl rfl⟩, k⟩
abbrev sI9 : Stmt := inClass (top 13) 0
theorem mk9 (X : K.In h) (G : h.Ns mainGlobals mg) (a : PySem.W.nsIn K mainGlobals "InvalidTable" = some (some (.ref C))) (i : PySem.W.findIn K (.ref C) "__init__" = some (some (.ref f))) (t : PySem.W.typeIn K (.ref f) = some (.type "function"))
    (l : K.lookup f = some ⟨oc, od, .func (PySem.W.fnOf "__init__" "InvalidTable.__init__" (defArgs sI9) (defBody sI9) (defScope sI9) (.ref T) kV doc pm an cd ct), sl⟩) (c : PySem.W.codeIn K cd "InvalidTable.__init__" = true) (d : K.lookup T = some ⟨oc2, od2, .seq #[.none] n, sl2⟩) (k : PySem.W.keepIn K (.ref f) = true)
    (oe : oexB K C = true) (xe : xcB K C = true) (nf : PySem.W.findIn K (.ref C) "value" = some none) : ExM P w K mg base "InvalidTable" C "value" :=
  exm_value (PySem.W.mg_of X G a) (oex_of oe) (xc_of xe) nf i t ⟨⟨oc, od, .ref T, kV, doc, pm, an, cd, ct, sl, rfl, l, c, .inr ⟨by simp, T, _, [.none], n, rfl, d, rfl, .cons rfl .nil⟩, .inl rfl⟩, k⟩
abbrev sI10 : Stmt := inClass (top 14) 0
theorem mk10 (X : K.In h) (G : h.Ns mainGlobals mg) (a : PySem.W.nsIn K mainGlobals "InvalidWalk" = some (some (.ref C))) (i : PySem.W.findIn K (.ref C) "__init__" = some (some (.ref f))) (t : PySem.W.typeIn K (.ref f) = some (.type "function"))
    (l : K.lookup f = some ⟨oc, od, .func (PySem.W.fnOf "__init__" "InvalidWalk.__init__" (defArgs sI10) (defBody sI10) (defScope sI10) (.ref T) kV doc pm an cd ct), sl⟩) (c : PySem.W.codeIn K cd "InvalidWalk.__init__" = true) (d : K.lookup T = some ⟨oc2, od2, .seq #[.none] n, sl2⟩) (k : PySem.W.keepIn K (.ref f) = true)
    (oe : oexB K C = true) (xe : xcB K C = true) (nf : PySem.W.findIn K (.ref C) "value" = some none) : ExM P w K mg base "InvalidWalk" C "value" :=
  exm_value (PySem.W.mg_of X G a) (oex_of oe) (xc_of xe) nf i t ⟨⟨oc, od, .ref T, kV, doc, pm, an, cd, ct, sl, rfl, l, c, .inr ⟨by simp, T, _, [.none], n, rfl, d, rfl, .cons rfl .nil⟩, .inl rfl⟩, k⟩
abbrev sI11 : Stmt := inClass (top 7) 0
theorem mk11 (X : K.In h) (G : h.Ns mainGlobals mg) (a : PySem.W.nsIn K mainGlobals "ShortLoop" = some (some (.ref C))) (i : PySem.W.findIn K (.ref C) "__init__" = some (some (.ref f))) (t : PySem.W.typeIn K (.ref f) = some (.type "function"))
    (l : K.lookup f = some ⟨oc, od, .func (PySem.W.fnOf "__init__" "ShortLoop.__init__" (defArgs sI11) (defBody sI11) (defScope sI11) (.ref T) kV doc pm an cd ct), sl⟩) (c : PySem.W.codeIn K cd "ShortLoop.__init__" = true) (d : K.lookup T = some ⟨oc2, od2, .seq #[.none] n, sl2⟩) (k : PySem.W.keepIn K (.ref f) = true)
    (oe : oexB K C = true) (xe : xcB K C = true) (nf : PySem.W.findIn K (.ref C) "name" = some none) : ExM P w K mg base "ShortLoop" C "name" :=
  exm_name (PySem.W.mg_of X G a) (oex_of oe) (xc_of xe) nf i t ⟨⟨oc, od, .ref T, kV, doc, pm, an, cd, ct, sl, rfl, l, c, .inr ⟨by simp, T, _, [.none], n, rfl, d, rfl, .cons rfl .nil⟩, .inl rfl⟩, k⟩
abbrev sI12 : Stmt := inClass (top 16) 0
theorem mk12 (X : K.In h) (G : h.Ns mainGlobals mg) (a : PySem.W.nsIn K mainGlobals "NoRoom" = some (some (.ref C))) (i : PySem.W.findIn K (.ref C) "__init__" = some (some (.ref f))) (t : PySem.W.typeIn K (.ref f) = some (.type "function"))
    (l : K.lookup f = some ⟨oc, od, .func (PySem.W.fnOf "__init__" "NoRoom.__init__" (defArgs sI12) (defBody sI12) (defScope sI12) (.ref T) kV doc pm an cd ct), sl⟩) (c : PySem.W.codeIn K cd "NoRoom.__init__" = true) (d : K.lookup T = some ⟨oc2, od2, .seq #[.none] n, sl2⟩) (k : PySem.W.keepIn K (.ref f) = true)
    (oe : oexB K C = true) (xe : xcB K C = true) (nf : PySem.W.findIn K (.ref C) "place" = some none) : ExM P w K mg base "NoRoom" C "place" :=
  exm_place (PySem.W.mg_of X G a) (oex_of oe) (xc_of xe) nf i t ⟨⟨oc, od, .ref T, kV, doc, pm, an, cd, ct, sl, rfl, l, c, .inr ⟨by simp, T, _, [.none], n, rfl, d, rfl, .cons rfl .nil⟩, .inl rfl⟩, k⟩
end
theorem all_mk {l : PySem.W.OpenLaw} {w : World} {K : PySem.W.Frag} {h : Heap} {mg : Str → Option Value} {fa Cb C0 C1 C2 C3 C4 C5 C6 C7 C8 C9 C10 C11 C12 C13 C14 C15 : Addr} {bm : List Value} (X : K.In h) (G : h.Ns mainGlobals mg) (hfa : mg "law" = some (.ref fa)) (FB : ExcBaseFacts "ValueError" "ValueError.__new__" "ValueError.__init__" bm)
    {f0 T0 : Addr} {od0 an0 oe0 : Option Addr} {sl0 sm0 : Array (Option Value)} {oc0 kV0 dc0 pm0 cd0 ct0 ob0 : Value} {n0 : Nat}
    {f1 T1 : Addr} {od1 an1 oe1 : Option Addr} {sl1 sm1 : Array (Option Value)} {oc1 kV1 dc1 pm1 cd1 ct1 ob1 : Value} {n1 : Nat}
    {f2 T2 : Addr} {od2 an2 oe2 : Option Addr} {sl2 sm2 : Array (Option Value)} {oc2 kV2 dc2 pm2 cd2 ct2 ob2 : Value} {n2 : Nat}
    {f3 T3 : Addr} {od3 an3 oe3 : Option Addr} {sl3 sm3 : Array (Option Value)} {oc3 kV3 dc3 pm3 cd3 ct3 ob3 : Value} {n3 : Nat}
    {f4 T4 : Addr} {od4 an4 oe4 : Option Addr} {sl4 sm4 : Array (Option Value)} {oc4 kV4 dc4 pm4 cd4 ct4 ob4 : Value} {n4 : Nat}
    {f5 T5 : Addr} {od5 an5 oe5 : Option Addr} {sl5 sm5 : Array (Option Value)} {oc5 kV5 dc5 pm5 cd5 ct5 ob5 : Value} {n5 : Nat}
    {f6 T6 : Addr} {od6 an6 oe6 : Option Addr} {sl6 sm6 : Array (Option Value)} {oc6 kV6 dc6 pm6 cd6 ct6 ob6 : Value} {n6 : Nat}
    {f7 T7 : Addr} {od7 an7 oe7 : Option Addr} {sl7 sm7 : Array (Option Value)} {oc7 kV7 dc7 pm7 cd7 ct7 ob7 : Value} {n7 : Nat}
    {f8 T8 : Addr} {od8 an8 oe8 : Option Addr} {sl8 sm8 : Array (Option Value)} {oc8 kV8 dc8 pm8 cd8 ct8 ob8 : Value} {n8 : Nat}
    {f9 T9 : Addr} {od9 an9 oe9 : Option Addr} {sl9 sm9 : Array (Option Value)} {oc9 kV9 dc9 pm9 cd9 ct9 ob9 : Value} {n9 : Nat}
    {f10 T10 : Addr} {od10 an10 oe10 : Option Addr} {sl10 sm10 : Array (Option Value)} {oc10 kV10 dc10 pm10 cd10 ct10 ob10 : Value} {n10 : Nat}
    {f11 T11 : Addr} {od11 an11 oe11 : Option Addr} {sl11 sm11 : Array (Option Value)} {oc11 kV11 dc11 pm11 cd11 ct11 ob11 : Value} {n11 : Nat}
    {f12 T12 : Addr} {od12 an12 oe12 : Option Addr} {sl12 sm12 : Array (Option Value)} {oc12 kV12 dc12 pm12 cd12 ct12 ob12 : Value} {n12 : Nat}
    {fClasses : Addr} {odClasses anClasses : Option Addr} {slClasses : Array (Option Value)} {ocClasses kVClasses dcClasses pmClasses cdClasses ctClasses : Value}
    {fFields : Addr} {odFields anFields : Option Addr} {slFields : Array (Option Value)} {ocFields kVFields dcFields pmFields cdFields ctFields : Value}
    {fPlaced : Addr} {odPlaced anPlaced : Option Addr} {slPlaced : Array (Option Value)} {ocPlaced kVPlaced dcPlaced pmPlaced cdPlaced ctPlaced : Value}
    {fThing : Addr} {odThing anThing : Option Addr} {slThing : Array (Option Value)} {ocThing kVThing dcThing pmThing cdThing ctThing : Value}
    {fMade : Addr} {odMade anMade : Option Addr} {slMade : Array (Option Value)} {ocMade kVMade dcMade pmMade cdMade ctMade : Value}
    {fByName : Addr} {odByName anByName : Option Addr} {slByName : Array (Option Value)} {ocByName kVByName dcByName pmByName cdByName ctByName : Value}
    {fLaw : Addr} {odLaw anLaw : Option Addr} {slLaw : Array (Option Value)} {ocLaw kVLaw dcLaw pmLaw cdLaw ctLaw : Value}
    (a0 : PySem.W.nsIn K mainGlobals "InvalidText" = some (some (.ref C0)))
    (i0 : PySem.W.findIn K (.ref C0) "__init__" = some (some (.ref f0)))
    (t0 : PySem.W.typeIn K (.ref f0) = some (.type "function"))
    (l0 : K.lookup f0 = some ⟨oc0, od0, .func (PySem.W.fnOf "__init__" "InvalidText.__init__" (defArgs sI0) (defBody sI0) (defScope sI0) (.ref T0) kV0 dc0 pm0 an0 cd0 ct0), sl0⟩)
    (c0 : PySem.W.codeIn K cd0 "InvalidText.__init__" = true)
    (d0 : K.lookup T0 = some ⟨ob0, oe0, .seq #[.none] n0, sm0⟩)
    (k0 : PySem.W.keepIn K (.ref f0) = true)
    (nf0 : PySem.W.findIn K (.ref C0) "value" = some none)
    (a1 : PySem.W.nsIn K mainGlobals "InvalidForm" = some (some (.ref C1)))
    (i1 : PySem.W.findIn K (.ref C1) "__init__" = some (some (.ref f1)))
    (t1 : PySem.W.typeIn K (.ref f1) = some (.type "function"))
    (l1 : K.lookup f1 = some ⟨oc1, od1, .func (PySem.W.fnOf "__init__" "InvalidForm.__init__" (defArgs sI1) (defBody sI1) (defScope sI1) (.ref T1) kV1 dc1 pm1 an1 cd1 ct1), sl1⟩)
    (c1 : PySem.W.codeIn K cd1 "InvalidForm.__init__" = true)
    (d1 : K.lookup T1 = some ⟨ob1, oe1, .seq #[.none] n1, sm1⟩)
    (k1 : PySem.W.keepIn K (.ref f1) = true)
    (nf1 : PySem.W.findIn K (.ref C1) "value" = some none)
    (a2 : PySem.W.nsIn K mainGlobals "InvalidLetter" = some (some (.ref C2)))
    (i2 : PySem.W.findIn K (.ref C2) "__init__" = some (some (.ref f2)))
    (t2 : PySem.W.typeIn K (.ref f2) = some (.type "function"))
    (l2 : K.lookup f2 = some ⟨oc2, od2, .func (PySem.W.fnOf "__init__" "InvalidLetter.__init__" (defArgs sI2) (defBody sI2) (defScope sI2) (.ref T2) kV2 dc2 pm2 an2 cd2 ct2), sl2⟩)
    (c2 : PySem.W.codeIn K cd2 "InvalidLetter.__init__" = true)
    (d2 : K.lookup T2 = some ⟨ob2, oe2, .seq #[.none] n2, sm2⟩)
    (k2 : PySem.W.keepIn K (.ref f2) = true)
    (nf2 : PySem.W.findIn K (.ref C2) "value" = some none)
    (a3 : PySem.W.nsIn K mainGlobals "InvalidNumber" = some (some (.ref C3)))
    (i3 : PySem.W.findIn K (.ref C3) "__init__" = some (some (.ref f3)))
    (t3 : PySem.W.typeIn K (.ref f3) = some (.type "function"))
    (l3 : K.lookup f3 = some ⟨oc3, od3, .func (PySem.W.fnOf "__init__" "InvalidNumber.__init__" (defArgs sI3) (defBody sI3) (defScope sI3) (.ref T3) kV3 dc3 pm3 an3 cd3 ct3), sl3⟩)
    (c3 : PySem.W.codeIn K cd3 "InvalidNumber.__init__" = true)
    (d3 : K.lookup T3 = some ⟨ob3, oe3, .seq #[.none] n3, sm3⟩)
    (k3 : PySem.W.keepIn K (.ref f3) = true)
    (nf3 : PySem.W.findIn K (.ref C3) "value" = some none)
    (a4 : PySem.W.nsIn K mainGlobals "InvalidLoops" = some (some (.ref C4)))
    (i4 : PySem.W.findIn K (.ref C4) "__init__" = some (some (.ref f4)))
    (t4 : PySem.W.typeIn K (.ref f4) = some (.type "function"))
    (l4 : K.lookup f4 = some ⟨oc4, od4, .func (PySem.W.fnOf "__init__" "InvalidLoops.__init__" (defArgs sI4) (defBody sI4) (defScope sI4) (.ref T4) kV4 dc4 pm4 an4 cd4 ct4), sl4⟩)
    (c4 : PySem.W.codeIn K cd4 "InvalidLoops.__init__" = true)
    (d4 : K.lookup T4 = some ⟨ob4, oe4, .seq #[.none] n4, sm4⟩)
    (k4 : PySem.W.keepIn K (.ref f4) = true)
    (nf4 : PySem.W.findIn K (.ref C4) "value" = some none)
    (a5 : PySem.W.nsIn K mainGlobals "InvalidShape" = some (some (.ref C5)))
    (i5 : PySem.W.findIn K (.ref C5) "__init__" = some (some (.ref f5)))
    (t5 : PySem.W.typeIn K (.ref f5) = some (.type "function"))
    (l5 : K.lookup f5 = some ⟨oc5, od5, .func (PySem.W.fnOf "__init__" "InvalidShape.__init__" (defArgs sI5) (defBody sI5) (defScope sI5) (.ref T5) kV5 dc5 pm5 an5 cd5 ct5), sl5⟩)
    (c5 : PySem.W.codeIn K cd5 "InvalidShape.__init__" = true)
    (d5 : K.lookup T5 = some ⟨ob5, oe5, .seq #[.none] n5, sm5⟩)
    (k5 : PySem.W.keepIn K (.ref f5) = true)
    (nf5 : PySem.W.findIn K (.ref C5) "value" = some none)
    (a6 : PySem.W.nsIn K mainGlobals "InvalidValues" = some (some (.ref C6)))
    (i6 : PySem.W.findIn K (.ref C6) "__init__" = some (some (.ref f6)))
    (t6 : PySem.W.typeIn K (.ref f6) = some (.type "function"))
    (l6 : K.lookup f6 = some ⟨oc6, od6, .func (PySem.W.fnOf "__init__" "InvalidValues.__init__" (defArgs sI6) (defBody sI6) (defScope sI6) (.ref T6) kV6 dc6 pm6 an6 cd6 ct6), sl6⟩)
    (c6 : PySem.W.codeIn K cd6 "InvalidValues.__init__" = true)
    (d6 : K.lookup T6 = some ⟨ob6, oe6, .seq #[.none] n6, sm6⟩)
    (k6 : PySem.W.keepIn K (.ref f6) = true)
    (nf6 : PySem.W.findIn K (.ref C6) "value" = some none)
    (a7 : PySem.W.nsIn K mainGlobals "InvalidCell" = some (some (.ref C7)))
    (i7 : PySem.W.findIn K (.ref C7) "__init__" = some (some (.ref f7)))
    (t7 : PySem.W.typeIn K (.ref f7) = some (.type "function"))
    (l7 : K.lookup f7 = some ⟨oc7, od7, .func (PySem.W.fnOf "__init__" "InvalidCell.__init__" (defArgs sI7) (defBody sI7) (defScope sI7) (.ref T7) kV7 dc7 pm7 an7 cd7 ct7), sl7⟩)
    (c7 : PySem.W.codeIn K cd7 "InvalidCell.__init__" = true)
    (d7 : K.lookup T7 = some ⟨ob7, oe7, .seq #[.none] n7, sm7⟩)
    (k7 : PySem.W.keepIn K (.ref f7) = true)
    (nf7 : PySem.W.findIn K (.ref C7) "value" = some none)
    (a8 : PySem.W.nsIn K mainGlobals "InvalidSides" = some (some (.ref C8)))
    (i8 : PySem.W.findIn K (.ref C8) "__init__" = some (some (.ref f8)))
    (t8 : PySem.W.typeIn K (.ref f8) = some (.type "function"))
    (l8 : K.lookup f8 = some ⟨oc8, od8, .func (PySem.W.fnOf "__init__" "InvalidSides.__init__" (defArgs sI8) (defBody sI8) (defScope sI8) (.ref T8) kV8 dc8 pm8 an8 cd8 ct8), sl8⟩)
    (c8 : PySem.W.codeIn K cd8 "InvalidSides.__init__" = true)
    (d8 : K.lookup T8 = some ⟨ob8, oe8, .seq #[.none] n8, sm8⟩)
    (k8 : PySem.W.keepIn K (.ref f8) = true)
    (nf8 : PySem.W.findIn K (.ref C8) "value" = some none)
    (a9 : PySem.W.nsIn K mainGlobals "InvalidTable" = some (some (.ref C9)))
    (i9 : PySem.W.findIn K (.ref C9) "__init__" = some (some (.ref f9)))
    (t9 : PySem.W.typeIn K (.ref f9) = some (.type "function"))
    (l9 : K.lookup f9 = some ⟨oc9, od9, .func (PySem.W.fnOf "__init__" "InvalidTable.__init__" (defArgs sI9) (defBody sI9) (defScope sI9) (.ref T9) kV9 dc9 pm9 an9 cd9 ct9), sl9⟩)
    (c9 : PySem.W.codeIn K cd9 "InvalidTable.__init__" = true)
    (d9 : K.lookup T9 = some ⟨ob9, oe9, .seq #[.none] n9, sm9⟩)
    (k9 : PySem.W.keepIn K (.ref f9) = true)
    (nf9 : PySem.W.findIn K (.ref C9) "value" = some none)
    (a10 : PySem.W.nsIn K mainGlobals "InvalidWalk" = some (some (.ref C10)))
    (i10 : PySem.W.findIn K (.ref C10) "__init__" = some (some (.ref f10)))
    (t10 : PySem.W.typeIn K (.ref f10) = some (.type "function"))
    (l10 : K.lookup f10 = some ⟨oc10, od10, .func (PySem.W.fnOf "__init__" "InvalidWalk.__init__" (defArgs sI10) (defBody sI10) (defScope sI10) (.ref T10) kV10 dc10 pm10 an10 cd10 ct10), sl10⟩)
    (c10 : PySem.W.codeIn K cd10 "InvalidWalk.__init__" = true)
    (d10 : K.lookup T10 = some ⟨ob10, oe10, .seq #[.none] n10, sm10⟩)
    (k10 : PySem.W.keepIn K (.ref f10) = true)
    (nf10 : PySem.W.findIn K (.ref C10) "value" = some none)
    (a11 : PySem.W.nsIn K mainGlobals "ShortLoop" = some (some (.ref C11)))
    (i11 : PySem.W.findIn K (.ref C11) "__init__" = some (some (.ref f11)))
    (t11 : PySem.W.typeIn K (.ref f11) = some (.type "function"))
    (l11 : K.lookup f11 = some ⟨oc11, od11, .func (PySem.W.fnOf "__init__" "ShortLoop.__init__" (defArgs sI11) (defBody sI11) (defScope sI11) (.ref T11) kV11 dc11 pm11 an11 cd11 ct11), sl11⟩)
    (c11 : PySem.W.codeIn K cd11 "ShortLoop.__init__" = true)
    (d11 : K.lookup T11 = some ⟨ob11, oe11, .seq #[.none] n11, sm11⟩)
    (k11 : PySem.W.keepIn K (.ref f11) = true)
    (nf11 : PySem.W.findIn K (.ref C11) "name" = some none)
    (a12 : PySem.W.nsIn K mainGlobals "NoRoom" = some (some (.ref C12)))
    (i12 : PySem.W.findIn K (.ref C12) "__init__" = some (some (.ref f12)))
    (t12 : PySem.W.typeIn K (.ref f12) = some (.type "function"))
    (l12 : K.lookup f12 = some ⟨oc12, od12, .func (PySem.W.fnOf "__init__" "NoRoom.__init__" (defArgs sI12) (defBody sI12) (defScope sI12) (.ref T12) kV12 dc12 pm12 an12 cd12 ct12), sl12⟩)
    (c12 : PySem.W.codeIn K cd12 "NoRoom.__init__" = true)
    (d12 : K.lookup T12 = some ⟨ob12, oe12, .seq #[.none] n12, sm12⟩)
    (k12 : PySem.W.keepIn K (.ref f12) = true)
    (nf12 : PySem.W.findIn K (.ref C12) "place" = some none)
    (a13 : PySem.W.nsIn K mainGlobals "MismatchedShapes" = some (some (.ref C13)))
    (k13 : PySem.W.keepIn K (.ref C13) = true)
    (q13 : PySem.W.excIn K C13 bm "ValueError.__new__" = true)
    (a14 : PySem.W.nsIn K mainGlobals "SharedPlaces" = some (some (.ref C14)))
    (k14 : PySem.W.keepIn K (.ref C14) = true)
    (q14 : PySem.W.excIn K C14 bm "ValueError.__new__" = true)
    (a15 : PySem.W.nsIn K mainGlobals "NothingToUndo" = some (some (.ref C15)))
    (k15 : PySem.W.keepIn K (.ref C15) = true)
    (q15 : PySem.W.excIn K C15 bm "ValueError.__new__" = true)
    (ab : PySem.W.nsIn K mainGlobals "CellError" = some (some (.ref Cb)))
    (kb : PySem.W.keepIn K (.ref Cb) = true)
    (qb : PySem.W.excIn K Cb bm "ValueError.__new__" = true)
    (aClasses : PySem.W.nsIn K mainGlobals "_law_classes" = some (some (.ref fClasses)))
    (lClasses : K.lookup fClasses = some ⟨ocClasses, odClasses, .func (PySem.W.fnOf "_law_classes" "_law_classes" (defArgs sClasses) (defBody sClasses) (defScope sClasses) .none kVClasses dcClasses pmClasses anClasses cdClasses ctClasses), slClasses⟩)
    (cClasses : PySem.W.codeIn K cdClasses "_law_classes" = true)
    (kClasses : PySem.W.keepIn K (.ref fClasses) = true)
    (aFields : PySem.W.nsIn K mainGlobals "_law_fields" = some (some (.ref fFields)))
    (lFields : K.lookup fFields = some ⟨ocFields, odFields, .func (PySem.W.fnOf "_law_fields" "_law_fields" (defArgs sFields) (defBody sFields) (defScope sFields) .none kVFields dcFields pmFields anFields cdFields ctFields), slFields⟩)
    (cFields : PySem.W.codeIn K cdFields "_law_fields" = true)
    (kFields : PySem.W.keepIn K (.ref fFields) = true)
    (aPlaced : PySem.W.nsIn K mainGlobals "_law_placed" = some (some (.ref fPlaced)))
    (lPlaced : K.lookup fPlaced = some ⟨ocPlaced, odPlaced, .func (PySem.W.fnOf "_law_placed" "_law_placed" (defArgs sPlaced) (defBody sPlaced) (defScope sPlaced) .none kVPlaced dcPlaced pmPlaced anPlaced cdPlaced ctPlaced), slPlaced⟩)
    (cPlaced : PySem.W.codeIn K cdPlaced "_law_placed" = true)
    (kPlaced : PySem.W.keepIn K (.ref fPlaced) = true)
    (aThing : PySem.W.nsIn K mainGlobals "_law_thing" = some (some (.ref fThing)))
    (lThing : K.lookup fThing = some ⟨ocThing, odThing, .func (PySem.W.fnOf "_law_thing" "_law_thing" (defArgs sThing) (defBody sThing) (defScope sThing) .none kVThing dcThing pmThing anThing cdThing ctThing), slThing⟩)
    (cThing : PySem.W.codeIn K cdThing "_law_thing" = true)
    (kThing : PySem.W.keepIn K (.ref fThing) = true)
    (aMade : PySem.W.nsIn K mainGlobals "_law_made" = some (some (.ref fMade)))
    (lMade : K.lookup fMade = some ⟨ocMade, odMade, .func (PySem.W.fnOf "_law_made" "_law_made" (defArgs sMade) (defBody sMade) (defScope sMade) .none kVMade dcMade pmMade anMade cdMade ctMade), slMade⟩)
    (cMade : PySem.W.codeIn K cdMade "_law_made" = true)
    (kMade : PySem.W.keepIn K (.ref fMade) = true)
    (aByName : PySem.W.nsIn K mainGlobals "_law_by_name" = some (some (.ref fByName)))
    (lByName : K.lookup fByName = some ⟨ocByName, odByName, .func (PySem.W.fnOf "_law_by_name" "_law_by_name" (defArgs sByName) (defBody sByName) (defScope sByName) .none kVByName dcByName pmByName anByName cdByName ctByName), slByName⟩)
    (cByName : PySem.W.codeIn K cdByName "_law_by_name" = true)
    (kByName : PySem.W.keepIn K (.ref fByName) = true)
    (aLaw : PySem.W.nsIn K mainGlobals "law" = some (some (.ref fLaw)))
    (lLaw : K.lookup fLaw = some ⟨ocLaw, odLaw, .func (PySem.W.fnOf "law" "law" (defArgs sLaw) (defBody sLaw) (defScope sLaw) .none kVLaw dcLaw pmLaw anLaw cdLaw ctLaw), slLaw⟩)
    (cLaw : PySem.W.codeIn K cdLaw "law" = true)
    (kLaw : PySem.W.keepIn K (.ref fLaw) = true)
    (z_isi : PySem.W.nsIn K mainGlobals "isinstance" = some none)
    (z_ve : PySem.W.nsIn K mainGlobals "ValueError" = some none)
    (z_enum : PySem.W.nsIn K mainGlobals "enumerate" = some none)
    (z_range : PySem.W.nsIn K mainGlobals "range" = some none)
    (z_len : PySem.W.nsIn K mainGlobals "len" = some none)
    (z_int_ : PySem.W.nsIn K mainGlobals "int" = some none)
    (z_max_ : PySem.W.nsIn K mainGlobals "max" = some none)
    (z_sum_ : PySem.W.nsIn K mainGlobals "sum" = some none)
    (z_repr_ : PySem.W.nsIn K mainGlobals "repr" = some none)
    (z_list_ : PySem.W.nsIn K mainGlobals "list" = some none)
    (oeA : allB [C0, C1, C2, C3, C4, C5, C6, C7, C8, C9, C10, C11, C12] (oexB K) = true)
    (xcA : allB (Cb :: [C0, C1, C2, C3, C4, C5, C6, C7, C8, C9, C10, C11, C12, C13, C14, C15]) (xcB K) = true)
    (apA : apartB K [C0, C1, C2, C3, C4, C5, C6, C7, C8, C9, C10, C11, C12, C13, C14, C15] = true)
    (unA : allB [C0, C1, C2, C3, C4, C5, C6, C7, C8, C9, C10, C11, C12, C13, C14, C15] (fun c => decide (PySem.W.kitOne K (.ref c) (.ref Cb) = some true) && decide (PySem.W.kitOne K (.ref c) (.type "ValueError") = some true) && decide (PySem.W.kitOne K (.ref Cb) (.ref c) = some false)) = true)
    (bvA : PySem.W.kitOne K (.ref Cb) (.type "ValueError") = some true) :
    ∃ fd : FuncData, (∀ (s : Shared) (u : Value), BindsTo s fd ⟨[u], []⟩ [("_law_script", u)]) ∧ ∀ base : Heap, K.In base → base.Ns mainGlobals mg → FnG l.prog w K mg base 4 fa fd ["_law_script"] (spLaw K) := by
  have e := hfa.symm.trans (PySem.W.mg_of X G aLaw)
  cases e
  let c : Cs := ⟨Cb, C0, C1, C2, C3, C4, C5, C6, C7, C8, C9, C10, C11, C12, C13, C14, C15⟩
  have oe : ∀ (j : Nat) (C : Addr), [C0, C1, C2, C3, C4, C5, C6, C7, C8, C9, C10, C11, C12][j]? = some C → oexB K C = true := fun j C hj => allB_of oeA hj
  have xe : ∀ (j : Nat) (C : Addr), (Cb :: [C0, C1, C2, C3, C4, C5, C6, C7, C8, C9, C10, C11, C12, C13, C14, C15])[j]? = some C → xcB K C = true := fun j C hj => allB_of xcA hj
  have T : ∀ base : Heap, Txt l.prog w K mg base c := fun base => by
    refine {
      m0 := mk0 X G a0 i0 t0 l0 c0 d0 k0 (oe 0 _ rfl) (xe 1 _ rfl) nf0,
      m1 := mk1 X G a1 i1 t1 l1 c1 d1 k1 (oe 1 _ rfl) (xe 2 _ rfl) nf1,
      m2 := mk2 X G a2 i2 t2 l2 c2 d2 k2 (oe 2 _ rfl) (xe 3 _ rfl) nf2,
      m3 := mk3 X G a3 i3 t3 l3 c3 d3 k3 (oe 3 _ rfl) (xe 4 _ rfl) nf3,
      m4 := mk4 X G a4 i4 t4 l4 c4 d4 k4 (oe 4 _ rfl) (xe 5 _ rfl) nf4,
      m5 := mk5 X G a5 i5 t5 l5 c5 d5 k5 (oe 5 _ rfl) (xe 6 _ rfl) nf5,
      m6 := mk6 X G a6 i6 t6 l6 c6 d6 k6 (oe 6 _ rfl) (xe 7 _ rfl) nf6,
      m7 := mk7 X G a7 i7 t7 l7 c7 d7 k7 (oe 7 _ rfl) (xe 8 _ rfl) nf7,
      m8 := mk8 X G a8 i8 t8 l8 c8 d8 k8 (oe 8 _ rfl) (xe 9 _ rfl) nf8,
      m9 := mk9 X G a9 i9 t9 l9 c9 d9 k9 (oe 9 _ rfl) (xe 10 _ rfl) nf9,
      m10 := mk10 X G a10 i10 t10 l10 c10 d10 k10 (oe 10 _ rfl) (xe 11 _ rfl) nf10,
      m11 := mk11 X G a11 i11 t11 l11 c11 d11 k11 (oe 11 _ rfl) (xe 12 _ rfl) nf11,
      m12 := mk12 X G a12 i12 t12 l12 c12 d12 k12 (oe 12 _ rfl) (xe 13 _ rfl) nf12,
      m13 := bare_mk X G FB a13 (xe 14 _ rfl) k13 q13,
      m14 := bare_mk X G FB a14 (xe 15 _ rfl) k14 q14,
      m15 := bare_mk X G FB a15 (xe 16 _ rfl) k15 q15,
      mb := bare_mk X G FB ab (xe 0 _ rfl) kb qb,
      xc := fun i D hD => xc_of (xe (i + 1) D hD),
      nof := fun i q hq => ?_,
      ap := fun i j D E hi hj => apart_of apA hi hj,
      un := fun i D hD => ?_,
      bn := fun j E hE => ?_,
      bv := bvA,
      isi := PySem.W.mg_none_of X G z_isi,
      ve := PySem.W.mg_none_of X G z_ve,
      enum := PySem.W.mg_none_of X G z_enum,
      range := PySem.W.mg_none_of X G z_range,
      len := PySem.W.mg_none_of X G z_len,
      int_ := PySem.W.mg_none_of X G z_int_,
      max_ := PySem.W.mg_none_of X G z_max_,
      sum_ := PySem.W.mg_none_of X G z_sum_,
      repr_ := PySem.W.mg_none_of X G z_repr_,
      list_ := PySem.W.mg_none_of X G z_list_ }
    · match i, hq with
      | 0, hq => cases hq; exact nf0
      | 1, hq => cases hq; exact nf1
      | 2, hq => cases hq; exact nf2
      | 3, hq => cases hq; exact nf3
      | 4, hq => cases hq; exact nf4
      | 5, hq => cases hq; exact nf5
      | 6, hq => cases hq; exact nf6
      | 7, hq => cases hq; exact nf7
      | 8, hq => cases hq; exact nf8
      | 9, hq => cases hq; exact nf9
      | 10, hq => cases hq; exact nf10
      | 11, hq => cases hq; exact nf11
      | 12, hq => cases hq; exact nf12
      | i + 13, hq => cases hq
    · have q := allB_of unA hD
      simp only [Bool.and_eq_true, decide_eq_true_eq] at q
      exact ⟨q.1.1, q.1.2⟩
    · have q := allB_of unA hE
      simp only [Bool.and_eq_true, decide_eq_true_eq] at q
      exact q.2
  have FClasses := fun_mk (st := sClasses) lClasses cClasses kClasses
  have FFields := fun_mk (st := sFields) lFields cFields kFields
  have FPlaced := fun_mk (st := sPlaced) lPlaced cPlaced kPlaced
  have FThing := fun_mk (st := sThing) lThing cThing kThing
  have FMade := fun_mk (st := sMade) lMade cMade kMade
  have FByName := fun_mk (st := sByName) lByName cByName kByName
  have FLaw := fun_mk (st := sLaw) lLaw cLaw kLaw
  have bClasses := FClasses.binds (ps := ["_law_error"]) fun _ _ _ _ _ _ us hl => match us, hl with | [_], _ => rfl
  have bFields := FFields.binds (ps := ["_law_errors"]) fun _ _ _ _ _ _ us hl => match us, hl with | [_], _ => rfl
  have bPlaced := FPlaced.binds (ps := ["_law_errors"]) fun _ _ _ _ _ _ us hl => match us, hl with | [_], _ => rfl
  have bThing := FThing.binds (ps := ["_law_cell", "_law_at"]) fun _ _ _ _ _ _ us hl => match us, hl with | [_, _], _ => rfl
  have bMade := FMade.binds (ps := ["_law_thing_here"]) fun _ _ _ _ _ _ us hl => match us, hl with | [_], _ => rfl
  have bByName := FByName.binds (ps := ["_law_thing_here"]) fun _ _ _ _ _ _ us hl => match us, hl with | [_], _ => rfl
  refine ⟨PySem.W.fnOf "law" "law" (defArgs sLaw) (defBody sLaw) (defScope sLaw) .none kVLaw dcLaw pmLaw anLaw cdLaw ctLaw, fun s u => .of_eq rfl, fun base _ _ => ?_⟩
  have dC : DefOk l.prog w K mg base 1 "_law_classes" ["_law_error"] (spClasses K c) := ⟨_, _, PySem.W.mg_of X G aClasses, kClasses, ok_classes FClasses (T base), bClasses⟩
  have dF : DefOk l.prog w K mg base 1 "_law_fields" ["_law_errors"] (spFields c) := ⟨_, _, PySem.W.mg_of X G aFields, kFields, ok_fields FFields (T base), bFields⟩
  have dP : DefOk l.prog w K mg base 2 "_law_placed" ["_law_errors"] (spPlaced c) := ⟨_, _, PySem.W.mg_of X G aPlaced, kPlaced, ok_placed FPlaced (T base) dC, bPlaced⟩
  have dT : DefOk l.prog w K mg base 1 "_law_thing" ["_law_cell", "_law_at"] spThing := ⟨_, _, PySem.W.mg_of X G aThing, kThing, ok_thing FThing (T base), bThing⟩
  have dM : DefOk l.prog w K mg base 3 "_law_made" ["_law_thing_here"] (spMade c) := ⟨_, _, PySem.W.mg_of X G aMade, kMade, ok_Made FMade (T base), bMade⟩
  have dN : DefOk l.prog w K mg base 3 "_law_by_name" ["_law_thing_here"] (spMade c) := ⟨_, _, PySem.W.mg_of X G aByName, kByName, ok_ByName FByName (T base), bByName⟩
  exact ok_law FLaw (T base) dC dF dP dT dM dN
end E1

set_option Elab.async false
set_option maxRecDepth 100000
open PySem PySem.W PyProof.Rows in
set_option maxHeartbeats 0 in
theorem PySem.Challenge.cw_cellplaces_k01_errors_made_holds : PySem.Challenge.rw_cellplaces_k01_errors_made.Holds := by
  w_on; o_law; k_head; (case hw => w_witness2)
  k_fill
  refine L2.walk_ofG (l := PySem.Challenge.rw_cellplaces_k01_errors_made) (n := 63) (k := 4) (x := "_law_script") (sp := fun w => E1.spLaw _) rfl (by decide) rfl ⟨rfl, by decide, by decide⟩ (fun w h Y => PySem.W.kIn_of Y) ?F (fun w H a ns hl hS o => ⟨a, ns, rfl, E1.scr_of hS o, hl, fun _ => rfl⟩)
  case F =>
    intro w mg fa h KX G hmg
    refine' E1.all_mk KX G hmg PySem.F.excBase_ValueError ?a0 ?i0 ?t0 ?l0 ?c0 ?d0 ?k0 ?nf0 ?a1 ?i1 ?t1 ?l1 ?c1 ?d1 ?k1 ?nf1 ?a2 ?i2 ?t2 ?l2 ?c2 ?d2 ?k2 ?nf2 ?a3 ?i3 ?t3 ?l3 ?c3 ?d3 ?k3 ?nf3 ?a4 ?i4 ?t4 ?l4 ?c4 ?d4 ?k4 ?nf4 ?a5 ?i5 ?t5 ?l5 ?c5 ?d5 ?k5 ?nf5 ?a6 ?i6 ?t6 ?l6 ?c6 ?d6 ?k6 ?nf6 ?a7 ?i7 ?t7 ?l7 ?c7 ?d7 ?k7 ?nf7 ?a8 ?i8 ?t8 ?l8 ?c8 ?d8 ?k8 ?nf8 ?a9 ?i9 ?t9 ?l9 ?c9 ?d9 ?k9 ?nf9 ?a10 ?i10 ?t10 ?l10 ?c10 ?d10 ?k10 ?nf10 ?a11 ?i11 ?t11 ?l11 ?c11 ?d11 ?k11 ?nf11 ?a12 ?i12 ?t12 ?l12 ?c12 ?d12 ?k12 ?nf12 ?a13 ?k13 ?q13 ?a14 ?k14 ?q14 ?a15 ?k15 ?q15 ?ab ?kb ?qb ?aClasses ?lClasses ?cClasses ?kClasses ?aFields ?lFields ?cFields ?kFields ?aPlaced ?lPlaced ?cPlaced ?kPlaced ?aThing ?lThing ?cThing ?kThing ?aMade ?lMade ?cMade ?kMade ?aByName ?lByName ?cByName ?kByName ?aLaw ?lLaw ?cLaw ?kLaw ?z_isi ?z_ve ?z_enum ?z_range ?z_len ?z_int_ ?z_max_ ?z_sum_ ?z_repr_ ?z_list_ ?oeA ?xcA ?apA ?unA ?bvA
    (case a0 => k_is)
    (case i0 => k_is)
    (case t0 => k_is)
    (case l0 => k_is)
    (case c0 => k_is)
    (case d0 => k_is)
    (case k0 => k_is)
    (case nf0 => k_is)
    (case a1 => k_is)
    (case i1 => k_is)
    (case t1 => k_is)
    (case l1 => k_is)
    (case c1 => k_is)
    (case d1 => k_is)
    (case k1 => k_is)
    (case nf1 => k_is)
    (case a2 => k_is)
    (case i2 => k_is)
    (case t2 => k_is)
    (case l2 => k_is)
    (case c2 => k_is)
    (case d2 => k_is)
    (case k2 => k_is)
    (case nf2 => k_is)
    (case a3 => k_is)
    (case i3 => k_is)
    (case t3 => k_is)
    (case l3 => k_is)
    (case c3 => k_is)
    (case d3 => k_is)
    (case k3 => k_is)
    (case nf3 => k_is)
    (case a4 => k_is)
    (case i4 => k_is)
    (case t4 => k_is)
    (case l4 => k_is)
    (case c4 => k_is)
    (case d4 => k_is)
    (case k4 => k_is)
    (case nf4 => k_is)
    (case a5 => k_is)
    (case i5 => k_is)
    (case t5 => k_is)
    (case l5 => k_is)
    (case c5 => k_is)
    (case d5 => k_is)
    (case k5 => k_is)
    (case nf5 => k_is)
    (case a6 => k_is)
    (case i6 => k_is)
    (case t6 => k_is)
    (case l6 => k_is)
    (case c6 => k_is)
    (case d6 => k_is)
    (case k6 => k_is)
    (case nf6 => k_is)
    (case a7 => k_is)
    (case i7 => k_is)
    (case t7 => k_is)
    (case l7 => k_is)
    (case c7 => k_is)
    (case d7 => k_is)
    (case k7 => k_is)
    (case nf7 => k_is)
    (case a8 => k_is)
    (case i8 => k_is)
    (case t8 => k_is)
    (case l8 => k_is)
    (case c8 => k_is)
    (case d8 => k_is)
    (case k8 => k_is)
    (case nf8 => k_is)
    (case a9 => k_is)
    (case i9 => k_is)
    (case t9 => k_is)
    (case l9 => k_is)
    (case c9 => k_is)
    (case d9 => k_is)
    (case k9 => k_is)
    (case nf9 => k_is)
    (case a10 => k_is)
    (case i10 => k_is)
    (case t10 => k_is)
    (case l10 => k_is)
    (case c10 => k_is)
    (case d10 => k_is)
    (case k10 => k_is)
    (case nf10 => k_is)
    (case a11 => k_is)
    (case i11 => k_is)
    (case t11 => k_is)
    (case l11 => k_is)
    (case c11 => k_is)
    (case d11 => k_is)
    (case k11 => k_is)
    (case nf11 => k_is)
    (case a12 => k_is)
    (case i12 => k_is)
    (case t12 => k_is)
    (case l12 => k_is)
    (case c12 => k_is)
    (case d12 => k_is)
    (case k12 => k_is)
    (case nf12 => k_is)
    (case a13 => k_is)
    (case k13 => k_is)
    (case q13 => kernel_rfl)
    (case a14 => k_is)
    (case k14 => k_is)
    (case q14 => kernel_rfl)
    (case a15 => k_is)
    (case k15 => k_is)
    (case q15 => kernel_rfl)
    (case ab => k_is)
    (case kb => k_is)
    (case qb => kernel_rfl)
    (case aClasses => k_is)
    (case lClasses => k_is)
    (case cClasses => k_is)
    (case kClasses => k_is)
    (case aFields => k_is)
    (case lFields => k_is)
    (case cFields => k_is)
    (case kFields => k_is)
    (case aPlaced => k_is)
    (case lPlaced => k_is)
    (case cPlaced => k_is)
    (case kPlaced => k_is)
    (case aThing => k_is)
    (case lThing => k_is)
    (case cThing => k_is)
    (case kThing => k_is)
    (case aMade => k_is)
    (case lMade => k_is)
    (case cMade => k_is)
    (case kMade => k_is)
    (case aByName => k_is)
    (case lByName => k_is)
    (case cByName => k_is)
    (case kByName => k_is)
    (case aLaw => k_is)
    (case lLaw => k_is)
    (case cLaw => k_is)
    (case kLaw => k_is)
    (case z_isi => k_is)
    (case z_ve => k_is)
    (case z_enum => k_is)
    (case z_range => k_is)
    (case z_len => k_is)
    (case z_int_ => k_is)
    (case z_max_ => k_is)
    (case z_sum_ => k_is)
    (case z_repr_ => k_is)
    (case z_list_ => k_is)
    (case oeA => kernel_rfl)
    (case xcA => kernel_rfl)
    (case apA => kernel_rfl)
    (case unA => kernel_rfl)
    (case bvA => kernel_rfl)
#print axioms PySem.Challenge.cw_cellplaces_k01_errors_made_holds
