import PyProof.Rows.All
import Wide.All
import OpenK.AllK
import Wide.FinOn
import HandS.ForExc
import HandS.ExcInit
import HandS.ExcIs
import HandS.ExcField
import HandS.Defaults
import HandS.IsInst
import HandS.ExcValue
import HandS.ForMost
import KE.KOpsOwn
import HandS.Wide
import HandS.WideBits
import HandS.Conv
import HandS.Codes
import HandS.Walk
import HandS.Comp
import HandS.Gcd
import HandS.Steps
import KE.KMathG
import HandS.Ends
import HandS.Words
import HandS.Head0
import HandS.Head1
import HandS.Head2
import HandS.HeadEnd
import HandS.HeadHook1
import HandS.New
import HandS.SortInts
import HandS.Dict
import KE.KDictList
import HandS.Iter
import HandS.HeadHook2
import KE.KStateDown
import HandS.Head3
import PySem.Challenge.RW_cellplaces_k73_rings_by_name
set_option Elab.async false
set_option linter.all false
set_option maxRecDepth 100000
set_option maxHeartbeats 4000000
/-! An own exception class called with one keyword: the maker takes it and lets it be, the own __init__ gets it. -/
namespace KwE
open PySem PySem.W PySem.Calls PyProof.Rows PySem.HandSPX
section
variable {prog : Program} {w : World} {A : Around} {E : Value → Shared → Prop} {R : Result → Shared → Prop} {hp : Heap} {gs : Array GenState} {dr : Drawn} {tk : Nat} {os : OsState}
variable {nm q : Str} {C N fI : Addr} {bs bm bmB : List Value} {hd : Bool} {sn : List Str} {sub : List Value} {ab : Bool} {col : Option Bool} {dd : Option Addr} {k0 k1 k2 k3 k5 : Option Value} {B new_ init_ : String} {us : List Value} {kn : Str} {kv : Value}
/-- what the class's line says of the base's names -/
structure Line (B : String) (C : Addr) (bm : List Value) : Prop where
  b : (Value.ref C :: bm).contains (.type B) = true
  a : (Value.ref C :: bm).contains (.type "AttributeError") = false
  n : (Value.ref C :: bm).contains (.type "NameError") = false
theorem Line.of (F : ExcBaseFacts B new_ init_ bmB) (same : ∀ X : String, bm.contains (.type X) = bmB.contains (.type X)) : Line B C bm := by
  constructor <;> rw [List.contains_cons, same]
  · rw [F.hasB, Bool.or_true]
  · rw [F.noAttr]; rfl
  · rw [F.noName]; rfl
/-- the maker's own check -/
theorem maker_ok {M : Model} {Q : Unit → Shared → Prop} (F : ExcBaseFacts B new_ init_ bmB) (L : Line B C bm) (at_ : hp.get? C = some (excClassObj nm q C N bs bm hd sn sub ab col dd k0 k1 k2 k3 k5 new_)) (h : Q () ⟨hp, gs, dr, tk, os⟩) :
    wpAny M A (checkBuiltinCall new_ ⟨.ref C :: us, [(kn, kv)]⟩) Q E ⟨hp, gs, dr, tk, os⟩ := by
  have star := F.noStar
  simp only [checkBuiltinCall, F.newKind, F.newSplit, F.newRow]
  repeat' first
    | refine wpAny_loadPart_at at_ ?_
    | (refine wpAny_isSubtype_exc at_ ?_
       rw [L.b])
    | refine wpAny_staticBase_exc at_ ?_
    | refine wpAny_madeBy_exc at_ ?_
    | simp only [bne_self_eq_false, Bool.false_eq_true, if_false]
    | wp_step
  exact h
/-- the maker: a tuple of the plain arguments, then the exception over it -/
theorem maker_does (F : ExcBaseFacts B new_ init_ bmB) (L : Line B C bm) (at_ : hp.get? C = some (excClassObj nm q C N bs bm hd sn sub ab col dd k0 k1 k2 k3 k5 new_)) (short : us.length ≤ sizeLine)
    (h : R (.ok (.ret (.ref (hp.objs.size + 1)))) ⟨(hp.push (kdv_tup us)).push (excO C hp.objs.size), gs, dr, tk, os⟩) : codeAny (model prog w) A (.builtin new_ ⟨.ref C :: us, [(kn, kv)]⟩) R ⟨hp, gs, dr, tk, os⟩ := by
  have ends := F.ends
  refine codeAny_builtinAt F.entry ?_
  unfold Builtin.«BaseException.__new__»
  refine PySem.wpAt_bind ?_
  show PySem.wpAt _ _ _ (stack >>= _) _ _ _
  refine PySem.wpAt_bind (PySem.wpAt_stack ?_)
  intro _ _
  refine PySem.wpAt_of_wpAny ?_
  wp_walk
  refine PySem.wpAt_of_wpAny ?_
  rw [F.owner]
  repeat' first
    | with_reducible refine wpAny_madeHere_exc F.canon at_ ?_
    | with_reducible refine wpAny_loadPart_at at_ ?_
    | (with_reducible refine wpAny_isSubtype_exc at_ ?_
       first
         | rw [L.b]
         | rw [L.a]
         | rw [L.n])
    | wp_step
  show R _ _
  rw [Heap.size_push]
  exact h
/-- type.__call__: the maker, then the own __init__ -/
theorem class_does {Q : PySem.Fin → Shared → Prop} (F : ExcBaseFacts B new_ init_ bmB) (L : Line B C bm) (at_ : hp.get? C = some (excClassObj nm q C N bs bm hd sn sub ab col dd k0 k1 k2 k3 k5 new_)) (short : us.length ≤ sizeLine)
    (ini : W.Looks (model prog w) hp (typeLookup (.ref C) "__init__") (some (.ref fI))) (bind : ∀ self, W.Looks (model prog w) hp (bindSpecial (.ref fI) self) (.ref fI, [self]))
    (h : codeAny (model prog w) A (.call (.ref fI) ⟨.ref (hp.objs.size + 1) :: us, [(kn, kv)]⟩)
      (fun r s' => match r with | .ok (.ret v) => v = .none ∧ Q (.done (.ret (.ref (hp.objs.size + 1)))) s' | .ok _ => False | .error e => E e s') ⟨(hp.push (kdv_tup us)).push (excO C hp.objs.size), gs, dr, tk, os⟩) :
    wpAny (model prog w) A (Builtin.«type.__call__» ⟨.ref C :: us, [(kn, kv)]⟩) Q E ⟨hp, gs, dr, tk, os⟩ := by
  have kept : ∀ b o, hp.get? b = some o → ((hp.push (kdv_tup us)).push (excO C hp.objs.size)).get? b = some o := fun _ _ z => Heap.get?_push_of_some _ (Heap.get?_push_of_some _ z)
  have there : ((hp.push (kdv_tup us)).push (excO C hp.objs.size)).get? (hp.objs.size + 1) = some (excO C hp.objs.size) := by heap_get
  have own_ : (Value.ref C :: bm).contains (.ref C) = true := by simp
  repeat' first
    | with_reducible refine wpAny_loadPart_at at_ ?_
    | with_reducible refine wpAny_madeBy_exc at_ ?_
    | wp_step
  refine codeAny_call_builtin_code (Code.quiet_builtin _ F.quiet) (maker_ok F L at_ (maker_does F L at_ short ?_))
  show wpAny _ _ _ _ _ _
  unfold isInstance
  repeat' first
    | with_reducible refine wpAny_loadPart_at there ?_
    | (with_reducible refine wpAny_isSubtype_exc (kept _ _ at_) ?_
       rw [own_])
    | wp_step
  show wpAny _ _ (typeLookup (.ref C) _) _ _ _
  refine (ini.keeps kept).at (wpAny_holding (wpAny_bind (((bind _).keeps kept).at (wpAny_bind (wpAny_call (codeAny_mono h ?_))))))
  intro r s' z
  match r, z with
  | .error _, z => exact z
  | .ok (.ret _), ⟨rfl, z⟩ =>
    first
      | exact wpAny_pure (wpAny_pure z)
      | (wp_walk; exact z)
/-- C(.., kn=kv) -/
theorem call_kw (F : ExcBaseFacts B new_ init_ bmB) (same : ∀ X : String, bm.contains (.type X) = bmB.contains (.type X)) (at_ : hp.get? C = some (excClassObj nm q C N bs bm hd sn sub ab col dd k0 k1 k2 k3 k5 new_)) (short : us.length ≤ sizeLine)
    (ini : W.Looks (model prog w) hp (typeLookup (.ref C) "__init__") (some (.ref fI))) (bind : ∀ self, W.Looks (model prog w) hp (bindSpecial (.ref fI) self) (.ref fI, [self]))
    (h : codeAny (model prog w) (A.under (.builtin "type.__call__" ⟨.ref C :: us, [(kn, kv)]⟩)) (.call (.ref fI) ⟨.ref (hp.objs.size + 1) :: us, [(kn, kv)]⟩) (InitBack (hp.objs.size + 1) R) ⟨(hp.push (kdv_tup us)).push (excO C hp.objs.size), gs, dr, tk, os⟩) :
    codeAny (model prog w) A (.call (.ref C) ⟨us, [(kn, kv)]⟩) R ⟨hp, gs, dr, tk, os⟩ := by
  have g1 := tc_lookup
  have g2 := tc_bind (.ref C)
  have g3 := tc_sub
  have ty : (⟨hp, gs, dr, tk, os⟩ : Shared).TypeIs (.ref C) "type" := ⟨_, at_, rfl⟩
  have chk : ∀ {A' : Around} {E' : Value → Shared → Prop} {Q : Unit → Shared → Prop}, Q () ⟨hp, gs, dr, tk, os⟩ → wpAny (model prog w) A' (checkBuiltinCall "type.__call__" ⟨.ref C :: us, [(kn, kv)]⟩) Q E' ⟨hp, gs, dr, tk, os⟩ := by
    intro A' E' Q z
    simp only [checkBuiltinCall, tc_kind, tc_split]
    repeat (any_goals (first | assumption | with_reducible refine wpAny_loadPart_at at_ ?_ | with_reducible refine wpAny_onRaise ?_ | with_reducible refine wpAny_map ?_ | wp_step))
  refine codeAny_of_tree ?_
  show wpAny _ _ (callAny (.ref C) _) _ _ _
  repeat (any_goals (first | assumption | with_reducible refine wpAny_loadPart_at at_ ?_ | wp_step))
  refine ⟨rfl, codeAny_call_builtin_at (Code.quiet_builtin _ (by decide +kernel)) entry_typeCall (chk (class_does F (.of F same) at_ short ini bind (codeAny_mono h ?_)))⟩
  intro r s' z
  rcases r with _ | (_ | _ | _ | _) <;> exact z
end
end KwE

set_option Elab.async false
set_option linter.all false
set_option maxRecDepth 100000
set_option maxHeartbeats 4000000
namespace PySem.W
open PySem PySem.Spec PySem.Calls PyProof.Rows
section
variable {prog : Program} {w : World} {A : Around} {E : Value → Shared → Prop} {s : Shared} {K : Frag} {x D : Addr} {ox : Obj} {od : Option Obj}
/-- a data descriptor of the class goes ahead of the object's own dict -/
theorem found_data {C : Addr} {name : Str} {at_ get : Value} (hc : (clsIn K C).isSome = true) (h1 : findIn K (.ref C) name = some (some at_)) (h2 : specialIn K at_ "__get__" = some (some get)) (h3 : takesIn K at_ = some true) : findObj K C od name = some (.bind get at_) := by
  cases z : clsIn K C with
  | none => rw [z] at hc; cases hc
  | some cd => simp [findObj, z, h1, h2, h3]
/-- x.__class__ of an exception of an own class, whatever attributes it has -/
theorem class_of_exc {Q : Option Value → Shared → Prop} (T : L2.ExcC K D) (X : K.In s.heap) (I : InstAt s.heap x ox D od) (h : Q (some (.ref D)) { s with toks := s.toks + 1 }) : wpAny (model prog w) A (getAttr? (.ref x) "__class__") Q E s := by
  have has : (clsIn K D).isSome = true := by
    obtain ⟨cd, z, _⟩ := any_some T.hd
    rw [z]
    rfl
  obtain ⟨hp, gs, dr, tk, os⟩ := s
  have kind := I.type (M := model prog w)
  have get_ := looks_findIn (M := model prog w) X T.hg
  have hook := looks_findIn (M := model prog w) X T.hk
  have find_ := looks_find (M := model prog w) X I (found_data (od := od) has T.ha T.hn T.ht)
  have base_ : Looks (model prog w) hp (isInstance (.ref x) (.type "BaseException")) true := kind.andThen (looks_subIn X T.hs)
  have other : (Value.builtin "BaseException.__getattribute__" == Value.builtin "object.__getattribute__") = false := by decide +kernel
  unfold getAttr? getAttrBy? getAttrBy
  refine wpAny_bind (wpAny_mkText (wpAny_bind (wpAny_attempt (wpAny_holding (wpAny_bind (kind.at (wpAny_bind (get_.at ?_))))))))
  show wpAny _ _ (if (onTheHeap (Value.ref D) && Value.builtin "BaseException.__getattribute__" == Value.builtin "object.__getattribute__") = true then _ else _) _ _ _
  rw [other, Bool.and_false, if_neg Bool.false_ne_true]
  unfold getAttrByItsOwn hookBefore
  rw [if_pos (show onTheHeap (Value.ref D) = true from rfl)]
  refine wpAny_bind (hook.at (wpAny_bind (wpAny_attempt (wpAny_holding ?_))))
  unfold callGetattribute
  rw [show (false && onTheHeap (Value.builtin "BaseException.__getattribute__")) = false from rfl, if_neg Bool.false_ne_true]
  unfold boundAndCalled
  rw [PySem.F.excAttr_ValueError.ga.bind (.ref x)]
  refine wpAny_bind (wpAny_pure ?_)
  show wpAny _ _ (call (.builtin "BaseException.__getattribute__") [.ref x, .str "__class__" tk]) _ _ _
  refine wpAny_call (codeAny_call_builtin PySem.F.excAttr_ValueError.ga.plain PySem.F.entry_bexc_ga (@check_slot (model prog w) _ _ ⟨hp, gs, dr, tk + 1, os⟩ "BaseException.__getattribute__" "BaseException" "__getattribute__" (.ref x) [.str "__class__" tk] [] _ (by decide +kernel) (by decide +kernel) base_ (PySem.F.args_bexc_ga (.ref x) (.str "__class__" tk)) ?_))
  unfold Builtin.«object.__getattribute__»
  refine wpAny_bind (wpAny_of_eq (a := ((Value.ref x : Value), [Value.str "__class__" tk])) (by first | rfl | (simp only [slotArgs]; rfl)) (wpAny_bind (wpAny_pure (wpAny_bind (kind.at (wpAny_bind (find_.at ?_)))))))
  show wpAny _ _ (holding [Value.builtin "object.__class__"] (call (.builtin "getset_descriptor.__get__") [.builtin "object.__class__", .ref x, .ref D]) >>= ret) _ _ _
  refine wpAny_bind (wpAny_holding (wpAny_call (class_get (s := ⟨hp, gs, dr, tk + 1, os⟩) (ox := ox) (od := od) X I T.hm (wpAny_pure ?_))))
  show wpAny _ _ (handedOut (.ref D)) _ _ _
  rw [handedOut_of (v := .ref D) rfl]
  first
    | exact wpAny_pure (wpAny_pure h)
    | exact wpAny_pure (wpAny_bind (wpAny_pure (wpAny_pure h)))
    | exact wpAny_pure h
/-- isinstance may ask such an exception -/
theorem kit_exc (T : L2.ExcC K D) : KitX K (.ref x) (.ref D) (fun h => InstAt h x ox D od) := by
  have written : ∃ o, K.lookup D = some o ∧ ∀ h : Heap, K.In h → h.get? D = some o := by
    obtain ⟨cd, z, _⟩ := any_some T.hd
    unfold clsIn at z
    split at z
    · exact ⟨_, by assumption, fun h X => X _ _ (by assumption)⟩
    · cases z
  have plain : ∀ {M : Model} {h : Heap}, K.In h → Looks M h (isType (.ref D)) true := by
    intro M h X A' Q' E' s' k q
    obtain ⟨cd, z, _⟩ := any_some T.hd
    unfold clsIn at z
    split at z
    · rename_i ho
      unfold isType loadHead
      exact wpAny_bind (wpAny_loadPart (k _ _ (X _ _ ho)) (wpAny_pure q))
    · cases z
  refine ⟨fun _ _ _ I => I.type, fun _ _ X _ => plain X, fun h tp dd its n sl X htp => ?_, fun X I k => class_of_exc T X I k⟩
  refine Bool.eq_false_iff.mpr fun q => ?_
  obtain rfl : D = tp := Value.ref.inj (beq_iff_eq.mp q)
  obtain ⟨cd, z, _⟩ := any_some T.hd
  unfold clsIn at z
  split at z
  · rename_i ho
    cases (X _ _ ho).symm.trans htp
  · cases z
end
end PySem.W
namespace L2
open PySem PySem.Spec PyProof.Rows
/-- an exception object of the own class at C: with its attributes, or bare -/
inductive ExT (H : Hp) (e C : Addr) : List (Str × V) → Prop where
  | own {d : Addr} {fs : List (Str × V)} (h1 : H e = some (exo e C (some d))) (h2 : H d = some (exd d fs)) : ExT H e C fs
  | bare (h : H e = some (ExO (.ref C) e)) : ExT H e C []
theorem ExT.same {H H' : Hp} {e C : Addr} {fs : List (Str × V)} (S : Same H H') : ExT H e C fs → ExT H' e C fs
  | .own h1 h2 => .own (S _ _ h1) (S _ _ h2)
  | .bare h => .bare (S _ _ h)
section
variable {X : Cx} {pins : List (Addr × Obj)} {σ : St} {H : Hp} {s : Shared} {e C : Addr} {fs : List (Str × V)}
theorem ExT.inst (I : Inv X pins σ H s) (h : ExT H e C fs) : ∃ ox od, PySem.W.InstAt s.heap e ox C od ∧ (∀ f v, fs.lookup f = some v → ∃ o u, od = some o ∧ PySem.W.lookIn f o = some (some u) ∧ RelV v u) := by
  cases h with
  | own h1 h2 =>
    obtain ⟨t1, ho⟩ := exo_at I.hok h1
    obtain ⟨mA, hns, rel⟩ := exd_at I.hok h2
    obtain ⟨od, hod, hl⟩ := lookIn_ns hns
    refine ⟨_, some od, ⟨ho, rfl, rfl, hod⟩, fun f v hf => ?_⟩
    obtain ⟨u, hu, ru⟩ := RelO.some_of (v := v) (o := mA f) (by rw [← hf]; exact rel f)
    exact ⟨od, u, rfl, by rw [hl, hu], ru⟩
  | bare h =>
    have z : ObjOk X.prog X.w H s.heap e (ExO (.ref C) e) := I.hok _ _ h
    obtain ⟨⟨oe, vs, ho, hz, hd, _, _, _⟩, _, _⟩ := z
    refine ⟨oe, none, ⟨ho, hz.1, by unfold PySem.W.notCls; rw [hd], by rw [hz.2]; trivial⟩, fun f v hf => by cases hf⟩
end
/-- isinstance(e, c) of an exception that is a value -/
def rIsX (K : PySem.W.Frag) : List V → Hp → VK → Prop := fun xs H Q => ∃ (e D : Addr) (fs : List (Str × V)) (c : V) (u : Value) (b : Bool), xs = [.ref e, c] ∧ ClsV c u ∧ ExT H e D fs ∧ ExcC K D ∧ PySem.W.kitOne K (.ref D) u = some b ∧ Q (.bl b) H
theorem call_isX {X : Cx} : CallR X (.builtin "isinstance") (rIsX X.K) := by
  intro pins s σ H xs us Q I r h
  obtain ⟨e, D, fs, c, u, b, rfl, k, ex, T, hk, q⟩ := h
  obtain ⟨u1, u2, rfl, r1, r2⟩ := vals2 r
  have e2 := k.eq r2
  subst e2
  obtain rfl : u1 = Value.ref e := r1
  obtain ⟨ox, od, J, _⟩ := ex.inst I
  exact PySem.W.kia_one (PySem.W.kit_exc T) I.kIn J hk (fun z => nomatch z) fun tk => ⟨.bl b, H, I.tok tk, rfl, q⟩
/-- e.f of an exception that is a value -/
def tFldE (K : PySem.W.Frag) (te : TE) (f : Str) : TE := fun σ H Q => te σ H fun x H1 => ∃ (e C : Addr) (fs : List (Str × V)) (v : V), x = .ref e ∧ ExT H1 e C fs ∧ ExcC K C ∧ PySem.W.findIn K (.ref C) f = some none ∧ fs.lookup f = some v ∧ Q v H1
theorem pe_fldE {X : Cx} {e : Expr} {te : TE} {pos : Pos} {n : Str} (he : PE X e te) (hb : attributeBase e n X.env (eval e X.env) = eval e X.env := by rfl) : PE X (.Attribute e n pos) (tFldE X.K te n) := by
  refine ⟨fun pins s σ H Q I h => ?_⟩
  refine attr_of hb (thn (he.run pins s σ H _ I h) fun u s1 hh => ?_)
  obtain ⟨x, H1, I1, rx, e, C, fs, v, rfl, ex, T, hno, l, q⟩ := hh
  obtain rfl : u = Value.ref e := rx
  obtain ⟨ox, od, J, lk⟩ := ex.inst I1
  obtain ⟨o, u, rfl, hu, ru⟩ := lk _ _ l
  exact HandSPX.exc_get I1.kIn J T.hg T.hk T.hs (PySem.W.findObj_own T.hd hno rfl hu) (handed_of ru) ⟨v, H1, I1.tok _, ru, q⟩
/-- __init__(self, f): self.f = f -/
def spExI (K : PySem.W.Frag) (f : Str) : Sp := fun vs H Q _ => ∃ (a C : Addr) (y : V), vs = [.ref a, y] ∧ OexC K C ∧ PySem.W.findIn K (.ref C) f = some none ∧ H a = some (exo a C none) ∧
  ∀ dx, H dx = none → dx ≠ a → Q .non (upd (upd H dx (exd dx [(f, y)])) a (exo a C (some dx)))
/-- C called, its __init__ as above: the new exception's one attribute is y -/
theorem run_mko {X : Cx} {C fI : Addr} {f : Str} {k : Nat} {fd : FuncData} {ps : List Str} {pins : List (Addr × Obj)} {σ : St} {H1 : Hp} {s1 : Shared} {Q : VK} {us : List Value} {kw : List (Str × Value)} {y : V} {u : Value} (T : OexC X.K C) (iC : PySem.W.findIn X.K (.ref C) "__init__" = some (some (.ref fI)))
    (tI : PySem.W.typeIn X.K (.ref fI) = some (.type "function")) (noF : PySem.W.findIn X.K (.ref C) f = some none) (F1 : FnOk X.prog X.w X.K X.mg X.base CX0 k fI fd ps (spExI X.K f)) (hr : Room (k + 1) X.A) (hkw : kw = [] ∨ ∃ q, kw = [q]) (hus : us.length ≤ sizeLine)
    (hb : ∀ (self : Value) (s' : Shared), X.K.In s'.heap → BindsTo s' fd ⟨self :: us, kw⟩ (ps.zip [self, u])) (ry : RelV y u) (I1 : Inv X pins σ H1 s1)
    (q : ∀ a H', Same H1 H' → H1 a = none → ExT H' a C [(f, y)] → Q (.ref a) H') : wpAny (model X.prog X.w) X.A (call (.ref C) us kw) (EP X pins σ Q) X.xe s1 := by
  obtain ⟨nm, qn, N, bs, bm, sn, sub, ab, col, dd, k0, k1, k2, k3, k5, hC, hbm⟩ := T.cls
  obtain ⟨hp, g, dr, tk, os⟩ := s1
  have hsz : hp.objs.size ≤ hp.objs.size + 1 := Nat.le_succ _
  have hn : H1 (hp.objs.size + 1) = none := I1.hok.fresh hsz
  have kk : ∀ b o, hp.get? b = some o → ((hp.push (PySem.W.kdv_tup us)).push (PySem.HandSPX.excO C hp.objs.size)).get? b = some o := fun b o e => Heap.get?_push_of_some _ (Heap.get?_push_of_some _ e)
  have hget : ((hp.push (PySem.W.kdv_tup us)).push (PySem.HandSPX.excO C hp.objs.size)).get? (hp.objs.size + 1) = some (PySem.HandSPX.excO C hp.objs.size) := by heap_get
  have I2 : Inv X pins σ (upd H1 (hp.objs.size + 1) (exo (hp.objs.size + 1) C none)) ⟨(hp.push (PySem.W.kdv_tup us)).push (PySem.HandSPX.excO C hp.objs.size), g, dr, tk, os⟩ :=
    I1.laid (t' := tk) (a := hp.objs.size + 1) (o := exo (hp.objs.size + 1) C none) (h' := (hp.push (PySem.W.kdv_tup us)).push (PySem.HandSPX.excO C hp.objs.size)) kk hsz (exo_ok hget)
  have hq : spExI X.K f [V.ref (hp.objs.size + 1), y] (upd H1 (hp.objs.size + 1) (exo (hp.objs.size + 1) C none)) (fun v H2 => v = .non ∧ Q (.ref (hp.objs.size + 1)) H2) E0 := by
    refine ⟨_, C, y, rfl, T, noF, upd_same, fun dx hd ne => ⟨rfl, q _ _ (fun b o e => ?_) hn (.own upd_same (by rw [upd_ne ne, upd_same]))⟩⟩
    have hb1 : b ≠ hp.objs.size + 1 := ne_of_none e hn
    have hd1 : H1 dx = none := by
      rw [upd_ne ne] at hd
      exact hd
    rw [upd_ne hb1, upd_ne (ne_of_none e hd1), upd_ne hb1]
    exact e
  have r2 : Vals [V.ref (hp.objs.size + 1), y] [Value.ref (hp.objs.size + 1), u] := .cons rfl (.cons ry .nil)
  have fin : ∀ (r : Result) (s' : Shared), CR CX0 X.stack X.prog X.w (upd H1 (hp.objs.size + 1) (exo (hp.objs.size + 1) C none)) ⟨(hp.push (PySem.W.kdv_tup us)).push (PySem.HandSPX.excO C hp.objs.size), g, dr, tk, os⟩ (fun v H2 => v = .non ∧ Q (.ref (hp.objs.size + 1)) H2) E0 r s' →
      PySem.W.InitBack (hp.objs.size + 1) (fun r s' => match r with | .ok (.ret v) => EP X pins σ Q v s' | .ok _ => False | .error er => X.xe er s') r s' := fun r s' hq' => by
    cases r with
    | error er => exact False.elim hq'
    | ok fl =>
      cases fl with
      | ret uu =>
        obtain ⟨v, H', I3, rv, ev, q3⟩ := I2.after hq'
        subst ev
        exact ⟨rv, ⟨V.ref (hp.objs.size + 1), H', I3, rfl, q3⟩⟩
      | next => exact False.elim hq'
      | brk => exact False.elim hq'
      | cont => exact False.elim hq'
  rcases hkw with rfl | ⟨⟨kn, kv⟩, rfl⟩
  · refine wpAny_call (codeAny_mono (PySem.HandSPX.call_own F.excBase_ValueError (fun Y => PySem.HandSPX.refsVE_contains Y bm hbm) (I1.kIn _ _ hC) (PySem.W.looks_findIn I1.kIn iC) (fun self => PySem.W.bind_fn I1.kIn self tI) hus
      (codeAny_mono (F1.run _ X.stack _ _ ⟨Value.ref (hp.objs.size + 1) :: us, []⟩ [Value.ref (hp.objs.size + 1), u] _ _ E0 (hr.make C us []) (I2.env0.make C us []) (hb _ _ I2.kIn) r2 hq) fin)) fun r s' z => ?_)
    rcases r with e | (v | _ | _ | _) <;> exact z
  · refine wpAny_call (codeAny_mono (KwE.call_kw F.excBase_ValueError (fun Y => PySem.HandSPX.refsVE_contains Y bm hbm) (I1.kIn _ _ hC) hus (PySem.W.looks_findIn I1.kIn iC) (fun self => PySem.W.bind_fn I1.kIn self tI)
      (codeAny_mono (F1.run _ X.stack _ _ ⟨Value.ref (hp.objs.size + 1) :: us, [(kn, kv)]⟩ [Value.ref (hp.objs.size + 1), u] _ _ E0 (hr.make C us [(kn, kv)]) (I2.env0.make C us [(kn, kv)]) (hb _ _ I2.kIn) r2 hq) fin)) fun r s' z => ?_)
    rcases r with e | (v | _ | _ | _) <;> exact z
end L2

set_option Elab.async false
set_option linter.all false
set_option maxRecDepth 100000
set_option maxHeartbeats 4000000
namespace L2
open PySem PySem.Spec PyProof.Rows
/-- an own exception class at C, called x, whose __init__ sets the one attribute f (None where it is not given) -/
structure ExM (P : Program) (w : World) (K : PySem.W.Frag) (mg : Str → Option Value) (base : Heap) (x : Str) (C : Addr) (f : Str) : Prop where
  mgC : mg x = some (.ref C)
  oex : OexC K C
  xc : ExcC K C
  noF : PySem.W.findIn K (.ref C) f = some none
  hmk : ∃ (fI : Addr) (fd : FuncData) (ps : List Str), PySem.W.findIn K (.ref C) "__init__" = some (some (.ref fI)) ∧ PySem.W.typeIn K (.ref fI) = some (.type "function") ∧ FnOk P w K mg base CX0 1 fI fd ps (spExI K f) ∧
    (∀ (self u : Value) (s' : Shared), K.In s'.heap → BindsTo s' fd ⟨[self, u], []⟩ (ps.zip [self, u])) ∧ (∀ (self u : Value) (s' : Shared), K.In s'.heap → BindsTo s' fd ⟨[self], [(f, u)]⟩ (ps.zip [self, u])) ∧
    (∀ (self : Value) (s' : Shared), K.In s'.heap → BindsTo s' fd ⟨[self], []⟩ (ps.zip [self, .none]))
/-- an own exception class at C, called x, without an __init__ of its own -/
structure ExB (K : PySem.W.Frag) (mg : Str → Option Value) (x : Str) (C : Addr) : Prop where
  mgC : mg x = some (.ref C)
  xc : ExcC K C
  kC : PySem.W.keepIn K (.ref C) = true
  is : ∃ bmB, ExcBaseFacts "ValueError" "ValueError.__new__" "ValueError.__init__" bmB ∧ PySem.W.excIn K C bmB "ValueError.__new__" = true
/-- the new exception's one attribute -/
def tMk1 (C : Addr) (f : Str) (te : TE) : TE := fun σ H Q => te σ H fun y H1 => ∀ a H', Same H1 H' → H1 a = none → ExT H' a C [(f, y)] → Q (.ref a) H'
def tMk0 (C : Addr) : TE := fun _ H Q => ∀ a H', Same H H' → H a = none → ExT H' a C [] → Q (.ref a) H'
theorem one_line : (1 : Nat) ≤ sizeLine := by rw [sizeLine_eq]; omega
section
variable {X : Cx} {x f : Str} {C : Addr} {e : Expr} {te : TE} {p pos kpos : Pos}
theorem pe_ex1 (T : ExM X.prog X.w X.K X.mg X.base x C f) (hr : Room 2 X.A) (hg : Gl X x) (he : PE X e te) (hdb : (x == ("__debug__" : Str)) = false := by decide) (hs : starEach [e] X.env = (false, eval e X.env) :: starEach [] X.env := by rfl)
    (hpl : (backTo pos (starEach [] X.env)).any (·.1) = false := by rfl) : PE X (.Call (.Name x p) [e] [] pos) (tMk1 C f te) := by
  obtain ⟨fI, fd, ps, iC, tI, F1, b2, bK, b1⟩ := T.hmk
  refine ⟨fun pins s σ H Q I h => ?_⟩
  refine wpAny_Call_Name_kw (ld_glob I hg T.mgC ?_ hdb)
  refine PySem.W.callWith_K (h₀ := X.base) I.ok.mod.kin T.oex.kC ?_ hs hpl
  rw [hs]
  show wpAny _ _ (spliced ((false, eval e X.env) :: backTo pos (starEach [] X.env))) _ _ s
  refine Calls.spliced_cons (thn (he.run pins s σ H _ I h) fun u s1 hh => ?_)
  obtain ⟨y, H1, I1, ry, q⟩ := hh
  refine Calls.spliced_nil ⟨I1.kIn, ?_⟩
  show wpAny _ _ (call (.ref C) [u]) _ _ _
  exact run_mko T.oex iC tI T.noF F1 hr (.inl rfl) one_line (fun self s' X' => b2 self u s' X') ry I1 q
theorem pe_exK (T : ExM X.prog X.w X.K X.mg X.base x C f) (hr : Room 2 X.A) (hg : Gl X x) (he : PE X e te) (hdb : (x == ("__debug__" : Str)) = false := by decide)
    (hall : (backToKw pos (keywordEach [⟨some f, e, kpos⟩] X.env)).all (·.1.isSome) = true := by rfl) (hks : (backToKw pos (keywordEach [⟨some f, e, kpos⟩] X.env)).filterMap (·.1) = [f] := by rfl)
    (hpl : ((backTo pos (starEach [] X.env)).any (·.1) || (backToKw pos (keywordEach [⟨some f, e, kpos⟩] X.env)).any (·.1.isNone)) = false := by rfl) : PE X (.Call (.Name x p) [] [⟨some f, e, kpos⟩] pos) (tMk1 C f te) := by
  obtain ⟨fI, fd, ps, iC, tI, F1, b2, bK, b1⟩ := T.hmk
  refine ⟨fun pins s σ H Q I h => ?_⟩
  refine wpAny_Call_Name_kw (ld_glob I hg T.mgC ?_ hdb)
  refine PySem.W.callWith_KW0 (h₀ := X.base) I.ok.mod.kin T.oex.kC hall ?_ hpl
  show wpAny _ _ (evalAll ((do let v ← eval e X.env; standAt pos; pure v) :: [])) _ _ s
  refine wpAny_evalAll_cons (wpAny_bind (thn (he.run pins s σ H _ I h) fun u s1 hh => wpAny_bind (wpAny_standAt (wpAny_pure ?_))))
  obtain ⟨y, H1, I1, ry, q⟩ := hh
  refine wpAny_evalAll_nil ⟨I1.kIn, ?_⟩
  rw [hks]
  show wpAny _ _ (call (.ref C) [] [(f, u)]) _ _ _
  exact run_mko (us := []) T.oex iC tI T.noF F1 hr (.inr ⟨_, rfl⟩) (Nat.zero_le _) (fun self s' X' => bK self u s' X') ry I1 q
theorem pe_ex0 (T : ExM X.prog X.w X.K X.mg X.base x C f) (hr : Room 2 X.A) (hg : Gl X x) (hdb : (x == ("__debug__" : Str)) = false := by decide) : PE X (.Call (.Name x p) [] [] pos) (tMk1 C f (tC .non)) := by
  obtain ⟨fI, fd, ps, iC, tI, F1, b2, bK, b1⟩ := T.hmk
  refine ⟨fun pins s σ H Q I h => ?_⟩
  refine wpAny_Call_Name_kw (ld_glob I hg T.mgC ?_ hdb)
  exact PySem.W.callWith_K0 I.kIn T.oex.kC (run_mko (us := []) (y := .non) (u := .none) T.oex iC tI T.noF F1 hr (.inl rfl) (Nat.zero_le _) (fun self s' X' => b1 self s' X') rfl I h)
theorem pe_exB (T : ExB X.K X.mg x C) (hg : Gl X x) (hdb : (x == ("__debug__" : Str)) = false := by decide) : PE X (.Call (.Name x p) [] [] pos) (tMk0 C) := by
  obtain ⟨bmB, F, q⟩ := T.is
  refine ⟨fun pins s σ H Q I h => ?_⟩
  refine wpAny_Call_Name_kw (ld_glob I hg T.mgC ?_ hdb)
  refine PySem.W.callWith_K0 I.kIn T.kC ?_
  show wpAny _ _ (call (.ref C) []) _ _ _
  obtain ⟨bm, N, nm, qn, bs, hdct, sn, sub, ab, col, dd, k0, k1, k2, k3, k5, mN, hC, hN, hni, T'⟩ := exc_obj I.kIn q
  refine wpAny_call_exc_subT F T' hC hN hni (fun h' a hm => ?_) (Nat.zero_le _)
  have hn : H a = none := I.hok.gone hm.new
  obtain ⟨t, ht, _, _⟩ := hm.there
  exact ⟨.ref a, upd H a (ExO (.ref C) a), I.laidN hm.keeps hm.new hn (exO_ok ht ⟨rfl, rfl⟩ rfl rfl rfl (show 4 < 6 by decide)), rfl, h a _ (fun b o q => by rw [upd_ne (ne_of_none q hn)]; exact q) hn (.bare upd_same)⟩
end

end L2

set_option Elab.async false
set_option linter.all false
set_option maxRecDepth 100000
set_option maxHeartbeats 400000
namespace L2
open PySem PySem.Spec PyProof.Rows
def exArgs (f : Str) (p1 p2 p3 : Pos) : Arguments := { posonlyargs := [], args := [{ arg := "self", annotation := none, pos := p1 }, { arg := f, annotation := none, pos := p2 }], vararg := none, kwonlyargs := [], kw_defaults := [], kwarg := none, defaults := [.Constant .none 0 p3] }
def exBody (f : Str) (q1 q2 q3 q4 : Pos) : List Stmt := [.Assign [.Attribute (.Name "self" q1) f q2] (.Name f q3) q4]
def exScope (f : Str) : Scope := { kind := .function, names := [(PySem.Str.ofString "self", .local), (f, .local)], isGenerator := false, isCoroutine := false, more := [] }
section
variable {P : Program} {w : World} {K : PySem.W.Frag} {mg : Str → Option Value} {base : Heap} {x qual : Str} {C fI : Addr} {fd : FuncData} {p1 p2 p3 q1 q2 q3 q4 : Pos}
theorem one_none {its : List Value} (h : Vals [.non] its) : its = [.none] := by
  cases h with
  | cons r n =>
    cases n
    cases r
    rfl

theorem scEx_value : FnScope ["self", "value"] ["self", "value"] (exScope "value") := ⟨rfl, rfl, rfl, by decide +kernel, rfl, by decide +kernel, by decide +kernel⟩
theorem okEx_value (F : FunD K "__init__" qual (exArgs "value" p1 p2 p3) (exBody "value" q1 q2 q3 q4) (exScope "value") [.non] [] fI fd) : FnOk P w K mg base CX0 1 fI fd ["self", "value"] (spExI K "value") := by
  refine F.ok scEx_value (fun vs H Q E h => ?_) (fun cdv A outer s H vs Q E hr h => ?_)
  · obtain ⟨a, C, y, rfl, _⟩ := h
    rfl
  · obtain ⟨a, C, y, rfl, T, noF, ha, k⟩ := h
    exact ⟨_, pss_one (ps_ost (pv 0) (pv 1)), ⟨_, rfl, _, rfl, a, C, rfl, T, noF, .inl ⟨ha, k⟩⟩⟩
theorem bindEx_value (F : FunD K "__init__" qual (exArgs "value" p1 p2 p3) (exBody "value" q1 q2 q3 q4) (exScope "value") [.non] [] fI fd) :
    (∀ (self u : Value) (s' : Shared), K.In s'.heap → BindsTo s' fd ⟨[self, u], []⟩ ((["self", "value"] : List Str).zip [self, u])) ∧ (∀ (self u : Value) (s' : Shared), K.In s'.heap → BindsTo s' fd ⟨[self], [("value", u)]⟩ ((["self", "value"] : List Str).zip [self, u])) ∧
    (∀ (self : Value) (s' : Shared), K.In s'.heap → BindsTo s' fd ⟨[self], []⟩ ((["self", "value"] : List Str).zip [self, .none])) := by
  obtain ⟨oc, od, dV, kV, doc, pm, an, cdv, ct, osl, rfl, lk, hcd, hD, hK⟩ := F.ex
  rcases hD with ⟨e, _⟩ | ⟨_, T, o, its, m, rfl, lT, oT, rT⟩
  · cases e
  · obtain rfl := one_none rT
    refine ⟨fun self u s' X => BindsTo.of_looks fun M => ?_, fun self u s' X => BindsTo.of_looks fun M => ?_, fun self s' X => BindsTo.of_looks fun M => ?_⟩
    · have e : ∃ k, bindArgs (PySem.W.fnOf "__init__" qual (exArgs "value" p1 p2 p3) (exBody "value" q1 q2 q3 q4) (exScope "value") (.ref T) kV doc pm an cdv ct) ⟨[self, u], []⟩ = seqItems? (.ref T) >>= k ∧ k (some [Value.none].toArray) = pure ((["self", "value"] : List Str).zip [self, u]) := ⟨_, rfl, rfl⟩
      obtain ⟨k, e1, e2⟩ := e
      rw [e1]
      exact looks_items X lT oT (.of_pure e2)
    · have e : ∃ k, bindArgs (PySem.W.fnOf "__init__" qual (exArgs "value" p1 p2 p3) (exBody "value" q1 q2 q3 q4) (exScope "value") (.ref T) kV doc pm an cdv ct) ⟨[self], [("value", u)]⟩ = seqItems? (.ref T) >>= k ∧ k (some [Value.none].toArray) = pure ((["self", "value"] : List Str).zip [self, u]) := ⟨_, rfl, rfl⟩
      obtain ⟨k, e1, e2⟩ := e
      rw [e1]
      exact looks_items X lT oT (.of_pure e2)
    · have e : ∃ k, bindArgs (PySem.W.fnOf "__init__" qual (exArgs "value" p1 p2 p3) (exBody "value" q1 q2 q3 q4) (exScope "value") (.ref T) kV doc pm an cdv ct) ⟨[self], []⟩ = seqItems? (.ref T) >>= k ∧ k (some [Value.none].toArray) = pure ((["self", "value"] : List Str).zip [self, .none]) := ⟨_, rfl, rfl⟩
      obtain ⟨k, e1, e2⟩ := e
      rw [e1]
      exact looks_items X lT oT (.of_pure e2)
theorem exm_value (gC : mg x = some (.ref C)) (oex : OexC K C) (xc : ExcC K C) (noF : PySem.W.findIn K (.ref C) "value" = some none) (iC : PySem.W.findIn K (.ref C) "__init__" = some (some (.ref fI))) (tI : PySem.W.typeIn K (.ref fI) = some (.type "function"))
    (F : FunD K "__init__" qual (exArgs "value" p1 p2 p3) (exBody "value" q1 q2 q3 q4) (exScope "value") [.non] [] fI fd) : ExM P w K mg base x C "value" :=
  ⟨gC, oex, xc, noF, fI, fd, _, iC, tI, okEx_value F, bindEx_value F⟩

theorem scEx_name : FnScope ["self", "name"] ["self", "name"] (exScope "name") := ⟨rfl, rfl, rfl, by decide +kernel, rfl, by decide +kernel, by decide +kernel⟩
theorem okEx_name (F : FunD K "__init__" qual (exArgs "name" p1 p2 p3) (exBody "name" q1 q2 q3 q4) (exScope "name") [.non] [] fI fd) : FnOk P w K mg base CX0 1 fI fd ["self", "name"] (spExI K "name") := by
  refine F.ok scEx_name (fun vs H Q E h => ?_) (fun cdv A outer s H vs Q E hr h => ?_)
  · obtain ⟨a, C, y, rfl, _⟩ := h
    rfl
  · obtain ⟨a, C, y, rfl, T, noF, ha, k⟩ := h
    exact ⟨_, pss_one (ps_ost (pv 0) (pv 1)), ⟨_, rfl, _, rfl, a, C, rfl, T, noF, .inl ⟨ha, k⟩⟩⟩
theorem bindEx_name (F : FunD K "__init__" qual (exArgs "name" p1 p2 p3) (exBody "name" q1 q2 q3 q4) (exScope "name") [.non] [] fI fd) :
    (∀ (self u : Value) (s' : Shared), K.In s'.heap → BindsTo s' fd ⟨[self, u], []⟩ ((["self", "name"] : List Str).zip [self, u])) ∧ (∀ (self u : Value) (s' : Shared), K.In s'.heap → BindsTo s' fd ⟨[self], [("name", u)]⟩ ((["self", "name"] : List Str).zip [self, u])) ∧
    (∀ (self : Value) (s' : Shared), K.In s'.heap → BindsTo s' fd ⟨[self], []⟩ ((["self", "name"] : List Str).zip [self, .none])) := by
  obtain ⟨oc, od, dV, kV, doc, pm, an, cdv, ct, osl, rfl, lk, hcd, hD, hK⟩ := F.ex
  rcases hD with ⟨e, _⟩ | ⟨_, T, o, its, m, rfl, lT, oT, rT⟩
  · cases e
  · obtain rfl := one_none rT
    refine ⟨fun self u s' X => BindsTo.of_looks fun M => ?_, fun self u s' X => BindsTo.of_looks fun M => ?_, fun self s' X => BindsTo.of_looks fun M => ?_⟩
    · have e : ∃ k, bindArgs (PySem.W.fnOf "__init__" qual (exArgs "name" p1 p2 p3) (exBody "name" q1 q2 q3 q4) (exScope "name") (.ref T) kV doc pm an cdv ct) ⟨[self, u], []⟩ = seqItems? (.ref T) >>= k ∧ k (some [Value.none].toArray) = pure ((["self", "name"] : List Str).zip [self, u]) := ⟨_, rfl, rfl⟩
      obtain ⟨k, e1, e2⟩ := e
      rw [e1]
      exact looks_items X lT oT (.of_pure e2)
    · have e : ∃ k, bindArgs (PySem.W.fnOf "__init__" qual (exArgs "name" p1 p2 p3) (exBody "name" q1 q2 q3 q4) (exScope "name") (.ref T) kV doc pm an cdv ct) ⟨[self], [("name", u)]⟩ = seqItems? (.ref T) >>= k ∧ k (some [Value.none].toArray) = pure ((["self", "name"] : List Str).zip [self, u]) := ⟨_, rfl, rfl⟩
      obtain ⟨k, e1, e2⟩ := e
      rw [e1]
      exact looks_items X lT oT (.of_pure e2)
    · have e : ∃ k, bindArgs (PySem.W.fnOf "__init__" qual (exArgs "name" p1 p2 p3) (exBody "name" q1 q2 q3 q4) (exScope "name") (.ref T) kV doc pm an cdv ct) ⟨[self], []⟩ = seqItems? (.ref T) >>= k ∧ k (some [Value.none].toArray) = pure ((["self", "name"] : List Str).zip [self, .none]) := ⟨_, rfl, rfl⟩
      obtain ⟨k, e1, e2⟩ := e
      rw [e1]
      exact looks_items X lT oT (.of_pure e2)
theorem exm_name (gC : mg x = some (.ref C)) (oex : OexC K C) (xc : ExcC K C) (noF : PySem.W.findIn K (.ref C) "name" = some none) (iC : PySem.W.findIn K (.ref C) "__init__" = some (some (.ref fI))) (tI : PySem.W.typeIn K (.ref fI) = some (.type "function"))
    (F : FunD K "__init__" qual (exArgs "name" p1 p2 p3) (exBody "name" q1 q2 q3 q4) (exScope "name") [.non] [] fI fd) : ExM P w K mg base x C "name" :=
  ⟨gC, oex, xc, noF, fI, fd, _, iC, tI, okEx_name F, bindEx_name F⟩

theorem scEx_place : FnScope ["self", "place"] ["self", "place"] (exScope "place") := ⟨rfl, rfl, rfl, by decide +kernel, rfl, by decide +kernel, by decide +kernel⟩
theorem okEx_place (F : FunD K "__init__" qual (exArgs "place" p1 p2 p3) (exBody "place" q1 q2 q3 q4) (exScope "place") [.non] [] fI fd) : FnOk P w K mg base CX0 1 fI fd ["self", "place"] (spExI K "place") := by
  refine F.ok scEx_place (fun vs H Q E h => ?_) (fun cdv A outer s H vs Q E hr h => ?_)
  · obtain ⟨a, C, y, rfl, _⟩ := h
    rfl
  · obtain ⟨a, C, y, rfl, T, noF, ha, k⟩ := h
    exact ⟨_, pss_one (ps_ost (pv 0) (pv 1)), ⟨_, rfl, _, rfl, a, C, rfl, T, noF, .inl ⟨ha, k⟩⟩⟩
theorem bindEx_place (F : FunD K "__init__" qual (exArgs "place" p1 p2 p3) (exBody "place" q1 q2 q3 q4) (exScope "place") [.non] [] fI fd) :
    (∀ (self u : Value) (s' : Shared), K.In s'.heap → BindsTo s' fd ⟨[self, u], []⟩ ((["self", "place"] : List Str).zip [self, u])) ∧ (∀ (self u : Value) (s' : Shared), K.In s'.heap → BindsTo s' fd ⟨[self], [("place", u)]⟩ ((["self", "place"] : List Str).zip [self, u])) ∧
    (∀ (self : Value) (s' : Shared), K.In s'.heap → BindsTo s' fd ⟨[self], []⟩ ((["self", "place"] : List Str).zip [self, .none])) := by
  obtain ⟨oc, od, dV, kV, doc, pm, an, cdv, ct, osl, rfl, lk, hcd, hD, hK⟩ := F.ex
  rcases hD with ⟨e, _⟩ | ⟨_, T, o, its, m, rfl, lT, oT, rT⟩
  · cases e
  · obtain rfl := one_none rT
    refine ⟨fun self u s' X => BindsTo.of_looks fun M => ?_, fun self u s' X => BindsTo.of_looks fun M => ?_, fun self s' X => BindsTo.of_looks fun M => ?_⟩
    · have e : ∃ k, bindArgs (PySem.W.fnOf "__init__" qual (exArgs "place" p1 p2 p3) (exBody "place" q1 q2 q3 q4) (exScope "place") (.ref T) kV doc pm an cdv ct) ⟨[self, u], []⟩ = seqItems? (.ref T) >>= k ∧ k (some [Value.none].toArray) = pure ((["self", "place"] : List Str).zip [self, u]) := ⟨_, rfl, rfl⟩
      obtain ⟨k, e1, e2⟩ := e
      rw [e1]
      exact looks_items X lT oT (.of_pure e2)
    · have e : ∃ k, bindArgs (PySem.W.fnOf "__init__" qual (exArgs "place" p1 p2 p3) (exBody "place" q1 q2 q3 q4) (exScope "place") (.ref T) kV doc pm an cdv ct) ⟨[self], [("place", u)]⟩ = seqItems? (.ref T) >>= k ∧ k (some [Value.none].toArray) = pure ((["self", "place"] : List Str).zip [self, u]) := ⟨_, rfl, rfl⟩
      obtain ⟨k, e1, e2⟩ := e
      rw [e1]
      exact looks_items X lT oT (.of_pure e2)
    · have e : ∃ k, bindArgs (PySem.W.fnOf "__init__" qual (exArgs "place" p1 p2 p3) (exBody "place" q1 q2 q3 q4) (exScope "place") (.ref T) kV doc pm an cdv ct) ⟨[self], []⟩ = seqItems? (.ref T) >>= k ∧ k (some [Value.none].toArray) = pure ((["self", "place"] : List Str).zip [self, .none]) := ⟨_, rfl, rfl⟩
      obtain ⟨k, e1, e2⟩ := e
      rw [e1]
      exact looks_items X lT oT (.of_pure e2)
theorem exm_place (gC : mg x = some (.ref C)) (oex : OexC K C) (xc : ExcC K C) (noF : PySem.W.findIn K (.ref C) "place" = some none) (iC : PySem.W.findIn K (.ref C) "__init__" = some (some (.ref fI))) (tI : PySem.W.typeIn K (.ref fI) = some (.type "function"))
    (F : FunD K "__init__" qual (exArgs "place" p1 p2 p3) (exBody "place" q1 q2 q3 q4) (exScope "place") [.non] [] fI fd) : ExM P w K mg base x C "place" :=
  ⟨gC, oex, xc, noF, fI, fd, _, iC, tI, okEx_place F, bindEx_place F⟩
end
end L2

set_option Elab.async false
set_option linter.all false
set_option maxRecDepth 100000
set_option maxHeartbeats 1000000
namespace L2
open PySem PySem.Spec PyProof.Rows
/-- a def's promise where no repr is under way around it -/
structure FnG (P : Program) (w : World) (K : PySem.W.Frag) (mg : Str → Option Value) (base : Heap) (k : Nat) (f : Addr) (fd : FuncData) (ps : List Str) (sp : Sp) : Prop where
  len : ∀ vs H Q E, sp vs H Q E → vs.length = ps.length
  go : ∀ (A : Around) (outer : List Env) (s : Shared) (H : Hp) (args : Args) (us : List Value) (vs : List V) (Q : VK) (E : XK), A.guards = some [] → Room k A → Env0 P w K mg base A outer s H → BindsTo s fd args (ps.zip us) → Vals vs us →
    sp vs H Q E → codeAny (model P w) A (.call (.ref f) args) (CR CX0 outer P w H s Q E) s
theorem FnOk.toG {P : Program} {w : World} {K : PySem.W.Frag} {mg : Str → Option Value} {base : Heap} {k : Nat} {f : Addr} {fd : FuncData} {ps : List Str} {sp : Sp} (F : FnOk P w K mg base CX0 k f fd ps sp) : FnG P w K mg base k f fd ps sp :=
  ⟨F.len, fun A outer s H args us vs Q E _ => F.run A outer s H args us vs Q E⟩
section
variable {P : Program} {w : World} {K : PySem.W.Frag} {mg : Str → Option Value} {base : Heap}
theorem Fun.okG {x qual : Str} {st : Stmt} {f : Addr} {fd : FuncData} {N ps : List Str} {k : Nat} {sp : Sp} (F : Fun K x qual st f fd) (S : FnScope N ps (defScope st)) (len : ∀ vs H Q E, sp vs H Q E → vs.length = ps.length)
    (body : ∀ (cdv : Value) (A : Around) (outer : List Env) (s : Shared) (H : Hp) (vs : List V) (Q : VK) (E : XK), A.guards = some [] → Room k (A.deeper (envOfC qual (defScope st) s.heap.objs.size f cdv)) → sp vs H Q E →
      ∃ t, PSs (cxOf CX0 P w K mg base N qual (defScope st) f cdv A outer s H E).nox (defBody st) t ∧ t { nx := fun _ H' => Q .non H', rt := Q } (start N vs) H) : FnG P w K mg base (k + 1) f fd ps sp := by
  obtain ⟨oc, od, kV, doc, pm, an, cdv, ct, osl, rfl, lk, hcd⟩ := F.ex
  refine ⟨len, fun A outer s H args us vs Q E gA hr e0 hb r hsp => ?_⟩
  have kept : ∀ b o, base.get? b = some o → s.heap.get? b = some o := fun b o e => (e0.bs b o e).1
  have kinds : ∀ y ∈ ps.zip us, (defScope st).names.lookup y.1 = some .local ∨ ((defScope st).names.lookup y.1 = some .cell ∧ ((cellsFrom (s.heap.objs.size + 1) (defScope st).names []).lookup y.1).isSome = true) := by
    rintro ⟨n, v⟩ hy
    exact (S.par n (List.of_mem_zip hy).1).imp id fun q => ⟨q, PySem.W.cellsFrom_some _ _ _ (.inl q)⟩
  obtain ⟨t, ht, hq⟩ := body cdv A outer s H vs Q E gA (hr.deeper _) hsp
  refine codeAny_call_function hr.depth (e0.mod.kin.keeps kept _ _ lk) rfl S.co S.gen rfl (PySem.W.codeRec_of (e0.mod.kin.keeps kept) hcd) (hb _ _ _ _ (wpAny_newFunctionEnv_cells S.kind kinds ?_))
  intro env he s1 x
  subst he
  refine ⟨(e0.mod.nolimit.keeps kept).keeps x.toInCall.keep, codeAny_func (wpAny_mono (ht.nox.run [] s1 (start N vs) H _ (inv_start S hr.hd e0 (len _ _ _ _ hsp) r x) hq) (fun fl s' hs => ?_) fun _ _ z => z)⟩
  have done : ∀ {σ' : St} {H' : Hp} {v : V} {u : Value}, Inv (cxOf CX0 P w K mg base N qual (defScope st) f cdv A outer s H E) [] σ' H' s' → RelV v u → Q v H' → CE outer P w H s Q u s' :=
    fun {σ' H' v u} J rv q => ⟨v, H', J.os, J.bare, J.base, J.hok, rv, q⟩
  match fl, hs with
  | .ret _, ⟨_, _, _, J, rv, q⟩ => exact done J rv q
  | .next, ⟨_, _, J, q⟩ => exact done (v := V.non) (u := Value.none) J rfl q
  | .brk, ⟨_, _, _, q⟩ => exact q.elim
  | .cont, ⟨_, _, _, q⟩ => exact q.elim
end
/-- the script alone may be tracked, as a thing known to the object; then the law's call -/
theorem call_lawG {P : Program} {w : World} {K : PySem.W.Frag} {mg mb : Str → Option Value} {k : Nat} {fa a : Addr} {fd : FuncData} {x : Str} {sp : Sp} {s₁ : Shared} {vs : List Value} {ns : List Int}
    (KX : K.In s₁.heap) (hns : s₁.heap.Ns mainGlobals mg) (hb : s₁.heap.Ns builtinsNs mb) (hbb : ∀ x : Str, x ≠ "__name__" → mb x = bootBuiltins x) (hlim : s₁.heap.NoLimit) (hg : s₁.gens = #[])
    (ha : s₁.heap.get? a = some { cls := .type "list", data := .seq vs.toArray }) (hi : IntsAre vs ns) (hl : ns.length ≤ sizeLine) (hr : Room k callerA)
    (F : ∀ base : Heap, K.In base → base.Ns mainGlobals mg → FnG P w K mg base k fa fd [x] sp) (hbind : ∀ (s : Shared) (u : Value), BindsTo s fd ⟨[u], []⟩ [(x, u)])
    (hsp : ∀ H : Hp, SqL K H a (ns.map V.int) → (∀ b u, H b = some u → ∃ o xs, u = .frz o (.lst xs)) → sp [.ref a] H (fun v _ => v = .bl true) fun _ _ _ => False) :
    codeAny (model P w) callerA (.call (.ref fa) ⟨[.ref a], []⟩) (fun r s' => r = .ok (.ret (.bool true)) ∧ OldK s₁.heap s'.heap ∧ s'.os = s₁.os ∧ AllBare s'.gens) s₁ := by
  have rv := vals_ints hi
  have from_ : ∀ H : Hp, SqL K H a (ns.map V.int) → HOk P w H s₁.heap → (∀ b u, H b = some u → b = a ∧ K.lookup a = none ∧ ∃ o xs, u = .frz o (.lst xs)) →
      codeAny (model P w) callerA (.call (.ref fa) ⟨[.ref a], []⟩) (fun r s' => r = .ok (.ret (.bool true)) ∧ OldK s₁.heap s'.heap ∧ s'.os = s₁.os ∧ AllBare s'.gens) s₁ := by
    intro H hS hok only
    have un_ : ∀ {b : Addr}, b ≠ a → H b = none := fun {b} n => by
      rcases q : H b with _ | u
      · rfl
      · exact absurd (only b u q).1 n
    have nsK : ∀ {b : Addr} {m : Str → Option Value}, s₁.heap.Ns b m → (hidT s₁.heap H).Ns b m := fun {b m} hn => by
      obtain ⟨o, es, ep, e, d, r⟩ := hn
      refine ⟨o, es, ep, hidT_get e (un_ fun z => ?_), d, r⟩
      rw [z, ha] at e
      obtain rfl := Option.some.inj e
      cases d
    have hKb : K.In (hidT s₁.heap H) := fun b o e => hidT_get (KX b o e) (by
      rcases q : H b with _ | u
      · rfl
      · obtain ⟨z, n, _⟩ := only b u q
        rw [z, n] at e
        cases e)
    obtain ⟨mc, c1, c2⟩ := hlim
    have e0 : Env0 P w K mg (hidT s₁.heap H) callerA [] s₁ H :=
      ⟨rfl, ⟨hKb, nsK hns, ⟨mb, nsK hb, hbb⟩, ⟨mc, nsK c1, c2⟩⟩, fun b o e => of_hidT e, Nat.le_of_eq (hidT_size _ _), trivial, fun b z => (List.not_mem_nil z).elim, hok, .of_eq hg⟩
    refine codeAny_mono ((F _ hKb (nsK hns)).go callerA [] s₁ H ⟨[.ref a], []⟩ [.ref a] [.ref a] _ _ rfl hr e0 (hbind s₁ (.ref a)) (.cons rfl .nil) (hsp H hS fun b u q => (only b u q).2.2)) fun r s' h => ?_
    match r, h with
    | .ok (.ret u), ⟨v, H', os, bare, un, hok', r', q⟩ =>
      obtain rfl : v = .bl true := q
      obtain rfl : u = Value.bool true := r'
      refine ⟨rfl, OldK.of_keep fun b o e => ?_, os, bare⟩
      rcases z : H b with _ | u
      · exact un.keep b o e z (fun y => List.not_mem_nil y) (fun y => List.not_mem_nil y)
      · obtain ⟨_, _, ob, xs, rfl⟩ := only b u z
        have e1 := (hok b _ z).1
        rw [e] at e1
        obtain rfl := Option.some.inj e1
        exact (hok' b _ (un.frzs b o _ z)).1
  rcases hk : K.lookup a with _ | o
  · refine from_ (fun b => if b = a then some (.frz { cls := .type "list", data := .seq vs.toArray } (.lst (ns.map V.int))) else none) (.inl (.inr ⟨_, if_pos rfl⟩)) (fun b u z => ?_) fun b u z => ?_
    all_goals
      (try dsimp only at z)
      by_cases n : b = a
      · rw [if_pos n] at z
        obtain rfl := Option.some.inj z
        first
          | exact ⟨n, hk, _, _, rfl⟩
          | (subst n; exact ⟨ha, by rw [List.length_map]; exact hl, vs, _, rv, ha⟩)
      · rw [if_neg n] at z
        cases z
  · have e := KX a o hk
    rw [ha] at e
    obtain rfl := Option.some.inj e
    exact from_ (fun _ => none) (.inr ⟨_, vs.toArray, _, hk, rfl, rfl, rfl, by rw [List.size_toArray, hi.length]; exact hl, by simpa using rv⟩) (fun b u z => by cases (show (none : Option HO) = some u from z)) fun b u z => by cases z
/-- the goal that the head leaves, from the law's promise -/
theorem walk_ofG {l : PySem.W.OpenLaw} {n k : Nat} {q : Program} {loose : List Str} {XP : (Str → Option Value) → Heap → Prop} {YP : World → Heap → Prop} {d : DefRec} {K : Params → PySem.W.Frag} {sp : World → Sp} {x : Str}
    (hn : l.most = some n) (hn2 : n ≤ sizeLine) (hdf : d.params.defaults = []) (hr : Room k callerA) (hY : ∀ (w : World) (h : Heap), YP w h → (K w.params).In h)
    (F : ∀ (w : World) (mg : Str → Option Value) (fa : Addr) (h : Heap), (K w.params).In h → h.Ns mainGlobals mg → mg d.name = some (.ref fa) →
      ∃ fd : FuncData, (∀ (s : Shared) (u : Value), BindsTo s fd ⟨[u], []⟩ [(x, u)]) ∧ ∀ base : Heap, (K w.params).In base → base.Ns mainGlobals mg → FnG l.prog w (K w.params) mg base k fa fd [x] (sp w))
    (hsp : ∀ (w : World) (H : Hp) (a : Addr) (ns : List Int), ns.length ≤ n → SqL (K w.params) H a (ns.map V.int) → (∀ b u, H b = some u → ∃ o xs, u = .frz o (.lst xs)) → sp w [.ref a] H (fun v _ => v = .bl true) fun _ _ _ => False) :
    PySem.W.WalkO q loose XP YP l.row.toRowW d [] (fun f vs => PySem.call f vs) := by
  refine Att.attach_call hn hdf ?_
  intro w s₀ s₁ mg mb fa o pm cd doc a vs ns G Y ho hd hcd hmg hobj hints hlen hg
  obtain ⟨fd, hb, hF⟩ := F w mg fa _ (hY w _ Y) G.T.g hmg
  exact call_lawG (hY w _ Y) G.T.g G.T.b G.T.builtins G.T.nolimit hg hobj hints (Nat.le_trans hlen hn2) hr hF hb fun H hS o => hsp w H a ns hlen hS o
end L2

set_option Elab.async false
set_option linter.all false
set_option maxRecDepth 100000
set_option maxHeartbeats 1000000
namespace L2
open PySem PySem.Spec PyProof.Rows
/-- the looks that ExcC and OexC want, as one Bool each -/
def xcB (K : PySem.W.Frag) (D : Addr) : Bool :=
  decide (PySem.W.findIn K (.ref D) "__getattribute__" = some (some (.builtin "BaseException.__getattribute__"))) && decide (PySem.W.findIn K (.ref D) "__getattr__" = some none) && decide (PySem.W.subIn K (.ref D) (.type "BaseException") = some true) && PySem.W.hasDictIn K D &&
  decide (PySem.W.findIn K (.ref D) "__class__" = some (some (.builtin "object.__class__"))) && decide (PySem.W.specialIn K (.builtin "object.__class__") "__get__" = some (some (.builtin "getset_descriptor.__get__"))) && decide (PySem.W.takesIn K (.builtin "object.__class__") = some true) && decide (PySem.W.mroIn K D (.type "object") = some true)
theorem xc_of {K : PySem.W.Frag} {D : Addr} (h : xcB K D = true) : ExcC K D := by
  simp only [xcB, Bool.and_eq_true, decide_eq_true_eq] at h
  obtain ⟨⟨⟨⟨⟨⟨⟨h1, h2⟩, h3⟩, h4⟩, h5⟩, h6⟩, h7⟩, h8⟩ := h
  exact ⟨h1, h2, h3, h4, h5, h6, h7, h8⟩
def oexB (K : PySem.W.Frag) (C : Addr) : Bool :=
  (match K.lookup C with
  | some ⟨.type "type", _, .cls cd, sl⟩ => (match cd.mro, sl.toList with
    | .ref C' :: bm, [_, _, _, _, some (.builtin n), _] => C' == C && n == "ValueError.__new__" && cd.hasDict && !cd.hasDel && PySem.HandSPX.refsVE bm
    | _, _ => false)
  | _ => false) && decide (PySem.W.findIn K (.ref C) "__setattr__" = some (some (.builtin "object.__setattr__"))) && decide (PySem.W.subIn K (.ref C) (.type "BaseException") = some true) && decide (PySem.W.typeIn K (.ref C) = some (.type "type")) && PySem.W.keepIn K (.ref C)
theorem oex_of {K : PySem.W.Frag} {C : Addr} (h : oexB K C = true) : OexC K C := by
  simp only [oexB, Bool.and_eq_true, decide_eq_true_eq] at h
  obtain ⟨⟨⟨⟨q, h2⟩, h3⟩, h4⟩, h5⟩ := h
  refine ⟨?_, h2, h3, h4, h5⟩
  split at q
  · rename_i dd cd sl ho
    split at q
    · rename_i C' bm k0 k1 k2 k3 n k5 hm hs
      simp only [Bool.and_eq_true, beq_iff_eq, Bool.not_eq_true'] at q
      obtain ⟨⟨⟨⟨rfl, rfl⟩, hd⟩, hdel⟩, ht⟩ := q
      obtain ⟨nm, bs, mro, ns, qn, hD, sn, sub, ab, col, del⟩ := cd
      obtain ⟨l⟩ := sl
      dsimp only at hm hdel hd hs
      subst hm hdel hd hs
      exact ⟨nm, qn, ns, bs, bm, sn, sub, ab, col, dd, k0, k1, k2, k3, k5, ho, ht⟩
    · cases q
  · cases q
/-- isinstance between own classes at cs: each is of itself alone -/
def apartB (K : PySem.W.Frag) (cs : List Addr) : Bool :=
  (List.range cs.length).all fun i => (List.range cs.length).all fun j => match cs[i]?, cs[j]? with
    | some c, some d => decide (PySem.W.kitOne K (.ref c) (.ref d) = some (decide (j = i)))
    | _, _ => false
theorem apart_of {K : PySem.W.Frag} {cs : List Addr} (h : apartB K cs = true) {i j : Nat} {c d : Addr} (hi : cs[i]? = some c) (hj : cs[j]? = some d) : PySem.W.kitOne K (.ref c) (.ref d) = some (decide (j = i)) := by
  have li := (List.getElem?_eq_some_iff.mp hi).1
  have lj := (List.getElem?_eq_some_iff.mp hj).1
  have h1 := List.all_eq_true.mp (List.all_eq_true.mp h i (List.mem_range.mpr li)) j (List.mem_range.mpr lj)
  rw [hi, hj] at h1
  exact of_decide_eq_true h1
def allB (cs : List Addr) (f : Addr → Bool) : Bool := cs.all f
theorem allB_of {cs : List Addr} {f : Addr → Bool} (h : allB cs f = true) {i : Nat} {c : Addr} (hi : cs[i]? = some c) : f c = true := List.all_eq_true.mp h c (List.mem_of_getElem? hi)
theorem Same.upd {H : Hp} {p : Addr} {o : HO} (h : H p = none) : Same H (L2.upd H p o) := fun b u q => by
  rw [upd_ne (ne_of_none q h)]
  exact q
/-- isinstance(x, C), x a name that holds an exception, C an own class or a built-in type -/
def tIsi (K : PySem.W.Frag) (i : Nat) (u : Value) : TE := fun σ H Q => ∃ e D fs b, σ[i]? = some (some (V.ref e)) ∧ ExT H e D fs ∧ ExcC K D ∧ PySem.W.kitOne K (.ref D) u = some b ∧ Q (.bl b) H
section
variable {X : Cx} {x y : Str} {C : Addr} {p q r pos : Pos} {i : Nat}
theorem pe_isi (hm : X.mg "isinstance" = none) (gC : X.mg y = some (.ref C)) (hN : X.N[i]? = some x := by rfl) (hv : Vis X.env.scope x := by first | exact Or.inl rfl | exact Or.inr (Or.inl rfl) | exact Or.inr (Or.inr rfl)) (hg : Gl X "isinstance" := by rfl) (hy : Gl X y := by rfl)
    (hd : (x == ("__debug__" : Str)) = false := by decide) (hcd : (x == ("__classdict__" : Str)) = false := by decide) (hd2 : (y == ("__debug__" : Str)) = false := by decide)
    (he : starEach (Expr.Name x q :: [Expr.Name y r]) X.env = (false, eval (Expr.Name x q) X.env) :: starEach [Expr.Name y r] X.env := by rfl) (hpl : (backTo pos (starEach [Expr.Name y r] X.env)).any (·.1) = false := by rfl)
    (he2 : starEach [Expr.Name y r] X.env = (false, eval (Expr.Name y r) X.env) :: starEach [] X.env := by rfl) :
    PE X (.Call (.Name "isinstance" p) [.Name x q, .Name y r] [] pos) (tIsi X.K i (.ref C)) := by
  refine ⟨fun pins s σ H Q I h => ?_⟩
  obtain ⟨e, D, fs, b, hs, ex, T, hk, hq⟩ := h
  exact (pe_callB (t := tCons (tVar i) (tCons (tC (.ref C)) tNil)) call_isX hg hm (by decide +kernel) (pa_cons (pv i hN hv hd hcd) (pa_cons (pe_glob hy gC rfl hd2) pa_nil) )).run pins s σ H Q I ⟨_, hs, e, D, fs, _, _, b, rfl, .own C, ex, T, hk, hq⟩
theorem pe_isiT {n : String} (hm : X.mg "isinstance" = none) (hmy : X.mg y = none) (hvy : bootBuiltins y = some (.type n)) (hN : X.N[i]? = some x := by rfl) (hv : Vis X.env.scope x := by first | exact Or.inl rfl | exact Or.inr (Or.inl rfl) | exact Or.inr (Or.inr rfl)) (hg : Gl X "isinstance" := by rfl) (hy : Gl X y := by rfl)
    (hd : (x == ("__debug__" : Str)) = false := by decide) (hcd : (x == ("__classdict__" : Str)) = false := by decide) (hn2 : y ≠ "__name__" := by decide) (hd2 : (y == ("__debug__" : Str)) = false := by decide)
    (he : starEach (Expr.Name x q :: [Expr.Name y r]) X.env = (false, eval (Expr.Name x q) X.env) :: starEach [Expr.Name y r] X.env := by rfl) (hpl : (backTo pos (starEach [Expr.Name y r] X.env)).any (·.1) = false := by rfl)
    (he2 : starEach [Expr.Name y r] X.env = (false, eval (Expr.Name y r) X.env) :: starEach [] X.env := by rfl) :
    PE X (.Call (.Name "isinstance" p) [.Name x q, .Name y r] [] pos) (tIsi X.K i (.type n)) := by
  refine ⟨fun pins s σ H Q I h => ?_⟩
  obtain ⟨e, D, fs, b, hs, ex, T, hk, hq⟩ := h
  exact (pe_callB (t := tCons (tVar i) (tCons (tC (.ty n)) tNil)) call_isX hg hm (by decide +kernel) (pa_cons (pv i hN hv hd hcd) (pa_cons (pe_bltn hy hmy hvy rfl hn2 hd2) pa_nil) )).run pins s σ H Q I ⟨_, hs, e, D, fs, _, _, b, rfl, .ty n, ex, T, hk, hq⟩
end
end L2

set_option Elab.async false
set_option linter.all false
set_option maxRecDepth 100000
set_option maxHeartbeats 1000000
namespace L2
open PySem PySem.Spec PyProof.Rows
/-- v shows as the data d: data without dicts, or a flat dict -/
inductive Shw (K : PySem.W.Frag) (H : Hp) : V → PyData → Prop where
  | dp {v : V} {d : PyData} (h : Dp K H v d) (n : d.hasDict = false) : Shw K H v d
  | d0 {q : Addr} (h : H q = some (.dK [])) : Shw K H (.ref q) (.dict [])
  | d1 {q : Addr} {x : Str} {i : Int} (h : H q = some (.dK [(.inr x, .int i)])) : Shw K H (.ref q) (.dict [(.str x, .int i)])
section
variable {X : Cx} {pins : List (Addr × Obj)} {σ : St} {H : Hp} {s : Shared}
theorem Shw.reads (I : Inv X pins σ H s) {v : V} {d : PyData} {u : Value} (h : Shw X.K H v d) (r : RelV v u) : ∃ as, Reads s.heap u d as ∧ (d.hasDict = true → sysModules ∉ as) := by
  cases h with
  | dp h n =>
    obtain ⟨as, q⟩ := Dp.reads I d v u h r
    exact ⟨as, q, fun z => by rw [n] at z; cases z⟩
  | @d0 q h =>
    obtain rfl : u = Value.ref q := r
    obtain ⟨_, ne, vs, kv, o, es, ep, ho, ex, hd, _, ps, _⟩ := dk_of I.hok h
    cases kv
    have e0 : es.toList = [] := by
      cases hl : es.toList with
      | nil => rfl
      | cons a l => rw [hl] at ps; cases ps
    refine ⟨_, Reads.dict (kvs := []) ho ex.1 hd (by rw [e0]; exact .nil) (by rw [e0]; exact .nil), fun _ hm => ?_⟩
    have hm' : sysModules ∈ [q] := by simpa using hm
    have e : sysModules = q := by simpa using hm'
    rw [← e] at ne
    exact absurd ne (by decide)
  | @d1 q x i h =>
    obtain rfl : u = Value.ref q := r
    obtain ⟨_, ne, vs, kv, o, es, ep, ho, ex, hd, _, ps, _⟩ := dk_of I.hok h
    cases kv with
    | @cons _ kw _ vs' hk kt =>
      cases kt
      obtain ⟨k, w'⟩ := kw
      obtain ⟨ek, ri⟩ := hk
      dsimp only at ek ri
      subst ek
      obtain ⟨t', rfl⟩ := (show ∃ t, w' = Value.int i t from ri)
      generalize hl : es.toList = l at ps
      cases ps with
      | @cons a _ l' _ k1 k2 pl =>
        cases pl
        rcases keyIs_shape (show keyIs (.inr x) a.key = true from k1) with ⟨_, _, z, _⟩ | ⟨y, ty, z, e2⟩
        · cases z
        · cases z
          refine ⟨_, Reads.dict (kvs := [(.str x, .int i)]) ho ex.1 hd (by rw [hl]; exact .cons (by show Reads s.heap a.key (.str x) _; rw [e2]; exact .str x ty) .nil) (by rw [hl]; exact .cons (by show Reads s.heap a.val (.int i) _; rw [k2]; exact .int i t') .nil), fun _ hm => ?_⟩
          have e : sysModules = q := by simpa using hm
          rw [← e] at ne
          exact absurd ne (by decide)
theorem Shw.readsAll (I : Inv X pins σ H s) {v : V} {d : PyData} (h : Shw X.K H v d) : ∀ (n : Nat) {us : List Value}, Vals (List.replicate n v) us → ∃ as, ReadsAll s.heap us (List.replicate n d) as ∧ (d.hasDict = true → sysModules ∉ as)
  | 0, _, .nil => ⟨_, .nil, fun _ hm => by cases hm⟩
  | n + 1, _, .cons r rs => by
    obtain ⟨as, q1, n1⟩ := Shw.reads I h r
    obtain ⟨bs, q2, n2⟩ := Shw.readsAll I h n rs
    exact ⟨_, .cons q1 q2, fun z hm => (List.mem_append.mp hm).elim (n1 z) (n2 z)⟩
end
theorem hasDict_rep (d : PyData) : ∀ n : Nat, PyData.hasDictAll (List.replicate n d) = true → d.hasDict = true
  | 0, h => by cases h
  | n + 1, h => by
    have h' : (d.hasDict || PyData.hasDictAll (List.replicate n d)) = true := h
    rcases Bool.or_eq_true_iff.mp h' with q | q
    · exact q
    · exact hasDict_rep d n q
theorem showable_rep {d : PyData} (h : d.showable = true) : ∀ n : Nat, PyData.showableAll (List.replicate n d) = true
  | 0 => rfl
  | n + 1 => by
    show (d.showable && PyData.showableAll (List.replicate n d)) = true
    rw [h, showable_rep h n]
    rfl
theorem depth_rep {d : PyData} : ∀ n : Nat, PyData.depthAll (List.replicate n d) ≤ d.depth
  | 0 => Nat.zero_le _
  | n + 1 => Nat.max_le.mpr ⟨Nat.le_refl _, depth_rep n⟩
/-- repr(xs), xs a list of one thing again and again -/
def rReprR (K : PySem.W.Frag) : List V → Hp → VK → Prop := fun xs H Q => ∃ (p : Addr) (n : Nat) (v : V) (d : PyData), xs = [.ref p] ∧ H p = some (.lst (List.replicate (n + 1) v)) ∧ Shw K H v d ∧ d.showable = true ∧ d.depth ≤ 20 ∧ (PyData.list (List.replicate (n + 1) d)).shown.length ≤ sizeLine ∧
  Q (.str (PyData.list (List.replicate (n + 1) d)).shown) H
theorem call_reprR {X : Cx} (hg : X.A.guards = some []) (hu : X.A.units + 64 < cLine) : CallR X (.builtin "repr") (rReprR X.K) := by
  intro pins s σ H xs us Q I r h
  obtain ⟨p, n, v, d, rfl, hp, hv, hs, hd, hz, q⟩ := h
  match us, r with
  | [_], .cons rp .nil =>
    obtain rfl := rp
    obtain ⟨_, its, m, rv, _, he⟩ := I.lstM hp
    obtain ⟨as, ra, na⟩ := Shw.readsAll I hv (n + 1) rv
    have hz' : (listText (PyData.shownAll (List.replicate (n + 1) d))).length ≤ sizeLine := by simpa only [PyData.shown] using hz
    obtain ⟨bs, hb, hk⟩ := ReprAllK.of_readsAll (prog := X.prog) (w := X.w) ra (showable_rep hs (n + 1)) (fun z => na (hasDict_rep d _ z)) (fun t ht => Nat.le_trans (listText_mem_le ht) hz')
    have out : Reads s.heap (.ref p) (.list (List.replicate (n + 1) d)) _ := .list he rfl rfl ra
    have dle : PyData.depthAll (List.replicate (n + 1) d) ≤ 20 := Nat.le_trans (depth_rep _) hd
    have hna : p ∉ bs := not_mem_of_deeper out (by simp only [PyData.depth]; omega) hb
    match its, rv, he, hk with
    | x :: l, _, he, hk =>
      refine call_repr_slot (T := "list") (idr := "list.__repr__") (by omega) ⟨_, he, rfl⟩ PySem.F.slot_list_repr.toG ?_
      refine call_list_reprK he rfl rfl hna (by simpa using hk.length_eq) (fun i y e => hk.item i y (by simpa using e)) hg (fun b _ => Clear.nil b) (by show X.A.units + 1 + _ < cLine; omega) (fun _ _ e => e) (fun h' u tk k => ?_) hz'
      exact ⟨_, _, rfl, .str (PyData.list (List.replicate (n + 1) d)).shown, H, I.kept (t' := tk) k, ⟨u, by simp only [PyData.shown]⟩, q⟩
/-- a text n times -/
def mulS (z : Str) (n : Int) : Str := if n < 1 then Str.empty else if (n == 1 || z.length == 0) = true then z else ⟨(List.replicate n.toNat z.cps).foldl (· ++ ·) #[]⟩
theorem op_mul_str {X : Cx} : OpR X (binaryOp .Mult) (fun x y H Q => ∃ (z : Str) (n : Int), x = .str z ∧ y = .int n ∧ 0 ≤ n ∧ n < 64 ∧ z.length ≤ 1000 ∧ (mulS z n).length ≤ sizeLine ∧ Q (.str (mulS z n)) H) := by
  intro pins s σ H x y v u Q I rx ry h
  obtain ⟨z, n, rfl, rfl, h0, h1, hz, hs, q⟩ := h
  obtain ⟨t, rfl⟩ := rx
  obtain ⟨t', rfl⟩ := ry
  refine PySem.P.mul_str (by rw [decide_eq_false (by omega), decide_eq_false (by omega)]; rfl) (fun h2 _ h3 => ?_) (fun h2 _ => ?_) ?_
  · have h4 : (2 ^ 63 - 1) / 64 ≤ ((2 ^ 63 - 1) / n : Int) := Int.le_ediv_of_mul_le (by omega) (by omega)
    omega
  · have h5 : z.length * n.toNat ≤ 1000 * 64 := Nat.mul_le_mul hz (by omega)
    unfold Builtin.Str.tooLong
    rw [sizeLine_eq]
    exact decide_eq_false (by omega)
  · unfold mulS at q hs
    by_cases c1 : n < 1
    · rw [if_pos c1] at q ⊢
      exact ⟨by decide, .str Str.empty, H, I.tok _, ⟨_, rfl⟩, q⟩
    · rw [if_neg c1] at q hs ⊢
      by_cases c2 : (n == 1 || z.length == 0) = true
      · rw [if_pos c2] at q ⊢
        exact ⟨.str z, H, I, ⟨_, rfl⟩, q⟩
      · rw [if_neg c2] at q hs ⊢
        exact ⟨hs, .str _, H, I.tok _, ⟨_, rfl⟩, q⟩
end L2

set_option Elab.async false
set_option linter.all false
set_option maxRecDepth 100000
set_option maxHeartbeats 1000000
namespace L2
open PySem PySem.Spec PyProof.Rows
/-- a new object at p, all else as it was: what is wanted of it -/
def NewQ (H : Hp) (o : HO) (Q : VK) : Prop := ∀ p H', Same H H' → H p = none → H' p = some o → Q (.ref p) H'
theorem NewQ.at {H : Hp} {o : HO} {Q : VK} (h : NewQ H o Q) {p : Addr} (n : H p = none) : Q (.ref p) (L2.upd H p o) := h p _ (Same.upd n) n upd_same
def tLstS (t : TA) : TE := fun σ H Q => t σ H fun xs H1 => xs.length ≤ sizeLine ∧ NewQ H1 (.lst xs) Q
def tTupS (t : TA) : TE := fun σ H Q => t σ H fun xs H1 => xs.length ≤ sizeLine ∧ NewQ H1 (.tup xs) Q
def rCatS : R2 := fun x y H Q => ∃ l b xs zs, x = .ref l ∧ y = .ref b ∧ H l = some (.lst xs) ∧ H b = some (.lst zs) ∧ xs.length + zs.length ≤ sizeLine ∧ NewQ H (.lst (xs ++ zs)) Q
def rRepS : R2 := fun x y H Q => ∃ l k xs, x = .ref l ∧ y = .int k ∧ H l = some (.lst xs) ∧ -(2 ^ 63) ≤ k ∧ k < 2 ^ 63 ∧ xs.length * k.toNat ≤ sizeLine ∧ NewQ H (.lst (List.replicate k.toNat xs).flatten) Q
def rSlW (K : PySem.W.Frag) : V → Option Int → Option Int → Hp → VK → Prop := fun x lo hi H Q => ∃ a xs, x = .ref a ∧ SqL K H a xs ∧ NewQ H (.lst (cutV xs lo hi)) Q
section
variable {X : Cx} {es : List Expr} {t : TA} {pos : Pos}
theorem pe_lstS (h : PA X es t) : PE X (.List es pos) (tLstS t) :=
  ⟨fun pins s σ H Q I hq => wpAny_List_spliced (thn (h.run pos pins s σ H _ I hq) fun us s1 ⟨xs, H1, I1, r, z, q⟩ => ⟨by rw [← r.length]; exact z,
    .ref s1.heap.objs.size, _, I1.laid (t' := s1.toks) (o := .lst xs) (fun _ _ e => Heap.get?_push_of_some _ e) (Nat.le_refl _) ⟨z, us, 0, r, Heap.get?_push_size _ rfl⟩, rfl, q.at I1.fresh⟩)⟩
theorem pe_tupS {x1} (h : PA X es t) : PE X (.Tuple es x1 pos) (tTupS t) :=
  ⟨fun pins s σ H Q I hq => wpAny_Tuple_spliced (thn (h.run pos pins s σ H _ I hq) fun us s1 ⟨xs, H1, I1, r, z, q⟩ => ⟨by rw [← r.length]; exact z,
    .ref s1.heap.objs.size, _, I1.laid (t' := s1.toks) (o := .tup xs) (fun _ _ e => Heap.get?_push_of_some _ e) (Nat.le_refl _) ⟨z, us, r, ⟨_, Heap.get?_push_size _ rfl, rfl, _, rfl⟩⟩, rfl, q.at I1.fresh⟩)⟩
theorem op_catS : OpR X (binaryOp .Add) rCatS := fun pins s σ H x y v u Q I rx ry ⟨l, b, xs, zs, e1, e2, h1, h2, hz, q⟩ => op_cat pins s σ H x y v u Q I rx ry ⟨l, b, xs, zs, e1, e2, h1, h2, hz, fun _ n => q.at n⟩
theorem op_repS : OpR X (binaryOp .Mult) rRepS := fun pins s σ H x y v u Q I rx ry ⟨l, k, xs, e1, e2, h1, h2, h3, hz, q⟩ => op_rep pins s σ H x y v u Q I rx ry ⟨l, k, xs, e1, e2, h1, h2, h3, hz, fun _ n => q.at n⟩
theorem sl_listS : SlR X (rSlW X.K) := fun pins s σ H x v vl vu lo hi sl Q I rx hs hl hh ⟨a, xs, e, h, q⟩ => sl_list pins s σ H x v vl vu lo hi sl Q I rx hs hl hh ⟨a, xs, e, h, fun _ n => q.at n⟩
/-- {} with text or int keys -/
theorem pe_dnewS : PE X (.Dict [] [] pos) (fun _ H Q => NewQ H (.dK []) Q) := ⟨fun pins s σ H Q I h => pe_dnewK.run pins s σ H Q I fun _ n => NewQ.at h n⟩
end
theorem Same.lst {H H' : Hp} {a : Addr} {o : HO} (S : Same H H') (h : H a = some o) : H' a = some o := S _ _ h
end L2

set_option Elab.async false
set_option linter.all false
set_option maxRecDepth 100000
set_option maxHeartbeats 1000000
/-! a + b, a * b, -a where a is an instance of an own class that says what they are. -/
namespace L2
open PySem PySem.Spec PyProof.Rows
theorem back_of {X : Cx} {pins : List (Addr × Obj)} {σ : St} {Q : VK} {u : Value} {s : Shared} (h : EP X pins σ Q u s) : PySem.W.CmpBack (EP X pins σ Q) u s := by
  obtain ⟨v, H, I, r, q⟩ := h
  have h : EP X pins σ Q u s := ⟨v, H, I, r, q⟩
  cases v with
  | non => obtain rfl := (show u = Value.none from r); exact h
  | bl b => obtain rfl := (show u = Value.bool b from r); exact h
  | int i => obtain ⟨t, rfl⟩ := (show ∃ t, u = Value.int i t from r); exact h
  | str i => obtain ⟨t, rfl⟩ := (show ∃ t, u = Value.str i t from r); exact h
  | byt i => obtain ⟨t, rfl⟩ := (show ∃ t, u = Value.bytes i t from r); exact h
  | flt i => obtain ⟨t, rfl⟩ := (show ∃ t, u = Value.float i t from r); exact h
  | ref a => obtain rfl := (show u = Value.ref a from r); exact h
  | ty n => obtain rfl := (show u = Value.type n from r); exact h
/-- what the class says of an operator's method -/
structure OwnOp (K : PySem.W.Frag) (C : Addr) (name : Str) (f : Addr) : Prop where
  first : PySem.W.selfFirst K C = true
  has : PySem.W.findIn K (.ref C) name = some (some (.ref f))
  fn : PySem.W.isFn K (.ref f) = true
/-- the same where the right side is a whole number: int's own slots, and no reflected method of the class's -/
structure OwnOpI (K : PySem.W.Frag) (C : Addr) (name : String) (f : Addr) : Prop where
  one : OwnOp K C (PySem.dunder name) f
  refl : ∃ rc, PySem.W.findIn K (.ref C) (dunderR name) = some rc ∧ (rc = none ∨ ∃ g : Addr, rc = some (.ref g))
  i1 : ∃ fo, PySem.W.findIn K (.type "int") (PySem.dunder name) = some fo
  i2 : ∃ ro, PySem.W.findIn K (.type "int") (dunderR name) = some ro
  sub : PySem.W.subIn K (.type "int") (.ref C) = some false
def rOwn (C : Addr) (sp : Sp) : R2 := fun x y H Q => ∃ p q dx fs dy gs, x = .ref p ∧ y = .ref q ∧ H p = some (.ins C dx fs) ∧ H q = some (.ins C dy gs) ∧ sp [x, y] H Q E0
def rOwnI (C : Addr) (sp : Sp) : R2 := fun x y H Q => ∃ p n dx fs, x = .ref p ∧ y = .int n ∧ H p = some (.ins C dx fs) ∧ sp [x, y] H Q E0
def rOwnN (C : Addr) (sp : Sp) : V → Hp → VK → Prop := fun x H Q => ∃ p dx fs, x = .ref p ∧ H p = some (.ins C dx fs) ∧ sp [x] H Q E0
section
variable {X : Cx} {op : Operator} {C f : Addr} {fd : FuncData} {ps : List Str} {sp : Sp} {k : Nat}
theorem inst_of {pins : List (Addr × Obj)} {σ : St} {H : Hp} {s : Shared} {p dx : Addr} {fs : List (Str × V)} (I : Inv X pins σ H s) (e : H p = some (.ins C dx fs)) : ∃ ox od, PySem.W.InstAt s.heap p ox C od := by
  obtain ⟨mA, O, _⟩ := ins_get I.hok e
  obtain ⟨od, J, _⟩ := O.look
  exact ⟨_, _, J⟩
theorem op_own (O : OwnOp X.K C (PySem.dunder op.info.2) f) (F : FnOk X.prog X.w X.K X.mg X.base CX0 k f fd ps sp) (hr : Room k X.A) (hb : Binds X.K fd ps []) : OpR X (binaryOp op) (rOwn C sp) := by
  intro pins s σ H x y v u Q I rx ry h
  obtain ⟨p, q, dx, fs, dy, gs, rfl, rfl, ep, eq, hq⟩ := h
  have run := run_fn (dvs := []) (E := E0) F hr hb .nil pass0 I (.cons rx (.cons ry .nil)) hq
  obtain rfl : v = Value.ref p := rx
  obtain rfl : u = Value.ref q := ry
  obtain ⟨ox, od, J⟩ := inst_of I ep
  obtain ⟨oy, oe, J2⟩ := inst_of I eq
  obtain ⟨m, fr⟩ := I.fr
  exact PySem.W.binop_K fr I.ok.mod.kin J J2.type O.first O.has O.fn (thn run fun _ _ z => back_of z)
theorem op_ownI (O : OwnOpI X.K C op.info.2 f) (F : FnOk X.prog X.w X.K X.mg X.base CX0 k f fd ps sp) (hr : Room k X.A) (hb : Binds X.K fd ps []) : OpR X (binaryOp op) (rOwnI C sp) := by
  intro pins s σ H x y v u Q I rx ry h
  obtain ⟨p, n, dx, fs, rfl, rfl, ep, hq⟩ := h
  have run := run_fn (dvs := []) (E := E0) F hr hb .nil pass0 I (.cons rx (.cons ry .nil)) hq
  obtain rfl : v = Value.ref p := rx
  obtain ⟨t, rfl⟩ := ry
  obtain ⟨ox, od, J⟩ := inst_of I ep
  obtain ⟨m, fr⟩ := I.fr
  obtain ⟨rc, r1, r2⟩ := O.refl
  obtain ⟨fo, i1⟩ := O.i1
  obtain ⟨ro, i2⟩ := O.i2
  exact PySem.W.ksp_binT fr I.ok.mod.kin J (T := "int") rfl O.one.first O.one.has O.one.fn r1 r2 i1 i2 O.sub (thn run fun _ _ z => back_of z)
theorem un_own (O : OwnOp X.K C "__neg__" f) (F : FnOk X.prog X.w X.K X.mg X.base CX0 k f fd ps sp) (hr : Room k X.A) (hb : Binds X.K fd ps []) : UnR X (unaryOp .USub) (rOwnN C sp) := by
  intro pins s σ H x v Q I rx h
  obtain ⟨p, dx, fs, rfl, ep, hq⟩ := h
  have run := run_fn (dvs := []) (E := E0) F hr hb .nil pass0 I (.cons rx .nil) hq
  obtain rfl : v = Value.ref p := rx
  obtain ⟨ox, od, J⟩ := inst_of I ep
  obtain ⟨m, fr⟩ := I.fr
  exact PySem.W.ksp_neg fr I.ok.mod.kin J O.has O.fn run
end
end L2

set_option Elab.async false
set_option linter.all false
set_option maxRecDepth 100000
set_option maxHeartbeats 1000000
/-! rows without forms: what is said of heaps, tests, powers -/
namespace L2
open PySem PySem.Spec PyProof.Rows
theorem iteD {p : Prop} [Decidable p] {A B : Prop} (h1 : p → A) (h2 : ¬ p → B) : if decide p = true then A else B := by
  by_cases h : p
  · rw [if_pos (decide_eq_true h)]; exact h1 h
  · rw [if_neg (by simpa using h)]; exact h2 h
theorem ifT {b : Bool} {A B : Prop} (h : b = true) (x : A) : if b = true then A else B := by rw [if_pos h]; exact x
theorem ifF {b : Bool} {A B : Prop} (h : b = false) (x : B) : if b = true then A else B := by rw [if_neg (by rw [h]; exact Bool.false_ne_true)]; exact x
def CPowX (i j : Int) : Prop := 0 ≤ j ∧ (Builtin.Int.intBits i : Int) * j ≤ 2 ^ 27
theorem op_powX {X : Cx} : OpR X (binaryOp .Pow) (rI CPowX fun i j => .int (i ^ j.toNat)) := opI fun _ _ _ _ _ _ _ hc q => pow_int hc.1 hc.2 q
/-- all but D as it was -/
def SameB (D : Addr) (H H' : Hp) : Prop := ∀ b o, b ≠ D → H b = some o → H' b = some o
theorem SameB.refl (D : Addr) (H : Hp) : SameB D H H := fun _ _ _ h => h
theorem SameB.to {D : Addr} {H H1 H2 : Hp} (S : SameB D H H1) (T : Same H1 H2) : SameB D H H2 := fun b o n h => T b o (S b o n h)
theorem SameB.trans {D : Addr} {H H1 H2 : Hp} (S : SameB D H H1) (T : SameB D H1 H2) : SameB D H H2 := fun b o n h => T b o n (S b o n h)
theorem SameB.upd {D : Addr} {H H1 : Hp} {o : HO} (S : SameB D H H1) : SameB D H (L2.upd H1 D o) := fun b u n h => by rw [upd_ne n]; exact S b u n h
theorem SqL.same {K : PySem.W.Frag} {H H' : Hp} {a : Addr} {xs : List V} (h : SqL K H a xs) (S : Same H H') : SqL K H' a xs := by
  rcases h with (h | ⟨o, h⟩) | h
  · exact .inl (.inl (S _ _ h))
  · exact .inl (.inr ⟨o, S _ _ h⟩)
  · exact .inr h
theorem SqL.sameB {K : PySem.W.Frag} {D : Addr} {H H' : Hp} {a : Addr} {xs : List V} (h : SqL K H a xs) (S : SameB D H H') (n : a ≠ D) : SqL K H' a xs := by
  rcases h with (h | ⟨o, h⟩) | h
  · exact .inl (.inl (S _ _ n h))
  · exact .inl (.inr ⟨o, S _ _ n h⟩)
  · exact .inr h
theorem seq_asg {te : TE} {i : Nat} {u : TS} {D : Ends} {σ : St} {H : Hp} (h : te σ H fun x H1 => u D (σ.set i (some x)) H1) : tSeq (tAsg te (gName i)) u D σ H := h
theorem te_mid {t : TE} {σ : St} {H : Hp} {Q : VK} (G : V → Hp → Prop) (h : ∀ R : VK, (∀ x H', G x H' → R x H') → t σ H R) (k : ∀ x H', G x H' → Q x H') : t σ H Q := h Q k
theorem ts_mid {t u : TS} {D : Ends} {σ : St} {H : Hp} (G : St → Hp → Prop) (h : ∀ N : St → Hp → Prop, (∀ σ' H', G σ' H' → N σ' H') → t { D with nx := N } σ H) (k : ∀ σ' H', G σ' H' → u D σ' H') : tSeq t u D σ H := h _ k
theorem cut_ints (ns : List Int) (lo hi : Option Int) : ∃ ms : List Int, cutV (ns.map V.int) lo hi = ms.map V.int :=
  ⟨(ns.drop (HT.sIx (ns.map V.int).length 0 lo)).take (HT.sIx (ns.map V.int).length (ns.map V.int).length hi - HT.sIx (ns.map V.int).length 0 lo), by unfold cutV; rw [← List.map_drop, ← List.map_take]⟩
end L2

set_option Elab.async false
set_option linter.all false
set_option maxRecDepth 100000
set_option maxHeartbeats 1000000
/-! the draws of stage 3's laws: _law_purse, _law_mixed, _law_draw -/
namespace E3
open PySem PySem.Spec PyProof.Rows L2
open C8 (Cal Mak Met InsC pe_c pe_mt pe_mt0 call_isC clsBody)
def top (i : Nat) : Stmt := PySem.Challenge.pw_cellplaces_k73_rings_by_name.main.body.getD i (.Pass ⟨0, 0, 0, 0⟩)
abbrev sPurse : Stmt := top 19
abbrev sMixed : Stmt := top 20
abbrev sDraw : Stmt := top 21
abbrev sLaw : Stmt := top 22
structure Bt4 (mg : Str → Option Value) : Prop where
  sum_ : mg "sum" = none
  max_ : mg "max" = none
  rng_ : mg "range" = none
  len_ : mg "len" = none
/-- a purse, with so many draws left -/
def PurseAt (H : Hp) (a : Addr) (n : Nat) : Prop := ∃ p0 p1 p2 : Int, H a = some (.lst [.int p0, .int p1, .int p2]) ∧ 0 ≤ p0 ∧ p0 < 10 ^ 480 ∧ 0 ≤ p1 ∧ p1 < 2 ^ 31 ∧ 0 ≤ p2 ∧ p2 + n ≤ 2 ^ 60
theorem PurseAt.same {H H' : Hp} {a : Addr} {n : Nat} (h : PurseAt H a n) (S : Same H H') : PurseAt H' a n :=
  let ⟨p0, p1, p2, h1, h2⟩ := h
  ⟨p0, p1, p2, S _ _ h1, h2⟩
theorem PurseAt.less {H : Hp} {a : Addr} {n m : Nat} (h : PurseAt H a n) (l : m ≤ n) : PurseAt H a m :=
  let ⟨p0, p1, p2, h1, h2, h3, h4, h5, h6, h7⟩ := h
  ⟨p0, p1, p2, h1, h2, h3, h4, h5, h6, by omega⟩
def spPurse (K : PySem.W.Frag) : Sp := fun vs H Q _ => ∃ (sc : Addr) (i : Int) (ns : List Int), vs = [.ref sc, .int i] ∧ SqL K H sc (ns.map V.int) ∧ 0 ≤ i ∧ i < 100 ∧ ∀ H' p, Same H H' → H p = none → PurseAt H' p (2 ^ 59) → Q (.ref p) H'
def spMixed : Sp := fun vs H Q _ => ∃ a b : Int, vs = [.int a, .int b] ∧ 0 ≤ a ∧ a < 2 ^ 31 ∧ 0 ≤ b ∧ b < 2 ^ 61 ∧ ∀ r : Int, 0 ≤ r → r < 2147483587 → Q (.int r) H
def spDraw : Sp := fun vs H Q _ => ∃ (a : Addr) (many : Int) (n : Nat), vs = [.ref a, .int many] ∧ PurseAt H a (n + 4) ∧ 1 ≤ many ∧ many < 2 ^ 100 ∧ ∀ r H', 0 ≤ r → r < many → PurseAt H' a n → SameB a H H' → Q (.int r) H'
theorem bits_100 {m : Int} (h0 : 1 ≤ m) (h : m < 2 ^ 100) : Builtin.Int.intBits m ≤ 100 := by
  unfold Builtin.Int.intBits
  rw [if_neg (by intro e; have := eq_of_beq e; omega)]
  have h1 : m.natAbs < 2 ^ 100 := by
    have e : ((m.natAbs : Nat) : Int) = m := Int.natAbs_of_nonneg (by omega)
    have : ((m.natAbs : Nat) : Int) < ((2 ^ 100 : Nat) : Int) := by rw [e]; exact_mod_cast h
    exact Int.ofNat_lt.mp this
  have := PySem.Flt.log2_lt_of (by decide) h1
  omega
section
variable {P : Program} {w : World} {K : PySem.W.Frag} {mg : Str → Option Value} {base : Heap}
theorem scPurse : FnScope ["_law_script", "_law_at", "_law_cell"] ["_law_script", "_law_at"] (defScope sPurse) := ⟨rfl, rfl, rfl, by decide +kernel, rfl, by decide +kernel, by decide +kernel⟩
theorem ok_purse {f : Addr} {fd : FuncData} (F : Fun K "_law_purse" "_law_purse" sPurse f fd) (B : Bt4 mg) : FnOk P w K mg base CX0 1 f fd ["_law_script", "_law_at"] (spPurse K) := by
  refine F.ok scPurse (fun vs H Q E h => ?_) (fun cdv A outer s H vs Q E hr h => ?_)
  · obtain ⟨sc, i, ns, rfl, _⟩ := h
    rfl
  · obtain ⟨sc, i, ns, rfl, hs, i0, i1, k⟩ := h
    refine ⟨_, pss_cons (ps_set (i := 2) scPurse.nd rfl (Or.inl rfl) (pe_callB (cr_sum rfl) (by rfl) B.sum_ (by decide +kernel) (pa_cons (pe_slice sl_listS (pv 0) (po_some (pv 1)) (po_some (pe_op op_add (pv 1) pe_int))) pa_nil)))
      (pss_one (ps_ret (pe_lstS (pa_cons (pe_op op_mod (pe_callB (call_max2 rfl) (by rfl) B.max_ (by decide +kernel) (pa_cons (pe_op op_sub (pv 2) (pe_op op_pow pe_int pe_int)) (pa_cons pe_int pa_nil))) (pe_op op_powX (pe_op op_pow pe_int pe_int) pe_int))
        (pa_cons (pe_op op_mod (pv 2) pe_int) (pa_cons (pe_op op_mul pe_int (pv 1)) pa_nil)))))), ?_⟩
    obtain ⟨ms, hms⟩ := cut_ints ns (some i) (some (i + 1))
    refine ⟨_, rfl, _, rfl, i, rfl, _, rfl, i, 1, rfl, rfl, i + 1, rfl, sc, _, rfl, hs, fun pc H1 S1 n1 h1 => ?_⟩
    rw [hms] at h1
    refine ⟨pc, ms, rfl, SqL.of h1, ?_⟩
    have c1 : CPow 10 18 := ⟨by decide, by decide, by decide⟩
    have c2 : CPow 10 60 := ⟨by decide, by decide, by decide⟩
    have c3 : CPowX ((10 : Int) ^ (60 : Int).toNat) 8 := ⟨by decide, by decide +kernel⟩
    refine ⟨_, rfl, 10, 18, rfl, rfl, c1, _, _, rfl, rfl, _, _, rfl, ?_⟩
    refine ⟨10, 60, rfl, rfl, c2, _, 8, rfl, rfl, c3, _, _, rfl, rfl, (show (0 : Int) < ((10 : Int) ^ (60 : Int).toNat) ^ (8 : Int).toNat by decide +kernel), ?_⟩
    refine ⟨_, rfl, _, _, rfl, rfl, (show (0 : Int) < 2147483629 by decide), _, rfl, _, _, rfl, rfl, .inl (by constructor <;> decide), (by show 3 ≤ sizeLine; decide), fun p H2 S2 np hp => ?_⟩
    refine k H2 p (S1.trans S2) (S1.free np) ⟨_, _, _, hp, Int.emod_nonneg _ (by decide +kernel), ?_, Int.emod_nonneg _ (by decide), ?_, by omega, by omega⟩
    · have e : ((10 : Int) ^ (60 : Int).toNat) ^ (8 : Int).toNat = 10 ^ 480 := by decide +kernel
      rw [e]
      exact Int.emod_lt_of_pos _ (by decide +kernel)
    · exact Int.lt_trans (Int.emod_lt_of_pos _ (by decide)) (by decide)
theorem scMixed : FnScope ["_law_seed", "_law_step", "_law_found"] ["_law_seed", "_law_step"] (defScope sMixed) := ⟨rfl, rfl, rfl, by decide +kernel, rfl, by decide +kernel, by decide +kernel⟩
theorem ok_mixed {f : Addr} {fd : FuncData} (F : Fun K "_law_mixed" "_law_mixed" sMixed f fd) : FnOk P w K mg base CX0 1 f fd ["_law_seed", "_law_step"] spMixed := by
  refine F.ok scMixed (fun vs H Q E h => ?_) (fun cdv A outer s H vs Q E hr h => ?_)
  · obtain ⟨a, b, rfl, _⟩ := h
    rfl
  · obtain ⟨a, b, rfl, a0, a1, b0, b1, k⟩ := h
    refine ⟨_, pss_cons (ps_set (i := 2) scMixed.nd rfl (Or.inl rfl) (pe_op op_mod (pe_op op_add (pe_op op_add (pe_op op_mul (pv 0) pe_int) (pe_op op_mul (pe_op op_mul pe_int (pv 1)) (pv 1))) (pv 1)) pe_int))
      (pss_cons (ps_set (i := 2) scMixed.nd rfl (Or.inl rfl) (pe_op op_mod (pe_op op_add (pe_op op_mul (pv 2) (pv 2)) pe_int) pe_int))
      (pss_one (ps_ret (pe_op op_mod (pe_op op_mul (pv 2) pe_int) pe_int)))), ?_⟩
    refine ⟨_, rfl, _, _, rfl, rfl, .inr (by constructor <;> decide), _, rfl, _, _, rfl, rfl, .inl (by constructor <;> decide), _, rfl, _, _, rfl, rfl, .inr ⟨by omega, by omega⟩, _, _, rfl, rfl, _, rfl, _, _, rfl, rfl, _, _, rfl, rfl, (show (0 : Int) < 2147483647 by decide), ?_⟩
    generalize hm : (a * 69069 + 104729 * b * b + b) % 2147483647 = m
    have m0 : 0 ≤ m := hm ▸ Int.emod_nonneg _ (by decide)
    have m1 : m < 2147483647 := hm ▸ Int.emod_lt_of_pos _ (by decide)
    refine ⟨_, rfl, _, rfl, _, _, rfl, rfl, .inr ⟨by omega, by omega⟩, _, _, rfl, rfl, _, _, rfl, rfl, (show (0 : Int) < 2147483629 by decide), ?_⟩
    refine ⟨_, rfl, _, _, rfl, rfl, .inr (by constructor <;> decide), _, _, rfl, rfl, (show (0 : Int) < 2147483587 by decide), ?_⟩
    exact k _ (Int.emod_nonneg _ (by decide)) (Int.emod_lt_of_pos _ (by decide))
theorem scDraw : FnScope ["_law_purse_here", "_law_many", "_law_drawn", "_law_found", "_law_piece"] ["_law_purse_here", "_law_many"] (defScope sDraw) := ⟨rfl, rfl, rfl, by decide +kernel, rfl, by decide +kernel, by decide +kernel⟩
theorem ok_draw {f : Addr} {fd : FuncData} (F : Fun K "_law_draw" "_law_draw" sDraw f fd) (B : Bt4 mg) (M : Cal P w K mg base 1 "_law_mixed" spMixed []) : FnOk P w K mg base CX0 2 f fd ["_law_purse_here", "_law_many"] spDraw := by
  refine F.ok scDraw (fun vs H Q E h => ?_) (fun cdv A outer s H vs Q E hr h => ?_)
  · obtain ⟨a, many, n, rfl, _⟩ := h
    rfl
  · obtain ⟨a, many, n, rfl, ⟨p0, p1, p2, hp, a0, a1, b0, b1, c0, c1⟩, m1, m2, k⟩ := h
    refine ⟨_, pss_cons (ps_if (pt_cmpR op_gt (pe_ix ix_list (pv 0) pe_int (fun _ _ => rfl)) pe_int (by rfl))
        (pss_cons (ps_set (i := 2) scDraw.nd rfl (Or.inl rfl) (pe_op op_mod (pe_ix ix_list (pv 0) pe_int (fun _ _ => rfl)) (pv 1)))
        (pss_cons (ps_asg (pe_op op_fdivW (pe_ix ix_list (pv 0) pe_int (fun _ _ => rfl)) (pv 1)) (pg_sub (pv 0) pe_int set_list))
        (pss_one (ps_ret (pv 2))))) pss_nil)
      (pss_cons (ps_set (i := 3) scDraw.nd rfl (Or.inl rfl) pe_int)
      (pss_cons (ps_for PassesOwn.never rfl (pi_range1 rfl B.rng_ (pa_cons (pe_op op_add pe_int (pe_op op_fdiv (pe_bits (pv 1)) pe_int)) pa_nil)) (pg_name (i := 4) scDraw.nd rfl (Or.inl rfl))
        (pss_cons (ps_asg (pe_op op_add (pe_ix ix_list (pv 0) pe_int (fun _ _ => rfl)) pe_int) (pg_sub (pv 0) pe_int set_list))
        (pss_one (ps_set (i := 3) scDraw.nd rfl (Or.inl rfl) (pe_op op_add (pe_op op_mul (pv 3) pe_int) (pe_c M hr (by decide) rfl (pa_cons (pe_ix ix_list (pv 0) pe_int (fun _ _ => rfl)) (pa_cons (pe_ix ix_list (pv 0) pe_int (fun _ _ => rfl)) pa_nil))))))))
      (pss_one (ps_ret (pe_op op_mod (pv 3) (pv 1)))))), ?_⟩
    have ml : CDivW p0 many := by
      refine ⟨by omega, ?_⟩
      have h1 := bits_100 m1 m2
      unfold Builtin.Int.intBits at h1
      rw [if_neg (by intro e; have := eq_of_beq e; omega)] at h1
      omega
    refine ⟨_, rfl, a, _, 0, _, rfl, rfl, SqL.of hp, rfl, _, _, rfl, rfl, _, rfl, iteD (fun h => ?_) (fun h => ?_)⟩
    · refine ⟨_, rfl, a, _, 0, _, rfl, rfl, SqL.of hp, rfl, _, rfl, _, _, rfl, rfl, (show 0 < many by omega), ?_⟩
      refine ⟨_, rfl, a, _, 0, _, rfl, rfl, SqL.of hp, rfl, _, rfl, _, _, rfl, rfl, ml, _, rfl, a, _, 0, 0, rfl, rfl, hp, rfl, ?_⟩
      refine ⟨_, rfl, k _ _ (Int.emod_nonneg _ (by omega)) (Int.emod_lt_of_pos _ (by omega)) ⟨p0 / many, p1, p2, upd_same, Int.ediv_nonneg a0 (by omega), Int.lt_of_le_of_lt (Int.ediv_le_self _ a0) a1, b0, b1, c0, by omega⟩ fun c o nc e => by rw [upd_ne nc]; exact e⟩
    · dsimp only [tNext]
      refine seq_asg ?_
      dsimp only [tC]
      have bb := bits_100 m1 m2
      have jn : ((1 + ((Builtin.Int.intBits many : Nat) : Int) / 28)).toNat ≤ 4 := by omega
      refine ⟨_, rfl, many, rfl, _, 28, rfl, rfl, (by constructor <;> decide), _, _, rfl, rfl, _, rfl, ?_⟩
      refine ⟨by omega, by omega, for_it (walk_range (n := (1 + ((Builtin.Int.intBits many : Nat) : Int) / 28).toNat)) (fun i σ' H' => (∃ fnd v, σ' = [some (.ref a), some (.int many), none, some (.int fnd), v]) ∧ SameB a H H' ∧ H' a = some (.lst [.int p0, .int p1, .int (p2 + (i : Nat))])) ⟨⟨0, none, rfl⟩, SameB.refl _ _, by rw [hp]; simp⟩ (fun _ _ _ _ _ => trivial) ?_ ?_⟩
      · rintro i x σ' H1 H2 hi ⟨⟨fnd, v, rfl⟩, S, hp'⟩ ⟨rfl, rfl⟩
        have hi4 : i < 4 := Nat.lt_of_lt_of_le hi jn
        refine ⟨_, rfl, a, _, 2, _, rfl, rfl, SqL.of hp', rfl, _, _, rfl, rfl, _, rfl, a, _, 2, 2, rfl, rfl, hp', rfl, ?_⟩
        have hq : (upd H2 a (.lst [.int p0, .int p1, .int (p2 + (i : Nat) + 1)])) a = some (.lst [.int p0, .int p1, .int (p2 + (i : Nat) + 1)]) := upd_same
        have sq : SqL K (upd H2 a (.lst [.int p0, .int p1, .int (p2 + (i : Nat) + 1)])) a [.int p0, .int p1, .int (p2 + (i : Nat) + 1)] := SqL.of hq
        refine ⟨_, rfl, _, _, rfl, rfl, .inr (by constructor <;> decide), _, rfl, a, _, 1, _, rfl, rfl, sq, rfl, _, rfl, a, _, 2, _, rfl, rfl, sq, rfl, p1, p2 + (i : Nat) + 1, rfl, b0, b1, by omega, by omega, fun r r0 r1 => ⟨_, _, rfl, rfl, ⟨_, _, rfl⟩, S.upd, ?_⟩⟩
        rw [upd_same]
        have e : p2 + ((i + 1 : Nat) : Int) = p2 + (i : Nat) + 1 := by omega
        rw [e]
        rfl
      · rintro σ' H1 ⟨⟨fnd, v, rfl⟩, S, hp'⟩
        dsimp only
        exact ⟨_, rfl, _, rfl, _, _, rfl, rfl, (show 0 < many by omega), k _ _ (Int.emod_nonneg _ (by omega)) (Int.emod_lt_of_pos _ (by omega)) ⟨p0, p1, _, hp', a0, a1, b0, b1, by omega, by omega⟩ S⟩
end
end E3

set_option linter.all false
set_option maxHeartbeats 400000
/-! rings: the mirrors -/
namespace E3
def pw (b e m : Nat) : Nat := if e = 0 then 1 else b ^ e % m
theorem pw_step {b e m f c x : Nat} (hx : 0 < x) (h : (f * c ^ x) % m = b ^ e % m ∧ 0 < e) :
    (x / 2 = 0 → (if x % 2 = 1 then f * c % m else f) = pw b e m) ∧ (0 < x / 2 → ((if x % 2 = 1 then f * c % m else f) * (c * c % m) ^ (x / 2)) % m = b ^ e % m ∧ 0 < e) := by
  obtain ⟨h1, h2⟩ := h
  refine ⟨fun z => ?_, fun z => ⟨?_, h2⟩⟩
  · have : x = 1 := by omega
    subst this
    rw [if_pos rfl]
    unfold pw
    rw [if_neg (by omega), ← h1, Nat.pow_one]
  · have k : (c * c % m) ^ (x / 2) % m = c ^ (2 * (x / 2)) % m := by
      rw [← Nat.pow_mod, Nat.pow_mul, Nat.pow_two]
    by_cases o : x % 2 = 1
    · rw [if_pos o, Nat.mul_mod, k, Nat.mod_mod, ← Nat.mul_mod, ← h1, Nat.mul_assoc]
      have e1 : x = 2 * (x / 2) + 1 := by omega
      have e2 : c * c ^ (2 * (x / 2)) = c ^ x := by
        conv => rhs; rw [e1, Nat.pow_succ, Nat.mul_comm]
      rw [e2]
    · rw [if_neg o, Nat.mul_mod, k, ← Nat.mul_mod, ← h1]
      have e1 : 2 * (x / 2) = x := by omega
      rw [e1]
/-! powers taken out -/
def stripGo : Nat → Nat → Nat → Nat → Nat × Nat
  | 0, _, v, e => (v, e)
  | n + 1, p, v, e => if v % p = 0 then stripGo n p (v / p) (e + 1) else (v, e)
def facFin (v : Nat) (acc : List (Nat × Nat)) : List (Nat × Nat) := if 1 < v then acc ++ [(v, 1)] else acc
def facGo : Nat → Nat → Nat → List (Nat × Nat) → List (Nat × Nat)
  | 0, _, v, acc => facFin v acc
  | n + 1, p, v, acc => if p * p ≤ v then facGo n (p + 1) (stripGo v p v 0).1 (if 0 < (stripGo v p v 0).2 then acc ++ [(p, (stripGo v p v 0).2)] else acc) else facFin v acc
def facM (v : Nat) : List (Nat × Nat) := facGo v 2 v []
def prodF (l : List (Nat × Nat)) : Nat := l.foldr (fun x r => x.1 ^ x.2 * r) 1
theorem prodF_app (l m : List (Nat × Nat)) : prodF (l ++ m) = prodF l * prodF m := by
  induction l with
  | nil => simp [prodF]
  | cons x l ih =>
    have : prodF (x :: l ++ m) = x.1 ^ x.2 * prodF (l ++ m) := rfl
    rw [this, ih, ← Nat.mul_assoc]; rfl
theorem strip_ok : ∀ (n p v e : Nat), 2 ≤ p → 1 ≤ v → (stripGo n p v e).1 * p ^ (stripGo n p v e).2 = v * p ^ e ∧ 1 ≤ (stripGo n p v e).1 ∧ (stripGo n p v e).1 ≤ v ∧ e ≤ (stripGo n p v e).2
  | 0, p, v, e, h, h1 => ⟨rfl, h1, Nat.le_refl _, Nat.le_refl _⟩
  | n + 1, p, v, e, h, h1 => by
    unfold stripGo
    by_cases z : v % p = 0
    · rw [if_pos z]
      have d := Nat.div_add_mod v p
      rw [z, Nat.add_zero] at d
      have hv : 1 ≤ v / p := Nat.pos_of_ne_zero fun q => by rw [q, Nat.mul_zero] at d; omega
      obtain ⟨a, b, c, g⟩ := strip_ok n p (v / p) (e + 1) h hv
      refine ⟨?_, b, Nat.le_trans c (Nat.div_le_self _ _), by omega⟩
      rw [a, Nat.pow_succ]
      conv => rhs; rw [← d]
      rw [Nat.mul_comm (p ^ e) p, ← Nat.mul_assoc, Nat.mul_comm (v / p) p]
    · rw [if_neg z]
      exact ⟨rfl, h1, Nat.le_refl _, Nat.le_refl _⟩
def Good (l : List (Nat × Nat)) : Prop := ∀ x ∈ l, 2 ≤ x.1 ∧ 1 ≤ x.2
theorem fin_ok {v : Nat} {acc : List (Nat × Nat)} (hv : 1 ≤ v) (g : Good acc) : Good (facFin v acc) ∧ prodF (facFin v acc) = prodF acc * v := by
  unfold facFin
  by_cases z : 1 < v
  · rw [if_pos z]
    refine ⟨fun x hx => ?_, ?_⟩
    · rcases List.mem_append.mp hx with h | h
      · exact g x h
      · obtain rfl := List.mem_singleton.mp h
        exact ⟨z, Nat.le_refl _⟩
    · rw [prodF_app]; simp [prodF]
  · rw [if_neg z]
    have : v = 1 := by omega
    subst this
    exact ⟨g, by simp⟩
theorem facGo_ok : ∀ (n p v : Nat) (acc : List (Nat × Nat)), 2 ≤ p → 1 ≤ v → Good acc → Good (facGo n p v acc) ∧ prodF (facGo n p v acc) = prodF acc * v
  | 0, p, v, acc, h, hv, g => fin_ok hv g
  | n + 1, p, v, acc, h, hv, g => by
    unfold facGo
    by_cases z : p * p ≤ v
    · rw [if_pos z]
      obtain ⟨a, b, c, d⟩ := strip_ok v p v 0 h hv
      generalize stripGo v p v 0 = s at a b c d
      have g2 : Good (if 0 < s.2 then acc ++ [(p, s.2)] else acc) := by
        by_cases y : 0 < s.2
        · rw [if_pos y]
          intro x hx
          rcases List.mem_append.mp hx with h' | h'
          · exact g x h'
          · obtain rfl := List.mem_singleton.mp h'
            exact ⟨h, y⟩
        · rw [if_neg y]; exact g
      obtain ⟨r1, r2⟩ := facGo_ok n (p + 1) s.1 _ (by omega) b g2
      refine ⟨r1, r2.trans ?_⟩
      by_cases y : 0 < s.2
      · rw [if_pos y, prodF_app]
        have : prodF [(p, s.2)] = p ^ s.2 := by simp [prodF]
        rw [this, Nat.mul_assoc, Nat.mul_comm (p ^ s.2), a]; simp
      · rw [if_neg y]
        have : s.2 = 0 := by omega
        rw [this] at a
        simp at a
        rw [a]
    · rw [if_neg z]
      exact fin_ok hv g
theorem facM_ok {v : Nat} (hv : 1 ≤ v) : Good (facM v) ∧ prodF (facM v) = v := by
  obtain ⟨a, b⟩ := facGo_ok v 2 v [] (by decide) hv (fun x hx => by cases hx)
  exact ⟨a, by unfold facM; rw [b]; simp [prodF]⟩
theorem prodF_pos {l : List (Nat × Nat)} (g : Good l) : 1 ≤ prodF l := by
  induction l with
  | nil => exact Nat.le_refl _
  | cons x l ih =>
    have h1 := ih fun y hy => g y (List.mem_cons_of_mem _ hy)
    have h2 : 0 < x.1 ^ x.2 := Nat.pow_pos (by have := (g x (List.mem_cons_self ..)).1; omega)
    exact Nat.mul_pos h2 h1
theorem prodF_take_le {l : List (Nat × Nat)} (g : Good l) (i : Nat) : prodF (l.take i) ≤ prodF l := by
  have e : prodF l = prodF (l.take i) * prodF (l.drop i) := by rw [← prodF_app, List.take_append_drop]
  rw [e]
  exact Nat.le_mul_of_pos_right _ (prodF_pos fun y hy => g y (List.mem_of_mem_drop hy))
theorem prodF_take_succ {l : List (Nat × Nat)} {i : Nat} {x : Nat × Nat} (h : l[i]? = some x) : prodF (l.take (i + 1)) = prodF (l.take i) * x.1 ^ x.2 := by
  rw [List.take_succ, h, prodF_app]; simp [prodF]
theorem prodF_mem_le {l : List (Nat × Nat)} (g : Good l) {x : Nat × Nat} (h : x ∈ l) : x.1 ^ x.2 ≤ prodF l := by
  induction l with
  | nil => cases h
  | cons y l ih =>
    have gl : Good l := fun z hz => g z (List.mem_cons_of_mem _ hz)
    have p1 := prodF_pos gl
    have p2 : 0 < y.1 ^ y.2 := Nat.pow_pos (by have := (g y (List.mem_cons_self ..)).1; omega)
    rcases List.mem_cons.mp h with rfl | h
    · exact Nat.le_mul_of_pos_right _ p1
    · exact Nat.le_trans (ih gl h) (Nat.le_mul_of_pos_left _ p2)
/-! orders -/
def unitsM (p e : Nat) : Nat := (p - 1) * p ^ (e - 1)
def ordLoop : Nat → Nat → Nat → Nat → Nat → Nat
  | 0, _, _, _, f => f
  | n + 1, b, m, q, f => if f % q = 0 ∧ pw b (f / q) m = 1 then ordLoop n b m q (f / q) else f
def ordM (b p e : Nat) : Nat := (facM (unitsM p e)).foldl (fun f x => ordLoop f b (p ^ e) x.1 f) (unitsM p e)
theorem units_pos {p e : Nat} (hp : 2 ≤ p) : 1 ≤ unitsM p e := Nat.mul_pos (by omega) (Nat.pow_pos (by omega))
theorem units_le {p e : Nat} (hp : 2 ≤ p) (he : 1 ≤ e) : unitsM p e ≤ p ^ e := by
  unfold unitsM
  have : e = (e - 1) + 1 := by omega
  conv => rhs; rw [this, Nat.pow_succ, Nat.mul_comm]
  exact Nat.mul_le_mul_right _ (by omega)
theorem units_div {p e : Nat} (hp : 2 ≤ p) (he : 1 ≤ e) : unitsM p e / (p - 1) * p = p ^ e := by
  unfold unitsM
  rw [Nat.mul_div_cancel_left _ (by omega : 0 < p - 1), ← Nat.pow_succ]
  congr 1; omega
theorem div_pos' {f q : Nat} (hf : 1 ≤ f) (h : f % q = 0) : 1 ≤ f / q := Nat.pos_of_ne_zero fun z => by
  have d := Nat.div_add_mod f q
  rw [h, z, Nat.mul_zero] at d
  omega
theorem ordLoop_ok : ∀ (n b m q f : Nat), 1 ≤ f → 1 ≤ ordLoop n b m q f ∧ ordLoop n b m q f ≤ f
  | 0, _, _, _, f, h => ⟨h, Nat.le_refl _⟩
  | n + 1, b, m, q, f, h => by
    unfold ordLoop
    by_cases z : f % q = 0 ∧ pw b (f / q) m = 1
    · rw [if_pos z]
      obtain ⟨a, c⟩ := ordLoop_ok n b m q (f / q) (div_pos' h z.1)
      exact ⟨a, Nat.le_trans c (Nat.div_le_self _ _)⟩
    · rw [if_neg z]
      exact ⟨h, Nat.le_refl _⟩
theorem ordFold_ok (b m : Nat) : ∀ (l : List (Nat × Nat)) (f : Nat), 1 ≤ f → 1 ≤ l.foldl (fun f x => ordLoop f b m x.1 f) f ∧ l.foldl (fun f x => ordLoop f b m x.1 f) f ≤ f
  | [], f, h => ⟨h, Nat.le_refl _⟩
  | x :: l, f, h => by
    obtain ⟨a, c⟩ := ordLoop_ok f b m x.1 f h
    obtain ⟨a2, c2⟩ := ordFold_ok b m l _ a
    exact ⟨a2, Nat.le_trans c2 c⟩
theorem ordM_ok {b p e : Nat} (hp : 2 ≤ p) : 1 ≤ ordM b p e ∧ ordM b p e ≤ unitsM p e := ordFold_ok b (p ^ e) _ _ (units_pos hp)
/-! rings -/
def lcmF (r : Nat) (l : List (Nat × Nat)) : Nat := l.foldl (fun f x => Nat.lcm f (ordM r x.1 x.2)) 1
theorem lcm_le {a b : Nat} (ha : 1 ≤ a) (hb : 1 ≤ b) : 1 ≤ Nat.lcm a b ∧ Nat.lcm a b ≤ a * b := by
  refine ⟨Nat.lcm_pos ha hb, ?_⟩
  exact Nat.le_of_dvd (Nat.mul_pos ha hb) (Nat.lcm_dvd (Nat.dvd_mul_right a b) (Nat.dvd_mul_left b a))
theorem lcmF_take {r : Nat} {l : List (Nat × Nat)} {i : Nat} {x : Nat × Nat} (h : l[i]? = some x) : lcmF r (l.take (i + 1)) = Nat.lcm (lcmF r (l.take i)) (ordM r x.1 x.2) := by
  unfold lcmF
  rw [List.take_succ, h, List.foldl_append]; rfl
theorem lcmF_ok {r : Nat} {l : List (Nat × Nat)} (g : Good l) : ∀ i, 1 ≤ lcmF r (l.take i) ∧ lcmF r (l.take i) ≤ prodF (l.take i)
  | 0 => ⟨Nat.le_refl _, Nat.le_refl _⟩
  | i + 1 => by
    obtain ⟨a, b⟩ := lcmF_ok g (r := r) i
    by_cases h : i < l.length
    · have e := List.getElem?_eq_getElem h
      have gx := g _ (List.getElem_mem h)
      rw [lcmF_take e, prodF_take_succ e]
      obtain ⟨o1, o2⟩ := ordM_ok (b := r) (e := l[i].2) gx.1
      obtain ⟨c, d⟩ := lcm_le a o1
      exact ⟨c, Nat.le_trans d (Nat.mul_le_mul b (Nat.le_trans o2 (units_le gx.1 gx.2)))⟩
    · rw [List.take_of_length_le (by omega)] at a b ⊢
      exact ⟨a, b⟩
def ringM (r last p : Nat) : Nat := if p = last then 1 else lcmF r (facM (last / Nat.gcd p last))
def turnM (r last p t : Nat) : Nat := if p = last then p else p * pw r t last % last
end E3
namespace E3
theorem two_pow_len : ∀ {l : List (Nat × Nat)}, Good l → 2 ^ l.length ≤ prodF l
  | [], _ => Nat.le_refl _
  | x :: l, g => by
    have h1 := two_pow_len (l := l) fun y hy => g y (List.mem_cons_of_mem _ hy)
    obtain ⟨a, b⟩ := g x (List.mem_cons_self ..)
    have h2 : 2 ≤ x.1 ^ x.2 := Nat.le_trans a (Nat.le_self_pow (by omega) _)
    show 2 ^ (l.length + 1) ≤ x.1 ^ x.2 * prodF l
    rw [Nat.pow_succ, Nat.mul_comm]
    exact Nat.mul_le_mul h2 h1
theorem len_lt {l : List (Nat × Nat)} (g : Good l) {V : Nat} (h : prodF l ≤ V) (hV : V < 2 ^ 40) : l.length < 40 := by
  have := two_pow_len g
  exact (Nat.pow_lt_pow_iff_right (by decide : 1 < 2)).mp (Nat.lt_of_le_of_lt (Nat.le_trans this h) hV)
theorem fac_step {p v : Nat} {acc : List (Nat × Nat)} (h : 2 ≤ p) (hv : 1 ≤ v) (g : Good acc) : Good (if 0 < (stripGo v p v 0).2 then acc ++ [(p, (stripGo v p v 0).2)] else acc) ∧
    prodF (if 0 < (stripGo v p v 0).2 then acc ++ [(p, (stripGo v p v 0).2)] else acc) * (stripGo v p v 0).1 = prodF acc * v ∧ 1 ≤ (stripGo v p v 0).1 ∧ (stripGo v p v 0).1 ≤ v := by
  obtain ⟨a, b, c, d⟩ := strip_ok v p v 0 h hv
  generalize stripGo v p v 0 = s at a b c d
  refine ⟨?_, ?_, b, c⟩
  · by_cases y : 0 < s.2
    · rw [if_pos y]
      intro x hx
      rcases List.mem_append.mp hx with h' | h'
      · exact g x h'
      · obtain rfl := List.mem_singleton.mp h'
        exact ⟨h, y⟩
    · rw [if_neg y]; exact g
  · by_cases y : 0 < s.2
    · rw [if_pos y, prodF_app]
      have : prodF [(p, s.2)] = p ^ s.2 := by simp [prodF]
      rw [this, Nat.mul_assoc, Nat.mul_comm (p ^ s.2), a]; simp
    · rw [if_neg y]
      have : s.2 = 0 := by omega
      rw [this] at a
      simp at a
      rw [a]
theorem exp_lt {l : List (Nat × Nat)} (g : Good l) {V : Nat} (h : prodF l ≤ V) (hV : V < 2 ^ 40) {x : Nat × Nat} (hx : x ∈ l) : x.1 < 2 ^ 40 ∧ x.2 < 40 ∧ x.1 ^ x.2 < 2 ^ 40 := by
  obtain ⟨a, b⟩ := g x hx
  have h1 : x.1 ^ x.2 < 2 ^ 40 := Nat.lt_of_le_of_lt (Nat.le_trans (prodF_mem_le g hx) h) hV
  refine ⟨Nat.lt_of_le_of_lt (Nat.le_self_pow (by omega) _) h1, ?_, h1⟩
  exact (Nat.pow_lt_pow_iff_right (by decide : 1 < 2)).mp (Nat.lt_of_le_of_lt (Nat.pow_le_pow_left a _) h1)
end E3

set_option Elab.async false
set_option linter.all false
set_option maxRecDepth 100000
set_option maxHeartbeats 1000000
/-! rings: is_whole, is_count, check_lengths, check_place, power, units, factors -/
namespace E3
open PySem PySem.Spec PyProof.Rows L2
open C8 (Cal Mak Met InsC pe_c pe_mt pe_mt0 call_isC clsBody)
abbrev sWhole : Stmt := top 5
abbrev sCount : Stmt := top 6
abbrev sTurned : Stmt := top 8
abbrev sRingLen : Stmt := top 9
abbrev sRings : Stmt := top 10
abbrev sChkL : Stmt := top 11
abbrev sChkP : Stmt := top 12
abbrev sPlaces : Stmt := top 13
abbrev sOrder : Stmt := top 14
abbrev sUnits : Stmt := top 15
abbrev sFactors : Stmt := top 16
abbrev sPower : Stmt := top 17
structure Bt5 (mg : Str → Option Value) : Prop where
  isi : mg "isinstance" = none
  int_ : mg "int" = none
  bool_ : mg "bool" = none
  sorted_ : mg "sorted" = none
abbrev cI (n : Nat) : V := .int ((n : Nat) : Int)
/-- rows, columns, a place -/
def Tb (r c : Nat) : Prop := 1 ≤ r ∧ 1 ≤ c ∧ r ≤ 65536 ∧ c ≤ 65536
def spWh1 : Sp := fun vs H Q _ => ∃ i : Int, vs = [.int i] ∧ Q (.bl true) H
def spCnt1 : Sp := fun vs H Q _ => ∃ i : Int, vs = [.int i] ∧ 0 ≤ i ∧ Q (.bl true) H
def spChkL : Sp := fun vs H Q _ => ∃ r c : Nat, vs = [cI r, cI c] ∧ Tb r c ∧ ∀ H', Same H H' → Q .non H'
def spChkP : Sp := fun vs H Q _ => ∃ r c p : Nat, vs = [cI r, cI c, cI p] ∧ Tb r c ∧ p < r * c ∧ ∀ H', Same H H' → Q .non H'
def spPower : Sp := fun vs H Q _ => ∃ b e m : Nat, vs = [cI b, cI e, cI m] ∧ b < 2 ^ 40 ∧ e < 2 ^ 200 ∧ 1 ≤ m ∧ m < 2 ^ 40 ∧ Q (cI (pw b e m)) H
def spUnits : Sp := fun vs H Q _ => ∃ p e : Nat, vs = [cI p, cI e] ∧ 2 ≤ p ∧ p < 2 ^ 40 ∧ 1 ≤ e ∧ e < 2 ^ 40 ∧ Q (cI (unitsM p e)) H
/-- a list of pairs of numbers -/
def PrsAt (H : Hp) (a : Addr) (l : List (Nat × Nat)) : Prop := ∃ ts : List Addr, H a = some (.lst (ts.map V.ref)) ∧ ts.length = l.length ∧ ∀ (i : Nat) (t : Addr) (x : Nat × Nat), ts[i]? = some t → l[i]? = some x → H t = some (.tup [cI x.1, cI x.2])
theorem PrsAt.same {H H' : Hp} {a : Addr} {l : List (Nat × Nat)} (h : PrsAt H a l) (S : Same H H') : PrsAt H' a l :=
  let ⟨ts, h1, h2, h3⟩ := h
  ⟨ts, S _ _ h1, h2, fun i t x e1 e2 => S _ _ (h3 i t x e1 e2)⟩
theorem PrsAt.nil {H : Hp} {a : Addr} (h : H a = some (.lst [])) : PrsAt H a [] := ⟨[], h, rfl, fun i t x e => by simp at e⟩
theorem PrsAt.snoc {H : Hp} {a t : Addr} {l : List (Nat × Nat)} {ts : List Addr} {x : Nat × Nat} (h1 : H a = some (.lst (ts.map V.ref))) (h2 : ts.length = l.length) (h3 : ∀ (i : Nat) (t : Addr) (x : Nat × Nat), ts[i]? = some t → l[i]? = some x → H t = some (.tup [cI x.1, cI x.2]))
    (ht : H t = some (.tup [cI x.1, cI x.2])) : PrsAt (upd H a (.lst (ts.map V.ref ++ [V.ref t]))) a (l ++ [x]) := by
  refine ⟨ts ++ [t], by rw [upd_same, List.map_append]; rfl, by rw [List.length_append, List.length_append, h2]; rfl, fun i u y e1 e2 => ?_⟩
  have ne : ∀ (b : Addr) (q : List V), H b = some (.tup q) → b ≠ a := fun b q e z => by rw [z, h1] at e; cases e
  rcases Nat.lt_trichotomy i ts.length with c | c | c
  · rw [List.getElem?_append_left c] at e1
    rw [List.getElem?_append_left (by omega)] at e2
    have := h3 i u y e1 e2
    rw [upd_ne (ne _ _ this)]
    exact this
  · subst c
    rw [List.getElem?_append_right (Nat.le_refl _)] at e1
    rw [List.getElem?_append_right (by omega), h2] at e2
    simp at e1 e2
    subst e1 e2
    rw [upd_ne (ne _ _ ht)]
    exact ht
  · rw [List.getElem?_eq_none (by simp; omega)] at e1
    cases e1
def spFactors : Sp := fun vs H Q _ => ∃ v : Nat, vs = [cI v] ∧ 1 ≤ v ∧ v < 2 ^ 40 ∧ ∀ H' a, Same H H' → PrsAt H' a (facM v) → Q (.ref a) H'
theorem l40 {n : Nat} (h : n < 2 ^ 40) : ((n : Nat) : Int).natAbs.log2 < 9000 := by
  have := PySem.Flt.log2_lt_of (k := 40) (n := ((n : Nat) : Int).natAbs) (by decide) (by rw [Int.natAbs_natCast]; exact h)
  omega
section
variable {P : Program} {w : World} {K : PySem.W.Frag} {mg : Str → Option Value} {base : Heap}
theorem kit_ii : PySem.W.kitOne K (.type "int") (.type "int") = some true := by kernel_rfl
theorem kit_ib : PySem.W.kitOne K (.type "int") (.type "bool") = some false := by kernel_rfl
theorem scWhole : FnScope ["value"] ["value"] (defScope sWhole) := ⟨rfl, rfl, rfl, by decide +kernel, rfl, by decide +kernel, by decide +kernel⟩
theorem ok_whole1 {f : Addr} {fd : FuncData} (F : Fun K "is_whole" "is_whole" sWhole f fd) (B : Bt5 mg) : FnOk P w K mg base CX0 1 f fd ["value"] spWh1 := by
  refine F.ok scWhole (fun vs H Q E h => ?_) (fun cdv A outer s H vs Q E hr h => ?_)
  · obtain ⟨v, rfl, _⟩ := h
    rfl
  · obtain ⟨i, rfl, q⟩ := h
    refine ⟨_, pss_one (ps_ret (pe_and (pe_callB call_isi (by rfl) B.isi (by decide +kernel) (pa_cons (pv 0) (pa_cons (pe_bltn (v := .ty "int") (by rfl) B.int_ (by decide +kernel) rfl) pa_nil)))
      (pe_one (pe_not (pe_callB call_isi (by rfl) B.isi (by decide +kernel) (pa_cons (pv 0) (pa_cons (pe_bltn (v := .ty "bool") (by rfl) B.bool_ (by decide +kernel) rfl) pa_nil))))))), ?_⟩
    refine ⟨_, rfl, _, _, _, _, true, rfl, .ty "int", .base (.int i), kit_ii, true, rfl, iteT (B := False) ?_⟩
    exact ⟨_, rfl, _, _, _, _, false, rfl, .ty "bool", .base (.int i), kit_ib, false, rfl, q⟩
theorem scCount : FnScope ["value"] ["value"] (defScope sCount) := ⟨rfl, rfl, rfl, by decide +kernel, rfl, by decide +kernel, by decide +kernel⟩
theorem ok_count1 {f : Addr} {fd : FuncData} (F : Fun K "is_count" "is_count" sCount f fd) (Wh : Cal P w K mg base 1 "is_whole" spWh1 []) : FnOk P w K mg base CX0 2 f fd ["value"] spCnt1 := by
  refine F.ok scCount (fun vs H Q E h => ?_) (fun cdv A outer s H vs Q E hr h => ?_)
  · obtain ⟨v, rfl, _⟩ := h
    rfl
  · obtain ⟨i, rfl, i0, q⟩ := h
    refine ⟨_, pss_one (ps_ret (pe_and (pe_c Wh hr (by decide) rfl (pa_cons (pv 0) pa_nil)) (pe_one (pe_cmpR op_ge (pv 0) pe_int (nomark _))))), ?_⟩
    refine ⟨_, rfl, _, rfl, true, rfl, iteT (B := False) ⟨_, rfl, _, _, rfl, rfl, ?_⟩⟩
    show Q (.bl (decide (0 ≤ i))) H
    rw [decide_eq_true i0]
    exact q
theorem scChkL : FnScope ["rows", "columns", "value"] ["rows", "columns"] (defScope sChkL) := ⟨rfl, rfl, rfl, by decide +kernel, rfl, by decide +kernel, by decide +kernel⟩
theorem ok_chkL {f : Addr} {fd : FuncData} (F : Fun K "check_lengths" "check_lengths" sChkL f fd) (Wh : Cal P w K mg base 1 "is_whole" spWh1 []) : FnOk P w K mg base CX0 2 f fd ["rows", "columns"] spChkL := by
  refine F.ok scChkL (fun vs H Q E h => ?_) (fun cdv A outer s H vs Q E hr h => ?_)
  · obtain ⟨r, c, rfl, _⟩ := h
    rfl
  · obtain ⟨r, c, rfl, ⟨r1, c1, r2, c2⟩, q⟩ := h
    refine ⟨_, pss_one (ps_for PassesOwn.never rfl (pi_list (pe_lstS (pa_cons (pv 0) (pa_cons (pv 1) pa_nil)))) (pg_name (i := 2) scChkL.nd rfl (Or.inl rfl))
      (pss_one (ps_if (PW.pt (pw_or (pt_not (pt_val (pe_c Wh hr (by decide) rfl (pa_cons (pv 2) pa_nil)))) (pw_or1 (pt_cmpR op_lt (pv 2) pe_int (nomark _))))) (pss_one ps_never) pss_nil))), ?_⟩
    refine ⟨_, rfl, _, rfl, (by show 2 ≤ sizeLine; decide), fun l H1 S1 n1 h1 => ?_⟩
    refine ⟨l, rfl, ⟨_, SqL.of h1⟩, for_it (walk_list (xs := [cI r, cI c])) (fun i σ' H' => (∃ u, σ' = [some (cI r), some (cI c), u]) ∧ Same H1 H') ⟨⟨none, rfl⟩, Same.refl _⟩ (fun i σ' H' _ p => SqL.of (p.2 _ _ h1)) ?_ ?_⟩
    · rintro i x σ' H2 H3 hi ⟨⟨u, rfl⟩, S2⟩ ⟨rfl, hx⟩
      have hv : ∃ n : Nat, x = cI n ∧ 1 ≤ n := by
        match i, hi, hx with
        | 0, _, hx => exact ⟨r, (Option.some.inj hx).symm, r1⟩
        | 1, _, hx => exact ⟨c, (Option.some.inj hx).symm, c1⟩
      obtain ⟨n, rfl, n1⟩ := hv
      refine ⟨_, rfl, _, rfl, true, rfl, iteF ⟨_, rfl, _, _, rfl, rfl, _, rfl, ?_⟩⟩
      rw [decide_eq_false (by omega)]
      exact iteF ⟨⟨_, rfl⟩, S2⟩
    · rintro σ' H2 ⟨_, S2⟩
      exact q H2 (S1.trans S2)
theorem scChkP : FnScope ["rows", "columns", "place"] ["rows", "columns", "place"] (defScope sChkP) := ⟨rfl, rfl, rfl, by decide +kernel, rfl, by decide +kernel, by decide +kernel⟩
theorem ok_chkP {f : Addr} {fd : FuncData} (F : Fun K "check_place" "check_place" sChkP f fd) (L : Cal P w K mg base 2 "check_lengths" spChkL []) (Cn : Cal P w K mg base 2 "is_count" spCnt1 []) : FnOk P w K mg base CX0 3 f fd ["rows", "columns", "place"] spChkP := by
  refine F.ok scChkP (fun vs H Q E h => ?_) (fun cdv A outer s H vs Q E hr h => ?_)
  · obtain ⟨r, c, p, rfl, _⟩ := h
    rfl
  · obtain ⟨r, c, p, rfl, hT, hp, q⟩ := h
    refine ⟨_, pss_cons (ps_expr (pe_c L hr (by decide) rfl (pa_cons (pv 0) (pa_cons (pv 1) pa_nil))))
      (pss_one (ps_if (PW.pt (pw_or (pt_not (pt_val (pe_c Cn hr (by decide) rfl (pa_cons (pv 2) pa_nil)))) (pw_or1 (pt_cmpR op_ge (pv 2) (pe_op op_mul (pv 0) (pv 1)) (nomark _))))) (pss_one ps_never) pss_nil)), ?_⟩
    obtain ⟨r1, c1, r2, c2⟩ := id hT
    refine ⟨_, rfl, _, rfl, r, c, rfl, hT, fun H1 S1 => ⟨_, rfl, _, rfl, by omega, true, rfl, iteF ⟨_, rfl, _, rfl, _, rfl, _, _, rfl, rfl, .inl ⟨by omega, by omega⟩, _, _, rfl, rfl, _, rfl, ?_⟩⟩⟩
    rw [decide_eq_false (by
      have h0 : ((p : Nat) : Int) < ((r * c : Nat) : Int) := Int.ofNat_lt.mpr hp
      rw [Int.natCast_mul] at h0
      omega)]
    exact iteF (q H1 S1)
theorem scPower : FnScope ["base", "exponent", "modulus", "found"] ["base", "exponent", "modulus"] (defScope sPower) := ⟨rfl, rfl, rfl, by decide +kernel, rfl, by decide +kernel, by decide +kernel⟩
theorem ok_power {f : Addr} {fd : FuncData} (F : Fun K "power" "power" sPower f fd) : FnOk P w K mg base CX0 1 f fd ["base", "exponent", "modulus"] spPower := by
  refine F.ok scPower (fun vs H Q E h => ?_) (fun cdv A outer s H vs Q E hr h => ?_)
  · obtain ⟨b, e, m, rfl, _⟩ := h
    rfl
  · obtain ⟨b, e, m, rfl, hb, he, m1, m2, q⟩ := h
    refine ⟨_, pss_cons (ps_set (i := 3) scPower.nd rfl (Or.inl rfl) pe_int)
      (pss_cons (ps_while PassesOwn.never (pt_cmpR op_gt (pv 1) pe_int (nomark _))
        (pss_cons (ps_if (pt_cmpR op_eq (pe_op op_mod (pv 1) pe_int) pe_int (nomark _)) (pss_one (ps_set (i := 3) scPower.nd rfl (Or.inl rfl) (pe_op op_mod (pe_op op_mul (pv 3) (pv 0)) (pv 2)))) pss_nil)
        (pss_cons (ps_set (i := 0) scPower.nd rfl (Or.inl rfl) (pe_op op_mod (pe_op op_mul (pv 0) (pv 0)) (pv 2)))
        (pss_one (ps_set (i := 1) scPower.nd rfl (Or.inl rfl) (pe_op op_fdiv (pv 1) pe_int))))))
      (pss_one (ps_ret (pv 3)))), ?_⟩
    refine while_by (fun σ' H' => ∃ c x g : Nat, σ' = [some (cI c), some (cI x), some (cI m), some (cI g)] ∧ H' = H ∧ c < 2 ^ 40 ∧ g < 2 ^ 40 ∧ (x = 0 → g = pw b e m) ∧ (0 < x → (g * c ^ x) % m = b ^ e % m ∧ 0 < e)) (fun σ' _ => match σ' with
      | [_, some (.int x), _, _] => x.toNat
      | _ => 0) ⟨b, e, 1, rfl, rfl, hb, by decide, fun z => ?_, fun z => ⟨?_, z⟩⟩ ?_ ?_
    · unfold pw; rw [if_pos z]
    · rw [Nat.one_mul]
    · rintro σ' H' ⟨c, x, g, rfl, rfl, c1, g1, h1, h2⟩
      refine ⟨_, rfl, _, _, rfl, rfl, _, rfl, iteD (fun hx => ?_) (fun hx => ?_)⟩
      · have x0 : 0 < x := by omega
        obtain ⟨k1, k2⟩ := pw_step x0 (h2 x0)
        have lt : ∀ y : Nat, y % m < 2 ^ 40 := fun y => Nat.lt_trans (Nat.mod_lt _ (by omega)) m2
        have m0 : (0 : Int) < ((m : Nat) : Int) := by omega
        have ex : ((x : Nat) : Int) % 2 = ((x % 2 : Nat) : Int) := by rw [Int.natCast_emod]; rfl
        refine ⟨_, rfl, _, _, rfl, rfl, (by show (0 : Int) < 2; decide), ?_⟩
        have fin : ∀ (g' : Nat) (v : V), v = cI g' → g' < 2 ^ 40 → g' = (if x % 2 = 1 then g * c % m else g) → ∃ c' x' g'' : Nat, [some (V.int (((c : Nat) : Int) * ((c : Nat) : Int) % ((m : Nat) : Int))), some (V.int (((x : Nat) : Int) / 2)), some (cI m), some v] = [some (cI c'), some (cI x'), some (cI m), some (cI g'')] ∧ H' = H' ∧ c' < 2 ^ 40 ∧ g'' < 2 ^ 40 ∧ (x' = 0 → g'' = pw b e m) ∧ (0 < x' → (g'' * c' ^ x') % m = b ^ e % m ∧ 0 < e) := by
          intro g' v hv l e1
          subst hv
          refine ⟨c * c % m, x / 2, g', ?_, rfl, lt _, l, ?_, ?_⟩
          · simp only [cI, Int.natCast_emod, Int.natCast_mul, Int.natCast_ediv]; rfl
          · rw [e1]; exact k1
          · rw [e1]; exact k2
        have me : (((x : Nat) : Int) / 2).toNat < ((x : Nat) : Int).toNat := by omega
        refine ⟨rfl, _, rfl, iteD (fun ho => ?_) (fun ho => ?_)⟩
        · refine ⟨_, rfl, _, rfl, _, _, rfl, rfl, .inl ⟨by omega, by omega⟩, _, rfl, _, _, rfl, rfl, m0, ?_⟩
          refine ⟨_, rfl, _, rfl, _, _, rfl, rfl, .inl ⟨by omega, by omega⟩, _, rfl, _, _, rfl, rfl, m0, ?_⟩
          refine ⟨_, rfl, _, _, rfl, rfl, (by constructor <;> decide), ?_⟩
          have e1 : V.int (((g : Nat) : Int) * ((c : Nat) : Int) % ((m : Nat) : Int)) = cI (g * c % m) := by unfold cI; rw [Int.natCast_emod, Int.natCast_mul]
          have o1 : x % 2 = 1 := by
            have z := V.int.inj ho
            rw [ex] at z
            omega
          exact ⟨fin _ _ e1 (lt _) (by rw [if_pos o1]), me⟩
        · dsimp only [tNext]
          refine ⟨_, rfl, _, rfl, _, _, rfl, rfl, .inl ⟨by omega, by omega⟩, _, rfl, _, _, rfl, rfl, m0, ?_⟩
          refine ⟨_, rfl, _, _, rfl, rfl, (by constructor <;> decide), ?_⟩
          have o1 : ¬ x % 2 = 1 := fun z => ho (by show V.int (((x : Nat) : Int) % 2) = V.int 1; rw [ex, z]; rfl)
          exact ⟨fin _ _ rfl g1 (by rw [if_neg o1]), me⟩
      · have x0 : x = 0 := by omega
        refine ⟨_, rfl, ?_⟩
        rw [h1 x0]
        exact q
    · rintro σ' H' Q1 Q2 hq h
      obtain ⟨v, hv, i, j, e1, e2, b, hb, r⟩ := h
      exact ⟨v, hv, i, j, e1, e2, b, hb, hq _ _ r⟩
end
end E3

set_option Elab.async false
set_option linter.all false
set_option maxRecDepth 100000
set_option maxHeartbeats 1000000
/-! rings: units, factors, order -/
namespace E3
open PySem PySem.Spec PyProof.Rows L2
open C8 (Cal Mak Met InsC pe_c pe_mt pe_mt0 call_isC clsBody)
def spOrder : Sp := fun vs H Q _ => ∃ b p e : Nat, vs = [cI b, cI p, cI e] ∧ b < 2 ^ 40 ∧ 2 ≤ p ∧ 1 ≤ e ∧ p ^ e < 2 ^ 40 ∧ ∀ H', Same H H' → Q (cI (ordM b p e)) H'
theorem cI_div (a b : Nat) : V.int (((a : Nat) : Int) / ((b : Nat) : Int)) = cI (a / b) := congrArg V.int (Int.natCast_ediv a b).symm
theorem cI_mod (a b : Nat) : V.int (((a : Nat) : Int) % ((b : Nat) : Int)) = cI (a % b) := congrArg V.int (Int.natCast_emod a b).symm
theorem cI_mul (a b : Nat) : V.int (((a : Nat) : Int) * ((b : Nat) : Int)) = cI (a * b) := congrArg V.int (Int.natCast_mul a b).symm
theorem cI_add (a b : Nat) : V.int (((a : Nat) : Int) + ((b : Nat) : Int)) = cI (a + b) := congrArg V.int (Int.natCast_add a b).symm
theorem cI_sub1 {a : Nat} (h : 1 ≤ a) : V.int (((a : Nat) : Int) - 1) = cI (a - 1) := congrArg V.int (by omega)
theorem cI_inj {a b : Nat} (h : cI a = cI b) : a = b := by have := V.int.inj h; omega
def WFac (V : Nat) (a : Addr) (H : Hp) : Nat → L2.St → Hp → Prop := fun m σ H' => ∃ n p v acc u, σ = [some (cI v), some (.ref a), some (cI p), u] ∧ Same H H' ∧ PrsAt H' a acc ∧ m = v + 2 - p ∧ v + 2 ≤ n + p ∧ facGo n p v acc = facM V ∧ 2 ≤ p ∧ p ≤ 2 ^ 40 ∧ 1 ≤ v ∧ v < 2 ^ 40 ∧ Good acc ∧ prodF acc * v = V
def WStr (p v : Nat) (a : Addr) (H : Hp) : Nat → L2.St → Hp → Prop := fun m σ H' => ∃ n v2 e, σ = [some (cI v2), some (.ref a), some (cI p), some (cI e)] ∧ H' = H ∧ v2 = m ∧ v2 ≤ n ∧ stripGo n p v2 e = stripGo v p v 0 ∧ 1 ≤ v2 ∧ v2 ≤ v
section
variable {P : Program} {w : World} {K : PySem.W.Frag} {mg : Str → Option Value} {base : Heap}
theorem scUnits : FnScope ["prime", "exponent", "found", "_"] ["prime", "exponent"] (defScope sUnits) := ⟨rfl, rfl, rfl, by decide +kernel, rfl, by decide +kernel, by decide +kernel⟩
theorem ok_units {f : Addr} {fd : FuncData} (F : Fun K "units" "units" sUnits f fd) (B : Bt4 mg) : FnOk P w K mg base CX0 1 f fd ["prime", "exponent"] spUnits := by
  refine F.ok scUnits (fun vs H Q E h => ?_) (fun cdv A outer s H vs Q E hr h => ?_)
  · obtain ⟨p, e, rfl, _⟩ := h
    rfl
  · obtain ⟨p, e, rfl, p2, pl, e1, el, q⟩ := h
    refine ⟨_, pss_cons (ps_set (i := 2) scUnits.nd rfl (Or.inl rfl) (pe_op op_sub (pv 0) pe_int))
      (pss_cons (ps_for PassesOwn.never rfl (pi_range1 rfl B.rng_ (pa_cons (pe_op op_sub (pv 1) pe_int) pa_nil)) (pg_name (i := 3) scUnits.nd rfl (Or.inl rfl))
        (pss_one (ps_set (i := 2) scUnits.nd rfl (Or.inl rfl) (pe_op op_mul (pv 2) (pv 0)))))
      (pss_one (ps_ret (pv 2)))), ?_⟩
    refine ⟨_, rfl, _, _, rfl, rfl, ?_⟩
    refine ⟨_, rfl, _, _, rfl, rfl, _, rfl, by omega, by omega, for_it (walk_range (n := (((e : Nat) : Int) - 1).toNat)) (fun i σ' H' => (∃ u, σ' = [some (cI p), some (cI e), some (cI ((p - 1) * p ^ i)), u]) ∧ H' = H) ⟨⟨none, ?_⟩, rfl⟩ (fun _ _ _ _ _ => trivial) ?_ ?_⟩
    · rw [Nat.pow_zero, Nat.mul_one, ← cI_sub1 (by omega)]; rfl
    · rintro i x σ' H2 H3 hi ⟨⟨u, rfl⟩, rfl⟩ ⟨rfl, rfl⟩
      refine ⟨_, rfl, _, rfl, _, _, rfl, rfl, .inr ⟨by omega, by omega⟩, ⟨some (V.int (0 + (i : Nat))), ?_⟩, rfl⟩
      have := cI_mul ((p - 1) * p ^ i) p
      rw [Nat.pow_succ, ← Nat.mul_assoc, ← this]
      rfl
    · rintro σ' H2 ⟨⟨u, rfl⟩, rfl⟩
      refine ⟨_, rfl, ?_⟩
      have ee : (((e : Nat) : Int) - 1).toNat = e - 1 := by omega
      rw [ee]
      exact q
theorem scFactors : FnScope ["value", "found", "prime", "exponent"] ["value"] (defScope sFactors) := ⟨rfl, rfl, rfl, by decide +kernel, rfl, by decide +kernel, by decide +kernel⟩
theorem ok_factors {f : Addr} {fd : FuncData} (F : Fun K "factors" "factors" sFactors f fd) : FnOk P w K mg base CX0 1 f fd ["value"] spFactors := by
  refine F.ok scFactors (fun vs H Q E h => ?_) (fun cdv A outer s H vs Q E hr h => ?_)
  · obtain ⟨v, rfl, _⟩ := h
    rfl
  · obtain ⟨M, rfl, v1, v2, q⟩ := h
    refine ⟨_, pss_cons (ps_set (i := 1) scFactors.nd rfl (Or.inl rfl) (pe_lstS pa_nil))
      (pss_cons (ps_set (i := 2) scFactors.nd rfl (Or.inl rfl) pe_int)
      (pss_cons (ps_while PassesOwn.never (pt_cmpR op_le (pe_op op_mul (pv 2) (pv 2)) (pv 0) (nomark _))
        (pss_cons (ps_set (i := 3) scFactors.nd rfl (Or.inl rfl) pe_int)
        (pss_cons (ps_while PassesOwn.never (pt_cmpR op_eq (pe_op op_mod (pv 0) (pv 2)) pe_int (nomark _))
          (pss_cons (ps_set (i := 0) scFactors.nd rfl (Or.inl rfl) (pe_op op_fdivW (pv 0) (pv 2)))
          (pss_one (ps_aug (i := 3) scFactors.nd rfl (.inl rfl) pe_int ip_add))))
        (pss_cons (ps_if (pt_cmpR op_gt (pv 3) pe_int (nomark _)) (pss_one (ps_expr (pe_bm PySem.F.plainAttrs_list PySem.F.slot_list_append PySem.F.type_list_append mt_append (pv 1) (pa_cons (pe_tupS (pa_cons (pv 2) (pa_cons (pv 3) pa_nil))) pa_nil)))) pss_nil)
        (pss_one (ps_aug (i := 2) scFactors.nd rfl (.inl rfl) pe_int ip_add))))))
      (pss_cons (ps_if (pt_cmpR op_gt (pv 0) pe_int (nomark _)) (pss_one (ps_expr (pe_bm PySem.F.plainAttrs_list PySem.F.slot_list_append PySem.F.type_list_append mt_append (pv 1) (pa_cons (pe_tupS (pa_cons (pv 0) (pa_cons pe_int pa_nil))) pa_nil)))) pss_nil)
      (pss_one (ps_ret (pv 1)))))), ?_⟩
    refine ⟨(by show 0 ≤ sizeLine; decide), fun a H1 S1 n1 h1 => ?_⟩
    refine ⟨WFac M a H, ⟨_, M, 2, M, [], none, rfl, S1, .nil h1, rfl, Nat.le_refl _, rfl, Nat.le_refl _, by decide, v1, v2, (fun x hx => by cases hx), by simp [prodF]⟩, ?_⟩
    rintro m σ' H' ⟨n, p, v, acc, u, rfl, S2, pr, rfl, hn, hf, p2, pl, hv1, hv2, gd, hp⟩
    have vV : v ≤ M := by rw [← hp]; exact Nat.le_mul_of_pos_left _ (prodF_pos gd)
    refine ⟨_, rfl, _, rfl, _, _, rfl, rfl, .inl ⟨by omega, by omega⟩, _, rfl, _, _, rfl, rfl, _, rfl, iteD (fun hpv => ?_) (fun hpv => ?_)⟩
    · have pv' : p * p ≤ v := by
        have h0 : ((p * p : Nat) : Int) ≤ ((v : Nat) : Int) := by rw [Int.natCast_mul]; exact hpv
        omega
      have plv : p ≤ v := Nat.le_trans (Nat.le_mul_of_pos_left _ (by omega)) pv'
      refine ⟨fun σ'' H'' => ∃ m', m' < v + 2 - p ∧ WFac M a H m' σ'' H'', fun _ _ z => z, ?_⟩
      refine ⟨WStr p v a H', ⟨_, v, v, 0, rfl, rfl, rfl, Nat.le_refl _, rfl, hv1, Nat.le_refl _⟩, ?_⟩
      rintro m2 σ2 H2 ⟨n2, w2, e, rfl, rfl, rfl, wn, hs, w1, wv⟩
      have p0 : (0 : Int) < ((p : Nat) : Int) := by omega
      refine ⟨_, rfl, _, rfl, _, _, rfl, rfl, p0, rfl, _, rfl, iteD (fun hz => ?_) (fun hz => ?_)⟩
      · have hz' : w2 % p = 0 := cI_inj ((cI_mod w2 p).symm.trans hz)
        refine ⟨fun σ'' H'' => ∃ m', m' < w2 ∧ WStr p v a H2 m' σ'' H'', fun _ _ z => z, ?_⟩
        have dlt : w2 / p < w2 := Nat.div_lt_self (by omega) (by omega)
        refine ⟨_, rfl, _, rfl, _, _, rfl, rfl, ⟨p0, l40 (by omega)⟩, ?_⟩
        match n2, wn, hs with
        | 0, wn, _ => exact absurd wn (by omega)
        | k + 1, wn, hs =>
        have hs2 : stripGo k p (w2 / p) (e + 1) = stripGo v p v 0 := by rw [← hs]; exact (if_pos hz').symm
        refine ⟨_, rfl, ?_⟩
        refine ⟨_, _, rfl, rfl, w2 / p, dlt, k, w2 / p, e + 1, ?_, rfl, rfl, by omega, hs2, div_pos' w1 hz', by omega⟩
        have a1 := cI_div w2 p
        have a2 := cI_add e 1
        rw [← a1, ← a2]
        rfl
      · have hz' : ¬ w2 % p = 0 := fun z => hz (by have := cI_mod w2 p; rw [z] at this; exact this)
        have hs1 : (w2, e) = stripGo v p v 0 := by
          rw [← hs]
          match n2, wn with
          | 0, wn => exact absurd wn (by omega)
          | k + 1, _ => exact (if_neg hz').symm
        obtain ⟨g2, hp2, s1, s2⟩ := fac_step p2 hv1 gd
        have hf2 : ∀ k, n = k + 1 → facGo k (p + 1) (stripGo v p v 0).1 (if 0 < (stripGo v p v 0).2 then acc ++ [(p, (stripGo v p v 0).2)] else acc) = facM M := by
          intro k e1
          rw [← hf, e1]
          exact (if_pos pv').symm
        rw [← hs1] at g2 hp2 s1 s2 hf2
        obtain ⟨k, rfl⟩ : ∃ k, n = k + 1 := ⟨n - 1, by omega⟩
        have hf3 := hf2 k rfl
        have fin : ∀ (H3 : Hp) (acc' : List (Nat × Nat)), Same H H3 → PrsAt H3 a acc' → acc' = (if 0 < e then acc ++ [(p, e)] else acc) → ∃ x, ([some (cI w2), some (V.ref a), some (cI p), some (cI e)] : L2.St)[2]? = some (some x) ∧ ∃ i j, x = V.int i ∧ V.int 1 = V.int j ∧ ∃ m', m' < v + 2 - p ∧ WFac M a H m' [some (cI w2), some (V.ref a), some (V.int (i + j)), some (cI e)] H3 := by
          intro H3 acc' S3 pr3 ea
          rw [← ea] at g2 hp2 hf3
          refine ⟨_, rfl, _, _, rfl, rfl, _, ?_, k, p + 1, w2, acc', some (cI e), ?_, S3, pr3, rfl, by omega, hf3, by omega, ?_, s1, by omega, g2, hp2.trans hp⟩
          · omega
          · have a2 := cI_add p 1
            rw [← a2]
            rfl
          · have : p * p < 2 ^ 40 := by omega
            have : p < 2 ^ 40 := Nat.lt_of_le_of_lt (Nat.le_mul_of_pos_left _ (by omega)) this
            omega
        refine ⟨_, rfl, _, _, rfl, rfl, _, rfl, iteD (fun he => ?_) (fun he => ?_)⟩
        · have e0 : 0 < e := by omega
          obtain ⟨ts, t1, t2, t3⟩ := pr
          refine ⟨_, rfl, .inl ⟨rfl, _, SqL.of t1⟩, _, rfl, _, rfl, (by show 2 ≤ sizeLine; decide), fun t H3 S3 n3 h3 => ?_⟩
          have t1' := S3 _ _ t1
          have al : acc.length < 40 := len_lt gd (show prodF acc ≤ M by rw [← hp]; exact Nat.le_mul_of_pos_right _ hv1) v2
          refine ⟨a, _, _, rfl, rfl, t1', by rw [List.length_map, t2, sizeLine_eq]; omega, ?_⟩
          refine fin _ (acc ++ [(p, e)]) ?_ (.snoc t1' t2 (fun i u y e1 e2 => S3 _ _ (t3 i u y e1 e2)) h3) (by rw [if_pos e0])
          intro b o hb
          rw [upd_ne (ne_of_none hb n1)]
          exact S3 _ _ (S2 _ _ hb)
        · dsimp only [tNext]
          exact fin _ acc S2 pr (by rw [if_neg (by omega)])
    · have pv' : ¬ p * p ≤ v := fun z => hpv (by
        have h0 : ((p * p : Nat) : Int) ≤ ((v : Nat) : Int) := Int.ofNat_le.mpr z
        rw [Int.natCast_mul] at h0
        exact h0)
      have hf2 : facFin v acc = facM M := by
        rw [← hf]
        match n with
        | 0 => rfl
        | k + 1 => exact (if_neg pv').symm
      refine ⟨_, rfl, _, _, rfl, rfl, _, rfl, iteD (fun hv => ?_) (fun hv => ?_)⟩
      · obtain ⟨ts, t1, t2, t3⟩ := pr
        refine ⟨_, rfl, .inl ⟨rfl, _, SqL.of t1⟩, _, rfl, (by show 2 ≤ sizeLine; decide), fun t H3 S3 n3 h3 => ?_⟩
        have t1' := S3 _ _ t1
        have al : acc.length < 40 := len_lt gd (show prodF acc ≤ M by rw [← hp]; exact Nat.le_mul_of_pos_right _ hv1) v2
        refine ⟨a, _, _, rfl, rfl, t1', by rw [List.length_map, t2, sizeLine_eq]; omega, ?_⟩
        refine ⟨_, rfl, q _ a ?_ ?_⟩
        · intro b o hb
          rw [upd_ne (ne_of_none hb n1)]
          exact S3 _ _ (S2 _ _ hb)
        · rw [← hf2]
          unfold facFin
          rw [if_pos (by omega)]
          exact .snoc t1' t2 (fun i u y e1 e2 => S3 _ _ (t3 i u y e1 e2)) h3
      · dsimp only [tNext]
        refine ⟨_, rfl, q _ a S2 ?_⟩
        rw [← hf2]
        unfold facFin
        rw [if_neg (by omega)]
        exact pr
end
end E3

set_option Elab.async false
set_option linter.all false
set_option maxRecDepth 100000
set_option maxHeartbeats 1000000
/-! rings: order, ring_length, turned -/
namespace L2
open PySem PySem.Spec PyProof.Rows
def rLcm : List V → Hp → VK → Prop := fun vs H Q => ∃ a b : Nat, vs = [.int (a : Nat), .int (b : Nat)] ∧ a < 2 ^ 64 ∧ b < 2 ^ 64 ∧ Nat.lcm a b < 2 ^ 64 ∧ Q (.int ((Nat.lcm a b : Nat) : Int)) H
theorem cr_lcm {X : Cx} : CallR X (.builtin "math.lcm") rLcm := by
  intro pins s σ H vs us Q I r h
  obtain ⟨a, b, rfl, ha, hb, hl, q⟩ := h
  obtain ⟨t, u, rfl⟩ := Vals.int2 r
  refine PySem.W.mg_lcm_v (c := ((Nat.lcm a b : Nat) : Int)) (by omega) (by omega) ?_ ?_ ⟨.int _, H, I.tok _, ⟨_, rfl⟩, q⟩
  · rw [Int.natAbs_natCast, Int.natAbs_natCast, Nat.lcm_one_left]
  · rw [Int.natAbs_natCast]
    have := PySem.Flt.log2_lt_of (k := 64) (by decide) hl
    have e : bitsLine = bitsLine := rfl
    have : 64 < bitsLine := by decide +kernel
    omega
end L2
namespace E3
open PySem PySem.Spec PyProof.Rows L2
open C8 (Cal Mak Met InsC pe_c pe_mt pe_mt0 call_isC clsBody)
def WOrd (b p e q f0 U : Nat) (u : Option V) (H : Hp) : Nat → L2.St → Hp → Prop := fun m σ H' => ∃ n f, σ = [some (cI b), some (cI p), some (cI e), some (cI f), some (cI (p ^ e)), some (cI q), u] ∧ H' = H ∧ f = m ∧ f ≤ n ∧ ordLoop n b (p ^ e) q f = ordLoop f0 b (p ^ e) q f0 ∧ 1 ≤ f ∧ f ≤ U
/-- what is passed to turned, ring_length, rings -/
def spTurnM : Sp := fun vs H Q _ => ∃ r c p t : Nat, vs = [cI r, cI c, cI p, cI t] ∧ Tb r c ∧ p < r * c ∧ t < 2 ^ 200 ∧ ∀ H', Same H H' → Q (cI (turnM r (r * c - 1) p t)) H'
def spRingM : Sp := fun vs H Q _ => ∃ r c p : Nat, vs = [cI r, cI c, cI p] ∧ Tb r c ∧ p < r * c ∧ ∀ H', Same H H' → Q (cI (ringM r (r * c - 1) p)) H'
theorem tb_lt {r c : Nat} (h : Tb r c) : 1 ≤ r * c ∧ r * c ≤ 2 ^ 32 := by
  obtain ⟨r1, c1, r2, c2⟩ := h
  exact ⟨Nat.mul_pos r1 c1, Nat.le_trans (Nat.mul_le_mul r2 c2) (by decide)⟩
theorem cI_last {r c : Nat} (h : Tb r c) : V.int (((r : Nat) : Int) * ((c : Nat) : Int) - 1) = cI (r * c - 1) := by
  have := (tb_lt h).1
  rw [← cI_sub1 this, Int.natCast_mul]
section
variable {P : Program} {w : World} {K : PySem.W.Frag} {mg : Str → Option Value} {base : Heap}
theorem scOrder : FnScope ["base", "prime", "exponent", "found", "modulus", "part", "_"] ["base", "prime", "exponent"] (defScope sOrder) := ⟨rfl, rfl, rfl, by decide +kernel, rfl, by decide +kernel, by decide +kernel⟩
theorem ok_order {f : Addr} {fd : FuncData} (F : Fun K "order" "order" sOrder f fd) (U : Cal P w K mg base 1 "units" spUnits []) (Fa : Cal P w K mg base 1 "factors" spFactors []) (Pw : Cal P w K mg base 1 "power" spPower []) : FnOk P w K mg base CX0 2 f fd ["base", "prime", "exponent"] spOrder := by
  refine F.ok scOrder (fun vs H Q E h => ?_) (fun cdv A outer s H vs Q E hr h => ?_)
  · obtain ⟨b, p, e, rfl, _⟩ := h
    rfl
  · obtain ⟨b, p, e, rfl, hb, p2, e1, hpe, q⟩ := h
    refine ⟨_, pss_cons (ps_set (i := 3) scOrder.nd rfl (Or.inl rfl) (pe_c U hr (by decide) rfl (pa_cons (pv 1) (pa_cons (pv 2) pa_nil))))
      (pss_cons (ps_set (i := 4) scOrder.nd rfl (Or.inl rfl) (pe_op op_mul (pe_op op_fdivW (pv 3) (pe_op op_sub (pv 1) pe_int)) (pv 1)))
      (pss_cons (ps_for PassesOwn.never rfl (pi_list (pe_c Fa hr (by decide) rfl (pa_cons (pv 3) pa_nil))) (pg_tup rfl (pgs_cons (pg_name (i := 5) scOrder.nd rfl (Or.inl rfl)) (pgs_cons (pg_name (i := 6) scOrder.nd rfl (Or.inl rfl)) pgs_nil)))
        (pss_one (ps_while PassesOwn.never (PW.pt (pw_and (pt_cmpR op_eq (pe_op op_mod (pv 3) (pv 5)) pe_int (nomark _)) (pw_and1 (pt_cmpR op_eq (pe_c Pw hr (by decide) rfl (pa_cons (pv 0) (pa_cons (pe_op op_fdivW (pv 3) (pv 5)) (pa_cons (pv 4) pa_nil)))) pe_int (nomark _)))))
          (pss_one (ps_set (i := 3) scOrder.nd rfl (Or.inl rfl) (pe_op op_fdivW (pv 3) (pv 5)))))))
      (pss_one (ps_ret (pv 3))))), ?_⟩
    have pl : p < 2 ^ 40 := Nat.lt_of_le_of_lt (Nat.le_self_pow (by omega) _) hpe
    have el : e < 2 ^ 40 := by
      have : 2 ^ e < 2 ^ 40 := Nat.lt_of_le_of_lt (Nat.pow_le_pow_left p2 _) hpe
      have := (Nat.pow_lt_pow_iff_right (by decide : 1 < 2)).mp this
      omega
    have U1 := units_pos (e := e) p2
    have U2 := units_le p2 e1
    have Ul : unitsM p e < 2 ^ 40 := by omega
    refine ⟨_, rfl, _, rfl, p, e, rfl, p2, pl, e1, el, ?_⟩
    refine ⟨_, rfl, _, rfl, _, _, rfl, rfl, _, _, rfl, rfl, ⟨by omega, ?_⟩, _, rfl, _, _, rfl, rfl, .inr ⟨by omega, by omega⟩, ?_⟩
    · have := l40 (n := p - 1) (by omega)
      have e0 : ((p - 1 : Nat) : Int) = ((p : Nat) : Int) - 1 := by omega
      rw [← e0]
      exact this
    have hm : V.int (((unitsM p e : Nat) : Int) / (((p : Nat) : Int) - 1) * ((p : Nat) : Int)) = cI (p ^ e) := by
      have e0 : ((p - 1 : Nat) : Int) = ((p : Nat) : Int) - 1 := by omega
      rw [← e0, ← Int.natCast_ediv, ← Int.natCast_mul, units_div p2 e1]
    refine ⟨_, rfl, _, rfl, U1, Ul, fun H1 a S1 pr => ?_⟩
    obtain ⟨g, hp⟩ := facM_ok U1
    obtain ⟨ts, t1, t2, t3⟩ := pr
    refine ⟨a, rfl, ⟨_, SqL.of t1⟩, for_it (walk_list (xs := ts.map V.ref)) (fun i σ' H' => (∃ u1 u2, σ' = [some (cI b), some (cI p), some (cI e), some (cI (((facM (unitsM p e)).take i).foldl (fun f x => ordLoop f b (p ^ e) x.1 f) (unitsM p e))), some (cI (p ^ e)), u1, u2]) ∧ Same H1 H') ⟨⟨none, none, ?_⟩, Same.refl _⟩ (fun i σ' H' _ z => SqL.of (z.2 _ _ t1)) ?_ ?_⟩
    · rw [List.take_zero, ← hm]; rfl
    · rintro i x σ' H9 H2 hi ⟨⟨u1, u2, rfl⟩, S2⟩ ⟨rfl, hx⟩
      rw [List.length_map] at hi
      have hi2 : i < (facM (unitsM p e)).length := by omega
      rw [List.getElem?_map, List.getElem?_eq_getElem hi] at hx
      obtain rfl := Option.some.inj hx
      have ey := List.getElem?_eq_getElem hi2
      have ht := S2 _ _ (t3 i _ _ (List.getElem?_eq_getElem hi) ey)
      have gy := g _ (List.getElem_mem hi2)
      obtain ⟨yl, ye, _⟩ := exp_lt g (Nat.le_of_eq hp) Ul (List.getElem_mem hi2)
      have foldS : ((facM (unitsM p e)).take (i + 1)).foldl (fun f x => ordLoop f b (p ^ e) x.1 f) (unitsM p e) = ordLoop (((facM (unitsM p e)).take i).foldl (fun f x => ordLoop f b (p ^ e) x.1 f) (unitsM p e)) b (p ^ e) ((facM (unitsM p e))[i]).1 (((facM (unitsM p e)).take i).foldl (fun f x => ordLoop f b (p ^ e) x.1 f) (unitsM p e)) := by
        rw [List.take_succ, ey, List.foldl_append]; rfl
      obtain ⟨f1, f2⟩ := ordFold_ok b (p ^ e) ((facM (unitsM p e)).take i) (unitsM p e) U1
      rw [foldS]
      generalize ((facM (unitsM p e)).take i).foldl (fun f x => ordLoop f b (p ^ e) x.1 f) (unitsM p e) = f0 at f1 f2
      generalize (facM (unitsM p e))[i] = y at ht gy yl ye
      refine ⟨_, _, rfl, SqT.of ht, rfl, _, _, rfl, _, _, rfl, rfl, ?_⟩
      refine ⟨WOrd b p e y.1 f0 (unitsM p e) (some (cI y.2)) H2, ⟨_, f0, f0, rfl, rfl, rfl, Nat.le_refl _, rfl, f1, f2⟩, ?_⟩
      rintro m σ3 H3 ⟨n, f, rfl, rfl, rfl, fn, hs, fp, fu⟩
      have y0 : (0 : Int) < ((y.1 : Nat) : Int) := by omega
      have stop : ¬ (f % y.1 = 0 ∧ pw b (f / y.1) (p ^ e) = 1) → f = ordLoop f0 b (p ^ e) y.1 f0 := by
        intro hz
        rw [← hs]
        match n, fn with
        | 0, fn => exact absurd fn (by omega)
        | k + 1, _ => exact (if_neg hz).symm
      refine ⟨_, rfl, _, rfl, _, _, rfl, rfl, y0, rfl, _, rfl, iteD (fun hz => ?_) (fun hz => ?_)⟩
      · have hz' : f % y.1 = 0 := cI_inj ((cI_mod f y.1).symm.trans hz)
        have dlt : f / y.1 < f := Nat.div_lt_self (by omega) (by omega)
        have m1 : 1 ≤ p ^ e := Nat.pow_pos (by omega)
        have dv : CDivW ((f : Nat) : Int) ((y.1 : Nat) : Int) := ⟨y0, l40 yl⟩
        refine ⟨_, rfl, _, rfl, _, rfl, _, _, rfl, rfl, dv, _, rfl, b, f / y.1, p ^ e, ?_, hb, by omega, m1, hpe, rfl, _, rfl, iteD (fun hq => ?_) (fun hq => ?_)⟩
        · have := cI_div f y.1
          rw [← this]
          rfl
        · have hq' : pw b (f / y.1) (p ^ e) = 1 := cI_inj hq
          refine ⟨fun σ'' H'' => ∃ m', m' < f ∧ WOrd b p e y.1 f0 (unitsM p e) (some (cI y.2)) H3 m' σ'' H'', fun _ _ z => z, ?_⟩
          match n, fn, hs with
          | 0, fn, _ => exact absurd fn (by omega)
          | k + 1, fn, hs =>
          have hs2 : ordLoop k b (p ^ e) y.1 (f / y.1) = ordLoop f0 b (p ^ e) y.1 f0 := by rw [← hs]; exact (if_pos ⟨hz', hq'⟩).symm
          refine ⟨_, rfl, _, rfl, _, _, rfl, rfl, dv, f / y.1, dlt, k, f / y.1, ?_, rfl, rfl, by omega, hs2, div_pos' fp hz', by omega⟩
          have := cI_div f y.1
          rw [← this]
          rfl
        · dsimp only
          refine ⟨⟨some (cI y.1), some (cI y.2), ?_⟩, S2⟩
          rw [← stop (fun z => hq (by rw [z.2]; rfl))]
      · dsimp only
        refine ⟨⟨some (cI y.1), some (cI y.2), ?_⟩, S2⟩
        rw [← stop (fun z => hz (by have := cI_mod f y.1; rw [z.1] at this; exact this))]
    · rintro σ' H2 ⟨⟨u1, u2, rfl⟩, S2⟩
      refine ⟨_, rfl, ?_⟩
      rw [List.length_map, t2, List.take_length]
      exact q H2 (S1.trans S2)
end
end E3

set_option Elab.async false
set_option linter.all false
set_option maxRecDepth 100000
set_option maxHeartbeats 1000000
/-! A head by facts: one Bool of the law's own, and the defs. -/
namespace Hb
open PySem PySem.Spec PyProof.Rows L2 He
abbrev AlB : Type := Bool × List FnV
def obsB (ex : PySem.W.Frag → Bool) (fn : List FnD) (K : PySem.W.Frag) : AlB := (ex K && fn.all fun d => (Fa.code d.at_ d.qual).ok K && PySem.W.keepIn K (.ref (fAd K d.at_)), fn.map fun d => fnObs K d.at_)
def valB (fn : List FnD) : AlB := (true, fn.map FnD.val)
def SaysB (ex : PySem.W.Frag → Bool) (fn : List FnD) (K : PySem.W.Frag) : Prop := obsB ex fn K = valB fn
def lookB (n : Nat) (ex : PySem.W.Frag → Bool) (fn : List FnD) (g : Addr → Option Obj) : AlB := obsB ex fn (frG g (asG g n))
def hookB (n : Nat) (ex : PySem.W.Frag → Bool) (fn : List FnD) : PySem.W.Hook where
  α := AlB
  obs := fun s => lookB n ex fn s.heap.get?
  val := fun _ => valB fn
  says := fun _ h => ∃ K : PySem.W.Frag, K.In h ∧ SaysB ex fn K
  of := fun _ _ e => ⟨_, frG_in, e⟩
  keeps := fun _ _ _ ⟨K, hK, c⟩ k => ⟨K, PySem.W.Frag.In.keeps hK k, c⟩
theorem lookB_eq {n : Nat} {ex : PySem.W.Frag → Bool} {fn : List FnD} {g : Addr → Option Obj} {s : Shared} (h : ∀ a, g a = s.heap.get? a) : lookB n ex fn g = (hookB n ex fn).obs s := by
  have e : g = s.heap.get? := funext h
  rw [e] <;> rfl
/-- a def of the text, by its statement -/
def dS (at_ : Str × Option Str) (name qual : Str) (st : Stmt) : FnD := ⟨at_, name, qual, defArgs st, defBody st, defScope st⟩
section
variable {ex : PySem.W.Frag → Bool} {fn : List FnD} {K : PySem.W.Frag}
theorem SaysB.bool (c : SaysB ex fn K) : ex K = true := (ba (show (ex K && fn.all fun d => (Fa.code d.at_ d.qual).ok K && PySem.W.keepIn K (.ref (fAd K d.at_))) = true from congrArg (fun z : AlB => z.1) c)).1
theorem SaysB.fun_ (c : SaysB ex fn K) (i : Nat) {at_ : Str × Option Str} {name qual : Str} {st : Stmt} (h : fn[i]? = some (dS at_ name qual st) := by rfl) : ∃ fd, L2.Fun K name qual st (fAd K at_) fd := by
  have c2 := (ba (show (ex K && fn.all fun d => (Fa.code d.at_ d.qual).ok K && PySem.W.keepIn K (.ref (fAd K d.at_))) = true from congrArg (fun z : AlB => z.1) c)).2
  have c3 := ba (List.all_eq_true.mp c2 _ (List.mem_of_getElem? h))
  have e : fn.map (fun d => fnObs K d.at_) = fn.map FnD.val := congrArg (fun z : AlB => z.2) c
  have e2 : (fn.map fun d => fnObs K d.at_)[i]? = (fn.map FnD.val)[i]? := by rw [e]
  rw [List.getElem?_map, List.getElem?_map, h] at e2
  obtain ⟨oc, od, osl, kV, doc, pm, an, cdv, ct, l, k⟩ := fn_ok (Option.some.inj e2) c3.1
  exact ⟨_, ⟨oc, od, kV, doc, pm, an, cdv, ct, osl, rfl, l, k⟩, c3.2⟩
end
theorem bindsA {K : PySem.W.Frag} {x qual : Str} {st : Stmt} {f : Addr} {fd : FuncData} {ps : List Str} (F : L2.Fun K x qual st f fd)
    (h : ∀ (kV doc pm : Value) (an : Option Addr) (cdv ct : Value) (us : List Value), us.length = ps.length → bindArgs (PySem.W.fnOf x qual (defArgs st) (defBody st) (defScope st) .none kV doc pm an cdv ct) ⟨us, []⟩ = pure (ps.zip us)) (s : Shared) (us : List Value) (hl : us.length = ps.length) : BindsTo s fd ⟨us, []⟩ (ps.zip us) := by
  obtain ⟨oc, od, kV, doc, pm, an, cdv, ct, osl, rfl, lk, hcd⟩ := F.ex
  exact .of_eq (h kV doc pm an cdv ct us hl)
/-! own operators, isinstance, as Bools -/
section
variable {K : PySem.W.Frag} {C : Addr}
def ownB (K : PySem.W.Frag) (C : Addr) (m : Str) : Bool := PySem.W.selfFirst K C && (eqO (PySem.W.findIn K (.ref C) m) (some (some (.ref (ma K C m)))) && PySem.W.isFn K (.ref (ma K C m)))
theorem ownB_ok {m : Str} (h : ownB K C m = true) : OwnOp K C m (ma K C m) :=
  let ⟨h1, h2⟩ := ba h
  let ⟨h3, h4⟩ := ba h2
  ⟨h1, eqO_ok h3, h4⟩
def ownIB (K : PySem.W.Frag) (C : Addr) (name : String) : Bool := ownB K C (PySem.dunder name) && ((match PySem.W.findIn K (.ref C) (dunderR name) with
  | some none => true
  | some (some (.ref _)) => true
  | _ => false) && ((PySem.W.findIn K (.type "int") (PySem.dunder name)).isSome && ((PySem.W.findIn K (.type "int") (dunderR name)).isSome && decide (PySem.W.subIn K (.type "int") (.ref C) = some false))))
theorem ownIB_ok {name : String} (h : ownIB K C name = true) : OwnOpI K C name (ma K C (PySem.dunder name)) := by
  obtain ⟨h1, h⟩ := ba h
  obtain ⟨h2, h⟩ := ba h
  obtain ⟨h3, h⟩ := ba h
  obtain ⟨h4, h5⟩ := ba h
  refine ⟨ownB_ok h1, ?_, Option.isSome_iff_exists.mp h3, Option.isSome_iff_exists.mp h4, of_decide_eq_true h5⟩
  split at h2
  · rename_i e
    exact ⟨_, e, .inl rfl⟩
  · rename_i a e
    exact ⟨_, e, .inr ⟨a, rfl⟩⟩
  · cases h2
def insB (K : PySem.W.Frag) (C : Addr) : Bool := eqO (PySem.W.findIn K (.ref C) "__class__") (some (some (.builtin "object.__class__"))) && (eqO (PySem.W.specialIn K (.builtin "object.__class__") "__get__") (some (some (.builtin "getset_descriptor.__get__"))) &&
  (decide (PySem.W.takesIn K (.builtin "object.__class__") = some true) && (decide (PySem.W.mroIn K C (.type "object") = some true) && decide (PySem.W.kitOne K (.ref C) (.ref C) = some true))))
theorem insB_ok (c : Cls K C) (h : insB K C = true) : C8.InsC K C := by
  obtain ⟨h1, h⟩ := ba h
  obtain ⟨h2, h⟩ := ba h
  obtain ⟨h3, h⟩ := ba h
  obtain ⟨h4, h5⟩ := ba h
  exact ⟨c, eqO_ok h1, eqO_ok h2, of_decide_eq_true h3, of_decide_eq_true h4, of_decide_eq_true h5⟩
/-- a global that is a built-in function -/
def bltB (K : PySem.W.Frag) (x : Str) (n : String) : Bool := eqO (PySem.W.nsIn K mainGlobals x) (some (some (.builtin n)))
theorem bltB_ok {h : Heap} {mg : Str → Option Value} (X : K.In h) (G : h.Ns mainGlobals mg) {x : Str} {n : String} (c : bltB K x n = true) : mg x = some (.builtin n) := PySem.W.mg_of X G (eqO_ok c)
/-- the facts of a list hold -/
theorem fa_ok {fa : List Fa} (h : (fa.all fun f => f.ok K) = true) (i : Nat) {f : Fa} (hi : fa[i]? = some f := by rfl) : f.ok K = true := List.all_eq_true.mp h f (List.mem_of_getElem? hi)
theorem bool_ok {l : List Bool} (h : (l.all id) = true) (i : Nat) {b : Bool} (hi : l[i]? = some b := by rfl) : b = true := List.all_eq_true.mp h b (List.mem_of_getElem? hi)
end
end Hb

set_option Elab.async false
set_option linter.all false
set_option maxRecDepth 100000
set_option maxHeartbeats 1000000
/-! f(k=v, ..): a def called with keywords alone -/
namespace L2
open PySem PySem.Spec PyProof.Rows
def CalK (P : Program) (w : World) (K : PySem.W.Frag) (mg : Str → Option Value) (base : Heap) (k : Nat) (x : Str) (sp : Sp) (ks : List Str) (gV : List V → List V → List V) : Prop :=
  ∃ (f : Addr) (fd : FuncData) (ps : List Str) (g : List Value → List Value → List Value), FnOk P w K mg base CX0 k f fd ps sp ∧ mg x = some (.ref f) ∧ PySem.W.keepIn K (.ref f) = true ∧ KBinds K fd ps ks g gV
section
variable {X : Cx} {k j : Nat} {x : Str} {sp : Sp} {ks : List Str} {gV : List V → List V → List V} {p pos : Pos} {kws : List Keyword} {tk : TA}
theorem pe_cK (c : CalK X.prog X.w X.K X.mg X.base k x sp ks gV) (hr : Room j X.A) (hk : k ≤ j) (hg : Gl X x) (hkw : PK X kws tk)
    (hall : (backToKw pos (keywordEach kws X.env)).all (·.1.isSome) = true := by rfl) (hks : (backToKw pos (keywordEach kws X.env)).filterMap (·.1) = ks := by rfl)
    (hdb : (x == ("__debug__" : Str)) = false := by decide)
    (hpl : ((backTo pos (starEach [] X.env)).any (·.1) || (backToKw pos (keywordEach kws X.env)).any (·.1.isNone)) = false := by rfl) :
    PE X (.Call (.Name x p) [] kws pos) (tCallK sp gV C8.E0 tNil tk) := by
  obtain ⟨f, fd, ps, g, F, hm, kp, hb⟩ := c
  refine ⟨fun pins s σ H Q I h => ?_⟩
  refine wpAny_Call_Name_kw (ld_glob I hg hm ?_ hdb)
  refine PySem.W.callWith_KW0 (h₀ := X.base) I.ok.mod.kin kp hall (thn (hkw.run pos pins s σ H _ I h) fun ws s2 ⟨zs, H2, I2, rz, q2⟩ => ⟨I2.kIn, ?_⟩) hpl
  rw [hks]
  exact run_fnk F (hr.mono hk) hb pass0 I2 .nil rz q2
end
end L2

set_option Elab.async false
set_option linter.all false
set_option maxRecDepth 100000
set_option maxHeartbeats 1000000
/-! rings: ring_length, turned -/
namespace L2
open PySem PySem.Spec PyProof.Rows
section
variable {P : Program} {w : World} {K : PySem.W.Frag} {mg : Str → Option Value} {base : Heap} {x qual : Str} {st : Stmt} {dvs : List V} {f : Addr} {fd : FuncData}
/-- a def with defaults whose body lets nothing out -/
theorem FunD.ok0 {N ps : List Str} {k : Nat} {sp : Sp} (F : FunD K x qual (defArgs st) (defBody st) (defScope st) dvs [] f fd) (S : FnScope N ps (defScope st)) (len : ∀ vs H Q E, sp vs H Q E → vs.length = ps.length)
    (hbody : ∀ (cdv : Value) (A : Around) (outer : List Env) (s : Shared) (H : Hp) (vs : List V) (Q : VK) (E : XK), Room k (A.deeper (envOfC qual (defScope st) s.heap.objs.size f cdv)) → sp vs H Q E →
      ∃ t, PSs (cxOf CX0 P w K mg base N qual (defScope st) f cdv A outer s H E).nox (defBody st) t ∧ t { nx := fun _ H' => Q .non H', rt := Q } (start N vs) H) : FnOk P w K mg base CX0 (k + 1) f fd ps sp :=
  F.ok S len fun cdv A outer s H vs Q E hr h => let ⟨t, h1, h2⟩ := hbody cdv A outer s H vs Q E hr h; ⟨t, h1.nox, h2⟩
theorem FunD.plain (F : FunD K x qual (defArgs st) (defBody st) (defScope st) [] [] f fd) : Fun K x qual st f fd := by
  obtain ⟨oc, od, dV, kV, doc, pm, an, cdv, ct, osl, rfl, lk, hcd, hD, hK⟩ := F.ex
  rcases hD with ⟨_, rfl⟩ | ⟨e, _⟩
  · exact ⟨⟨oc, od, kV, doc, pm, an, cdv, ct, osl, rfl, lk, hcd⟩, F.kp⟩
  · exact absurd rfl e
end
end L2
namespace E3
open PySem PySem.Spec PyProof.Rows L2
open C8 (Cal Mak Met InsC pe_c pe_mt pe_mt0 call_isC clsBody)
theorem pw0 {b e m : Nat} (h : e = 0) : pw b e m = 1 := if_pos h
section
variable {P : Program} {w : World} {K : PySem.W.Frag} {mg : Str → Option Value} {base : Heap}
theorem scRingLen : FnScope ["rows", "columns", "place", "last", "found", "prime", "many"] ["rows", "columns", "place"] (defScope sRingLen) := ⟨rfl, rfl, rfl, by decide +kernel, rfl, by decide +kernel, by decide +kernel⟩
theorem ok_ringLen {f : Addr} {fd : FuncData} (F : Fun K "ring_length" "ring_length" sRingLen f fd) (hg : mg "gcd" = some (.builtin "math.gcd")) (hl : mg "lcm" = some (.builtin "math.lcm")) (Cp : Cal P w K mg base 3 "check_place" spChkP []) (Fa : Cal P w K mg base 1 "factors" spFactors []) (Or_ : Cal P w K mg base 2 "order" spOrder []) : FnOk P w K mg base CX0 4 f fd ["rows", "columns", "place"] spRingM := by
  refine F.ok scRingLen (fun vs H Q E h => ?_) (fun cdv A outer s H vs Q E hr h => ?_)
  · obtain ⟨r, c, p, rfl, _⟩ := h
    rfl
  · obtain ⟨r, c, p, rfl, hT, hp, q⟩ := h
    refine ⟨_, pss_cons (ps_expr (pe_c Cp hr (by decide) rfl (pa_cons (pv 0) (pa_cons (pv 1) (pa_cons (pv 2) pa_nil)))))
      (pss_cons (ps_set (i := 3) scRingLen.nd rfl (Or.inl rfl) (pe_op op_sub (pe_op op_mul (pv 0) (pv 1)) pe_int))
      (pss_cons (ps_if (pt_cmpR op_eq (pv 2) (pv 3) (nomark _)) (pss_one (ps_ret pe_int)) pss_nil)
      (pss_cons (ps_set (i := 4) scRingLen.nd rfl (Or.inl rfl) pe_int)
      (pss_cons (ps_for PassesOwn.never rfl (pi_list (pe_c Fa hr (by decide) rfl (pa_cons (pe_op op_fdivW (pv 3) (pe_callBfun cr_gcd (by rfl) hg (pa_cons (pv 2) (pa_cons (pv 3) pa_nil)))) pa_nil))) (pg_tup rfl (pgs_cons (pg_name (i := 5) scRingLen.nd rfl (Or.inl rfl)) (pgs_cons (pg_name (i := 6) scRingLen.nd rfl (Or.inl rfl)) pgs_nil)))
        (pss_one (ps_set (i := 4) scRingLen.nd rfl (Or.inl rfl) (pe_callBfun cr_lcm (by rfl) hl (pa_cons (pv 4) (pa_cons (pe_c Or_ hr (by decide) rfl (pa_cons (pv 0) (pa_cons (pv 5) (pa_cons (pv 6) pa_nil)))) pa_nil))))))
      (pss_one (ps_ret (pv 4))))))), ?_⟩
    obtain ⟨r1, c1, r2, c2⟩ := id hT
    obtain ⟨l1, l2⟩ := tb_lt hT
    refine ⟨_, rfl, _, rfl, _, rfl, r, c, p, rfl, hT, hp, fun H1 S1 => ?_⟩
    have el := cI_last hT
    dsimp only
    refine seq_asg (te_mid (fun x H' => x = cI (r * c - 1) ∧ H1 = H') (fun R k => ⟨_, rfl, _, rfl, _, _, rfl, rfl, .inl ⟨by omega, by omega⟩, _, _, rfl, rfl, k _ _ ⟨el, rfl⟩⟩) ?_)
    rintro x _ ⟨rfl, rfl⟩
    generalize hL : r * c - 1 = L at el q
    have hLl : L < 2 ^ 40 := by omega
    have hp2 : p ≤ L := by omega
    refine ⟨_, rfl, _, rfl, rfl, _, rfl, iteD (fun he => ?_) (fun he => ?_)⟩
    · have : p = L := cI_inj he
      have e1 : ringM r L p = 1 := if_pos this
      have := q H1 S1
      rw [e1] at this
      exact this
    · dsimp only [tNext]
      have pl : p < L := by
        rcases Nat.lt_or_ge p L with z | z
        · exact z
        · exact absurd (congrArg cI (Nat.le_antisymm hp2 z)) he
      have e1 : ringM r L p = lcmF r (facM (L / Nat.gcd p L)) := if_neg (by omega)
      rw [e1] at q
      have gp : 1 ≤ Nat.gcd p L := Nat.gcd_pos_of_pos_right _ (by omega)
      have gl : Nat.gcd p L ≤ L := Nat.gcd_le_right _ (by omega)
      have d1 : 1 ≤ L / Nat.gcd p L := Nat.div_pos gl gp
      have d2 : L / Nat.gcd p L < 2 ^ 40 := Nat.lt_of_le_of_lt (Nat.div_le_self _ _) hLl
      refine ⟨_, rfl, _, rfl, _, rfl, _, _, rfl, _, _, rfl, rfl, ⟨?_, ?_⟩, L / Nat.gcd p L, ?_, d1, d2, fun H2 a S2 pr => ?_⟩
      · simp only [Int.natAbs_natCast]; omega
      · simp only [Int.natAbs_natCast]; exact l40 (by omega)
      · have := cI_div L (Nat.gcd p L)
        rw [← this, ← Int.natAbs_natCast p, ← Int.natAbs_natCast L]
        simp
      · obtain ⟨g, hpd⟩ := facM_ok d1
        obtain ⟨ts, t1, t2, t3⟩ := pr
        generalize L / Nat.gcd p L = D at q d1 d2 g hpd t2 t3
        refine ⟨a, rfl, ⟨_, SqL.of t1⟩, for_it (walk_list (xs := ts.map V.ref)) (fun i σ' H' => (∃ u1 u2, σ' = [some (cI r), some (cI c), some (cI p), some (cI L), some (cI (lcmF r ((facM D).take i))), u1, u2]) ∧ Same H2 H') ⟨⟨none, none, rfl⟩, Same.refl _⟩ (fun i σ' H' _ z => SqL.of (z.2 _ _ t1)) ?_ ?_⟩
        · rintro i x σ' H9 H3 hi ⟨⟨u1, u2, rfl⟩, S3⟩ ⟨rfl, hx⟩
          rw [List.length_map] at hi
          have hi2 : i < (facM D).length := by omega
          rw [List.getElem?_map, List.getElem?_eq_getElem hi] at hx
          obtain rfl := Option.some.inj hx
          have ey := List.getElem?_eq_getElem hi2
          have ht := S3 _ _ (t3 i _ _ (List.getElem?_eq_getElem hi) ey)
          have gy := g _ (List.getElem_mem hi2)
          obtain ⟨yl, ye, yp⟩ := exp_lt g (Nat.le_of_eq hpd) d2 (List.getElem_mem hi2)
          obtain ⟨a1, a2⟩ := lcmF_ok g (r := r) (i + 1)
          obtain ⟨b1, b2⟩ := lcmF_ok g (r := r) i
          have p1 := prodF_take_le g (i + 1)
          have p2 := prodF_take_le g i
          obtain ⟨o1, o2⟩ := ordM_ok (b := r) (e := ((facM D)[i]).2) gy.1
          have o3 := units_le gy.1 gy.2
          rw [lcmF_take ey] at a1 a2
          rw [lcmF_take ey]
          refine ⟨_, _, rfl, SqT.of ht, rfl, _, _, rfl, _, _, rfl, rfl, ?_⟩
          refine ⟨_, rfl, _, rfl, _, rfl, _, rfl, r, _, _, rfl, by omega, gy.1, gy.2, yp, fun H4 S4 => ?_⟩
          exact ⟨_, _, rfl, by omega, by omega, by omega, ⟨_, _, rfl⟩, S3.trans S4⟩
        · rintro σ' H3 ⟨⟨u1, u2, rfl⟩, S3⟩
          refine ⟨_, rfl, ?_⟩
          rw [List.length_map, t2, List.take_length]
          exact q H3 ((S1.trans S2).trans S3)
theorem scTurned : FnScope ["rows", "columns", "place", "times", "last"] ["rows", "columns", "place", "times"] (defScope sTurned) := ⟨rfl, rfl, rfl, by decide +kernel, rfl, by decide +kernel, by decide +kernel⟩
theorem ok_turned {f : Addr} {fd : FuncData} (F : FunD K "turned" "turned" (defArgs sTurned) (defBody sTurned) (defScope sTurned) [.int 1] [] f fd) (Cp : Cal P w K mg base 3 "check_place" spChkP []) (Cn : Cal P w K mg base 2 "is_count" spCnt1 []) (Pw : Cal P w K mg base 1 "power" spPower []) : FnOk P w K mg base CX0 4 f fd ["rows", "columns", "place", "times"] spTurnM := by
  refine F.ok0 scTurned (fun vs H Q E h => ?_) (fun cdv A outer s H vs Q E hr h => ?_)
  · obtain ⟨r, c, p, t, rfl, _⟩ := h
    rfl
  · obtain ⟨r, c, p, t, rfl, hT, hp, ht, q⟩ := h
    refine ⟨_, pss_cons (ps_expr (pe_c Cp hr (by decide) rfl (pa_cons (pv 0) (pa_cons (pv 1) (pa_cons (pv 2) pa_nil)))))
      (pss_cons (ps_if (pt_not (pt_val (pe_c Cn hr (by decide) rfl (pa_cons (pv 3) pa_nil)))) (pss_one ps_never) pss_nil)
      (pss_cons (ps_set (i := 4) scTurned.nd rfl (Or.inl rfl) (pe_op op_sub (pe_op op_mul (pv 0) (pv 1)) pe_int))
      (pss_cons (ps_if (pt_cmpR op_eq (pv 2) (pv 4) (nomark _)) (pss_one (ps_ret (pv 2))) pss_nil)
      (pss_one (ps_ret (pe_op op_mod (pe_op op_mul (pv 2) (pe_c Pw hr (by decide) rfl (pa_cons (pv 0) (pa_cons (pv 3) (pa_cons (pv 4) pa_nil))))) (pv 4))))))), ?_⟩
    obtain ⟨r1, c1, r2, c2⟩ := id hT
    obtain ⟨l1, l2⟩ := tb_lt hT
    refine ⟨_, rfl, _, rfl, _, rfl, r, c, p, rfl, hT, hp, fun H1 S1 => ?_⟩
    refine ⟨_, rfl, _, rfl, by omega, true, rfl, iteF ?_⟩
    dsimp only [tNext]
    have el := cI_last hT
    refine seq_asg (te_mid (fun x H' => x = cI (r * c - 1) ∧ H1 = H') (fun R k => ⟨_, rfl, _, rfl, _, _, rfl, rfl, .inl ⟨by omega, by omega⟩, _, _, rfl, rfl, k _ _ ⟨el, rfl⟩⟩) ?_)
    rintro x _ ⟨rfl, rfl⟩
    generalize hL : r * c - 1 = L at el q
    have hLl : L < 2 ^ 40 := by omega
    have hp2 : p ≤ L := by omega
    refine ⟨_, rfl, _, rfl, rfl, _, rfl, iteD (fun he => ?_) (fun he => ?_)⟩
    · have : p = L := cI_inj he
      have e1 : turnM r L p t = p := if_pos this
      have := q H1 S1
      rw [e1] at this
      exact ⟨_, rfl, this⟩
    · dsimp only [tNext]
      have pl : p < L := by
        rcases Nat.lt_or_ge p L with z | z
        · exact z
        · exact absurd (congrArg cI (Nat.le_antisymm hp2 z)) he
      have e1 : turnM r L p t = p * pw r t L % L := if_neg (by omega)
      rw [e1] at q
      refine ⟨_, rfl, _, rfl, _, rfl, _, rfl, r, t, L, rfl, by omega, ht, by omega, hLl, ?_⟩
      refine ⟨_, _, rfl, rfl, .inl ⟨by omega, by omega⟩, _, rfl, _, _, rfl, rfl, (show (0 : Int) < ((L : Nat) : Int) by omega), ?_⟩
      have := cI_mod (p * pw r t L) L
      rw [Int.natCast_mul] at this
      have h2 := q H1 S1
      rw [← this] at h2
      exact h2
end
end E3

set_option linter.all false
set_option maxHeartbeats 400000
/-! rings: the mirrors of the dicts -/
namespace E3
abbrev Dt := List (Nat × Nat)
def getI (l : Dt) (k : Nat) : Option Nat := (l.find? fun x => decide (x.1 = k)).map (·.2)
def putI (l : Dt) (k v : Nat) : Dt := if (l.any fun x => decide (x.1 = k)) = true then l.map (fun x => if x.1 = k then (x.1, v) else x) else l ++ [(k, v)]
def addI (g : Dt) (k s : Nat) : Dt := putI g k ((getI g k).getD 0 + s)
def grow1 (l pl : Nat) (parts : Dt) (g : Dt) : Dt := parts.foldl (fun g x => addI g (Nat.lcm l x.1) (pl * x.2)) g
def growM (found parts : Dt) : Dt := found.foldl (fun g x => grow1 x.1 x.2 parts g) []
def partsM (r p e : Nat) : Dt := (1, 1) :: (List.range e).map fun j => (ordM r p (j + 1), unitsM p (j + 1))
def placesM (r : Nat) (fac : Dt) : Dt := fac.foldl (fun d x => growM d (partsM r x.1 x.2)) [(1, 1)]
def cntF (l : Dt) : Nat := l.foldr (fun x n => (x.2 + 1) * n) 1
theorem putI_len (l : Dt) (k v : Nat) : (putI l k v).length ≤ l.length + 1 := by
  unfold putI
  split
  · rw [List.length_map]; omega
  · rw [List.length_append]; simp
theorem putI_keys (l : Dt) (k v j : Nat) : j ∈ (putI l k v).map (·.1) ↔ j = k ∨ j ∈ l.map (·.1) := by
  unfold putI
  by_cases h : (l.any fun x => decide (x.1 = k)) = true
  · rw [if_pos h, List.map_map]
    have e : ((fun x : Nat × Nat => x.1) ∘ fun x => if x.1 = k then (x.1, v) else x) = (fun x => x.1) := by
      funext x
      simp only [Function.comp]
      split <;> rfl
    rw [e]
    refine ⟨.inr, fun z => z.elim (fun e => ?_) id⟩
    subst e
    obtain ⟨x, hx, he⟩ := List.any_eq_true.mp h
    exact List.mem_map.mpr ⟨x, hx, of_decide_eq_true he⟩
  · rw [if_neg h, List.map_append, List.mem_append]
    simp only [List.map_cons, List.map_nil, List.mem_singleton]
    exact Or.comm
def KeysB (l : Dt) (B : Nat) : Prop := ∀ j ∈ l.map (·.1), 1 ≤ j ∧ j ≤ B
theorem KeysB.put {l : Dt} {B k v : Nat} (h : KeysB l B) (k1 : 1 ≤ k) (k2 : k ≤ B) : KeysB (putI l k v) B := fun j hj => by
  rcases (putI_keys l k v j).mp hj with e | e
  · subst e; exact ⟨k1, k2⟩
  · exact h j e
theorem grow1_ok (l pl : Nat) {B : Nat} : ∀ (parts : Dt) (g : Dt), KeysB g B → (∀ x ∈ parts, 1 ≤ Nat.lcm l x.1 ∧ Nat.lcm l x.1 ≤ B) → KeysB (grow1 l pl parts g) B ∧ (grow1 l pl parts g).length ≤ g.length + parts.length ∧ ∀ j, j ∈ (grow1 l pl parts g).map (·.1) ↔ j ∈ g.map (·.1) ∨ ∃ x ∈ parts, j = Nat.lcm l x.1
  | [], g, h, _ => ⟨h, Nat.le_refl _, fun j => ⟨.inl, fun z => z.elim id fun ⟨x, hx, _⟩ => by cases hx⟩⟩
  | y :: parts, g, h, hp => by
    obtain ⟨y1, y2⟩ := hp y (List.mem_cons_self ..)
    obtain ⟨a, b, c⟩ := grow1_ok l pl parts (addI g (Nat.lcm l y.1) (pl * y.2)) (h.put y1 y2) fun x hx => hp x (List.mem_cons_of_mem _ hx)
    have pl' := putI_len g (Nat.lcm l y.1) ((getI g (Nat.lcm l y.1)).getD 0 + pl * y.2)
    refine ⟨a, ?_, fun j => ?_⟩
    · refine Nat.le_trans b ?_
      rw [List.length_cons]
      unfold addI
      omega
    · refine (c j).trans ?_
      unfold addI
      rw [putI_keys]
      constructor
      · rintro ((e | e) | ⟨x, hx, e⟩)
        · exact .inr ⟨y, List.mem_cons_self .., e⟩
        · exact .inl e
        · exact .inr ⟨x, List.mem_cons_of_mem _ hx, e⟩
      · rintro (e | ⟨x, hx, e⟩)
        · exact .inl (.inr e)
        · rcases List.mem_cons.mp hx with rfl | hx
          · exact .inl (.inl e)
          · exact .inr ⟨x, hx, e⟩
theorem growF_ok {B : Nat} (parts : Dt) : ∀ (found g : Dt), KeysB g B → (∀ y ∈ found, ∀ x ∈ parts, 1 ≤ Nat.lcm y.1 x.1 ∧ Nat.lcm y.1 x.1 ≤ B) → KeysB (found.foldl (fun g x => grow1 x.1 x.2 parts g) g) B ∧ (found.foldl (fun g x => grow1 x.1 x.2 parts g) g).length ≤ g.length + found.length * parts.length ∧
    ∀ j, j ∈ (found.foldl (fun g x => grow1 x.1 x.2 parts g) g).map (·.1) ↔ j ∈ g.map (·.1) ∨ ∃ y ∈ found, ∃ x ∈ parts, j = Nat.lcm y.1 x.1
  | [], g, h, _ => ⟨h, by simp, fun j => ⟨.inl, fun z => z.elim id fun ⟨y, hy, _⟩ => by cases hy⟩⟩
  | y :: found, g, h, hp => by
    obtain ⟨a, b, c⟩ := grow1_ok y.1 y.2 parts g h (hp y (List.mem_cons_self ..))
    obtain ⟨a2, b2, c2⟩ := growF_ok parts found _ a fun z hz => hp z (List.mem_cons_of_mem _ hz)
    refine ⟨a2, ?_, fun j => ?_⟩
    · refine Nat.le_trans b2 ?_
      rw [List.length_cons, Nat.add_mul, Nat.one_mul]
      omega
    · refine (c2 j).trans ?_
      rw [c j]
      constructor
      · rintro ((e | ⟨x, hx, e⟩) | ⟨z, hz, x, hx, e⟩)
        · exact .inl e
        · exact .inr ⟨y, List.mem_cons_self .., x, hx, e⟩
        · exact .inr ⟨z, List.mem_cons_of_mem _ hz, x, hx, e⟩
      · rintro (e | ⟨z, hz, x, hx, e⟩)
        · exact .inl (.inl e)
        · rcases List.mem_cons.mp hz with rfl | hz
          · exact .inl (.inr ⟨x, hx, e⟩)
          · exact .inr ⟨z, hz, x, hx, e⟩
theorem parts_ok {r p e : Nat} (hp : 2 ≤ p) (he : 1 ≤ e) : (partsM r p e).length = e + 1 ∧ ∀ x ∈ partsM r p e, 1 ≤ x.1 ∧ x.1 ≤ p ^ e ∧ x.2 ≤ p ^ e := by
  refine ⟨by simp [partsM], fun x hx => ?_⟩
  have pe : 1 ≤ p ^ e := Nat.pow_pos (by omega)
  rcases List.mem_cons.mp hx with rfl | hx
  · exact ⟨Nat.le_refl _, pe, pe⟩
  · obtain ⟨j, hj, rfl⟩ := List.mem_map.mp hx
    have hj := List.mem_range.mp hj
    obtain ⟨a, b⟩ := ordM_ok (b := r) (e := j + 1) hp
    have c := units_le hp (show 1 ≤ j + 1 by omega)
    have d : p ^ (j + 1) ≤ p ^ e := Nat.pow_le_pow_right (by omega) (by omega)
    exact ⟨a, by show ordM r p (j + 1) ≤ _; omega, by show unitsM p (j + 1) ≤ _; omega⟩
theorem placesM_take {r : Nat} {l : Dt} {i : Nat} {x : Nat × Nat} (h : l[i]? = some x) : placesM r (l.take (i + 1)) = growM (placesM r (l.take i)) (partsM r x.1 x.2) := by
  unfold placesM
  rw [List.take_succ, h, List.foldl_append]; rfl
theorem cntF_app (l m : Dt) : cntF (l ++ m) = cntF l * cntF m := by
  induction l with
  | nil => simp [cntF]
  | cons x l ih =>
    have : cntF (x :: l ++ m) = (x.2 + 1) * cntF (l ++ m) := rfl
    rw [this, ih, ← Nat.mul_assoc]; rfl
theorem cntF_pos (l : Dt) : 1 ≤ cntF l := by
  induction l with
  | nil => exact Nat.le_refl _
  | cons x l ih => exact Nat.mul_pos (by omega) ih
theorem cntF_take_succ {l : Dt} {i : Nat} {x : Nat × Nat} (h : l[i]? = some x) : cntF (l.take (i + 1)) = cntF (l.take i) * (x.2 + 1) := by
  rw [List.take_succ, h, cntF_app]; simp [cntF]
theorem cntF_take_le (l : Dt) (i : Nat) : cntF (l.take i) ≤ cntF l := by
  have e : cntF l = cntF (l.take i) * cntF (l.drop i) := by rw [← cntF_app, List.take_append_drop]
  rw [e]
  exact Nat.le_mul_of_pos_right _ (cntF_pos _)
theorem key_lcm {d : Dt} {B r p e : Nat} (hd : KeysB d B) (hp : 2 ≤ p) (he : 1 ≤ e) : ∀ y ∈ d, ∀ x ∈ partsM r p e, 1 ≤ Nat.lcm y.1 x.1 ∧ Nat.lcm y.1 x.1 ≤ B * p ^ e := fun y hy x hx => by
  obtain ⟨a, b⟩ := hd y.1 (List.mem_map.mpr ⟨y, hy, rfl⟩)
  obtain ⟨c, f, _⟩ := (parts_ok hp he).2 x hx
  obtain ⟨g, h⟩ := lcm_le a c
  exact ⟨g, Nat.le_trans h (Nat.mul_le_mul b f)⟩
theorem places_ok {r : Nat} {l : Dt} (g : Good l) : ∀ i, KeysB (placesM r (l.take i)) (prodF (l.take i)) ∧ (placesM r (l.take i)).length ≤ cntF (l.take i) ∧ 1 ∈ (placesM r (l.take i)).map (·.1)
  | 0 => ⟨fun j hj => by
      have : j = 1 := by simpa [placesM] using hj
      subst this; exact ⟨Nat.le_refl _, Nat.le_refl _⟩, Nat.le_refl _, List.mem_cons_self ..⟩
  | i + 1 => by
    obtain ⟨a, b, c⟩ := places_ok g (r := r) i
    by_cases h : i < l.length
    · have e := List.getElem?_eq_getElem h
      have gx := g _ (List.getElem_mem h)
      rw [placesM_take e, prodF_take_succ e, cntF_take_succ e]
      obtain ⟨k1, k2, k3⟩ := growF_ok (B := prodF (l.take i) * (l[i]).1 ^ (l[i]).2) (partsM r (l[i]).1 (l[i]).2) (placesM r (l.take i)) [] (fun j hj => by cases hj) (key_lcm a gx.1 gx.2)
      refine ⟨k1, ?_, ?_⟩
      · refine Nat.le_trans k2 ?_
        rw [(parts_ok gx.1 gx.2).1]
        simp only [List.length_nil, Nat.zero_add]
        exact Nat.mul_le_mul_right _ b
      · refine (k3 1).mpr (.inr ?_)
        obtain ⟨y, hy, he⟩ := List.mem_map.mp c
        exact ⟨y, hy, (1, 1), List.mem_cons_self .., by
          show 1 = Nat.lcm y.1 1
          rw [he]; rfl⟩
    · rw [List.take_of_length_le (by omega)] at a b c ⊢
      exact ⟨a, b, c⟩
theorem getI_some {l : Dt} {k : Nat} (h : k ∈ l.map (·.1)) : ∃ v, getI l k = some v := by
  obtain ⟨x, hx, e⟩ := List.mem_map.mp h
  unfold getI
  cases hf : l.find? fun x => decide (x.1 = k) with
  | none => exact absurd (decide_eq_true e) (List.find?_eq_none.mp hf x hx)
  | some y => exact ⟨y.2, rfl⟩
/-- the sorted list -/
def sortI (l : List Nat) : List Nat := l.mergeSort (fun a b => decide (a ≤ b))
theorem sortI_ok (l : List Nat) : (sortI l).Perm l ∧ (sortI l).Pairwise (· ≤ ·) := by
  refine ⟨List.mergeSort_perm _ _, ?_⟩
  have := List.pairwise_mergeSort (le := fun a b : Nat => decide (a ≤ b)) (fun a b c h1 h2 => by simp at *; omega) (fun a b => by simp; omega) l
  exact this.imp fun h => of_decide_eq_true h
theorem sorted_eq : ∀ {l m : List Nat}, l.Perm m → l.Pairwise (· ≤ ·) → m.Pairwise (· ≤ ·) → l = m
  | [], m, p, _, _ => (List.Perm.nil_eq p)
  | x :: l, [], p, _, _ => by have := p.length_eq; simp at this
  | x :: l, y :: m, p, h1, h2 => by
    have a := List.pairwise_cons.mp h1
    have b := List.pairwise_cons.mp h2
    have e : x = y := by
      have m1 : x ∈ y :: m := p.mem_iff.mp (List.mem_cons_self ..)
      have m2 : y ∈ x :: l := p.mem_iff.mpr (List.mem_cons_self ..)
      rcases List.mem_cons.mp m1 with e | m1
      · exact e
      · rcases List.mem_cons.mp m2 with e | m2
        · exact e.symm
        · exact Nat.le_antisymm (a.1 _ m2) (b.1 _ m1)
    subst e
    rw [sorted_eq (List.Perm.cons_inv p) a.2 b.2]
/-- rings(r, c) -/
def bumpM (d : Dt) : Dt := putI d 1 ((getI d 1).getD 0 + 1)
def ringsD (r last : Nat) : Dt := if 0 < last then bumpM (placesM r (facM last)) else [(1, 1)]
def ringsM (r last : Nat) : List (Nat × Nat) := (sortI ((ringsD r last).map (·.1))).map fun k => (k, ((getI (ringsD r last) k).getD 0) / k)
end E3

set_option Elab.async false
set_option linter.all false
set_option maxRecDepth 100000
set_option maxHeartbeats 1000000
/-! sorted(d), d a dict with whole numbers as keys -/
namespace L2
open PySem PySem.Spec PyProof.Rows
section
variable {prog : Program} {w : World} {A : Around} {E : Value → Shared → Prop} {s : Shared} {T : String} {r d : Addr} {n : Nat} {P : Nat → Value → Prop} {OK : Heap → Prop}
theorem collect_kdl {Q : List Value → Shared → Prop} (K : PySem.W.KdlSrc prog w T r d n P OK) (hh : A.handled = none) (hok : OK s.heap) (hn : n ≤ sizeLine)
    (hQ : ∀ h' tk acc', (∀ b o, s.heap.get? b = some o → h'.get? b = some o) → ItemsOf P acc' n → Q acc'.toList { s with heap := h', toks := tk }) : wpAny (model prog w) A (collect (.ref r)) Q E s := by
  have hS : (s.heap.push { cls := .type "list", data := .seq ([] : List Value).toArray }).get? s.heap.objs.size = some { cls := .type "list", data := .seq ([] : List Value).toArray } := Heap.get?_push_size _ rfl
  have hlt := K.there _ hok
  have key : ∀ R : Result → Shared → Prop, (∀ h' tk acc' c', (∀ b o, s.heap.get? b = some o → h'.get? b = some o) → h'.get? s.heap.objs.size = some { cls := .type "list", dict := none, data := .seq acc' c', slots := #[] } → ItemsOf P acc' n → R (.ok (.ret (.ref s.heap.objs.size))) { s with heap := h', toks := tk }) →
      codeAny (model prog w) A (.builtin "list.__iadd__" ⟨[.ref s.heap.objs.size, .ref r], []⟩) R { s with heap := s.heap.push { cls := .type "list", data := .seq ([] : List Value).toArray } } := by
    intro R hR
    refine codeAny_builtin F.entry_list_iadd ?_
    rw [Around.under_plainId F.plain_list_iadd _]
    show wpAny _ A.in1 (Builtin.List.listExtendWith (.ref s.heap.objs.size) (.ref r) (.ref s.heap.objs.size)) _ _ _
    exact PySem.W.kdl_extend (s := { s with heap := s.heap.push { cls := .type "list", data := .seq ([] : List Value).toArray } }) K hh (K.keep _ _ hok fun b _ o e => Heap.get?_push_of_some _ e) s.heap.objs.size (Nat.ne_of_gt hlt.1) (Nat.ne_of_gt hlt.2) (.ref s.heap.objs.size) _ hS
      (fun h' tk acc' c' hk hS' hacc => hR h' tk acc' c' (fun b o e => hk b o (Nat.ne_of_lt (Heap.lt_size e)) (Heap.get?_push_of_some _ e)) hS' hacc) hn
  unfold collect
  refine wpAny_bind (wpAny_runValue (codeAny_builtin F.entry_proto_collect ?_))
  rw [Around.under_plainId F.plain_proto_collect _]
  show wpAny _ A.in1 (newList [] >>= fun l => again (.builtin "list.__iadd__" ⟨[l, .ref r], []⟩)) _ _ s
  refine wpAny_bind (wpAny_newObj_type ?_)
  refine wpAny_pure ⟨plainId_quiet F.plain_list_iadd _, key _ fun h' tk acc' c' hk hS' hacc => ?_⟩
  show wpAny _ A (load s.heap.objs.size >>= _) _ _ _
  refine wpAny_bind (wpAny_load hS' ?_)
  exact wpAny_pure (hQ h' tk acc' hk hacc)
end
def rSortedD : List V → Hp → VK → Prop := fun vs H Q => ∃ (d : Addr) (kvs : List (Key × V)) (ns : List Int), vs = [V.ref d] ∧ Rd H d (.dK kvs) ∧ kvs.map (·.1) = ns.map Sum.inl ∧
  ∀ ns' : List Int, ns'.Perm ns → ns'.Pairwise (· ≤ ·) → NewQ H (.lst (ns'.map V.int)) Q
theorem cr_sortedD {X : Cx} (hc : X.calm = true) : CallR X (.builtin "sorted") rSortedD := by
  intro pins s σ H vs us Q I r h
  obtain ⟨d, kvs, ns, rfl, hd, hk, q⟩ := h
  obtain ⟨z, lo, rs, rk, hdo⟩ := dk_rd I.hok hd
  obtain ⟨ep, hat⟩ := hdo.dictAt
  have hl : kvs.length = rs.length := Paired.length rk
  rw [Vals.ref1 r]
  refine Calls.call_function_entry kind_sorted plain_sorted entry_sorted (args_sorted1 _) ?_
  unfold Builtin.«sorted»
  refine wpAny_bind (m := checkCount "sorted" 1 1 _) (wpAny_pure ?_)
  refine wpAny_bind (collect_kdl (PySem.W.kdl_dict (knd := mixKind X.prog X.w) (kvs := rs) (ep := ep) lo) (I.ok.hd hc) hat (by rw [← hl]; exact z) fun h' tk acc hkp hacc => ?_)
  have sz : acc.toList.length = ns.length := by
    have e := congrArg List.length hk
    rw [List.length_map, List.length_map] at e
    rw [Array.length_toList, hacc.1, ← hl, e]
  have hv : Vals (ns.map V.int) acc.toList := by
    refine vals_of_at (by rw [List.length_map]; exact sz.symm) fun j x w h1 h2 => ?_
    obtain ⟨k, y, hky, hi⟩ := hacc.2 j w (by rw [← Array.getElem?_toList]; exact h2)
    have e1 : (kvs.map (·.1))[j]? = some k := by
      rw [KV.keys rk, List.getElem?_map, hky] <;> rfl
    rw [hk, List.getElem?_map] at e1
    rw [List.getElem?_map] at h1
    cases e : ns[j]? with
    | none => rw [e] at e1; cases e1
    | some i =>
      rw [e] at e1 h1
      have := Option.some.inj e1
      subst this
      have := Option.some.inj h1
      subst this
      exact keyIs_rel (k := Sum.inl i) (v := w) hi
  have hi := hv.ints
  have I1 : Inv X pins σ H { s with heap := h', toks := tk } := I.kept hkp
  have hz : acc.toList.length ≤ sizeLine := by
    have e := congrArg List.length hk
    rw [List.length_map, List.length_map] at e
    omega
  refine wpAny_bind (wpAny_newList ?_ hz)
  have hoL : (h'.push (seqObj "list" acc.toList.toArray 0)).get? h'.objs.size = some (seqObj "list" acc.toList.toArray 0) := Heap.get?_push_size _ rfl
  show wpAny _ _ _ _ _ { s with heap := h'.push (seqObj "list" acc.toList.toArray 0), toks := tk }
  refine wpAny_bind (wpAny_holding (wpAny_call_entry slot_list_sort ⟨_, hoL, rfl⟩ entry_list_sort (SrtO.list_sort_ord SrtO.swo_int hoL hz (fun h2 => SrtO.ints_sortable hi h2) fun out hs hb => ⟨_, rfl, ?_⟩) (args_list_sort _)))
  obtain ⟨k1, k2, k3⟩ := SrtO.ints_out hi hs hb
  obtain ⟨ep2, he'⟩ := sortedHeap_at (vs := acc.toList) (out := out.toArray) hoL
  have hlen : ((out.map SrtO.iv).map V.int).length ≤ sizeLine := by rw [List.length_map, k2.length_eq, ← sz]; exact hz
  refine wpAny_pure ⟨_, rfl, .ref h'.objs.size, upd H h'.objs.size (.lst ((out.map SrtO.iv).map V.int)), I1.laid (t' := tk) (fun b u e => ?_) (Nat.le_refl _) ⟨hlen, out, ep2, vals_of_ints k1, he'⟩, rfl, (q _ k2 k3).at I1.fresh⟩
  have lt := Heap.lt_size e
  rw [sortedHeap_old (Nat.ne_of_lt lt) (by rw [size_push']; exact Nat.lt_succ_of_lt lt)]
  exact Heap.get?_push_of_some _ e
end L2

set_option Elab.async false
set_option linter.all false
set_option maxRecDepth 100000
set_option maxHeartbeats 1000000
/-! rings: places_by_length -/
namespace E3
open PySem PySem.Spec PyProof.Rows L2
open C8 (Cal Mak Met InsC pe_c pe_mt pe_mt0 call_isC clsBody)
def kvsOf (l : Dt) : List (Key × V) := l.map fun x => ((Sum.inl ((x.1 : Nat) : Int) : Key), cI x.2)
abbrev kI (n : Nat) : Key := Sum.inl ((n : Nat) : Int)
theorem kI_inj {a b : Nat} : kI a = kI b ↔ a = b := ⟨fun h => by have := Sum.inl.inj h; omega, fun h => by rw [h]⟩
theorem val_kvs (l : Dt) (k : Nat) : valV (kvsOf l) (kI k) = (getI l k).map cI := by
  induction l with
  | nil => rfl
  | cons x l ih =>
    unfold kvsOf at ih ⊢
    rw [List.map_cons]
    by_cases h : x.1 = k
    · rw [valV_pos (kI_inj.mpr h)]
      simp [getI, h]
    · rw [valV_neg (fun z => h (kI_inj.mp z)), ih]
      simp [getI, h]
theorem put_kvs (l : Dt) (k v : Nat) : putK (kvsOf l) (kI k) (cI v) = kvsOf (putI l k v) := by
  unfold putK putI
  have e : ((kvsOf l).any fun kv => decide (kv.1 = kI k)) = (l.any fun x => decide (x.1 = k)) := by
    unfold kvsOf
    rw [List.any_map]
    congr 1
    funext x
    show decide (kI x.1 = kI k) = decide (x.1 = k)
    exact decide_eq_decide.mpr kI_inj
  rw [e]
  by_cases h : (l.any fun x => decide (x.1 = k)) = true
  · rw [if_pos h, if_pos h]
    unfold kvsOf
    rw [List.map_map, List.map_map]
    refine List.map_congr_left fun x _ => ?_
    show (if kI x.1 = kI k then (kI x.1, cI v) else (kI x.1, cI x.2)) = _
    by_cases h2 : x.1 = k
    · rw [if_pos (kI_inj.mpr h2)]; simp only [Function.comp, if_pos h2]
    · rw [if_neg (fun z => h2 (kI_inj.mp z))]; simp only [Function.comp, if_neg h2]
  · rw [if_neg h, if_neg h]
    unfold kvsOf
    rw [List.map_append]; rfl
theorem kvs_len (l : Dt) : (kvsOf l).length = l.length := List.length_map _
theorem kvs_at {l : Dt} {i : Nat} {y : Nat × Nat} (h : l[i]? = some y) : (kvsOf l)[i]? = some (kI y.1, cI y.2) := by unfold kvsOf; rw [List.getElem?_map, h]; rfl
theorem _root_.L2.SameB.toSame {D : Addr} {H H1 H2 : Hp} (S : SameB D H1 H2) (S0 : Same H H1) (n : H D = none) : Same H H2 := fun b o h => S b o (fun z => by rw [z, n] at h; cases h) (S0 b o h)
theorem PrsAt.keep {H H' : Hp} {a : Addr} {l : List (Nat × Nat)} (h : PrsAt H a l) (k : ∀ b o, H b = some o → (∀ kvs, o ≠ .dK kvs) → H' b = some o) : PrsAt H' a l :=
  let ⟨ts, h1, h2, h3⟩ := h
  ⟨ts, k _ _ h1 (fun _ z => nomatch z), h2, fun i t x e1 e2 => k _ _ (h3 i t x e1 e2) (fun _ z => nomatch z)⟩
theorem parts_ok' (r p j : Nat) : (partsM r p j).length = j + 1 := by simp [partsM]
theorem ne_of_2 {H6 : Hp} {a G T : Addr} {o : HO} {q : HO} {kvs : List (Key × V)} (h : (upd H6 T q) a = some o) (hG : H6 G = some (.dK kvs)) (gt : G ≠ T) (ho : ∀ k, o ≠ .dK k := by intro _ z; cases z) : a ≠ G := fun z => by
  rw [z, upd_ne gt, hG] at h
  exact ho _ (Option.some.inj h).symm
/-- what is returned: a new dict; cnt: few enough lengths -/
def spPlaces : Sp := fun vs H Q _ => ∃ r L : Nat, vs = [cI r, cI L] ∧ r < 2 ^ 40 ∧ 1 ≤ L ∧ L < 2 ^ 40 ∧ cntF (facM L) < sizeLine ∧ ∀ H' D, Same H H' → H D = none → H' D = some (.dK (kvsOf (placesM r (facM L)))) → Q (.ref D) H'
theorem partsM_succ (r p j : Nat) : partsM r p (j + 1) = partsM r p j ++ [(ordM r p (j + 1), unitsM p (j + 1))] := by
  unfold partsM
  rw [List.range_succ, List.map_append]; rfl
theorem grow1_take {l pl : Nat} {parts g : Dt} {j : Nat} {x : Nat × Nat} (h : parts[j]? = some x) : grow1 l pl (parts.take (j + 1)) g = addI (grow1 l pl (parts.take j) g) (Nat.lcm l x.1) (pl * x.2) := by
  unfold grow1
  rw [List.take_succ, h, List.foldl_append]; rfl
theorem growM_take {found parts : Dt} {i : Nat} {y : Nat × Nat} (h : found[i]? = some y) : growM (found.take (i + 1)) parts = grow1 y.1 y.2 parts (growM (found.take i) parts) := by
  unfold growM
  rw [List.take_succ, h, List.foldl_append]; rfl
section
variable {P : Program} {w : World} {K : PySem.W.Frag} {mg : Str → Option Value} {base : Heap}
theorem scPlaces : FnScope ["rows", "last", "found", "prime", "many", "parts", "exponent", "grown", "length", "places", "turn", "share", "whole"] ["rows", "last"] (defScope sPlaces) := ⟨rfl, rfl, rfl, by decide +kernel, rfl, by decide +kernel, by decide +kernel⟩
theorem ok_places {f : Addr} {fd : FuncData} (F : Fun K "places_by_length" "places_by_length" sPlaces f fd) (B : Bt4 mg) (hl : mg "lcm" = some (.builtin "math.lcm")) (U : Cal P w K mg base 1 "units" spUnits []) (Fa : Cal P w K mg base 1 "factors" spFactors []) (Or_ : Cal P w K mg base 2 "order" spOrder []) : FnOk P w K mg base CX0 3 f fd ["rows", "last"] spPlaces := by
  refine F.ok scPlaces (fun vs H Q E h => ?_) (fun cdv A outer s H vs Q E hr h => ?_)
  · obtain ⟨r, c, rfl, _⟩ := h
    rfl
  · obtain ⟨r, L, rfl, hrl, L1, L2, hc, q⟩ := h
    refine ⟨_, pss_cons (ps_set (i := 2) scPlaces.nd rfl (Or.inl rfl) (pe_disp (pps_cons pe_int pe_int pps_nil) (by rfl) (by rfl) (fun z => by cases z) (by decide)))
      (pss_cons (ps_for PassesOwn.never rfl (pi_list (pe_c Fa hr (by decide) rfl (pa_cons (pv 1) pa_nil))) (pg_tup rfl (pgs_cons (pg_name (i := 3) scPlaces.nd rfl (Or.inl rfl)) (pgs_cons (pg_name (i := 4) scPlaces.nd rfl (Or.inl rfl)) pgs_nil)))
        (pss_cons (ps_set (i := 5) scPlaces.nd rfl (Or.inl rfl) (pe_lstS (pa_cons (pe_tupS (pa_cons pe_int (pa_cons pe_int pa_nil))) pa_nil)))
        (pss_cons (ps_for PassesOwn.never rfl (pi_range2 rfl B.rng_ (pa_cons pe_int (pa_cons (pe_op op_add (pv 4) pe_int) pa_nil))) (pg_name (i := 6) scPlaces.nd rfl (Or.inl rfl))
          (pss_one (ps_expr (pe_bm PySem.F.plainAttrs_list PySem.F.slot_list_append PySem.F.type_list_append mt_append (pv 5) (pa_cons (pe_tupS (pa_cons (pe_c Or_ hr (by decide) rfl (pa_cons (pv 0) (pa_cons (pv 3) (pa_cons (pv 6) pa_nil)))) (pa_cons (pe_c U hr (by decide) rfl (pa_cons (pv 3) (pa_cons (pv 6) pa_nil))) pa_nil))) pa_nil)))))
        (pss_cons (ps_set (i := 7) scPlaces.nd rfl (Or.inl rfl) pe_dnewK)
        (pss_cons (ps_lock (ps_for PassesOwn.never rfl (pi_items (pv 2)) (pg_tup rfl (pgs_cons (pg_name (i := 8) scPlaces.nd rfl (Or.inl rfl)) (pgs_cons (pg_name (i := 9) scPlaces.nd rfl (Or.inl rfl)) pgs_nil)))
          (pss_one (ps_for PassesOwn.never rfl (pi_list (pv 5)) (pg_tup rfl (pgs_cons (pg_name (i := 10) scPlaces.nd rfl (Or.inl rfl)) (pgs_cons (pg_name (i := 11) scPlaces.nd rfl (Or.inl rfl)) pgs_nil)))
            (pss_cons (ps_set (i := 12) scPlaces.nd rfl (Or.inl rfl) (pe_callBfun cr_lcm (by rfl) hl (pa_cons (pv 8) (pa_cons (pv 10) pa_nil))))
            (pss_one (ps_dput (hu_of hr) (pv 7) (pv 12) (pe_op op_add (pe_dget2 (hu_of hr) (pv 7) (pv 12) pe_int ⟨rfl, rfl, rfl, rfl⟩) (pe_op op_mul (pv 9) (pv 11))) rfl)))))))
        (pss_one (ps_set (i := 2) scPlaces.nd rfl (Or.inl rfl) (pv 7))))))))
      (pss_one (ps_ret (pv 2)))), ?_⟩
    refine seq_asg (te_mid (fun x H0 => ∃ D0, x = V.ref D0 ∧ H D0 = none ∧ Same H H0 ∧ H0 D0 = some (.dK (kvsOf [(1, 1)]))) (fun R k D0 n0 => ⟨upd_same, [(kI 1, cI 1)], rfl, by decide, k _ _ ⟨D0, rfl, n0, fun b o hb => ?_, upd_same⟩⟩) ?_)
    · rw [upd_ne (ne_of_none hb n0), upd_ne (ne_of_none hb n0)]
      exact hb
    rintro x H0 ⟨D0, rfl, n0, S0, hD0⟩
    refine ⟨_, rfl, L, rfl, L1, L2, fun H1 a S1 pr => ?_⟩
    obtain ⟨g, hpd⟩ := facM_ok L1
    obtain ⟨ts, t1, t2, t3⟩ := pr
    refine ⟨a, rfl, ⟨_, SqL.of t1⟩, for_it (walk_list (xs := ts.map V.ref)) (fun i σ' H' => (∃ D u3 u4 u5 u6 u7 u8 u9 u10 u11 u12, σ' = [some (cI r), some (cI L), some (.ref D), u3, u4, u5, u6, u7, u8, u9, u10, u11, u12] ∧ H D = none ∧ H' D = some (.dK (kvsOf (placesM r ((facM L).take i))))) ∧ Same H1 H') ⟨⟨D0, none, none, none, none, none, none, none, none, none, none, rfl, n0, S1 _ _ hD0⟩, Same.refl _⟩ (fun i σ' H' _ z => SqL.of (z.2 _ _ t1)) ?_ ?_⟩
    · rintro i x σ' H9 H2 hi ⟨⟨D, u3, u4, u5, u6, u7, u8, u9, u10, u11, u12, rfl, nD, hD⟩, S2⟩ ⟨rfl, hx⟩
      rw [List.length_map] at hi
      have hi2 : i < (facM L).length := by omega
      rw [List.getElem?_map, List.getElem?_eq_getElem hi] at hx
      obtain rfl := Option.some.inj hx
      have ey := List.getElem?_eq_getElem hi2
      have ht := S2 _ _ (t3 i _ _ (List.getElem?_eq_getElem hi) ey)
      have gy := g _ (List.getElem_mem hi2)
      obtain ⟨yl, ye, yp⟩ := exp_lt g (Nat.le_of_eq hpd) L2 (List.getElem_mem hi2)
      obtain ⟨kb, kl, k1⟩ := places_ok g (r := r) i
      have pt := prodF_take_le g (i + 1)
      rw [prodF_take_succ ey, hpd] at pt
      have ct := cntF_take_le (facM L) (i + 1)
      rw [cntF_take_succ ey] at ct
      rw [placesM_take ey]
      generalize placesM r ((facM L).take i) = fd0 at hD kb kl k1
      generalize prodF ((facM L).take i) = B0 at kb pt
      generalize cntF ((facM L).take i) = c0 at kl ct
      generalize (facM L)[i] = y at ht gy yl ye yp pt ct
      obtain ⟨pl1, pl2⟩ := parts_ok (r := r) gy.1 gy.2
      refine ⟨_, _, rfl, SqT.of ht, rfl, _, _, rfl, _, _, rfl, rfl, ?_⟩
      refine ⟨(by show 2 ≤ sizeLine; decide), fun t0 H3 S3 n3 h3 => ⟨(by show 1 ≤ sizeLine; decide), fun b H4 S4 n4 h4 => ?_⟩⟩
      have nb2 : H2 b = none := S3.free n4
      have pr0 : PrsAt H4 b (partsM r y.1 0) := ⟨[t0], h4, rfl, fun j t z e1 e2 => by
        match j, e1, e2 with
        | 0, e1, e2 =>
          obtain rfl := Option.some.inj e1
          obtain rfl := Option.some.inj e2
          exact S4 _ _ h3⟩
      refine ⟨_, rfl, _, _, rfl, rfl, _, _, rfl, ⟨by decide, by decide, by omega, by omega⟩, ?_⟩
      have ne : ((((y.2 : Nat) : Int) + 1) - 1).toNat = y.2 := by omega
      rw [ne]
      refine for_it (walk_range (n := y.2)) (fun j σ' H' => (∃ u6, σ' = [some (cI r), some (cI L), some (.ref D), some (cI y.1), some (cI y.2), some (.ref b), u6, u7, u8, u9, u10, u11, u12]) ∧ SameB b H4 H' ∧ PrsAt H' b (partsM r y.1 j)) ⟨⟨u6, rfl⟩, SameB.refl _ _, pr0⟩ (fun _ _ _ _ _ => trivial) ?_ ?_
      · rintro j x σ' H5 H6 hj ⟨⟨u6, rfl⟩, S5, pr5⟩ ⟨rfl, hx⟩
        obtain rfl : x = cI (j + 1) := hx.trans (by show V.int (1 + ((j : Nat) : Int)) = _; exact congrArg V.int (by omega))
        obtain ⟨us, w1, w2, w3⟩ := pr5
        refine ⟨_, rfl, .inl ⟨rfl, _, SqL.of w1⟩, _, rfl, _, rfl, _, rfl, r, y.1, j + 1, rfl, hrl, gy.1, by omega, ?_, fun H7 S7 => ?_⟩
        · exact Nat.lt_of_le_of_lt (Nat.pow_le_pow_right (by omega) (by omega)) yp
        · refine ⟨_, rfl, _, rfl, y.1, j + 1, rfl, gy.1, yl, by omega, by omega, (by show 2 ≤ sizeLine; decide), fun t H8 S8 n8 h8 => ?_⟩
          have S78 := S7.trans S8
          have w1' := S78 _ _ w1
          refine ⟨b, _, _, rfl, rfl, w1', by rw [List.length_map, w2, (parts_ok' r y.1 j), sizeLine_eq]; omega, ⟨_, rfl⟩, ?_, ?_⟩
          · exact (S5.to S78).upd
          · rw [partsM_succ]
            exact .snoc w1' w2 (fun i u z e1 e2 => S78 _ _ (w3 i u z e1 e2)) h8
      · rintro σ' H5 ⟨⟨u6, rfl⟩, S5, pr5⟩
        have S25 : Same H2 H5 := S5.toSame (S3.trans S4) nb2
        refine fun G nG => ?_
        have hD5 := S25 _ _ hD
        have gD : D ≠ G := ne_of_none hD5 nG
        have hD6 : (upd H5 G (.dK [])) D = some (.dK (kvsOf fd0)) := by rw [upd_ne gD]; exact hD5
        refine ⟨D, _, hD6, trivial, fun od => ?_⟩
        have keep5 : ∀ H' : Hp, SameB G (upd (upd H5 G (.dK [])) D (.frz od (.dK (kvsOf fd0)))) H' → ∀ c o, H5 c = some o → c ≠ D → H' c = some o := by
          intro H' S c o hc hcd
          refine S c o (ne_of_none hc nG) ?_
          rw [upd_ne hcd, upd_ne (ne_of_none hc nG)]
          exact hc
        have keepP : ∀ H' : Hp, SameB G (upd (upd H5 G (.dK [])) D (.frz od (.dK (kvsOf fd0)))) H' → PrsAt H' b (partsM r y.1 y.2) := fun H' S => pr5.keep fun c o hc ho => keep5 H' S c o hc fun z => by
          rw [z, hD5] at hc
          exact ho _ (Option.some.inj hc).symm
        refine ⟨_, rfl, D, od, _, rfl, upd_same, for_it walk_items (fun i2 σ' H' => (∃ u6 u8 u9 u10 u11 u12, σ' = [some (cI r), some (cI L), some (.ref D), some (cI y.1), some (cI y.2), some (.ref b), u6, some (.ref G), u8, u9, u10, u11, u12]) ∧ SameB G (upd (upd H5 G (.dK [])) D (.frz od (.dK (kvsOf fd0)))) H' ∧ H' G = some (.dK (kvsOf (growM (fd0.take i2) (partsM r y.1 y.2))))) ⟨⟨u6, u8, u9, u10, u11, u12, rfl⟩, SameB.refl _ _, ?_⟩ (fun i2 σ' H' _ z => z.2.1 _ _ gD upd_same) ?_ ?_⟩
        · rw [upd_ne (Ne.symm gD), upd_same]; rfl
        · rintro i2 x σ' H6 H7 hi6 ⟨⟨u6, u8, u9, u10, u11, u12, rfl⟩, S6, hG⟩ ⟨T, xa, xb, rfl, nT, rfl, ea, eb⟩
          rw [kvs_len] at hi6
          have ez := List.getElem?_eq_getElem hi6
          dsimp only at ea eb
          rw [kvs_at ez] at ea eb
          obtain rfl := Option.some.inj ea
          obtain rfl := Option.some.inj eb
          have gt : G ≠ T := ne_of_none hG nT
          obtain ⟨f1, f2, _⟩ := growF_ok (B := B0 * y.1 ^ y.2) (partsM r y.1 y.2) (fd0.take i2) [] (fun j hj => by cases hj) (fun z hz => key_lcm kb gy.1 gy.2 z (List.mem_of_mem_take hz))
          have f1 : KeysB (growM (fd0.take i2) (partsM r y.1 y.2)) (B0 * y.1 ^ y.2) := f1
          have f2' : (growM (fd0.take i2) (partsM r y.1 y.2)).length ≤ i2 * (y.2 + 1) := by
            refine Nat.le_trans f2 ?_
            rw [pl1, List.length_take]
            simp only [List.length_nil, Nat.zero_add]
            exact Nat.mul_le_mul_right _ (by omega)
          have hk2 := key_lcm kb gy.1 gy.2 (r := r) _ (List.getElem_mem hi6)
          have kz := kb (fd0[i2]).1 (List.mem_map.mpr ⟨_, List.getElem_mem hi6, rfl⟩)
          have b0l : B0 ≤ B0 * y.1 ^ y.2 := Nat.le_mul_of_pos_right _ (Nat.pow_pos (by omega))
          have cz : i2 * (y.2 + 1) + (y.2 + 1) < sizeLine := by
            have h1 : (i2 + 1) * (y.2 + 1) ≤ c0 * (y.2 + 1) := Nat.mul_le_mul_right _ (by omega)
            rw [Nat.add_mul, Nat.one_mul] at h1
            omega
          rw [growM_take ez]
          generalize growM (fd0.take i2) (partsM r y.1 y.2) = g0 at hG f1 f2'
          generalize fd0[i2] = z at hk2 kz
          refine ⟨T, _, rfl, SqT.of upd_same, rfl, _, _, rfl, _, _, rfl, rfl, ?_⟩
          have S7 : SameB G (upd (upd H5 G (.dK [])) D (.frz od (.dK (kvsOf fd0)))) (upd H6 T (.tup [kV (kI z.1), cI z.2])) := S6.to (Same.upd nT)
          obtain ⟨us, w1, w2, w3⟩ := keepP _ S7
          refine ⟨_, rfl, b, rfl, ⟨_, SqL.of w1⟩, for_it (walk_list (xs := us.map V.ref)) (fun j σ' H' => (∃ u10 u11 u12, σ' = [some (cI r), some (cI L), some (.ref D), some (cI y.1), some (cI y.2), some (.ref b), u6, some (.ref G), some (cI z.1), some (cI z.2), u10, u11, u12]) ∧ SameB G (upd (upd H5 G (.dK [])) D (.frz od (.dK (kvsOf fd0)))) H' ∧ SameB G (upd H6 T (.tup [kV (kI z.1), cI z.2])) H' ∧ H' G = some (.dK (kvsOf (grow1 z.1 z.2 ((partsM r y.1 y.2).take j) g0)))) ⟨⟨u10, u11, u12, rfl⟩, S7, SameB.refl _ _, ?_⟩ (fun j σ' H' _ zz => SqL.of (zz.2.2.1 _ _ (ne_of_2 w1 hG gt) w1)) ?_ ?_⟩
          · rw [upd_ne gt]; exact hG
          · rintro j x σ' H8 H7 hj ⟨⟨u10, u11, u12, rfl⟩, S8, S8b, hG8⟩ ⟨rfl, hx⟩
            rw [List.length_map] at hj
            have hj2 : j < (partsM r y.1 y.2).length := by omega
            rw [List.getElem?_map, List.getElem?_eq_getElem hj] at hx
            obtain rfl := Option.some.inj hx
            have ev := List.getElem?_eq_getElem hj2
            have hv := w3 j _ _ (List.getElem?_eq_getElem hj) ev
            have hv8 := S8b _ _ (ne_of_2 hv hG gt) hv
            obtain ⟨v1, v2, v3⟩ := pl2 _ (List.getElem_mem hj2)
            obtain ⟨m1, m2⟩ := hk2 _ (List.getElem_mem hj2)
            obtain ⟨q1, q2, _⟩ := grow1_ok z.1 z.2 ((partsM r y.1 y.2).take j) g0 f1 (fun x hx => hk2 x (List.mem_of_mem_take hx))
            rw [List.length_take] at q2
            rw [grow1_take ev]
            generalize grow1 z.1 z.2 ((partsM r y.1 y.2).take j) g0 = g1 at hG8 q1 q2
            generalize (partsM r y.1 y.2)[j] = v at hv8 v1 v2 v3 m1 m2
            refine ⟨_, _, rfl, SqT.of hv8, rfl, _, _, rfl, _, _, rfl, rfl, ?_⟩
            refine ⟨_, rfl, _, rfl, z.1, v.1, rfl, by omega, by omega, by omega, ?_⟩
            refine ⟨_, rfl, G, rfl, .inl ⟨_, .inl hG8⟩, _, rfl, _, DGet.k (k := kI (Nat.lcm z.1 v.1)) hG8, _, rfl, _, rfl, _, _, rfl, rfl, .inr ⟨by omega, by omega⟩, ?_⟩
            refine ⟨(((getI g1 (Nat.lcm z.1 v.1)).getD 0 : Nat) : Int), _, ?_, rfl, _, rfl, _, rfl, G, _, rfl, DPut.k (k := kI (Nat.lcm z.1 v.1)) hG8 ?_, ?_⟩
            · rw [val_kvs]
              cases getI g1 (Nat.lcm z.1 v.1) <;> rfl
            · rw [kvs_len]; omega
            · have ev2 : V.int ((((getI g1 (Nat.lcm z.1 v.1)).getD 0 : Nat) : Int) + ((z.2 : Nat) : Int) * ((v.2 : Nat) : Int)) = cI ((getI g1 (Nat.lcm z.1 v.1)).getD 0 + z.2 * v.2) := by rw [← cI_add, Int.natCast_mul]
              refine ⟨⟨_, _, _, rfl⟩, S8.upd, S8b.upd, ?_⟩
              rw [upd_same]
              dsimp only
              rw [ev2, put_kvs]; rfl
          · rintro σ' H8 ⟨⟨u10, u11, u12, rfl⟩, S8, S8b, hG8⟩
            rw [List.length_map, w2, List.take_length] at hG8
            exact ⟨⟨_, _, _, _, _, _, rfl⟩, S8, hG8⟩
        · rintro σ' H7 ⟨⟨u6, u8, u9, u10, u11, u12, rfl⟩, S7, hG⟩
          rw [kvs_len, List.take_length] at hG
          refine ⟨S7 _ _ gD upd_same, _, rfl, ⟨G, _, _, _, _, _, _, _, _, _, _, rfl, ?_, ?_⟩, ?_⟩
          · exact ((S0.trans S1).trans (S2.trans S25)).free nG
          · rw [upd_ne (Ne.symm gD)]; exact hG
          · refine S2.trans fun c o hc => ?_
            by_cases e : c = D
            · subst e
              rw [hD] at hc
              rw [upd_same]; exact hc
            · rw [upd_ne e]
              exact keep5 H7 S7 c o (S25 _ _ hc) e
    · rintro σ' H2 ⟨⟨D, u3, u4, u5, u6, u7, u8, u9, u10, u11, u12, rfl, nD, hD⟩, S2⟩
      rw [List.length_map, t2, List.take_length] at hD
      exact ⟨_, rfl, q H2 D ((S0.trans S1).trans S2) nD hD⟩
end
end E3

set_option Elab.async false
set_option linter.all false
set_option maxRecDepth 100000
set_option maxHeartbeats 1000000
/-! rings: rings -/
namespace E3
open PySem PySem.Spec PyProof.Rows L2
open C8 (Cal Mak Met InsC pe_c pe_mt pe_mt0 call_isC clsBody)
theorem cast_back : ∀ {l : List Int}, (∀ x ∈ l, 0 ≤ x) → (l.map Int.toNat).map (fun n : Nat => (n : Int)) = l
  | [], _ => rfl
  | x :: l, h => by
    have h1 := cast_back (l := l) fun y hy => h y (List.mem_cons_of_mem _ hy)
    have h2 := h x (List.mem_cons_self ..)
    simp only [List.map_cons, h1, Int.toNat_of_nonneg h2]
theorem sorted_int {l : List Nat} {ns : List Int} (p : ns.Perm (l.map fun n : Nat => (n : Int))) (h : ns.Pairwise (· ≤ ·)) : ns = (sortI l).map fun n : Nat => (n : Int) := by
  have pos : ∀ x ∈ ns, 0 ≤ x := fun x hx => by
    obtain ⟨n, _, e⟩ := List.mem_map.mp (p.mem_iff.mp hx)
    omega
  have e := cast_back pos
  have p2 : (ns.map Int.toNat).Perm l := by
    have := p.map Int.toNat
    rw [List.map_map] at this
    have id_ : (Int.toNat ∘ fun n : Nat => (n : Int)) = id := by funext n; simp
    rw [id_, List.map_id] at this
    exact this
  have h2 : (ns.map Int.toNat).Pairwise (· ≤ ·) := by
    rw [List.pairwise_map]
    refine h.imp_of_mem fun ha hb hab => ?_
    omega
  obtain ⟨q1, q2⟩ := sortI_ok l
  rw [← sorted_eq (p2.trans q1.symm) h2 q2, e]
def spRingsM : Sp := fun vs H Q _ => ∃ r c : Nat, vs = [cI r, cI c] ∧ Tb r c ∧ cntF (facM (r * c - 1)) + 1 < sizeLine ∧ ∀ H' a, Same H H' → H a = none → PrsAt H' a (ringsM r (r * c - 1)) → Q (.ref a) H'
theorem kvs_keys (l : Dt) : (kvsOf l).map (·.1) = ((l.map (·.1)).map fun n : Nat => (n : Int)).map Sum.inl := by
  unfold kvsOf
  rw [List.map_map, List.map_map, List.map_map]; rfl
theorem ringsD_ok {r L : Nat} (hL : L < 2 ^ 40) : KeysB (ringsD r L) (2 ^ 40) ∧ (ringsD r L).length ≤ cntF (facM L) + 1 := by
  unfold ringsD
  by_cases h : 0 < L
  · rw [if_pos h]
    obtain ⟨g, hp⟩ := facM_ok h
    obtain ⟨a, b, c⟩ := places_ok g (r := r) (facM L).length
    rw [List.take_length] at a b c
    rw [hp] at a
    have a' : KeysB (placesM r (facM L)) (2 ^ 40) := fun j hj => ⟨(a j hj).1, by have := (a j hj).2; omega⟩
    exact ⟨a'.put (Nat.le_refl _) (by decide), Nat.le_trans (putI_len _ _ _) (by omega)⟩
  · rw [if_neg h]
    refine ⟨fun j hj => ?_, by have := cntF_pos (facM L); simp⟩
    have : j = 1 := by simpa using hj
    subst this
    decide
section
variable {P : Program} {w : World} {K : PySem.W.Frag} {mg : Str → Option Value} {base : Heap}
theorem scRings : FnScope ["rows", "columns", "last", "places", "length"] ["rows", "columns"] (defScope sRings) := ⟨rfl, rfl, rfl, by decide +kernel, rfl, by decide +kernel, by decide +kernel⟩
theorem ok_rings {f : Addr} {fd : FuncData} (F : Fun K "rings" "rings" sRings f fd) (B5 : Bt5 mg) (Cl : Cal P w K mg base 2 "check_lengths" spChkL []) (Pl : Cal P w K mg base 3 "places_by_length" spPlaces []) : FnOk P w K mg base CX0 4 f fd ["rows", "columns"] spRingsM := by
  refine F.ok scRings (fun vs H Q E h => ?_) (fun cdv A outer s H vs Q E hr h => ?_)
  · obtain ⟨r, c, rfl, _⟩ := h
    rfl
  · obtain ⟨r, c, rfl, hT, hc, q⟩ := h
    refine ⟨_, pss_cons (ps_expr (pe_c Cl hr (by decide) rfl (pa_cons (pv 0) (pa_cons (pv 1) pa_nil))))
      (pss_cons (ps_set (i := 2) scRings.nd rfl (Or.inl rfl) (pe_op op_sub (pe_op op_mul (pv 0) (pv 1)) pe_int))
      (pss_cons (ps_set (i := 3) scRings.nd rfl (Or.inr rfl) (pe_disp (pps_cons pe_int pe_int pps_nil) (by rfl) (by rfl) (fun z => by cases z) (by decide)))
      (pss_cons (ps_if (pt_cmpR op_gt (pv 2) pe_int (nomark _)) (pss_cons (ps_set (i := 3) scRings.nd rfl (Or.inr rfl) (pe_c Pl hr (by decide) rfl (pa_cons (pv 0) (pa_cons (pv 2) pa_nil))))
        (pss_one (ps_dput (hu_of hr) (pv 3) pe_int (pe_op op_add (pe_dget (hu_of hr) (pv 3) pe_int (fun _ _ => rfl)) pe_int) rfl))) pss_nil)
      (pss_one (ps_ret (pe_lc (own := [("length", 4)]) (g := gName 4) (tt := tYes) (te := tTupS (tCons (tVar 4) (tCons (tOp (rI CDivW fun i j => .int (i / j)) (tDGet (tVar 3) (tVar 4)) (tVar 4)) tNil))) rfl scRings.nd (pi_list (pe_callB (cr_sortedD rfl) (by rfl) B5.sorted_ (by decide +kernel) (pa_cons (pv 3) pa_nil)))
        (blkOk_by (own := [("length", 4)]) (N := ["rows", "columns", "last", "places", "length"]) (sc := defScope sRings) (by decide +kernel))
        (fun _ _ _ _ _ => pg_name (i := 4) scRings.nd rfl (Or.inl rfl)) (fun _ _ _ _ _ => pts_nil) (fun _ _ _ _ _ => by exact pe_tupS (pa_cons (pv 4) (pa_cons (pe_op op_fdivW (pe_dget (hu_of hr) (pv 3) (pv 4) (fun _ _ => rfl)) (pv 4)) pa_nil))))))))), ?_⟩
    obtain ⟨r1, c1, r2, c2⟩ := id hT
    obtain ⟨l1, l2⟩ := tb_lt hT
    refine ⟨_, rfl, _, rfl, r, c, rfl, hT, fun H1 S1 => ?_⟩
    have el := cI_last hT
    dsimp only
    refine seq_asg (te_mid (fun x H' => x = cI (r * c - 1) ∧ H1 = H') (fun R k => ⟨_, rfl, _, rfl, _, _, rfl, rfl, .inl ⟨by omega, by omega⟩, _, _, rfl, rfl, k _ _ ⟨el, rfl⟩⟩) ?_)
    rintro x _ ⟨rfl, rfl⟩
    generalize hL : r * c - 1 = L at el q hc
    have hLl : L < 2 ^ 40 := by omega
    refine seq_asg (te_mid (fun x H0 => ∃ D0, x = V.ref D0 ∧ H1 D0 = none ∧ Same H1 H0 ∧ H0 D0 = some (.dK (kvsOf [(1, 1)]))) (fun R k D0 n0 => ⟨upd_same, [(kI 1, cI 1)], rfl, by decide, k _ _ ⟨D0, rfl, n0, fun b o hb => ?_, upd_same⟩⟩) ?_)
    · rw [upd_ne (ne_of_none hb n0), upd_ne (ne_of_none hb n0)]
      exact hb
    rintro x H2 ⟨D0, rfl, n0, S2, hD0⟩
    have S12 := S1.trans S2
    refine ts_mid (fun σ' H' => ∃ D, σ' = [some (cI r), some (cI c), some (cI L), some (.ref D), none] ∧ Same H H' ∧ H' D = some (.dK (kvsOf (ringsD r L)))) (fun N k => ?_) ?_
    · refine ⟨_, rfl, _, _, rfl, rfl, _, rfl, iteD (fun hx => ?_) (fun hx => ?_)⟩
      · have h0 : 0 < L := by omega
        refine ⟨_, rfl, _, rfl, r, L, rfl, by omega, h0, hLl, by omega, fun H3 D S3 nD hD => ?_⟩
        obtain ⟨g, hp⟩ := facM_ok h0
        obtain ⟨a, b, c'⟩ := places_ok g (r := r) (facM L).length
        rw [List.take_length] at a b c'
        obtain ⟨v, hv⟩ := getI_some c'
        refine ⟨_, rfl, D, cI v, rfl, ?_, ((v : Nat) : Int), 1, rfl, rfl, _, rfl, D, _, rfl, DPut.k (k := kI 1) hD (by rw [kvs_len]; omega), ?_⟩
        · have := DGet.k (k := kI 1) hD
          rw [val_kvs, hv] at this
          exact this
        · refine k _ _ ⟨D, rfl, ?_, ?_⟩
          · intro b o hb
            rw [upd_ne (ne_of_none hb (S12.free nD))]
            exact S3 _ _ (S12 _ _ hb)
          · have ev : V.int (((v : Nat) : Int) + 1) = cI (v + 1) := cI_add v 1
            rw [upd_same]
            dsimp only
            rw [ev, put_kvs]
            unfold ringsD bumpM
            rw [if_pos h0, hv]; rfl
      · have h0 : ¬ 0 < L := by omega
        refine k _ _ ⟨D0, rfl, S12, ?_⟩
        rw [hD0]
        unfold ringsD
        rw [if_neg h0]
    · rintro σ' H3 ⟨D, rfl, S3, hD⟩
      obtain ⟨kb, kl⟩ := ringsD_ok (r := r) hLl
      refine ⟨_, rfl, D, _, _, rfl, .inl hD, kvs_keys _, fun ns' p1 p2 b H4 S4 n4 h4 => ?_⟩
      rw [sorted_int p1 p2] at h4
      have sk := sortI_ok ((ringsD r L).map (·.1))
      have hrl : (ringsM r L).length = (sortI ((ringsD r L).map (·.1))).length := by unfold ringsM; rw [List.length_map]
      refine ⟨b, rfl, ⟨_, SqL.of h4⟩, fun Dl nDl => lc_it (walk_list (xs := (List.map (fun n : Nat => (n : Int)) (sortI ((ringsD r L).map (·.1)))).map V.int)) (fun i H' => SameB Dl H4 H' ∧ PrsAt H' Dl ((ringsM r L).take i)) ⟨fun c o nc hc => by rw [upd_ne nc]; exact hc, .nil upd_same⟩ (fun i H' _ z => SqL.of (z.1 _ _ (ne_of_none h4 nDl) h4)) ?_ ?_⟩
      · rintro i x H5 H6 hi ⟨S5, pr⟩ ⟨rfl, hx⟩
        rw [List.length_map, List.length_map] at hi
        rw [List.getElem?_map, List.getElem?_map, List.getElem?_eq_getElem hi] at hx
        obtain rfl := Option.some.inj hx
        have hm : (sortI ((ringsD r L).map (·.1)))[i] ∈ (ringsD r L).map (·.1) := sk.1.mem_iff.mp (List.getElem_mem hi)
        have hri : (ringsM r L)[i]? = some ((sortI ((ringsD r L).map (·.1)))[i], ((getI (ringsD r L) ((sortI ((ringsD r L).map (·.1)))[i])).getD 0) / (sortI ((ringsD r L).map (·.1)))[i]) := by
          unfold ringsM
          rw [List.getElem?_map, List.getElem?_eq_getElem hi]; rfl
        generalize (sortI ((ringsD r L).map (·.1)))[i] = n at hm hri
        obtain ⟨n1, n2⟩ := kb n hm
        obtain ⟨v, hv⟩ := getI_some hm
        rw [hv] at hri
        have hD5 : H6 D = some (.dK (kvsOf (ringsD r L))) := S5 _ _ (ne_of_none (S4 _ _ hD) nDl) (S4 _ _ hD)
        obtain ⟨ts, t1, t2, t3⟩ := pr
        refine ⟨rfl, iteT (B := False) ⟨_, rfl, _, rfl, _, rfl, D, cI v, rfl, ?_, _, rfl, _, _, rfl, rfl, ⟨by show (0 : Int) < ((n : Nat) : Int); omega, ?_⟩, (by show 2 ≤ sizeLine; decide), fun t H7 S7 n7 h7 => ?_⟩⟩
        · have := DGet.k (k := kI n) hD5
          rw [val_kvs, hv] at this
          exact this
        · have := PySem.Flt.log2_lt_of (k := 41) (n := ((n : Nat) : Int).natAbs) (by decide) (by rw [Int.natAbs_natCast]; omega)
          show ((n : Nat) : Int).natAbs.log2 < 9000
          omega
        · have t1' := S7 _ _ t1
          refine ⟨_, t1', ?_, ?_, ?_⟩
          · rw [List.length_map, t2, List.length_take]
            have := sk.1.length_eq
            rw [List.length_map] at this
            omega
          · exact (S5.to S7).upd
          · rw [List.take_succ, hri]
            refine .snoc t1' t2 (fun i u z e1 e2 => S7 _ _ (t3 i u z e1 e2)) ?_
            rw [h7]
            exact congrArg (fun z => some (HO.tup [cI n, z])) (cI_div v n)
      · rintro H5 ⟨S5, pr⟩
        rw [List.length_map, List.length_map, ← hrl, List.take_length] at pr
        exact q H5 Dl (S5.toSame (S3.trans S4) ((S3.trans S4).free nDl)) ((S3.trans S4).free nDl) pr
end
end E3

set_option Elab.async false
set_option linter.all false
set_option maxRecDepth 100000
set_option maxHeartbeats 1000000
/-! law_k73's law -/
namespace E3
open PySem PySem.Spec PyProof.Rows L2
open C8 (Cal Mak Met InsC pe_c pe_mt pe_mt0 call_isC clsBody)
/-- what is passed to turned, ring_length, rings here -/
def In3 (r c p : Int) : Prop := 1 ≤ r ∧ r ≤ 100 ∧ 1 ≤ c ∧ c ≤ 100 ∧ 0 ≤ p ∧ p < r * c
def spTurned (F : Int → Int → Int → Int → Int) : Sp := fun vs H Q _ => ∃ r c p t : Int, vs = [.int r, .int c, .int p, .int t] ∧ In3 r c p ∧ 0 ≤ t ∧ t < 10 ^ 20 ∧ ∀ H', Same H H' → Q (.int (F r c p t)) H'
def spRing (F : Int → Int → Int → Int) : Sp := fun vs H Q _ => ∃ r c p : Int, vs = [.int r, .int c, .int p] ∧ In3 r c p ∧ ∀ H', Same H H' → Q (.int (F r c p)) H'
def spRings (K : PySem.W.Frag) (F : Int → Int → PyData) : Sp := fun vs H Q _ => ∃ r c : Int, vs = [.int r, .int c] ∧ 1 ≤ r ∧ r ≤ 100 ∧ 1 ≤ c ∧ c ≤ 100 ∧ SeqAt.shaped (F r c) = true ∧ ∀ H' v, Same H H' → Dp K H' v (F r c) → Q v H'
/-- keywords in another order -/
def kv4 : List V → List V → List V := fun vs zs => match vs, zs with
  | [], [t, p, c, r] => [r, c, p, t]
  | _, _ => []
def kv3d : List V → List V → List V := fun vs zs => match vs, zs with
  | [], [p, c, r] => [r, c, p, .int 1]
  | _, _ => []
def kv3 : List V → List V → List V := fun vs zs => match vs, zs with
  | [], [p, c, r] => [r, c, p]
  | _, _ => []
def kv2 : List V → List V → List V := fun vs zs => match vs, zs with
  | [], [c, r] => [r, c]
  | _, _ => []
def spLaw (K : PySem.W.Frag) : Sp := fun vs H Q _ => ∃ (sc : Addr) (ns : List Int), vs = [.ref sc] ∧ SqL K H sc (ns.map V.int) ∧ ns.length ≤ 63 ∧ ∀ H', Q (.bl true) H'
theorem sqT_same {K : PySem.W.Frag} {H H' : Hp} {a : Addr} {xs : List V} (h : SqT K H a xs) (S : Same H H') : SqT K H' a xs := by
  rcases h with (h | ⟨o, h⟩) | h
  · exact .inl (.inl (S _ _ h))
  · exact .inl (.inr ⟨o, S _ _ h⟩)
  · exact .inr h
mutual
theorem dp_same {K : PySem.W.Frag} {H H' : Hp} (S : Same H H') : ∀ {v : V} {d : PyData}, Dp K H v d → Dp K H' v d
  | _, _, .non => .non
  | _, _, .bl b => .bl b
  | _, _, .int i => .int i
  | _, _, .str x => .str x
  | _, _, .lst h a => .lst (h.same S) (dpAll_same S a)
  | _, _, .tup h a => .tup (sqT_same h S) (dpAll_same S a)
theorem dpAll_same {K : PySem.W.Frag} {H H' : Hp} (S : Same H H') : ∀ {vs : List V} {ds : List PyData}, DpAll K H vs ds → DpAll K H' vs ds
  | _, _, .nil => .nil
  | _, _, .cons a r => .cons (dp_same S a) (dpAll_same S r)
end
section
variable {P : Program} {w : World} {K : PySem.W.Frag} {mg : Str → Option Value} {base : Heap}
theorem scLaw : FnScope ["_law_script", "_law_cell", "_law_purse_here", "_law_high", "_law_wide", "_law_spot", "_law_many"] ["_law_script"] (defScope sLaw) := ⟨rfl, rfl, rfl, by decide +kernel, rfl, by decide +kernel, by decide +kernel⟩
theorem ok_law {f : Addr} {fd : FuncData} {F4 : Int → Int → Int → Int → Int} {F3 : Int → Int → Int → Int} {F2 : Int → Int → PyData} (F : Fun K "law" "law" sLaw f fd) (B : Bt4 mg) (k : Nat) (hk : 2 ≤ k) (Pu : Cal P w K mg base 1 "_law_purse" (spPurse K) []) (D : Cal P w K mg base 2 "_law_draw" spDraw [])
    (T : Cal P w K mg base k "turned" (spTurned F4) []) (T4 : CalK P w K mg base k "turned" (spTurned F4) ["times", "place", "columns", "rows"] kv4) (T3 : CalK P w K mg base k "turned" (spTurned F4) ["place", "columns", "rows"] kv3d)
    (R : Cal P w K mg base k "ring_length" (spRing F3) []) (R3 : CalK P w K mg base k "ring_length" (spRing F3) ["place", "columns", "rows"] kv3)
    (G : Cal P w K mg base k "rings" (spRings K F2) []) (G2 : CalK P w K mg base k "rings" (spRings K F2) ["columns", "rows"] kv2) (hsh : ∀ r c, SeqAt.shaped (F2 r c) = true) (hcl : ∀ r c, PyData.canLay0 (F2 r c) = true) : FnOk P w K mg base CX0 (k + 1) f fd ["_law_script"] (spLaw K) := by
  refine F.ok scLaw (fun vs H Q E h => ?_) (fun cdv A outer s H vs Q E hr h => ?_)
  · obtain ⟨sc, ns, rfl, _⟩ := h
    rfl
  · obtain ⟨sc, ns, rfl, hs, hl, q⟩ := h
    refine ⟨_, pss_cons (ps_for PassesOwn.never rfl (pi_range1 rfl B.rng_ (pa_cons (pe_callB (call_max2 rfl) (by rfl) B.max_ (by decide +kernel) (pa_cons pe_int (pa_cons (pe_callB call_len_seq (by rfl) B.len_ PySem.boot_len (pa_cons (pe_slice sl_listS (pv 0) po_none (po_some pe_int)) pa_nil)) pa_nil))) pa_nil)) (pg_name (i := 1) scLaw.nd rfl (Or.inl rfl))
        (pss_cons (ps_set (i := 2) scLaw.nd rfl (Or.inl rfl) (pe_c Pu hr (by omega) rfl (pa_cons (pv 0) (pa_cons (pv 1) pa_nil))))
        (pss_cons (ps_par (i := 3) (j := 4) (by rfl) scLaw.nd rfl rfl (by decide) rfl rfl (pa_cons (pe_op op_add pe_int (pe_c D hr (by omega) rfl (pa_cons (pv 2) (pa_cons pe_int pa_nil)))) (pa_cons (pe_op op_add pe_int (pe_c D hr (by omega) rfl (pa_cons (pv 2) (pa_cons pe_int pa_nil)))) pa_nil)) (by rfl))
        (pss_cons (ps_par (i := 5) (j := 6) (by rfl) scLaw.nd rfl rfl (by decide) rfl rfl (pa_cons (pe_c D hr (by omega) rfl (pa_cons (pv 2) (pa_cons (pe_op op_mul (pv 3) (pv 4)) pa_nil))) (pa_cons (pe_c D hr (by omega) rfl (pa_cons (pv 2) (pa_cons (pe_op op_pow pe_int pe_int) pa_nil))) pa_nil)) (by rfl))
        (pss_cons (ps_if (pt_cmpR op_ne (pe_cK T4 hr (Nat.le_refl _) rfl (pk_cons (pv 6) (pk_cons (pv 5) (pk_cons (pv 4) (pk_cons (pv 3) pk_nil))))) (pe_c T hr (Nat.le_refl _) rfl (pa_cons (pv 3) (pa_cons (pv 4) (pa_cons (pv 5) (pa_cons (pv 6) pa_nil))))) (nomark _)) (pss_one (ps_ret pe_bl)) pss_nil)
        (pss_cons (ps_if (pt_cmpR op_ne (pe_cK T3 hr (Nat.le_refl _) rfl (pk_cons (pv 5) (pk_cons (pv 4) (pk_cons (pv 3) pk_nil)))) (pe_c T hr (Nat.le_refl _) rfl (pa_cons (pv 3) (pa_cons (pv 4) (pa_cons (pv 5) (pa_cons pe_int pa_nil))))) (nomark _)) (pss_one (ps_ret pe_bl)) pss_nil)
        (pss_cons (ps_if (pt_cmpR op_ne (pe_cK R3 hr (Nat.le_refl _) rfl (pk_cons (pv 5) (pk_cons (pv 4) (pk_cons (pv 3) pk_nil)))) (pe_c R hr (Nat.le_refl _) rfl (pa_cons (pv 3) (pa_cons (pv 4) (pa_cons (pv 5) pa_nil)))) (nomark _)) (pss_one (ps_ret pe_bl)) pss_nil)
        (pss_one (ps_if (pt_cmpR (op_neD hr.units) (pe_cK G2 hr (Nat.le_refl _) rfl (pk_cons (pv 4) (pk_cons (pv 3) pk_nil))) (pe_c G hr (Nat.le_refl _) rfl (pa_cons (pv 3) (pa_cons (pv 4) pa_nil))) (nomark _)) (pss_one (ps_ret pe_bl)) pss_nil)))))))))
      (pss_one (ps_ret pe_bl)), ?_⟩
    have lcut : (cutV (ns.map V.int) none (some 16)).length ≤ 63 := by
      unfold cutV
      refine Nat.le_trans (List.length_take_le' _ _) ?_
      rw [List.length_drop, List.length_map]
      omega
    refine ⟨_, rfl, 16, rfl, sc, _, rfl, hs, fun pc H1 S1 n1 h1 => ?_⟩
    refine ⟨pc, _, rfl, .inl (SqL.of h1), 1, _, rfl, _, rfl, ?_⟩
    generalize hm : (if (((cutV (ns.map V.int) none (some 16)).length : Nat) : Int) > 1 then (((cutV (ns.map V.int) none (some 16)).length : Nat) : Int) else 1) = m
    have m0 : 0 ≤ m ∧ m ≤ 63 := by
      rw [← hm]
      split <;> omega
    refine ⟨by omega, by omega, for_it (walk_range (n := m.toNat)) (fun i σ' H' => (∃ u1 u2 u3 u4 u5 u6, σ' = [some (.ref sc), u1, u2, u3, u4, u5, u6]) ∧ Same H H') ⟨⟨none, none, none, none, none, none, rfl⟩, S1⟩ (fun _ _ _ _ _ => trivial) ?_ ?_⟩
    · rintro i x σ' H2 H3 hi ⟨⟨u1, u2, u3, u4, u5, u6, rfl⟩, S2⟩ ⟨rfl, rfl⟩
      refine seq_asg ⟨_, rfl, _, rfl, sc, _, ns, rfl, hs.same S2, by omega, by omega, fun H4 p S4 np hp => ?_⟩
      have SB : ∀ {Ha Hb : Hp}, Same H Ha → SameB p Ha Hb → Same H Hb := fun {Ha Hb} Sa Sb b o e => Sb b o (fun z => by rw [z] at e; rw [S2 _ _ e] at np; cases np) (Sa b o e)
      have S24 := S2.trans S4
      refine ⟨_, rfl, p, 100, 2 ^ 40 + 12, rfl, hp.less (by decide), by decide, by decide, fun r H5 r0 r1 hp5 S5 => ⟨_, _, rfl, rfl, _, rfl, p, 100, 2 ^ 40 + 8, rfl, hp5.less (by decide), by decide, by decide, fun c H6 c0 c1 hp6 S6 => ⟨_, _, rfl, rfl, _, _, rfl, ?_⟩⟩⟩
      have S6' := SB (SB S24 S5) S6
      have hr1 : 1 ≤ 1 + r ∧ 1 + r ≤ 100 := by omega
      have hc1 : 1 ≤ 1 + c ∧ 1 + c ≤ 100 := by omega
      have pos : 1 ≤ (1 + r) * (1 + c) := Int.le_trans (show (1 : Int) ≤ 1 * 1 by decide) (Int.mul_le_mul hr1.1 hc1.1 (by decide) (by omega))
      have big : (1 + r) * (1 + c) ≤ 100 * 100 := Int.mul_le_mul hr1.2 hc1.2 (by omega) (by decide)
      have pw : CPow 10 20 := ⟨by decide, by decide, by decide⟩
      refine ⟨_, rfl, _, rfl, _, rfl, _, _, rfl, rfl, .inl ⟨by omega, by omega⟩, p, (1 + r) * (1 + c), 2 ^ 40 + 4, rfl, hp6.less (by decide), pos, by omega, fun t H7 t0 t1 hp7 S7 => ⟨_, rfl, 10, 20, rfl, rfl, pw, p, _, 2 ^ 40, rfl, hp7.less (by decide), by decide +kernel, by decide +kernel, fun y H8 y0 y1 hp8 S8 => ⟨_, _, rfl, ?_⟩⟩⟩
      have S8' := SB (SB S6' S7) S8
      have y2 : y < 10 ^ 20 := y1
      have i3 : In3 (1 + r) (1 + c) t := ⟨hr1.1, hr1.2, hc1.1, hc1.2, t0, t1⟩
      refine ⟨_, rfl, _, rfl, _, rfl, _, rfl, (1 + r), (1 + c), t, y, rfl, i3, y0, y2, fun H9 S9 => ⟨_, rfl, _, rfl, _, rfl, _, rfl, (1 + r), (1 + c), t, y, rfl, i3, y0, y2, fun H10 S10 => ⟨rfl, _, rfl, ifF (by rw [decide_eq_true rfl]; rfl) ?_⟩⟩⟩
      dsimp only [tNext]
      refine ⟨_, rfl, _, rfl, _, rfl, (1 + r), (1 + c), t, 1, rfl, i3, by decide, by decide, fun H11 S11 => ⟨_, rfl, _, rfl, _, rfl, (1 + r), (1 + c), t, 1, rfl, i3, by decide, by decide, fun H12 S12 => ⟨rfl, _, rfl, ifF (by rw [decide_eq_true rfl]; rfl) ?_⟩⟩⟩
      dsimp only [tNext]
      refine ⟨_, rfl, _, rfl, _, rfl, (1 + r), (1 + c), t, rfl, i3, fun H13 S13 => ⟨_, rfl, _, rfl, _, rfl, (1 + r), (1 + c), t, rfl, i3, fun H14 S14 => ⟨rfl, _, rfl, ifF (by rw [decide_eq_true rfl]; rfl) ?_⟩⟩⟩
      dsimp only [tNext]
      refine ⟨_, rfl, _, rfl, (1 + r), (1 + c), rfl, hr1.1, hr1.2, hc1.1, hc1.2, hsh _ _, fun H15 v S15 d15 => ⟨_, rfl, _, rfl, (1 + r), (1 + c), rfl, hr1.1, hr1.2, hc1.1, hc1.2, hsh _ _, fun H16 v2 S16 d16 => ?_⟩⟩
      exact ⟨_, _, dp_same S16 d15, d16, hsh _ _, hsh _ _, _, rfl, ifF (by rw [SeqAt.eqv_refl _ (hcl _ _)]; rfl) ⟨⟨_, _, _, _, _, _, rfl⟩, ((((((((S8'.trans S9).trans S10).trans S11).trans S12).trans S13).trans S14).trans S15).trans S16)⟩⟩
    · rintro σ' H2 ⟨⟨u1, u2, u3, u4, u5, u6, rfl⟩, S2⟩
      exact q H2
end
end E3

set_option Elab.async false
set_option linter.all false
set_option maxRecDepth 100000
set_option maxHeartbeats 1000000
/-! A head by facts: one Bool of the law's own, and the defs, with defaults. -/
namespace Hb
open PySem PySem.Spec PyProof.Rows L2 He
abbrev AlC : Type := Bool × List FnW
def obsC (ex : PySem.W.Frag → Bool) (fn : List DefD) (K : PySem.W.Frag) : AlC := (ex K && fn.all fun d => d.ok K, fn.map fun d => fnW K d.at_)
def valC (fn : List DefD) : AlC := (true, fn.map DefD.val)
def SaysC (ex : PySem.W.Frag → Bool) (fn : List DefD) (K : PySem.W.Frag) : Prop := obsC ex fn K = valC fn
def lookC (n : Nat) (ex : PySem.W.Frag → Bool) (fn : List DefD) (g : Addr → Option Obj) : AlC := obsC ex fn (frG g (asD g n))
def hookC (n : Nat) (ex : PySem.W.Frag → Bool) (fn : List DefD) : PySem.W.Hook where
  α := AlC
  obs := fun s => lookC n ex fn s.heap.get?
  val := fun _ => valC fn
  says := fun _ h => ∃ K : PySem.W.Frag, K.In h ∧ SaysC ex fn K
  of := fun _ _ e => ⟨_, frG_in, e⟩
  keeps := fun _ _ _ ⟨K, hK, c⟩ k => ⟨K, PySem.W.Frag.In.keeps hK k, c⟩
theorem lookC_eq {n : Nat} {ex : PySem.W.Frag → Bool} {fn : List DefD} {g : Addr → Option Obj} {s : Shared} (h : ∀ a, g a = s.heap.get? a) : lookC n ex fn g = (hookC n ex fn).obs s := by
  have e : g = s.heap.get? := funext h
  rw [e] <;> rfl
/-- a def of the text, by its statement -/
def dD (at_ : Str × Option Str) (name qual : Str) (st : Stmt) (dfl : List Dv := []) : DefD := { at_ := at_, name := name, qual := qual, params := defArgs st, body := defBody st, scope := defScope st, dfl := dfl }
section
variable {ex : PySem.W.Frag → Bool} {fn : List DefD} {K : PySem.W.Frag}
theorem SaysC.bool (c : SaysC ex fn K) : ex K = true := (ba (show (ex K && fn.all fun d => d.ok K) = true from congrArg (fun z : AlC => z.1) c)).1
theorem SaysC.def_ (c : SaysC ex fn K) (i : Nat) {d : DefD} (h : fn[i]? = some d := by rfl) : ∃ fd, FunD K d.name d.qual d.params d.body d.scope (d.dvs K) (d.kws K) (fAd K d.at_) fd := by
  have c2 := (ba (show (ex K && fn.all fun d => d.ok K) = true from congrArg (fun z : AlC => z.1) c)).2
  have e : fn.map (fun d => fnW K d.at_) = fn.map DefD.val := congrArg (fun z : AlC => z.2) c
  have e2 : (fn.map fun d => fnW K d.at_)[i]? = (fn.map DefD.val)[i]? := by rw [e]
  rw [List.getElem?_map, List.getElem?_map, h] at e2
  exact DefD.funD (Option.some.inj e2) (List.all_eq_true.mp c2 d (List.mem_of_getElem? h))
theorem SaysC.fun_ (c : SaysC ex fn K) (i : Nat) {at_ : Str × Option Str} {name qual : Str} {st : Stmt} (h : fn[i]? = some (dD at_ name qual st) := by rfl) : ∃ fd, L2.Fun K name qual st (fAd K at_) fd :=
  let ⟨fd, F⟩ := c.def_ i h
  ⟨fd, FunD.plain F⟩
end
end Hb

set_option Elab.async false
set_option linter.all false
set_option maxRecDepth 100000
set_option maxHeartbeats 1000000
/-! law_k73: what the functions of rings promise, in the law's words -/
namespace E3
open PySem PySem.Spec PyProof.Rows L2 He Hb
open C8 (Cal Mak Met InsC pe_c pe_mt pe_mt0 call_isC clsBody)
def F4 (r c p t : Int) : Int := ((turnM r.toNat (r.toNat * c.toNat - 1) p.toNat t.toNat : Nat) : Int)
def F3 (r c p : Int) : Int := ((ringM r.toNat (r.toNat * c.toNat - 1) p.toNat : Nat) : Int)
def prD (l : List (Nat × Nat)) : PyData := .list (l.map fun x => .tuple [.int (x.1 : Nat), .int (x.2 : Nat)])
def F2 (r c : Int) : PyData := prD (ringsM r.toNat (r.toNat * c.toNat - 1))
theorem canAll : ∀ l : List (Nat × Nat), PyData.canLayAll0 (l.map fun x => .tuple [.int (x.1 : Nat), .int (x.2 : Nat)]) = true
  | [] => rfl
  | x :: l => by
    show (PyData.canLay0 _ && PyData.canLayAll0 _) = true
    rw [canAll l]; rfl
theorem depAll : ∀ l : List (Nat × Nat), PyData.depthAll (l.map fun x => .tuple [.int (x.1 : Nat), .int (x.2 : Nat)]) ≤ 8
  | [] => by show PyData.depthAll [] ≤ 8; decide
  | x :: l => by
    have h := depAll l
    have e : PyData.depthAll ((x :: l).map fun x => .tuple [.int (x.1 : Nat), .int (x.2 : Nat)]) = max (PyData.depth (.tuple [.int (x.1 : Nat), .int (x.2 : Nat)])) (PyData.depthAll (l.map fun x => .tuple [.int (x.1 : Nat), .int (x.2 : Nat)])) := by first | rfl | simp [PyData.depthAll]
    have e2 : PyData.depth (.tuple [.int (x.1 : Nat), .int (x.2 : Nat)]) ≤ 8 := by simp [PyData.depth, PyData.depthAll]
    omega
theorem sh_prD (l : List (Nat × Nat)) : SeqAt.shaped (prD l) = true ∧ PyData.canLay0 (prD l) = true := by
  have c : PyData.canLay0 (prD l) = true := canAll l
  refine ⟨?_, c⟩
  have d : PyData.depth (prD l) ≤ 64 := by
    have h := depAll l
    have e : PyData.depth (prD l) = PyData.depthAll (l.map fun x => .tuple [.int (x.1 : Nat), .int (x.2 : Nat)]) + 1 := by first | rfl | simp [prD, PyData.depth] | (simp [prD, PyData.depth]; omega)
    omega
  show (PyData.canLay0 _ && decide _) = true
  rw [c, decide_eq_true d]; rfl
theorem dp_prs {K : PySem.W.Frag} {H : Hp} : ∀ {l : List (Nat × Nat)} {ts : List Addr}, ts.length = l.length → (∀ (i : Nat) (t : Addr) (x : Nat × Nat), ts[i]? = some t → l[i]? = some x → H t = some (.tup [cI x.1, cI x.2])) → DpAll K H (ts.map V.ref) (l.map fun x => .tuple [.int (x.1 : Nat), .int (x.2 : Nat)])
  | [], [], _, _ => .nil
  | x :: l, t :: ts, h, g => .cons (.tup (SqT.of (g 0 t x rfl rfl)) (.cons (.int _) (.cons (.int _) .nil))) (dp_prs (by simpa using h) fun i t x e1 e2 => g (i + 1) t x (by simpa using e1) (by simpa using e2))
  | [], _ :: _, h, _ => by simp at h
  | _ :: _, [], h, _ => by simp at h
theorem cnt_le : ∀ {l : List (Nat × Nat)}, Good l → cntF l ≤ prodF l
  | [], _ => Nat.le_refl _
  | x :: l, g => by
    have h1 := cnt_le (l := l) fun y hy => g y (List.mem_cons_of_mem _ hy)
    obtain ⟨a, b⟩ := g x (List.mem_cons_self ..)
    have h2 : x.2 + 1 ≤ x.1 ^ x.2 := Nat.le_trans (Nat.lt_two_pow_self) (Nat.pow_le_pow_left a _)
    exact Nat.mul_le_mul h2 h1
theorem nat_of {i : Int} (h : 0 ≤ i) : ∃ n : Nat, i = ((n : Nat) : Int) := ⟨i.toNat, by omega⟩
theorem to4 {vs : List V} {H : Hp} {Q : VK} {E : XK} (h : spTurned F4 vs H Q E) : spTurnM vs H Q E := by
  obtain ⟨r, c, p, t, rfl, ⟨r1, r2, c1, c2, p0, p1⟩, t0, t1, q⟩ := h
  obtain ⟨r, rfl⟩ := nat_of (by omega : 0 ≤ r)
  obtain ⟨c, rfl⟩ := nat_of (by omega : 0 ≤ c)
  obtain ⟨p, rfl⟩ := nat_of p0
  obtain ⟨t, rfl⟩ := nat_of t0
  rw [← Int.natCast_mul] at p1
  refine ⟨r, c, p, t, rfl, ⟨by omega, by omega, by omega, by omega⟩, by omega, ?_, q⟩
  have h2 : t < 10 ^ 20 := by omega
  exact Nat.lt_trans h2 (by decide)
theorem to3 {vs : List V} {H : Hp} {Q : VK} {E : XK} (h : spRing F3 vs H Q E) : spRingM vs H Q E := by
  obtain ⟨r, c, p, rfl, ⟨r1, r2, c1, c2, p0, p1⟩, q⟩ := h
  obtain ⟨r, rfl⟩ := nat_of (by omega : 0 ≤ r)
  obtain ⟨c, rfl⟩ := nat_of (by omega : 0 ≤ c)
  obtain ⟨p, rfl⟩ := nat_of p0
  rw [← Int.natCast_mul] at p1
  exact ⟨r, c, p, rfl, ⟨by omega, by omega, by omega, by omega⟩, by omega, q⟩
theorem to2 {K : PySem.W.Frag} {vs : List V} {H : Hp} {Q : VK} {E : XK} (h : spRings K F2 vs H Q E) : spRingsM vs H Q E := by
  obtain ⟨r, c, rfl, r1, r2, c1, c2, sh, q⟩ := h
  obtain ⟨r, rfl⟩ := nat_of (by omega : 0 ≤ r)
  obtain ⟨c, rfl⟩ := nat_of (by omega : 0 ≤ c)
  have hrc : r * c ≤ 100 * 100 := Nat.mul_le_mul (by omega) (by omega)
  refine ⟨r, c, rfl, ⟨by omega, by omega, by omega, by omega⟩, ?_, fun H' a S n pr => ?_⟩
  · rw [sizeLine_eq]
    by_cases z : 1 ≤ r * c - 1
    · obtain ⟨g, hp⟩ := facM_ok z
      have := cnt_le g
      omega
    · have e : r * c - 1 = 0 := by omega
      rw [e]
      decide
  · obtain ⟨ts, h1, h2, h3⟩ := pr
    exact q H' _ S (.lst (SqL.of h1) (dp_prs h2 h3))
section
variable {K : PySem.W.Frag} {f : Addr} {fd : FuncData}
def g4 : List Value → List Value → List Value := fun us zs => match us, zs with
  | [], [t, p, c, r] => [r, c, p, t]
  | _, _ => []
def g3d (tk : Tok) : List Value → List Value → List Value := fun us zs => match us, zs with
  | [], [p, c, r] => [r, c, p, .int 1 tk]
  | _, _ => []
def g3 : List Value → List Value → List Value := fun us zs => match us, zs with
  | [], [p, c, r] => [r, c, p]
  | _, _ => []
def g2 : List Value → List Value → List Value := fun us zs => match us, zs with
  | [], [c, r] => [r, c]
  | _, _ => []
theorem one_int {its : List Value} (h : Vals [.int 1] its) : ∃ t, its = [.int 1 t] := by
  cases h with
  | cons r n =>
    cases n
    obtain ⟨t, rfl⟩ := r
    exact ⟨t, rfl⟩
theorem kb4 (F : FunD K "turned" "turned" (defArgs sTurned) (defBody sTurned) (defScope sTurned) [.int 1] [] f fd) : KBinds K fd ["rows", "columns", "place", "times"] ["times", "place", "columns", "rows"] g4 kv4 := by
  obtain ⟨oc, od, dV, kV, doc, pm, an, cdv, ct, osl, rfl, lk, hcd, hD, hK⟩ := F.ex
  rcases hD with ⟨e, _⟩ | ⟨_, T, o, its, m, rfl, lT, oT, rT⟩
  · cases e
  · obtain ⟨tk, rfl⟩ := one_int rT
    refine ⟨fun s us ws X hl => ?_, fun {vs us zs ws} r1 r2 => ?_⟩
    · match us, ws, hl with
      | [], [x0, x1, x2, x3], _ =>
        refine BindsTo.of_looks fun M => ?_
        have e : ∃ k, bindArgs (PySem.W.fnOf "turned" "turned" (defArgs sTurned) (defBody sTurned) (defScope sTurned) (.ref T) kV doc pm an cdv ct) ⟨[], (["times", "place", "columns", "rows"] : List Str).zip [x0, x1, x2, x3]⟩ = seqItems? (.ref T) >>= k ∧ k (some [Value.int 1 tk].toArray) = pure ((["rows", "columns", "place", "times"] : List Str).zip [x3, x2, x1, x0]) := ⟨_, rfl, rfl⟩
        obtain ⟨k, e1, e2⟩ := e
        show PySem.W.Looks M s.heap (bindArgs _ ⟨[], (["times", "place", "columns", "rows"] : List Str).zip [x0, x1, x2, x3]⟩) _
        rw [e1]
        exact looks_items X lT oT (.of_pure e2)
    · cases r1 with
      | cons b1 r1 => exact .nil
      | nil =>
        cases r2 with
        | nil => exact .nil
        | cons a0 r2 =>
          cases r2 with
          | nil => exact .nil
          | cons a1 r2 =>
            cases r2 with
            | nil => exact .nil
            | cons a2 r2 =>
              cases r2 with
              | nil => exact .nil
              | cons a3 r2 =>
                cases r2 with
                | cons b2 r2 => exact .nil
                | nil => exact .cons a3 (.cons a2 (.cons a1 (.cons a0 .nil)))
theorem kb3d (F : FunD K "turned" "turned" (defArgs sTurned) (defBody sTurned) (defScope sTurned) [.int 1] [] f fd) : ∃ tk, KBinds K fd ["rows", "columns", "place", "times"] ["place", "columns", "rows"] (g3d tk) kv3d := by
  obtain ⟨oc, od, dV, kV, doc, pm, an, cdv, ct, osl, rfl, lk, hcd, hD, hK⟩ := F.ex
  rcases hD with ⟨e, _⟩ | ⟨_, T, o, its, m, rfl, lT, oT, rT⟩
  · cases e
  · obtain ⟨tk, rfl⟩ := one_int rT
    refine ⟨tk, ⟨fun s us ws X hl => ?_, fun {vs us zs ws} r1 r2 => ?_⟩⟩
    · match us, ws, hl with
      | [], [x0, x1, x2], _ =>
        refine BindsTo.of_looks fun M => ?_
        have e : ∃ k, bindArgs (PySem.W.fnOf "turned" "turned" (defArgs sTurned) (defBody sTurned) (defScope sTurned) (.ref T) kV doc pm an cdv ct) ⟨[], (["place", "columns", "rows"] : List Str).zip [x0, x1, x2]⟩ = seqItems? (.ref T) >>= k ∧ k (some [Value.int 1 tk].toArray) = pure ((["rows", "columns", "place", "times"] : List Str).zip [x2, x1, x0, Value.int 1 tk]) := ⟨_, rfl, rfl⟩
        obtain ⟨k, e1, e2⟩ := e
        show PySem.W.Looks M s.heap (bindArgs _ ⟨[], (["place", "columns", "rows"] : List Str).zip [x0, x1, x2]⟩) _
        rw [e1]
        exact looks_items X lT oT (.of_pure e2)
    · cases r1 with
      | cons b1 r1 => exact .nil
      | nil =>
        cases r2 with
        | nil => exact .nil
        | cons a0 r2 =>
          cases r2 with
          | nil => exact .nil
          | cons a1 r2 =>
            cases r2 with
            | nil => exact .nil
            | cons a2 r2 =>
              cases r2 with
              | cons b2 r2 => exact .nil
              | nil => exact .cons a2 (.cons a1 (.cons a0 (.cons ⟨_, rfl⟩ .nil)))
theorem kb3 (F : Fun K "ring_length" "ring_length" sRingLen f fd) : KBinds K fd ["rows", "columns", "place"] ["place", "columns", "rows"] g3 kv3 := by
  obtain ⟨oc, od, kV, doc, pm, an, cdv, ct, osl, rfl, lk, hcd⟩ := F.ex
  · refine ⟨fun s us ws X hl => ?_, fun {vs us zs ws} r1 r2 => ?_⟩
    · match us, ws, hl with
      | [], [x0, x1, x2], _ => exact .of_eq (show bindArgs (PySem.W.fnOf "ring_length" "ring_length" (defArgs sRingLen) (defBody sRingLen) (defScope sRingLen) .none kV doc pm an cdv ct) ⟨[], (["place", "columns", "rows"] : List Str).zip [x0, x1, x2]⟩ = pure ((["rows", "columns", "place"] : List Str).zip [x2, x1, x0]) from rfl)
    · cases r1 with
      | cons b1 r1 => exact .nil
      | nil =>
        cases r2 with
        | nil => exact .nil
        | cons a0 r2 =>
          cases r2 with
          | nil => exact .nil
          | cons a1 r2 =>
            cases r2 with
            | nil => exact .nil
            | cons a2 r2 =>
              cases r2 with
              | cons b2 r2 => exact .nil
              | nil => exact .cons a2 (.cons a1 (.cons a0 .nil))
theorem kb2 (F : Fun K "rings" "rings" sRings f fd) : KBinds K fd ["rows", "columns"] ["columns", "rows"] g2 kv2 := by
  obtain ⟨oc, od, kV, doc, pm, an, cdv, ct, osl, rfl, lk, hcd⟩ := F.ex
  · refine ⟨fun s us ws X hl => ?_, fun {vs us zs ws} r1 r2 => ?_⟩
    · match us, ws, hl with
      | [], [x0, x1], _ => exact .of_eq (show bindArgs (PySem.W.fnOf "rings" "rings" (defArgs sRings) (defBody sRings) (defScope sRings) .none kV doc pm an cdv ct) ⟨[], (["columns", "rows"] : List Str).zip [x0, x1]⟩ = pure ((["rows", "columns"] : List Str).zip [x1, x0]) from rfl)
    · cases r1 with
      | cons b1 r1 => exact .nil
      | nil =>
        cases r2 with
        | nil => exact .nil
        | cons a0 r2 =>
          cases r2 with
          | nil => exact .nil
          | cons a1 r2 =>
            cases r2 with
            | cons b2 r2 => exact .nil
            | nil => exact .cons a1 (.cons a0 .nil)
theorem bd4 (F : FunD K "turned" "turned" (defArgs sTurned) (defBody sTurned) (defScope sTurned) [.int 1] [] f fd) : Binds K fd ["rows", "columns", "place", "times"] [] := by
  obtain ⟨ds, h1, h2⟩ := F.binds1 (ps := ["rows", "columns", "place", "times"]) 4 1 (by simp) rfl fun T kV doc pm an cdv ct us its h1 h2 => match us, its, h1, h2 with
    | [_, _, _, _], [_], _, _ => ⟨_, rfl, rfl⟩
  cases h1
  exact h2
end
end E3

set_option Elab.async false
set_option linter.all false
set_option maxRecDepth 100000
set_option maxHeartbeats 1000000
/-! what the top left: each def with its promise -/
namespace E3
open PySem PySem.Spec PyProof.Rows L2 He Hb
open C8 (Cal Mak Met InsC)
def fnR : List DefD := [dD ("is_whole", none) "is_whole" "is_whole" sWhole,
  dD ("is_count", none) "is_count" "is_count" sCount,
  dD ("turned", none) "turned" "turned" sTurned [.int 1],
  dD ("ring_length", none) "ring_length" "ring_length" sRingLen,
  dD ("rings", none) "rings" "rings" sRings,
  dD ("check_lengths", none) "check_lengths" "check_lengths" sChkL,
  dD ("check_place", none) "check_place" "check_place" sChkP,
  dD ("places_by_length", none) "places_by_length" "places_by_length" sPlaces,
  dD ("order", none) "order" "order" sOrder,
  dD ("units", none) "units" "units" sUnits,
  dD ("factors", none) "factors" "factors" sFactors,
  dD ("power", none) "power" "power" sPower,
  dD ("_law_purse", none) "_law_purse" "_law_purse" sPurse,
  dD ("_law_mixed", none) "_law_mixed" "_law_mixed" sMixed,
  dD ("_law_draw", none) "_law_draw" "_law_draw" sDraw,
  dD ("law", none) "law" "law" sLaw]
def faR : List Fa := [.glo "is_whole", .glo "is_count", .glo "turned", .glo "ring_length", .glo "rings", .glo "check_lengths", .glo "check_place", .glo "places_by_length", .glo "order", .glo "units", .glo "factors", .glo "power", .glo "_law_purse", .glo "_law_mixed", .glo "_law_draw", .glo "law", .free "isinstance", .free "int", .free "bool", .free "sorted", .free "sum", .free "max", .free "range", .free "len"]
def bsR (K : PySem.W.Frag) : List Bool := [bltB K "gcd" "math.gcd", bltB K "lcm" "math.lcm"]
def exR (K : PySem.W.Frag) : Bool := (faR.all fun f => f.ok K) && (bsR K).all id
section
variable {P : Program} {w : World} {K : PySem.W.Frag} {mg : Str → Option Value} {base : Heap}
theorem cal_of {x : Str} {f : Addr} {fd : FuncData} {ps : List Str} {k : Nat} {sp : Sp} (kp : PySem.W.keepIn K (.ref f) = true) (g : mg x = some (.ref f)) (b : Binds K fd ps []) (O : FnOk P w K mg base CX0 k f fd ps sp) : Cal P w K mg base k x sp [] := ⟨f, fd, ps, [], O, g, kp, b, .nil⟩
end
theorem facts {P : Program} {w : World} {K : PySem.W.Frag} {h : Heap} {mg : Str → Option Value} {fl : Addr} (X : K.In h) (G : h.Ns mainGlobals mg) (hfa : mg "law" = some (.ref fl)) (c : SaysC exR fnR K) :
    ∃ fd : FuncData, (∀ (s : Shared) (u : Value), BindsTo s fd ⟨[u], []⟩ [("_law_script", u)]) ∧ ∀ base : Heap, K.In base → base.Ns mainGlobals mg → FnOk P w K mg base CX0 5 fl fd ["_law_script"] (spLaw K) := by
  have cb := ba (show ((faR.all fun f => f.ok K) && (bsR K).all id) = true from c.bool)
  have ca := cb.1
  have cc := cb.2
  obtain ⟨d_is_whole, F_is_whole⟩ := c.fun_ 0 (at_ := ("is_whole", none)) (name := "is_whole") (qual := "is_whole") (st := sWhole) rfl
  have g_is_whole : mg "is_whole" = some (.ref (ga K "is_whole")) := glo_ok X G (fa_ok ca 0 (f := .glo "is_whole") rfl)
  have b_is_whole := F_is_whole.binds (ps := ["value"]) fun _ _ _ _ _ _ us hl => match us, hl with | [_], _ => rfl
  obtain ⟨d_is_count, F_is_count⟩ := c.fun_ 1 (at_ := ("is_count", none)) (name := "is_count") (qual := "is_count") (st := sCount) rfl
  have g_is_count : mg "is_count" = some (.ref (ga K "is_count")) := glo_ok X G (fa_ok ca 1 (f := .glo "is_count") rfl)
  have b_is_count := F_is_count.binds (ps := ["value"]) fun _ _ _ _ _ _ us hl => match us, hl with | [_], _ => rfl
  obtain ⟨d_turned, F_turned⟩ := c.def_ 2 (d := dD ("turned", none) "turned" "turned" sTurned [.int 1]) rfl
  have g_turned : mg "turned" = some (.ref (ga K "turned")) := glo_ok X G (fa_ok ca 2 (f := .glo "turned") rfl)
  obtain ⟨d_ring_length, F_ring_length⟩ := c.fun_ 3 (at_ := ("ring_length", none)) (name := "ring_length") (qual := "ring_length") (st := sRingLen) rfl
  have g_ring_length : mg "ring_length" = some (.ref (ga K "ring_length")) := glo_ok X G (fa_ok ca 3 (f := .glo "ring_length") rfl)
  have b_ring_length := F_ring_length.binds (ps := ["rows", "columns", "place"]) fun _ _ _ _ _ _ us hl => match us, hl with | [_, _, _], _ => rfl
  obtain ⟨d_rings, F_rings⟩ := c.fun_ 4 (at_ := ("rings", none)) (name := "rings") (qual := "rings") (st := sRings) rfl
  have g_rings : mg "rings" = some (.ref (ga K "rings")) := glo_ok X G (fa_ok ca 4 (f := .glo "rings") rfl)
  have b_rings := F_rings.binds (ps := ["rows", "columns"]) fun _ _ _ _ _ _ us hl => match us, hl with | [_, _], _ => rfl
  obtain ⟨d_check_lengths, F_check_lengths⟩ := c.fun_ 5 (at_ := ("check_lengths", none)) (name := "check_lengths") (qual := "check_lengths") (st := sChkL) rfl
  have g_check_lengths : mg "check_lengths" = some (.ref (ga K "check_lengths")) := glo_ok X G (fa_ok ca 5 (f := .glo "check_lengths") rfl)
  have b_check_lengths := F_check_lengths.binds (ps := ["rows", "columns"]) fun _ _ _ _ _ _ us hl => match us, hl with | [_, _], _ => rfl
  obtain ⟨d_check_place, F_check_place⟩ := c.fun_ 6 (at_ := ("check_place", none)) (name := "check_place") (qual := "check_place") (st := sChkP) rfl
  have g_check_place : mg "check_place" = some (.ref (ga K "check_place")) := glo_ok X G (fa_ok ca 6 (f := .glo "check_place") rfl)
  have b_check_place := F_check_place.binds (ps := ["rows", "columns", "place"]) fun _ _ _ _ _ _ us hl => match us, hl with | [_, _, _], _ => rfl
  obtain ⟨d_places_by_length, F_places_by_length⟩ := c.fun_ 7 (at_ := ("places_by_length", none)) (name := "places_by_length") (qual := "places_by_length") (st := sPlaces) rfl
  have g_places_by_length : mg "places_by_length" = some (.ref (ga K "places_by_length")) := glo_ok X G (fa_ok ca 7 (f := .glo "places_by_length") rfl)
  have b_places_by_length := F_places_by_length.binds (ps := ["rows", "last"]) fun _ _ _ _ _ _ us hl => match us, hl with | [_, _], _ => rfl
  obtain ⟨d_order, F_order⟩ := c.fun_ 8 (at_ := ("order", none)) (name := "order") (qual := "order") (st := sOrder) rfl
  have g_order : mg "order" = some (.ref (ga K "order")) := glo_ok X G (fa_ok ca 8 (f := .glo "order") rfl)
  have b_order := F_order.binds (ps := ["base", "prime", "exponent"]) fun _ _ _ _ _ _ us hl => match us, hl with | [_, _, _], _ => rfl
  obtain ⟨d_units, F_units⟩ := c.fun_ 9 (at_ := ("units", none)) (name := "units") (qual := "units") (st := sUnits) rfl
  have g_units : mg "units" = some (.ref (ga K "units")) := glo_ok X G (fa_ok ca 9 (f := .glo "units") rfl)
  have b_units := F_units.binds (ps := ["prime", "exponent"]) fun _ _ _ _ _ _ us hl => match us, hl with | [_, _], _ => rfl
  obtain ⟨d_factors, F_factors⟩ := c.fun_ 10 (at_ := ("factors", none)) (name := "factors") (qual := "factors") (st := sFactors) rfl
  have g_factors : mg "factors" = some (.ref (ga K "factors")) := glo_ok X G (fa_ok ca 10 (f := .glo "factors") rfl)
  have b_factors := F_factors.binds (ps := ["value"]) fun _ _ _ _ _ _ us hl => match us, hl with | [_], _ => rfl
  obtain ⟨d_power, F_power⟩ := c.fun_ 11 (at_ := ("power", none)) (name := "power") (qual := "power") (st := sPower) rfl
  have g_power : mg "power" = some (.ref (ga K "power")) := glo_ok X G (fa_ok ca 11 (f := .glo "power") rfl)
  have b_power := F_power.binds (ps := ["base", "exponent", "modulus"]) fun _ _ _ _ _ _ us hl => match us, hl with | [_, _, _], _ => rfl
  obtain ⟨d__law_purse, F__law_purse⟩ := c.fun_ 12 (at_ := ("_law_purse", none)) (name := "_law_purse") (qual := "_law_purse") (st := sPurse) rfl
  have g__law_purse : mg "_law_purse" = some (.ref (ga K "_law_purse")) := glo_ok X G (fa_ok ca 12 (f := .glo "_law_purse") rfl)
  have b__law_purse := F__law_purse.binds (ps := ["_law_script", "_law_at"]) fun _ _ _ _ _ _ us hl => match us, hl with | [_, _], _ => rfl
  obtain ⟨d__law_mixed, F__law_mixed⟩ := c.fun_ 13 (at_ := ("_law_mixed", none)) (name := "_law_mixed") (qual := "_law_mixed") (st := sMixed) rfl
  have g__law_mixed : mg "_law_mixed" = some (.ref (ga K "_law_mixed")) := glo_ok X G (fa_ok ca 13 (f := .glo "_law_mixed") rfl)
  have b__law_mixed := F__law_mixed.binds (ps := ["_law_seed", "_law_step"]) fun _ _ _ _ _ _ us hl => match us, hl with | [_, _], _ => rfl
  obtain ⟨d__law_draw, F__law_draw⟩ := c.fun_ 14 (at_ := ("_law_draw", none)) (name := "_law_draw") (qual := "_law_draw") (st := sDraw) rfl
  have g__law_draw : mg "_law_draw" = some (.ref (ga K "_law_draw")) := glo_ok X G (fa_ok ca 14 (f := .glo "_law_draw") rfl)
  have b__law_draw := F__law_draw.binds (ps := ["_law_purse_here", "_law_many"]) fun _ _ _ _ _ _ us hl => match us, hl with | [_, _], _ => rfl
  obtain ⟨d_law, F_law⟩ := c.fun_ 15 (at_ := ("law", none)) (name := "law") (qual := "law") (st := sLaw) rfl
  have g_law : mg "law" = some (.ref (ga K "law")) := glo_ok X G (fa_ok ca 15 (f := .glo "law") rfl)
  have b_law := F_law.binds (ps := ["_law_script"]) fun _ _ _ _ _ _ us hl => match us, hl with | [_], _ => rfl
  have z_isinstance : mg "isinstance" = none := free_ok X G (fa_ok ca 16 (f := .free "isinstance") rfl)
  have z_int : mg "int" = none := free_ok X G (fa_ok ca 17 (f := .free "int") rfl)
  have z_bool : mg "bool" = none := free_ok X G (fa_ok ca 18 (f := .free "bool") rfl)
  have z_sorted : mg "sorted" = none := free_ok X G (fa_ok ca 19 (f := .free "sorted") rfl)
  have z_sum : mg "sum" = none := free_ok X G (fa_ok ca 20 (f := .free "sum") rfl)
  have z_max : mg "max" = none := free_ok X G (fa_ok ca 21 (f := .free "max") rfl)
  have z_range : mg "range" = none := free_ok X G (fa_ok ca 22 (f := .free "range") rfl)
  have z_len : mg "len" = none := free_ok X G (fa_ok ca 23 (f := .free "len") rfl)
  have hgcd : mg "gcd" = some (.builtin "math.gcd") := bltB_ok X G (bool_ok cc 0 rfl)
  have hlcm : mg "lcm" = some (.builtin "math.lcm") := bltB_ok X G (bool_ok cc 1 rfl)
  have e := hfa.symm.trans g_law
  cases e
  refine ⟨d_law, fun s u => bindsA (ps := ["_law_script"]) F_law (fun _ _ _ _ _ _ us hl => match us, hl with | [_], _ => rfl) s [u] rfl, fun base _ _ => ?_⟩
  have B4 : Bt4 mg := ⟨z_sum, z_max, z_range, z_len⟩
  have B5 : Bt5 mg := ⟨z_isinstance, z_int, z_bool, z_sorted⟩
  have Wh : Cal P w K mg base 1 "is_whole" spWh1 [] := cal_of F_is_whole.kp g_is_whole b_is_whole (ok_whole1 F_is_whole B5)
  have Cn : Cal P w K mg base 2 "is_count" spCnt1 [] := cal_of F_is_count.kp g_is_count b_is_count (ok_count1 F_is_count Wh)
  have Cl : Cal P w K mg base 2 "check_lengths" spChkL [] := cal_of F_check_lengths.kp g_check_lengths b_check_lengths (ok_chkL F_check_lengths Wh)
  have Cp : Cal P w K mg base 3 "check_place" spChkP [] := cal_of F_check_place.kp g_check_place b_check_place (ok_chkP F_check_place Cl Cn)
  have Pw : Cal P w K mg base 1 "power" spPower [] := cal_of F_power.kp g_power b_power (ok_power F_power)
  have U : Cal P w K mg base 1 "units" spUnits [] := cal_of F_units.kp g_units b_units (ok_units F_units B4)
  have Fa : Cal P w K mg base 1 "factors" spFactors [] := cal_of F_factors.kp g_factors b_factors (ok_factors F_factors)
  have Or_ : Cal P w K mg base 2 "order" spOrder [] := cal_of F_order.kp g_order b_order (ok_order F_order U Fa Pw)
  have FR := (ok_ringLen (P := P) (w := w) (base := base) F_ring_length hgcd hlcm Cp Fa Or_).imp fun vs H Q E z => to3 z
  have FT := (ok_turned (P := P) (w := w) (base := base) F_turned Cp Cn Pw).imp fun vs H Q E z => to4 z
  have Pl : Cal P w K mg base 3 "places_by_length" spPlaces [] := cal_of F_places_by_length.kp g_places_by_length b_places_by_length (ok_places F_places_by_length B4 hlcm U Fa Or_)
  have FG := (ok_rings (P := P) (w := w) (base := base) F_rings B5 Cl Pl).imp fun vs H Q E z => to2 (K := K) z
  have T : Cal P w K mg base 4 "turned" (spTurned F4) [] := cal_of F_turned.kp g_turned (bd4 F_turned) FT
  have R : Cal P w K mg base 4 "ring_length" (spRing F3) [] := cal_of F_ring_length.kp g_ring_length b_ring_length FR
  have Gr : Cal P w K mg base 4 "rings" (spRings K F2) [] := cal_of F_rings.kp g_rings b_rings FG
  have T4 : CalK P w K mg base 4 "turned" (spTurned F4) ["times", "place", "columns", "rows"] kv4 := ⟨_, _, _, _, FT, g_turned, F_turned.kp, kb4 F_turned⟩
  obtain ⟨tk, kd⟩ := kb3d F_turned
  have T3 : CalK P w K mg base 4 "turned" (spTurned F4) ["place", "columns", "rows"] kv3d := ⟨_, _, _, _, FT, g_turned, F_turned.kp, kd⟩
  have R3 : CalK P w K mg base 4 "ring_length" (spRing F3) ["place", "columns", "rows"] kv3 := ⟨_, _, _, _, FR, g_ring_length, F_ring_length.kp, kb3 F_ring_length⟩
  have G2 : CalK P w K mg base 4 "rings" (spRings K F2) ["columns", "rows"] kv2 := ⟨_, _, _, _, FG, g_rings, F_rings.kp, kb2 F_rings⟩
  have Pu : Cal P w K mg base 1 "_law_purse" (spPurse K) [] := cal_of F__law_purse.kp g__law_purse b__law_purse (ok_purse F__law_purse B4)
  have Mi : Cal P w K mg base 1 "_law_mixed" spMixed [] := cal_of F__law_mixed.kp g__law_mixed b__law_mixed (ok_mixed F__law_mixed)
  have D : Cal P w K mg base 2 "_law_draw" spDraw [] := cal_of F__law_draw.kp g__law_draw b__law_draw (ok_draw F__law_draw B4 Mi)
  exact ok_law F_law B4 4 (by decide) Pu D T T4 T3 R R3 Gr G2 (fun r c => (sh_prD _).1) (fun r c => (sh_prD _).2)
end E3

set_option Elab.async false
set_option linter.all false
set_option maxRecDepth 100000
set_option maxHeartbeats 0
/-! the head: the top's run, and the law -/
namespace E3
open PySem PySem.Spec PyProof.Rows L2 He
abbrev R : PySem.W.OpenRow := PySem.W.OpenLaw.row PySem.Challenge.rw_cellplaces_k73_rings_by_name
abbrev hk : PySem.W.Hook := Hb.hookC 5 exR fnR
def ob (s : PySem.W.SharedT) : Hb.AlC := Hb.lookC 5 exR fnR (HandSHeadRun.getT s)
theorem ob_eq (s : PySem.W.SharedT) : ob s = hk.obs s.abs := Hb.lookC_eq (HandSHeadRun.getT_eq s)
def loose0 : List PySem.Str := ["CellError", "InvalidNumber", "is_whole", "is_count", "turned", "ring_length", "rings", "check_lengths", "check_place", "places_by_length", "order", "units"]
def loose1 : List PySem.Str := ["factors", "power", "_law_purse", "_law_mixed", "_law_draw"]
def looseAll : List PySem.Str := loose0 ++ loose1
theorem run (w : World) : HandSHeadRun.RunEqI R (PySem.W.view R.prog [0, 22]) hk ob 6000 looseAll w := by
  unfold HandSHeadRun.RunEqI; kernel_rfl
end E3
open PySem PySem.W PySem.Calls PyProof.Rows
set_option maxRecDepth 100000 in
set_option maxHeartbeats 0 in
theorem PySem.Challenge.cw_cellplaces_k73_rings_by_name_holds : PySem.Challenge.rw_cellplaces_k73_rings_by_name.Holds := by
  w_on; o_law
  refine HandSHeadRun.head_imp (r := OpenLaw.row PySem.Challenge.rw_cellplaces_k73_rings_by_name) (q := view (OpenLaw.row PySem.Challenge.rw_cellplaces_k73_rings_by_name).prog [0, 22]) (H := E3.hk) (ob := E3.ob) (M := 6000) (loose := E3.looseAll) (d := HandSHeadRun.topDef (OpenLaw.row PySem.Challenge.rw_cellplaces_k73_rings_by_name).prog 22) (kwd := []) E3.ob_eq
    E3.run (by kernel_rfl) (by kernel_rfl) (by kernel_rfl) (by rfl) (by first | assumption | decide +kernel) (by decide +kernel) ⟨rfl, rfl, rfl, rfl, rfl, by decide +kernel⟩ ?hw ?hc
  case hw => w_witness2
  case hc =>
    refine L2.walk_ofE (l := PySem.Challenge.rw_cellplaces_k73_rings_by_name) (n := 63) (k := 5) (x := "_law_script") (CX := L2.CX0) rfl (by decide) (by kernel_rfl) ⟨rfl, by decide, by decide⟩ ?F (fun _ _ _ _ z => z)
    intro w mg fa h Y G hmg0
    obtain ⟨K, KX, c⟩ := Y
    have hmg : mg ("law" : PySem.Str) = some (.ref fa) := by
      have e : (HandSHeadRun.topDef (OpenLaw.row PySem.Challenge.rw_cellplaces_k73_rings_by_name).prog 22).name = ("law" : PySem.Str) := by kernel_rfl
      rw [← e]
      exact hmg0
    obtain ⟨fd, hb, hF⟩ := E3.facts (P := (PySem.Challenge.rw_cellplaces_k73_rings_by_name).prog) (w := w) KX G hmg c
    exact ⟨K, fd, E3.spLaw K, KX, hb, fun H a ns hl _ hS => ⟨a, ns, rfl, hS, hl, fun _ => rfl⟩, hF⟩
