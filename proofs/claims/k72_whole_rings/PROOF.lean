import PyProof.Rows.All
import Wide.All
import OpenK.AllK
import Wide.FinOn
import HandS.ForExc
import HandS.ExcInit
import HandS.ExcIs
import HandS.ExcField
import HandS.Defaults
import HandS.IsInst
import HandS.ExcValue
import HandS.ForMost
import KE.KOpsOwn
import HandS.Wide
import HandS.WideBits
import HandS.Conv
import HandS.Codes
import HandS.Walk
import HandS.Comp
import HandS.Gcd
import HandS.Steps
import KE.KMathG
import HandS.Ends
import HandS.Words
import HandS.Head0
import HandS.Head1
import HandS.Head2
import HandS.HeadEnd
import HandS.HeadHook1
import HandS.New
import HandS.SortInts
import HandS.Dict
import KE.KDictList
import HandS.Iter
import HandS.SetFor
import HandS.Strs
import HandS.HeadHook2
import KE.KStateDown
import HandS.Head3
import PySem.Challenge.RW_cellplaces_k72_whole_rings
set_option Elab.async false
set_option linter.all false
set_option maxRecDepth 100000
set_option maxHeartbeats 4000000
/-! An own exception class called with one keyword: the maker takes it and lets it be, the own __init__ gets it. -/
namespace KwE
open PySem PySem.W PySem.Calls PyProof.Rows PySem.HandSPX
section
variable {prog : Program} {w : World} {A : Around} {E : Value → Shared → Prop} {R : Result → Shared → Prop} {hp : Heap} {gs : Array GenState} {dr : Drawn} {tk : Nat} {os : OsState}
variable {nm q : Str} {C N fI : Addr} {bs bm bmB : List Value} {hd : Bool} {sn : List Str} {sub : List Value} {ab : Bool} {col : Option Bool} {dd : Option Addr} {k0 k1 k2 k3 k5 : Option Value} {B new_ init_ : String} {us : List Value} {kn : Str} {kv : Value}
/-- what the class's line says of the base's names -/
structure Line (B : String) (C : Addr) (bm : List Value) : Prop where
  b : (Value.ref C :: bm).contains (.type B) = true
  a : (Value.ref C :: bm).contains (.type "AttributeError") = false
  n : (Value.ref C :: bm).contains (.type "NameError") = false
theorem Line.of (F : ExcBaseFacts B new_ init_ bmB) (same : ∀ X : String, bm.contains (.type X) = bmB.contains (.type X)) : Line B C bm := by
  constructor <;> rw [List.contains_cons, same]
  · rw [F.hasB, Bool.or_true]
  · rw [F.noAttr]; rfl
  · rw [F.noName]; rfl
/-- the maker's own check -/
theorem maker_ok {M : Model} {Q : Unit → Shared → Prop} (F : ExcBaseFacts B new_ init_ bmB) (L : Line B C bm) (at_ : hp.get? C = some (excClassObj nm q C N bs bm hd sn sub ab col dd k0 k1 k2 k3 k5 new_)) (h : Q () ⟨hp, gs, dr, tk, os⟩) :
    wpAny M A (checkBuiltinCall new_ ⟨.ref C :: us, [(kn, kv)]⟩) Q E ⟨hp, gs, dr, tk, os⟩ := by
  have star := F.noStar
  simp only [checkBuiltinCall, F.newKind, F.newSplit, F.newRow]
  repeat' first
    | refine wpAny_loadPart_at at_ ?_
    | (refine wpAny_isSubtype_exc at_ ?_
       rw [L.b])
    | refine wpAny_staticBase_exc at_ ?_
    | refine wpAny_madeBy_exc at_ ?_
    | simp only [bne_self_eq_false, Bool.false_eq_true, if_false]
    | wp_step
  exact h
/-- the maker: a tuple of the plain arguments, then the exception over it -/
theorem maker_does (F : ExcBaseFacts B new_ init_ bmB) (L : Line B C bm) (at_ : hp.get? C = some (excClassObj nm q C N bs bm hd sn sub ab col dd k0 k1 k2 k3 k5 new_)) (short : us.length ≤ sizeLine)
    (h : R (.ok (.ret (.ref (hp.objs.size + 1)))) ⟨(hp.push (kdv_tup us)).push (excO C hp.objs.size), gs, dr, tk, os⟩) : codeAny (model prog w) A (.builtin new_ ⟨.ref C :: us, [(kn, kv)]⟩) R ⟨hp, gs, dr, tk, os⟩ := by
  have ends := F.ends
  refine codeAny_builtinAt F.entry ?_
  unfold Builtin.«BaseException.__new__»
  refine PySem.wpAt_bind ?_
  show PySem.wpAt _ _ _ (stack >>= _) _ _ _
  refine PySem.wpAt_bind (PySem.wpAt_stack ?_)
  intro _ _
  refine PySem.wpAt_of_wpAny ?_
  wp_walk
  refine PySem.wpAt_of_wpAny ?_
  rw [F.owner]
  repeat' first
    | with_reducible refine wpAny_madeHere_exc F.canon at_ ?_
    | with_reducible refine wpAny_loadPart_at at_ ?_
    | (with_reducible refine wpAny_isSubtype_exc at_ ?_
       first
         | rw [L.b]
         | rw [L.a]
         | rw [L.n])
    | wp_step
  show R _ _
  rw [Heap.size_push]
  exact h
/-- type.__call__: the maker, then the own __init__ -/
theorem class_does {Q : PySem.Fin → Shared → Prop} (F : ExcBaseFacts B new_ init_ bmB) (L : Line B C bm) (at_ : hp.get? C = some (excClassObj nm q C N bs bm hd sn sub ab col dd k0 k1 k2 k3 k5 new_)) (short : us.length ≤ sizeLine)
    (ini : W.Looks (model prog w) hp (typeLookup (.ref C) "__init__") (some (.ref fI))) (bind : ∀ self, W.Looks (model prog w) hp (bindSpecial (.ref fI) self) (.ref fI, [self]))
    (h : codeAny (model prog w) A (.call (.ref fI) ⟨.ref (hp.objs.size + 1) :: us, [(kn, kv)]⟩)
      (fun r s' => match r with | .ok (.ret v) => v = .none ∧ Q (.done (.ret (.ref (hp.objs.size + 1)))) s' | .ok _ => False | .error e => E e s') ⟨(hp.push (kdv_tup us)).push (excO C hp.objs.size), gs, dr, tk, os⟩) :
    wpAny (model prog w) A (Builtin.«type.__call__» ⟨.ref C :: us, [(kn, kv)]⟩) Q E ⟨hp, gs, dr, tk, os⟩ := by
  have kept : ∀ b o, hp.get? b = some o → ((hp.push (kdv_tup us)).push (excO C hp.objs.size)).get? b = some o := fun _ _ z => Heap.get?_push_of_some _ (Heap.get?_push_of_some _ z)
  have there : ((hp.push (kdv_tup us)).push (excO C hp.objs.size)).get? (hp.objs.size + 1) = some (excO C hp.objs.size) := by heap_get
  have own_ : (Value.ref C :: bm).contains (.ref C) = true := by simp
  repeat' first
    | with_reducible refine wpAny_loadPart_at at_ ?_
    | with_reducible refine wpAny_madeBy_exc at_ ?_
    | wp_step
  refine codeAny_call_builtin_code (Code.quiet_builtin _ F.quiet) (maker_ok F L at_ (maker_does F L at_ short ?_))
  show wpAny _ _ _ _ _ _
  unfold isInstance
  repeat' first
    | with_reducible refine wpAny_loadPart_at there ?_
    | (with_reducible refine wpAny_isSubtype_exc (kept _ _ at_) ?_
       rw [own_])
    | wp_step
  show wpAny _ _ (typeLookup (.ref C) _) _ _ _
  refine (ini.keeps kept).at (wpAny_holding (wpAny_bind (((bind _).keeps kept).at (wpAny_bind (wpAny_call (codeAny_mono h ?_))))))
  intro r s' z
  match r, z with
  | .error _, z => exact z
  | .ok (.ret _), ⟨rfl, z⟩ =>
    first
      | exact wpAny_pure (wpAny_pure z)
      | (wp_walk; exact z)
/-- C(.., kn=kv) -/
theorem call_kw (F : ExcBaseFacts B new_ init_ bmB) (same : ∀ X : String, bm.contains (.type X) = bmB.contains (.type X)) (at_ : hp.get? C = some (excClassObj nm q C N bs bm hd sn sub ab col dd k0 k1 k2 k3 k5 new_)) (short : us.length ≤ sizeLine)
    (ini : W.Looks (model prog w) hp (typeLookup (.ref C) "__init__") (some (.ref fI))) (bind : ∀ self, W.Looks (model prog w) hp (bindSpecial (.ref fI) self) (.ref fI, [self]))
    (h : codeAny (model prog w) (A.under (.builtin "type.__call__" ⟨.ref C :: us, [(kn, kv)]⟩)) (.call (.ref fI) ⟨.ref (hp.objs.size + 1) :: us, [(kn, kv)]⟩) (InitBack (hp.objs.size + 1) R) ⟨(hp.push (kdv_tup us)).push (excO C hp.objs.size), gs, dr, tk, os⟩) :
    codeAny (model prog w) A (.call (.ref C) ⟨us, [(kn, kv)]⟩) R ⟨hp, gs, dr, tk, os⟩ := by
  have g1 := tc_lookup
  have g2 := tc_bind (.ref C)
  have g3 := tc_sub
  have ty : (⟨hp, gs, dr, tk, os⟩ : Shared).TypeIs (.ref C) "type" := ⟨_, at_, rfl⟩
  have chk : ∀ {A' : Around} {E' : Value → Shared → Prop} {Q : Unit → Shared → Prop}, Q () ⟨hp, gs, dr, tk, os⟩ → wpAny (model prog w) A' (checkBuiltinCall "type.__call__" ⟨.ref C :: us, [(kn, kv)]⟩) Q E' ⟨hp, gs, dr, tk, os⟩ := by
    intro A' E' Q z
    simp only [checkBuiltinCall, tc_kind, tc_split]
    repeat (any_goals (first | assumption | with_reducible refine wpAny_loadPart_at at_ ?_ | with_reducible refine wpAny_onRaise ?_ | with_reducible refine wpAny_map ?_ | wp_step))
  refine codeAny_of_tree ?_
  show wpAny _ _ (callAny (.ref C) _) _ _ _
  repeat (any_goals (first | assumption | with_reducible refine wpAny_loadPart_at at_ ?_ | wp_step))
  refine ⟨rfl, codeAny_call_builtin_at (Code.quiet_builtin _ (by decide +kernel)) entry_typeCall (chk (class_does F (.of F same) at_ short ini bind (codeAny_mono h ?_)))⟩
  intro r s' z
  rcases r with _ | (_ | _ | _ | _) <;> exact z
end
end KwE

set_option Elab.async false
set_option linter.all false
set_option maxRecDepth 100000
set_option maxHeartbeats 4000000
namespace PySem.W
open PySem PySem.Spec PySem.Calls PyProof.Rows
section
variable {prog : Program} {w : World} {A : Around} {E : Value → Shared → Prop} {s : Shared} {K : Frag} {x D : Addr} {ox : Obj} {od : Option Obj}
/-- a data descriptor of the class goes ahead of the object's own dict -/
theorem found_data {C : Addr} {name : Str} {at_ get : Value} (hc : (clsIn K C).isSome = true) (h1 : findIn K (.ref C) name = some (some at_)) (h2 : specialIn K at_ "__get__" = some (some get)) (h3 : takesIn K at_ = some true) : findObj K C od name = some (.bind get at_) := by
  cases z : clsIn K C with
  | none => rw [z] at hc; cases hc
  | some cd => simp [findObj, z, h1, h2, h3]
/-- x.__class__ of an exception of an own class, whatever attributes it has -/
theorem class_of_exc {Q : Option Value → Shared → Prop} (T : L2.ExcC K D) (X : K.In s.heap) (I : InstAt s.heap x ox D od) (h : Q (some (.ref D)) { s with toks := s.toks + 1 }) : wpAny (model prog w) A (getAttr? (.ref x) "__class__") Q E s := by
  have has : (clsIn K D).isSome = true := by
    obtain ⟨cd, z, _⟩ := any_some T.hd
    rw [z]
    rfl
  obtain ⟨hp, gs, dr, tk, os⟩ := s
  have kind := I.type (M := model prog w)
  have get_ := looks_findIn (M := model prog w) X T.hg
  have hook := looks_findIn (M := model prog w) X T.hk
  have find_ := looks_find (M := model prog w) X I (found_data (od := od) has T.ha T.hn T.ht)
  have base_ : Looks (model prog w) hp (isInstance (.ref x) (.type "BaseException")) true := kind.andThen (looks_subIn X T.hs)
  have other : (Value.builtin "BaseException.__getattribute__" == Value.builtin "object.__getattribute__") = false := by decide +kernel
  unfold getAttr? getAttrBy? getAttrBy
  refine wpAny_bind (wpAny_mkText (wpAny_bind (wpAny_attempt (wpAny_holding (wpAny_bind (kind.at (wpAny_bind (get_.at ?_))))))))
  show wpAny _ _ (if (onTheHeap (Value.ref D) && Value.builtin "BaseException.__getattribute__" == Value.builtin "object.__getattribute__") = true then _ else _) _ _ _
  rw [other, Bool.and_false, if_neg Bool.false_ne_true]
  unfold getAttrByItsOwn hookBefore
  rw [if_pos (show onTheHeap (Value.ref D) = true from rfl)]
  refine wpAny_bind (hook.at (wpAny_bind (wpAny_attempt (wpAny_holding ?_))))
  unfold callGetattribute
  rw [show (false && onTheHeap (Value.builtin "BaseException.__getattribute__")) = false from rfl, if_neg Bool.false_ne_true]
  unfold boundAndCalled
  rw [PySem.F.excAttr_ValueError.ga.bind (.ref x)]
  refine wpAny_bind (wpAny_pure ?_)
  show wpAny _ _ (call (.builtin "BaseException.__getattribute__") [.ref x, .str "__class__" tk]) _ _ _
  refine wpAny_call (codeAny_call_builtin PySem.F.excAttr_ValueError.ga.plain PySem.F.entry_bexc_ga (@check_slot (model prog w) _ _ ⟨hp, gs, dr, tk + 1, os⟩ "BaseException.__getattribute__" "BaseException" "__getattribute__" (.ref x) [.str "__class__" tk] [] _ (by decide +kernel) (by decide +kernel) base_ (PySem.F.args_bexc_ga (.ref x) (.str "__class__" tk)) ?_))
  unfold Builtin.«object.__getattribute__»
  refine wpAny_bind (wpAny_of_eq (a := ((Value.ref x : Value), [Value.str "__class__" tk])) (by first | rfl | (simp only [slotArgs]; rfl)) (wpAny_bind (wpAny_pure (wpAny_bind (kind.at (wpAny_bind (find_.at ?_)))))))
  show wpAny _ _ (holding [Value.builtin "object.__class__"] (call (.builtin "getset_descriptor.__get__") [.builtin "object.__class__", .ref x, .ref D]) >>= ret) _ _ _
  refine wpAny_bind (wpAny_holding (wpAny_call (class_get (s := ⟨hp, gs, dr, tk + 1, os⟩) (ox := ox) (od := od) X I T.hm (wpAny_pure ?_))))
  show wpAny _ _ (handedOut (.ref D)) _ _ _
  rw [handedOut_of (v := .ref D) rfl]
  first
    | exact wpAny_pure (wpAny_pure h)
    | exact wpAny_pure (wpAny_bind (wpAny_pure (wpAny_pure h)))
    | exact wpAny_pure h
/-- isinstance may ask such an exception -/
theorem kit_exc (T : L2.ExcC K D) : KitX K (.ref x) (.ref D) (fun h => InstAt h x ox D od) := by
  have written : ∃ o, K.lookup D = some o ∧ ∀ h : Heap, K.In h → h.get? D = some o := by
    obtain ⟨cd, z, _⟩ := any_some T.hd
    unfold clsIn at z
    split at z
    · exact ⟨_, by assumption, fun h X => X _ _ (by assumption)⟩
    · cases z
  have plain : ∀ {M : Model} {h : Heap}, K.In h → Looks M h (isType (.ref D)) true := by
    intro M h X A' Q' E' s' k q
    obtain ⟨cd, z, _⟩ := any_some T.hd
    unfold clsIn at z
    split at z
    · rename_i ho
      unfold isType loadHead
      exact wpAny_bind (wpAny_loadPart (k _ _ (X _ _ ho)) (wpAny_pure q))
    · cases z
  refine ⟨fun _ _ _ I => I.type, fun _ _ X _ => plain X, fun h tp dd its n sl X htp => ?_, fun X I k => class_of_exc T X I k⟩
  refine Bool.eq_false_iff.mpr fun q => ?_
  obtain rfl : D = tp := Value.ref.inj (beq_iff_eq.mp q)
  obtain ⟨cd, z, _⟩ := any_some T.hd
  unfold clsIn at z
  split at z
  · rename_i ho
    cases (X _ _ ho).symm.trans htp
  · cases z
end
end PySem.W
namespace L2
open PySem PySem.Spec PyProof.Rows
/-- an exception object of the own class at C: with its attributes, or bare -/
inductive ExT (H : Hp) (e C : Addr) : List (Str × V) → Prop where
  | own {d : Addr} {fs : List (Str × V)} (h1 : H e = some (exo e C (some d))) (h2 : H d = some (exd d fs)) : ExT H e C fs
  | bare (h : H e = some (ExO (.ref C) e)) : ExT H e C []
theorem ExT.same {H H' : Hp} {e C : Addr} {fs : List (Str × V)} (S : Same H H') : ExT H e C fs → ExT H' e C fs
  | .own h1 h2 => .own (S _ _ h1) (S _ _ h2)
  | .bare h => .bare (S _ _ h)
section
variable {X : Cx} {pins : List (Addr × Obj)} {σ : St} {H : Hp} {s : Shared} {e C : Addr} {fs : List (Str × V)}
theorem ExT.inst (I : Inv X pins σ H s) (h : ExT H e C fs) : ∃ ox od, PySem.W.InstAt s.heap e ox C od ∧ (∀ f v, fs.lookup f = some v → ∃ o u, od = some o ∧ PySem.W.lookIn f o = some (some u) ∧ RelV v u) := by
  cases h with
  | own h1 h2 =>
    obtain ⟨t1, ho⟩ := exo_at I.hok h1
    obtain ⟨mA, hns, rel⟩ := exd_at I.hok h2
    obtain ⟨od, hod, hl⟩ := lookIn_ns hns
    refine ⟨_, some od, ⟨ho, rfl, rfl, hod⟩, fun f v hf => ?_⟩
    obtain ⟨u, hu, ru⟩ := RelO.some_of (v := v) (o := mA f) (by rw [← hf]; exact rel f)
    exact ⟨od, u, rfl, by rw [hl, hu], ru⟩
  | bare h =>
    have z : ObjOk X.prog X.w H s.heap e (ExO (.ref C) e) := I.hok _ _ h
    obtain ⟨⟨oe, vs, ho, hz, hd, _, _, _⟩, _, _⟩ := z
    refine ⟨oe, none, ⟨ho, hz.1, by unfold PySem.W.notCls; rw [hd], by rw [hz.2]; trivial⟩, fun f v hf => by cases hf⟩
end
/-- isinstance(e, c) of an exception that is a value -/
def rIsX (K : PySem.W.Frag) : List V → Hp → VK → Prop := fun xs H Q => ∃ (e D : Addr) (fs : List (Str × V)) (c : V) (u : Value) (b : Bool), xs = [.ref e, c] ∧ ClsV c u ∧ ExT H e D fs ∧ ExcC K D ∧ PySem.W.kitOne K (.ref D) u = some b ∧ Q (.bl b) H
theorem call_isX {X : Cx} : CallR X (.builtin "isinstance") (rIsX X.K) := by
  intro pins s σ H xs us Q I r h
  obtain ⟨e, D, fs, c, u, b, rfl, k, ex, T, hk, q⟩ := h
  obtain ⟨u1, u2, rfl, r1, r2⟩ := vals2 r
  have e2 := k.eq r2
  subst e2
  obtain rfl : u1 = Value.ref e := r1
  obtain ⟨ox, od, J, _⟩ := ex.inst I
  exact PySem.W.kia_one (PySem.W.kit_exc T) I.kIn J hk (fun z => nomatch z) fun tk => ⟨.bl b, H, I.tok tk, rfl, q⟩
/-- e.f of an exception that is a value -/
def tFldE (K : PySem.W.Frag) (te : TE) (f : Str) : TE := fun σ H Q => te σ H fun x H1 => ∃ (e C : Addr) (fs : List (Str × V)) (v : V), x = .ref e ∧ ExT H1 e C fs ∧ ExcC K C ∧ PySem.W.findIn K (.ref C) f = some none ∧ fs.lookup f = some v ∧ Q v H1
theorem pe_fldE {X : Cx} {e : Expr} {te : TE} {pos : Pos} {n : Str} (he : PE X e te) (hb : attributeBase e n X.env (eval e X.env) = eval e X.env := by rfl) : PE X (.Attribute e n pos) (tFldE X.K te n) := by
  refine ⟨fun pins s σ H Q I h => ?_⟩
  refine attr_of hb (thn (he.run pins s σ H _ I h) fun u s1 hh => ?_)
  obtain ⟨x, H1, I1, rx, e, C, fs, v, rfl, ex, T, hno, l, q⟩ := hh
  obtain rfl : u = Value.ref e := rx
  obtain ⟨ox, od, J, lk⟩ := ex.inst I1
  obtain ⟨o, u, rfl, hu, ru⟩ := lk _ _ l
  exact HandSPX.exc_get I1.kIn J T.hg T.hk T.hs (PySem.W.findObj_own T.hd hno rfl hu) (handed_of ru) ⟨v, H1, I1.tok _, ru, q⟩
/-- __init__(self, f): self.f = f -/
def spExI (K : PySem.W.Frag) (f : Str) : Sp := fun vs H Q _ => ∃ (a C : Addr) (y : V), vs = [.ref a, y] ∧ OexC K C ∧ PySem.W.findIn K (.ref C) f = some none ∧ H a = some (exo a C none) ∧
  ∀ dx, H dx = none → dx ≠ a → Q .non (upd (upd H dx (exd dx [(f, y)])) a (exo a C (some dx)))
/-- C called, its __init__ as above: the new exception's one attribute is y -/
theorem run_mko {X : Cx} {C fI : Addr} {f : Str} {k : Nat} {fd : FuncData} {ps : List Str} {pins : List (Addr × Obj)} {σ : St} {H1 : Hp} {s1 : Shared} {Q : VK} {us : List Value} {kw : List (Str × Value)} {y : V} {u : Value} (T : OexC X.K C) (iC : PySem.W.findIn X.K (.ref C) "__init__" = some (some (.ref fI)))
    (tI : PySem.W.typeIn X.K (.ref fI) = some (.type "function")) (noF : PySem.W.findIn X.K (.ref C) f = some none) (F1 : FnOk X.prog X.w X.K X.mg X.base CX0 k fI fd ps (spExI X.K f)) (hr : Room (k + 1) X.A) (hkw : kw = [] ∨ ∃ q, kw = [q]) (hus : us.length ≤ sizeLine)
    (hb : ∀ (self : Value) (s' : Shared), X.K.In s'.heap → BindsTo s' fd ⟨self :: us, kw⟩ (ps.zip [self, u])) (ry : RelV y u) (I1 : Inv X pins σ H1 s1)
    (q : ∀ a H', Same H1 H' → H1 a = none → ExT H' a C [(f, y)] → Q (.ref a) H') : wpAny (model X.prog X.w) X.A (call (.ref C) us kw) (EP X pins σ Q) X.xe s1 := by
  obtain ⟨nm, qn, N, bs, bm, sn, sub, ab, col, dd, k0, k1, k2, k3, k5, hC, hbm⟩ := T.cls
  obtain ⟨hp, g, dr, tk, os⟩ := s1
  have hsz : hp.objs.size ≤ hp.objs.size + 1 := Nat.le_succ _
  have hn : H1 (hp.objs.size + 1) = none := I1.hok.fresh hsz
  have kk : ∀ b o, hp.get? b = some o → ((hp.push (PySem.W.kdv_tup us)).push (PySem.HandSPX.excO C hp.objs.size)).get? b = some o := fun b o e => Heap.get?_push_of_some _ (Heap.get?_push_of_some _ e)
  have hget : ((hp.push (PySem.W.kdv_tup us)).push (PySem.HandSPX.excO C hp.objs.size)).get? (hp.objs.size + 1) = some (PySem.HandSPX.excO C hp.objs.size) := by heap_get
  have I2 : Inv X pins σ (upd H1 (hp.objs.size + 1) (exo (hp.objs.size + 1) C none)) ⟨(hp.push (PySem.W.kdv_tup us)).push (PySem.HandSPX.excO C hp.objs.size), g, dr, tk, os⟩ :=
    I1.laid (t' := tk) (a := hp.objs.size + 1) (o := exo (hp.objs.size + 1) C none) (h' := (hp.push (PySem.W.kdv_tup us)).push (PySem.HandSPX.excO C hp.objs.size)) kk hsz (exo_ok hget)
  have hq : spExI X.K f [V.ref (hp.objs.size + 1), y] (upd H1 (hp.objs.size + 1) (exo (hp.objs.size + 1) C none)) (fun v H2 => v = .non ∧ Q (.ref (hp.objs.size + 1)) H2) E0 := by
    refine ⟨_, C, y, rfl, T, noF, upd_same, fun dx hd ne => ⟨rfl, q _ _ (fun b o e => ?_) hn (.own upd_same (by rw [upd_ne ne, upd_same]))⟩⟩
    have hb1 : b ≠ hp.objs.size + 1 := ne_of_none e hn
    have hd1 : H1 dx = none := by
      rw [upd_ne ne] at hd
      exact hd
    rw [upd_ne hb1, upd_ne (ne_of_none e hd1), upd_ne hb1]
    exact e
  have r2 : Vals [V.ref (hp.objs.size + 1), y] [Value.ref (hp.objs.size + 1), u] := .cons rfl (.cons ry .nil)
  have fin : ∀ (r : Result) (s' : Shared), CR CX0 X.stack X.prog X.w (upd H1 (hp.objs.size + 1) (exo (hp.objs.size + 1) C none)) ⟨(hp.push (PySem.W.kdv_tup us)).push (PySem.HandSPX.excO C hp.objs.size), g, dr, tk, os⟩ (fun v H2 => v = .non ∧ Q (.ref (hp.objs.size + 1)) H2) E0 r s' →
      PySem.W.InitBack (hp.objs.size + 1) (fun r s' => match r with | .ok (.ret v) => EP X pins σ Q v s' | .ok _ => False | .error er => X.xe er s') r s' := fun r s' hq' => by
    cases r with
    | error er => exact False.elim hq'
    | ok fl =>
      cases fl with
      | ret uu =>
        obtain ⟨v, H', I3, rv, ev, q3⟩ := I2.after hq'
        subst ev
        exact ⟨rv, ⟨V.ref (hp.objs.size + 1), H', I3, rfl, q3⟩⟩
      | next => exact False.elim hq'
      | brk => exact False.elim hq'
      | cont => exact False.elim hq'
  rcases hkw with rfl | ⟨⟨kn, kv⟩, rfl⟩
  · refine wpAny_call (codeAny_mono (PySem.HandSPX.call_own F.excBase_ValueError (fun Y => PySem.HandSPX.refsVE_contains Y bm hbm) (I1.kIn _ _ hC) (PySem.W.looks_findIn I1.kIn iC) (fun self => PySem.W.bind_fn I1.kIn self tI) hus
      (codeAny_mono (F1.run _ X.stack _ _ ⟨Value.ref (hp.objs.size + 1) :: us, []⟩ [Value.ref (hp.objs.size + 1), u] _ _ E0 (hr.make C us []) (I2.env0.make C us []) (hb _ _ I2.kIn) r2 hq) fin)) fun r s' z => ?_)
    rcases r with e | (v | _ | _ | _) <;> exact z
  · refine wpAny_call (codeAny_mono (KwE.call_kw F.excBase_ValueError (fun Y => PySem.HandSPX.refsVE_contains Y bm hbm) (I1.kIn _ _ hC) hus (PySem.W.looks_findIn I1.kIn iC) (fun self => PySem.W.bind_fn I1.kIn self tI)
      (codeAny_mono (F1.run _ X.stack _ _ ⟨Value.ref (hp.objs.size + 1) :: us, [(kn, kv)]⟩ [Value.ref (hp.objs.size + 1), u] _ _ E0 (hr.make C us [(kn, kv)]) (I2.env0.make C us [(kn, kv)]) (hb _ _ I2.kIn) r2 hq) fin)) fun r s' z => ?_)
    rcases r with e | (v | _ | _ | _) <;> exact z
end L2

set_option Elab.async false
set_option linter.all false
set_option maxRecDepth 100000
set_option maxHeartbeats 4000000
namespace L2
open PySem PySem.Spec PyProof.Rows
/-- an own exception class at C, called x, whose __init__ sets the one attribute f (None where it is not given) -/
structure ExM (P : Program) (w : World) (K : PySem.W.Frag) (mg : Str → Option Value) (base : Heap) (x : Str) (C : Addr) (f : Str) : Prop where
  mgC : mg x = some (.ref C)
  oex : OexC K C
  xc : ExcC K C
  noF : PySem.W.findIn K (.ref C) f = some none
  hmk : ∃ (fI : Addr) (fd : FuncData) (ps : List Str), PySem.W.findIn K (.ref C) "__init__" = some (some (.ref fI)) ∧ PySem.W.typeIn K (.ref fI) = some (.type "function") ∧ FnOk P w K mg base CX0 1 fI fd ps (spExI K f) ∧
    (∀ (self u : Value) (s' : Shared), K.In s'.heap → BindsTo s' fd ⟨[self, u], []⟩ (ps.zip [self, u])) ∧ (∀ (self u : Value) (s' : Shared), K.In s'.heap → BindsTo s' fd ⟨[self], [(f, u)]⟩ (ps.zip [self, u])) ∧
    (∀ (self : Value) (s' : Shared), K.In s'.heap → BindsTo s' fd ⟨[self], []⟩ (ps.zip [self, .none]))
/-- an own exception class at C, called x, without an __init__ of its own -/
structure ExB (K : PySem.W.Frag) (mg : Str → Option Value) (x : Str) (C : Addr) : Prop where
  mgC : mg x = some (.ref C)
  xc : ExcC K C
  kC : PySem.W.keepIn K (.ref C) = true
  is : ∃ bmB, ExcBaseFacts "ValueError" "ValueError.__new__" "ValueError.__init__" bmB ∧ PySem.W.excIn K C bmB "ValueError.__new__" = true
/-- the new exception's one attribute -/
def tMk1 (C : Addr) (f : Str) (te : TE) : TE := fun σ H Q => te σ H fun y H1 => ∀ a H', Same H1 H' → H1 a = none → ExT H' a C [(f, y)] → Q (.ref a) H'
def tMk0 (C : Addr) : TE := fun _ H Q => ∀ a H', Same H H' → H a = none → ExT H' a C [] → Q (.ref a) H'
theorem one_line : (1 : Nat) ≤ sizeLine := by rw [sizeLine_eq]; omega
section
variable {X : Cx} {x f : Str} {C : Addr} {e : Expr} {te : TE} {p pos kpos : Pos}
theorem pe_ex1 (T : ExM X.prog X.w X.K X.mg X.base x C f) (hr : Room 2 X.A) (hg : Gl X x) (he : PE X e te) (hdb : (x == ("__debug__" : Str)) = false := by decide) (hs : starEach [e] X.env = (false, eval e X.env) :: starEach [] X.env := by rfl)
    (hpl : (backTo pos (starEach [] X.env)).any (·.1) = false := by rfl) : PE X (.Call (.Name x p) [e] [] pos) (tMk1 C f te) := by
  obtain ⟨fI, fd, ps, iC, tI, F1, b2, bK, b1⟩ := T.hmk
  refine ⟨fun pins s σ H Q I h => ?_⟩
  refine wpAny_Call_Name_kw (ld_glob I hg T.mgC ?_ hdb)
  refine PySem.W.callWith_K (h₀ := X.base) I.ok.mod.kin T.oex.kC ?_ hs hpl
  rw [hs]
  show wpAny _ _ (spliced ((false, eval e X.env) :: backTo pos (starEach [] X.env))) _ _ s
  refine Calls.spliced_cons (thn (he.run pins s σ H _ I h) fun u s1 hh => ?_)
  obtain ⟨y, H1, I1, ry, q⟩ := hh
  refine Calls.spliced_nil ⟨I1.kIn, ?_⟩
  show wpAny _ _ (call (.ref C) [u]) _ _ _
  exact run_mko T.oex iC tI T.noF F1 hr (.inl rfl) one_line (fun self s' X' => b2 self u s' X') ry I1 q
theorem pe_exK (T : ExM X.prog X.w X.K X.mg X.base x C f) (hr : Room 2 X.A) (hg : Gl X x) (he : PE X e te) (hdb : (x == ("__debug__" : Str)) = false := by decide)
    (hall : (backToKw pos (keywordEach [⟨some f, e, kpos⟩] X.env)).all (·.1.isSome) = true := by rfl) (hks : (backToKw pos (keywordEach [⟨some f, e, kpos⟩] X.env)).filterMap (·.1) = [f] := by rfl)
    (hpl : ((backTo pos (starEach [] X.env)).any (·.1) || (backToKw pos (keywordEach [⟨some f, e, kpos⟩] X.env)).any (·.1.isNone)) = false := by rfl) : PE X (.Call (.Name x p) [] [⟨some f, e, kpos⟩] pos) (tMk1 C f te) := by
  obtain ⟨fI, fd, ps, iC, tI, F1, b2, bK, b1⟩ := T.hmk
  refine ⟨fun pins s σ H Q I h => ?_⟩
  refine wpAny_Call_Name_kw (ld_glob I hg T.mgC ?_ hdb)
  refine PySem.W.callWith_KW0 (h₀ := X.base) I.ok.mod.kin T.oex.kC hall ?_ hpl
  show wpAny _ _ (evalAll ((do let v ← eval e X.env; standAt pos; pure v) :: [])) _ _ s
  refine wpAny_evalAll_cons (wpAny_bind (thn (he.run pins s σ H _ I h) fun u s1 hh => wpAny_bind (wpAny_standAt (wpAny_pure ?_))))
  obtain ⟨y, H1, I1, ry, q⟩ := hh
  refine wpAny_evalAll_nil ⟨I1.kIn, ?_⟩
  rw [hks]
  show wpAny _ _ (call (.ref C) [] [(f, u)]) _ _ _
  exact run_mko (us := []) T.oex iC tI T.noF F1 hr (.inr ⟨_, rfl⟩) (Nat.zero_le _) (fun self s' X' => bK self u s' X') ry I1 q
theorem pe_ex0 (T : ExM X.prog X.w X.K X.mg X.base x C f) (hr : Room 2 X.A) (hg : Gl X x) (hdb : (x == ("__debug__" : Str)) = false := by decide) : PE X (.Call (.Name x p) [] [] pos) (tMk1 C f (tC .non)) := by
  obtain ⟨fI, fd, ps, iC, tI, F1, b2, bK, b1⟩ := T.hmk
  refine ⟨fun pins s σ H Q I h => ?_⟩
  refine wpAny_Call_Name_kw (ld_glob I hg T.mgC ?_ hdb)
  exact PySem.W.callWith_K0 I.kIn T.oex.kC (run_mko (us := []) (y := .non) (u := .none) T.oex iC tI T.noF F1 hr (.inl rfl) (Nat.zero_le _) (fun self s' X' => b1 self s' X') rfl I h)
theorem pe_exB (T : ExB X.K X.mg x C) (hg : Gl X x) (hdb : (x == ("__debug__" : Str)) = false := by decide) : PE X (.Call (.Name x p) [] [] pos) (tMk0 C) := by
  obtain ⟨bmB, F, q⟩ := T.is
  refine ⟨fun pins s σ H Q I h => ?_⟩
  refine wpAny_Call_Name_kw (ld_glob I hg T.mgC ?_ hdb)
  refine PySem.W.callWith_K0 I.kIn T.kC ?_
  show wpAny _ _ (call (.ref C) []) _ _ _
  obtain ⟨bm, N, nm, qn, bs, hdct, sn, sub, ab, col, dd, k0, k1, k2, k3, k5, mN, hC, hN, hni, T'⟩ := exc_obj I.kIn q
  refine wpAny_call_exc_subT F T' hC hN hni (fun h' a hm => ?_) (Nat.zero_le _)
  have hn : H a = none := I.hok.gone hm.new
  obtain ⟨t, ht, _, _⟩ := hm.there
  exact ⟨.ref a, upd H a (ExO (.ref C) a), I.laidN hm.keeps hm.new hn (exO_ok ht ⟨rfl, rfl⟩ rfl rfl rfl (show 4 < 6 by decide)), rfl, h a _ (fun b o q => by rw [upd_ne (ne_of_none q hn)]; exact q) hn (.bare upd_same)⟩
end

end L2

set_option Elab.async false
set_option linter.all false
set_option maxRecDepth 100000
set_option maxHeartbeats 400000
namespace L2
open PySem PySem.Spec PyProof.Rows
def exArgs (f : Str) (p1 p2 p3 : Pos) : Arguments := { posonlyargs := [], args := [{ arg := "self", annotation := none, pos := p1 }, { arg := f, annotation := none, pos := p2 }], vararg := none, kwonlyargs := [], kw_defaults := [], kwarg := none, defaults := [.Constant .none 0 p3] }
def exBody (f : Str) (q1 q2 q3 q4 : Pos) : List Stmt := [.Assign [.Attribute (.Name "self" q1) f q2] (.Name f q3) q4]
def exScope (f : Str) : Scope := { kind := .function, names := [(PySem.Str.ofString "self", .local), (f, .local)], isGenerator := false, isCoroutine := false, more := [] }
section
variable {P : Program} {w : World} {K : PySem.W.Frag} {mg : Str → Option Value} {base : Heap} {x qual : Str} {C fI : Addr} {fd : FuncData} {p1 p2 p3 q1 q2 q3 q4 : Pos}
theorem one_none {its : List Value} (h : Vals [.non] its) : its = [.none] := by
  cases h with
  | cons r n =>
    cases n
    cases r
    rfl

theorem scEx_value : FnScope ["self", "value"] ["self", "value"] (exScope "value") := ⟨rfl, rfl, rfl, by decide +kernel, rfl, by decide +kernel, by decide +kernel⟩
theorem okEx_value (F : FunD K "__init__" qual (exArgs "value" p1 p2 p3) (exBody "value" q1 q2 q3 q4) (exScope "value") [.non] [] fI fd) : FnOk P w K mg base CX0 1 fI fd ["self", "value"] (spExI K "value") := by
  refine F.ok scEx_value (fun vs H Q E h => ?_) (fun cdv A outer s H vs Q E hr h => ?_)
  · obtain ⟨a, C, y, rfl, _⟩ := h
    rfl
  · obtain ⟨a, C, y, rfl, T, noF, ha, k⟩ := h
    exact ⟨_, pss_one (ps_ost (pv 0) (pv 1)), ⟨_, rfl, _, rfl, a, C, rfl, T, noF, .inl ⟨ha, k⟩⟩⟩
theorem bindEx_value (F : FunD K "__init__" qual (exArgs "value" p1 p2 p3) (exBody "value" q1 q2 q3 q4) (exScope "value") [.non] [] fI fd) :
    (∀ (self u : Value) (s' : Shared), K.In s'.heap → BindsTo s' fd ⟨[self, u], []⟩ ((["self", "value"] : List Str).zip [self, u])) ∧ (∀ (self u : Value) (s' : Shared), K.In s'.heap → BindsTo s' fd ⟨[self], [("value", u)]⟩ ((["self", "value"] : List Str).zip [self, u])) ∧
    (∀ (self : Value) (s' : Shared), K.In s'.heap → BindsTo s' fd ⟨[self], []⟩ ((["self", "value"] : List Str).zip [self, .none])) := by
  obtain ⟨oc, od, dV, kV, doc, pm, an, cdv, ct, osl, rfl, lk, hcd, hD, hK⟩ := F.ex
  rcases hD with ⟨e, _⟩ | ⟨_, T, o, its, m, rfl, lT, oT, rT⟩
  · cases e
  · obtain rfl := one_none rT
    refine ⟨fun self u s' X => BindsTo.of_looks fun M => ?_, fun self u s' X => BindsTo.of_looks fun M => ?_, fun self s' X => BindsTo.of_looks fun M => ?_⟩
    · have e : ∃ k, bindArgs (PySem.W.fnOf "__init__" qual (exArgs "value" p1 p2 p3) (exBody "value" q1 q2 q3 q4) (exScope "value") (.ref T) kV doc pm an cdv ct) ⟨[self, u], []⟩ = seqItems? (.ref T) >>= k ∧ k (some [Value.none].toArray) = pure ((["self", "value"] : List Str).zip [self, u]) := ⟨_, rfl, rfl⟩
      obtain ⟨k, e1, e2⟩ := e
      rw [e1]
      exact looks_items X lT oT (.of_pure e2)
    · have e : ∃ k, bindArgs (PySem.W.fnOf "__init__" qual (exArgs "value" p1 p2 p3) (exBody "value" q1 q2 q3 q4) (exScope "value") (.ref T) kV doc pm an cdv ct) ⟨[self], [("value", u)]⟩ = seqItems? (.ref T) >>= k ∧ k (some [Value.none].toArray) = pure ((["self", "value"] : List Str).zip [self, u]) := ⟨_, rfl, rfl⟩
      obtain ⟨k, e1, e2⟩ := e
      rw [e1]
      exact looks_items X lT oT (.of_pure e2)
    · have e : ∃ k, bindArgs (PySem.W.fnOf "__init__" qual (exArgs "value" p1 p2 p3) (exBody "value" q1 q2 q3 q4) (exScope "value") (.ref T) kV doc pm an cdv ct) ⟨[self], []⟩ = seqItems? (.ref T) >>= k ∧ k (some [Value.none].toArray) = pure ((["self", "value"] : List Str).zip [self, .none]) := ⟨_, rfl, rfl⟩
      obtain ⟨k, e1, e2⟩ := e
      rw [e1]
      exact looks_items X lT oT (.of_pure e2)
theorem exm_value (gC : mg x = some (.ref C)) (oex : OexC K C) (xc : ExcC K C) (noF : PySem.W.findIn K (.ref C) "value" = some none) (iC : PySem.W.findIn K (.ref C) "__init__" = some (some (.ref fI))) (tI : PySem.W.typeIn K (.ref fI) = some (.type "function"))
    (F : FunD K "__init__" qual (exArgs "value" p1 p2 p3) (exBody "value" q1 q2 q3 q4) (exScope "value") [.non] [] fI fd) : ExM P w K mg base x C "value" :=
  ⟨gC, oex, xc, noF, fI, fd, _, iC, tI, okEx_value F, bindEx_value F⟩

theorem scEx_name : FnScope ["self", "name"] ["self", "name"] (exScope "name") := ⟨rfl, rfl, rfl, by decide +kernel, rfl, by decide +kernel, by decide +kernel⟩
theorem okEx_name (F : FunD K "__init__" qual (exArgs "name" p1 p2 p3) (exBody "name" q1 q2 q3 q4) (exScope "name") [.non] [] fI fd) : FnOk P w K mg base CX0 1 fI fd ["self", "name"] (spExI K "name") := by
  refine F.ok scEx_name (fun vs H Q E h => ?_) (fun cdv A outer s H vs Q E hr h => ?_)
  · obtain ⟨a, C, y, rfl, _⟩ := h
    rfl
  · obtain ⟨a, C, y, rfl, T, noF, ha, k⟩ := h
    exact ⟨_, pss_one (ps_ost (pv 0) (pv 1)), ⟨_, rfl, _, rfl, a, C, rfl, T, noF, .inl ⟨ha, k⟩⟩⟩
theorem bindEx_name (F : FunD K "__init__" qual (exArgs "name" p1 p2 p3) (exBody "name" q1 q2 q3 q4) (exScope "name") [.non] [] fI fd) :
    (∀ (self u : Value) (s' : Shared), K.In s'.heap → BindsTo s' fd ⟨[self, u], []⟩ ((["self", "name"] : List Str).zip [self, u])) ∧ (∀ (self u : Value) (s' : Shared), K.In s'.heap → BindsTo s' fd ⟨[self], [("name", u)]⟩ ((["self", "name"] : List Str).zip [self, u])) ∧
    (∀ (self : Value) (s' : Shared), K.In s'.heap → BindsTo s' fd ⟨[self], []⟩ ((["self", "name"] : List Str).zip [self, .none])) := by
  obtain ⟨oc, od, dV, kV, doc, pm, an, cdv, ct, osl, rfl, lk, hcd, hD, hK⟩ := F.ex
  rcases hD with ⟨e, _⟩ | ⟨_, T, o, its, m, rfl, lT, oT, rT⟩
  · cases e
  · obtain rfl := one_none rT
    refine ⟨fun self u s' X => BindsTo.of_looks fun M => ?_, fun self u s' X => BindsTo.of_looks fun M => ?_, fun self s' X => BindsTo.of_looks fun M => ?_⟩
    · have e : ∃ k, bindArgs (PySem.W.fnOf "__init__" qual (exArgs "name" p1 p2 p3) (exBody "name" q1 q2 q3 q4) (exScope "name") (.ref T) kV doc pm an cdv ct) ⟨[self, u], []⟩ = seqItems? (.ref T) >>= k ∧ k (some [Value.none].toArray) = pure ((["self", "name"] : List Str).zip [self, u]) := ⟨_, rfl, rfl⟩
      obtain ⟨k, e1, e2⟩ := e
      rw [e1]
      exact looks_items X lT oT (.of_pure e2)
    · have e : ∃ k, bindArgs (PySem.W.fnOf "__init__" qual (exArgs "name" p1 p2 p3) (exBody "name" q1 q2 q3 q4) (exScope "name") (.ref T) kV doc pm an cdv ct) ⟨[self], [("name", u)]⟩ = seqItems? (.ref T) >>= k ∧ k (some [Value.none].toArray) = pure ((["self", "name"] : List Str).zip [self, u]) := ⟨_, rfl, rfl⟩
      obtain ⟨k, e1, e2⟩ := e
      rw [e1]
      exact looks_items X lT oT (.of_pure e2)
    · have e : ∃ k, bindArgs (PySem.W.fnOf "__init__" qual (exArgs "name" p1 p2 p3) (exBody "name" q1 q2 q3 q4) (exScope "name") (.ref T) kV doc pm an cdv ct) ⟨[self], []⟩ = seqItems? (.ref T) >>= k ∧ k (some [Value.none].toArray) = pure ((["self", "name"] : List Str).zip [self, .none]) := ⟨_, rfl, rfl⟩
      obtain ⟨k, e1, e2⟩ := e
      rw [e1]
      exact looks_items X lT oT (.of_pure e2)
theorem exm_name (gC : mg x = some (.ref C)) (oex : OexC K C) (xc : ExcC K C) (noF : PySem.W.findIn K (.ref C) "name" = some none) (iC : PySem.W.findIn K (.ref C) "__init__" = some (some (.ref fI))) (tI : PySem.W.typeIn K (.ref fI) = some (.type "function"))
    (F : FunD K "__init__" qual (exArgs "name" p1 p2 p3) (exBody "name" q1 q2 q3 q4) (exScope "name") [.non] [] fI fd) : ExM P w K mg base x C "name" :=
  ⟨gC, oex, xc, noF, fI, fd, _, iC, tI, okEx_name F, bindEx_name F⟩

theorem scEx_place : FnScope ["self", "place"] ["self", "place"] (exScope "place") := ⟨rfl, rfl, rfl, by decide +kernel, rfl, by decide +kernel, by decide +kernel⟩
theorem okEx_place (F : FunD K "__init__" qual (exArgs "place" p1 p2 p3) (exBody "place" q1 q2 q3 q4) (exScope "place") [.non] [] fI fd) : FnOk P w K mg base CX0 1 fI fd ["self", "place"] (spExI K "place") := by
  refine F.ok scEx_place (fun vs H Q E h => ?_) (fun cdv A outer s H vs Q E hr h => ?_)
  · obtain ⟨a, C, y, rfl, _⟩ := h
    rfl
  · obtain ⟨a, C, y, rfl, T, noF, ha, k⟩ := h
    exact ⟨_, pss_one (ps_ost (pv 0) (pv 1)), ⟨_, rfl, _, rfl, a, C, rfl, T, noF, .inl ⟨ha, k⟩⟩⟩
theorem bindEx_place (F : FunD K "__init__" qual (exArgs "place" p1 p2 p3) (exBody "place" q1 q2 q3 q4) (exScope "place") [.non] [] fI fd) :
    (∀ (self u : Value) (s' : Shared), K.In s'.heap → BindsTo s' fd ⟨[self, u], []⟩ ((["self", "place"] : List Str).zip [self, u])) ∧ (∀ (self u : Value) (s' : Shared), K.In s'.heap → BindsTo s' fd ⟨[self], [("place", u)]⟩ ((["self", "place"] : List Str).zip [self, u])) ∧
    (∀ (self : Value) (s' : Shared), K.In s'.heap → BindsTo s' fd ⟨[self], []⟩ ((["self", "place"] : List Str).zip [self, .none])) := by
  obtain ⟨oc, od, dV, kV, doc, pm, an, cdv, ct, osl, rfl, lk, hcd, hD, hK⟩ := F.ex
  rcases hD with ⟨e, _⟩ | ⟨_, T, o, its, m, rfl, lT, oT, rT⟩
  · cases e
  · obtain rfl := one_none rT
    refine ⟨fun self u s' X => BindsTo.of_looks fun M => ?_, fun self u s' X => BindsTo.of_looks fun M => ?_, fun self s' X => BindsTo.of_looks fun M => ?_⟩
    · have e : ∃ k, bindArgs (PySem.W.fnOf "__init__" qual (exArgs "place" p1 p2 p3) (exBody "place" q1 q2 q3 q4) (exScope "place") (.ref T) kV doc pm an cdv ct) ⟨[self, u], []⟩ = seqItems? (.ref T) >>= k ∧ k (some [Value.none].toArray) = pure ((["self", "place"] : List Str).zip [self, u]) := ⟨_, rfl, rfl⟩
      obtain ⟨k, e1, e2⟩ := e
      rw [e1]
      exact looks_items X lT oT (.of_pure e2)
    · have e : ∃ k, bindArgs (PySem.W.fnOf "__init__" qual (exArgs "place" p1 p2 p3) (exBody "place" q1 q2 q3 q4) (exScope "place") (.ref T) kV doc pm an cdv ct) ⟨[self], [("place", u)]⟩ = seqItems? (.ref T) >>= k ∧ k (some [Value.none].toArray) = pure ((["self", "place"] : List Str).zip [self, u]) := ⟨_, rfl, rfl⟩
      obtain ⟨k, e1, e2⟩ := e
      rw [e1]
      exact looks_items X lT oT (.of_pure e2)
    · have e : ∃ k, bindArgs (PySem.W.fnOf "__init__" qual (exArgs "place" p1 p2 p3) (exBody "place" q1 q2 q3 q4) (exScope "place") (.ref T) kV doc pm an cdv ct) ⟨[self], []⟩ = seqItems? (.ref T) >>= k ∧ k (some [Value.none].toArray) = pure ((["self", "place"] : List Str).zip [self, .none]) := ⟨_, rfl, rfl⟩
      obtain ⟨k, e1, e2⟩ := e
      rw [e1]
      exact looks_items X lT oT (.of_pure e2)
theorem exm_place (gC : mg x = some (.ref C)) (oex : OexC K C) (xc : ExcC K C) (noF : PySem.W.findIn K (.ref C) "place" = some none) (iC : PySem.W.findIn K (.ref C) "__init__" = some (some (.ref fI))) (tI : PySem.W.typeIn K (.ref fI) = some (.type "function"))
    (F : FunD K "__init__" qual (exArgs "place" p1 p2 p3) (exBody "place" q1 q2 q3 q4) (exScope "place") [.non] [] fI fd) : ExM P w K mg base x C "place" :=
  ⟨gC, oex, xc, noF, fI, fd, _, iC, tI, okEx_place F, bindEx_place F⟩
end
end L2

set_option Elab.async false
set_option linter.all false
set_option maxRecDepth 100000
set_option maxHeartbeats 1000000
namespace L2
open PySem PySem.Spec PyProof.Rows
/-- a def's promise where no repr is under way around it -/
structure FnG (P : Program) (w : World) (K : PySem.W.Frag) (mg : Str → Option Value) (base : Heap) (k : Nat) (f : Addr) (fd : FuncData) (ps : List Str) (sp : Sp) : Prop where
  len : ∀ vs H Q E, sp vs H Q E → vs.length = ps.length
  go : ∀ (A : Around) (outer : List Env) (s : Shared) (H : Hp) (args : Args) (us : List Value) (vs : List V) (Q : VK) (E : XK), A.guards = some [] → Room k A → Env0 P w K mg base A outer s H → BindsTo s fd args (ps.zip us) → Vals vs us →
    sp vs H Q E → codeAny (model P w) A (.call (.ref f) args) (CR CX0 outer P w H s Q E) s
theorem FnOk.toG {P : Program} {w : World} {K : PySem.W.Frag} {mg : Str → Option Value} {base : Heap} {k : Nat} {f : Addr} {fd : FuncData} {ps : List Str} {sp : Sp} (F : FnOk P w K mg base CX0 k f fd ps sp) : FnG P w K mg base k f fd ps sp :=
  ⟨F.len, fun A outer s H args us vs Q E _ => F.run A outer s H args us vs Q E⟩
section
variable {P : Program} {w : World} {K : PySem.W.Frag} {mg : Str → Option Value} {base : Heap}
theorem Fun.okG {x qual : Str} {st : Stmt} {f : Addr} {fd : FuncData} {N ps : List Str} {k : Nat} {sp : Sp} (F : Fun K x qual st f fd) (S : FnScope N ps (defScope st)) (len : ∀ vs H Q E, sp vs H Q E → vs.length = ps.length)
    (body : ∀ (cdv : Value) (A : Around) (outer : List Env) (s : Shared) (H : Hp) (vs : List V) (Q : VK) (E : XK), A.guards = some [] → Room k (A.deeper (envOfC qual (defScope st) s.heap.objs.size f cdv)) → sp vs H Q E →
      ∃ t, PSs (cxOf CX0 P w K mg base N qual (defScope st) f cdv A outer s H E).nox (defBody st) t ∧ t { nx := fun _ H' => Q .non H', rt := Q } (start N vs) H) : FnG P w K mg base (k + 1) f fd ps sp := by
  obtain ⟨oc, od, kV, doc, pm, an, cdv, ct, osl, rfl, lk, hcd⟩ := F.ex
  refine ⟨len, fun A outer s H args us vs Q E gA hr e0 hb r hsp => ?_⟩
  have kept : ∀ b o, base.get? b = some o → s.heap.get? b = some o := fun b o e => (e0.bs b o e).1
  have kinds : ∀ y ∈ ps.zip us, (defScope st).names.lookup y.1 = some .local ∨ ((defScope st).names.lookup y.1 = some .cell ∧ ((cellsFrom (s.heap.objs.size + 1) (defScope st).names []).lookup y.1).isSome = true) := by
    rintro ⟨n, v⟩ hy
    exact (S.par n (List.of_mem_zip hy).1).imp id fun q => ⟨q, PySem.W.cellsFrom_some _ _ _ (.inl q)⟩
  obtain ⟨t, ht, hq⟩ := body cdv A outer s H vs Q E gA (hr.deeper _) hsp
  refine codeAny_call_function hr.depth (e0.mod.kin.keeps kept _ _ lk) rfl S.co S.gen rfl (PySem.W.codeRec_of (e0.mod.kin.keeps kept) hcd) (hb _ _ _ _ (wpAny_newFunctionEnv_cells S.kind kinds ?_))
  intro env he s1 x
  subst he
  refine ⟨(e0.mod.nolimit.keeps kept).keeps x.toInCall.keep, codeAny_func (wpAny_mono (ht.nox.run [] s1 (start N vs) H _ (inv_start S hr.hd e0 (len _ _ _ _ hsp) r x) hq) (fun fl s' hs => ?_) fun _ _ z => z)⟩
  have done : ∀ {σ' : St} {H' : Hp} {v : V} {u : Value}, Inv (cxOf CX0 P w K mg base N qual (defScope st) f cdv A outer s H E) [] σ' H' s' → RelV v u → Q v H' → CE outer P w H s Q u s' :=
    fun {σ' H' v u} J rv q => ⟨v, H', J.os, J.bare, J.base, J.hok, rv, q⟩
  match fl, hs with
  | .ret _, ⟨_, _, _, J, rv, q⟩ => exact done J rv q
  | .next, ⟨_, _, J, q⟩ => exact done (v := V.non) (u := Value.none) J rfl q
  | .brk, ⟨_, _, _, q⟩ => exact q.elim
  | .cont, ⟨_, _, _, q⟩ => exact q.elim
end
/-- the script alone may be tracked, as a thing known to the object; then the law's call -/
theorem call_lawG {P : Program} {w : World} {K : PySem.W.Frag} {mg mb : Str → Option Value} {k : Nat} {fa a : Addr} {fd : FuncData} {x : Str} {sp : Sp} {s₁ : Shared} {vs : List Value} {ns : List Int}
    (KX : K.In s₁.heap) (hns : s₁.heap.Ns mainGlobals mg) (hb : s₁.heap.Ns builtinsNs mb) (hbb : ∀ x : Str, x ≠ "__name__" → mb x = bootBuiltins x) (hlim : s₁.heap.NoLimit) (hg : s₁.gens = #[])
    (ha : s₁.heap.get? a = some { cls := .type "list", data := .seq vs.toArray }) (hi : IntsAre vs ns) (hl : ns.length ≤ sizeLine) (hr : Room k callerA)
    (F : ∀ base : Heap, K.In base → base.Ns mainGlobals mg → FnG P w K mg base k fa fd [x] sp) (hbind : ∀ (s : Shared) (u : Value), BindsTo s fd ⟨[u], []⟩ [(x, u)])
    (hsp : ∀ H : Hp, SqL K H a (ns.map V.int) → (∀ b u, H b = some u → ∃ o xs, u = .frz o (.lst xs)) → sp [.ref a] H (fun v _ => v = .bl true) fun _ _ _ => False) :
    codeAny (model P w) callerA (.call (.ref fa) ⟨[.ref a], []⟩) (fun r s' => r = .ok (.ret (.bool true)) ∧ OldK s₁.heap s'.heap ∧ s'.os = s₁.os ∧ AllBare s'.gens) s₁ := by
  have rv := vals_ints hi
  have from_ : ∀ H : Hp, SqL K H a (ns.map V.int) → HOk P w H s₁.heap → (∀ b u, H b = some u → b = a ∧ K.lookup a = none ∧ ∃ o xs, u = .frz o (.lst xs)) →
      codeAny (model P w) callerA (.call (.ref fa) ⟨[.ref a], []⟩) (fun r s' => r = .ok (.ret (.bool true)) ∧ OldK s₁.heap s'.heap ∧ s'.os = s₁.os ∧ AllBare s'.gens) s₁ := by
    intro H hS hok only
    have un_ : ∀ {b : Addr}, b ≠ a → H b = none := fun {b} n => by
      rcases q : H b with _ | u
      · rfl
      · exact absurd (only b u q).1 n
    have nsK : ∀ {b : Addr} {m : Str → Option Value}, s₁.heap.Ns b m → (hidT s₁.heap H).Ns b m := fun {b m} hn => by
      obtain ⟨o, es, ep, e, d, r⟩ := hn
      refine ⟨o, es, ep, hidT_get e (un_ fun z => ?_), d, r⟩
      rw [z, ha] at e
      obtain rfl := Option.some.inj e
      cases d
    have hKb : K.In (hidT s₁.heap H) := fun b o e => hidT_get (KX b o e) (by
      rcases q : H b with _ | u
      · rfl
      · obtain ⟨z, n, _⟩ := only b u q
        rw [z, n] at e
        cases e)
    obtain ⟨mc, c1, c2⟩ := hlim
    have e0 : Env0 P w K mg (hidT s₁.heap H) callerA [] s₁ H :=
      ⟨rfl, ⟨hKb, nsK hns, ⟨mb, nsK hb, hbb⟩, ⟨mc, nsK c1, c2⟩⟩, fun b o e => of_hidT e, Nat.le_of_eq (hidT_size _ _), trivial, fun b z => (List.not_mem_nil z).elim, hok, .of_eq hg⟩
    refine codeAny_mono ((F _ hKb (nsK hns)).go callerA [] s₁ H ⟨[.ref a], []⟩ [.ref a] [.ref a] _ _ rfl hr e0 (hbind s₁ (.ref a)) (.cons rfl .nil) (hsp H hS fun b u q => (only b u q).2.2)) fun r s' h => ?_
    match r, h with
    | .ok (.ret u), ⟨v, H', os, bare, un, hok', r', q⟩ =>
      obtain rfl : v = .bl true := q
      obtain rfl : u = Value.bool true := r'
      refine ⟨rfl, OldK.of_keep fun b o e => ?_, os, bare⟩
      rcases z : H b with _ | u
      · exact un.keep b o e z (fun y => List.not_mem_nil y) (fun y => List.not_mem_nil y)
      · obtain ⟨_, _, ob, xs, rfl⟩ := only b u z
        have e1 := (hok b _ z).1
        rw [e] at e1
        obtain rfl := Option.some.inj e1
        exact (hok' b _ (un.frzs b o _ z)).1
  rcases hk : K.lookup a with _ | o
  · refine from_ (fun b => if b = a then some (.frz { cls := .type "list", data := .seq vs.toArray } (.lst (ns.map V.int))) else none) (.inl (.inr ⟨_, if_pos rfl⟩)) (fun b u z => ?_) fun b u z => ?_
    all_goals
      (try dsimp only at z)
      by_cases n : b = a
      · rw [if_pos n] at z
        obtain rfl := Option.some.inj z
        first
          | exact ⟨n, hk, _, _, rfl⟩
          | (subst n; exact ⟨ha, by rw [List.length_map]; exact hl, vs, _, rv, ha⟩)
      · rw [if_neg n] at z
        cases z
  · have e := KX a o hk
    rw [ha] at e
    obtain rfl := Option.some.inj e
    exact from_ (fun _ => none) (.inr ⟨_, vs.toArray, _, hk, rfl, rfl, rfl, by rw [List.size_toArray, hi.length]; exact hl, by simpa using rv⟩) (fun b u z => by cases (show (none : Option HO) = some u from z)) fun b u z => by cases z
/-- the goal that the head leaves, from the law's promise -/
theorem walk_ofG {l : PySem.W.OpenLaw} {n k : Nat} {q : Program} {loose : List Str} {XP : (Str → Option Value) → Heap → Prop} {YP : World → Heap → Prop} {d : DefRec} {K : Params → PySem.W.Frag} {sp : World → Sp} {x : Str}
    (hn : l.most = some n) (hn2 : n ≤ sizeLine) (hdf : d.params.defaults = []) (hr : Room k callerA) (hY : ∀ (w : World) (h : Heap), YP w h → (K w.params).In h)
    (F : ∀ (w : World) (mg : Str → Option Value) (fa : Addr) (h : Heap), (K w.params).In h → h.Ns mainGlobals mg → mg d.name = some (.ref fa) →
      ∃ fd : FuncData, (∀ (s : Shared) (u : Value), BindsTo s fd ⟨[u], []⟩ [(x, u)]) ∧ ∀ base : Heap, (K w.params).In base → base.Ns mainGlobals mg → FnG l.prog w (K w.params) mg base k fa fd [x] (sp w))
    (hsp : ∀ (w : World) (H : Hp) (a : Addr) (ns : List Int), ns.length ≤ n → SqL (K w.params) H a (ns.map V.int) → (∀ b u, H b = some u → ∃ o xs, u = .frz o (.lst xs)) → sp w [.ref a] H (fun v _ => v = .bl true) fun _ _ _ => False) :
    PySem.W.WalkO q loose XP YP l.row.toRowW d [] (fun f vs => PySem.call f vs) := by
  refine Att.attach_call hn hdf ?_
  intro w s₀ s₁ mg mb fa o pm cd doc a vs ns G Y ho hd hcd hmg hobj hints hlen hg
  obtain ⟨fd, hb, hF⟩ := F w mg fa _ (hY w _ Y) G.T.g hmg
  exact call_lawG (hY w _ Y) G.T.g G.T.b G.T.builtins G.T.nolimit hg hobj hints (Nat.le_trans hlen hn2) hr hF hb fun H hS o => hsp w H a ns hlen hS o
end L2

set_option Elab.async false
set_option linter.all false
set_option maxRecDepth 100000
set_option maxHeartbeats 1000000
namespace L2
open PySem PySem.Spec PyProof.Rows
/-- the looks that ExcC and OexC want, as one Bool each -/
def xcB (K : PySem.W.Frag) (D : Addr) : Bool :=
  decide (PySem.W.findIn K (.ref D) "__getattribute__" = some (some (.builtin "BaseException.__getattribute__"))) && decide (PySem.W.findIn K (.ref D) "__getattr__" = some none) && decide (PySem.W.subIn K (.ref D) (.type "BaseException") = some true) && PySem.W.hasDictIn K D &&
  decide (PySem.W.findIn K (.ref D) "__class__" = some (some (.builtin "object.__class__"))) && decide (PySem.W.specialIn K (.builtin "object.__class__") "__get__" = some (some (.builtin "getset_descriptor.__get__"))) && decide (PySem.W.takesIn K (.builtin "object.__class__") = some true) && decide (PySem.W.mroIn K D (.type "object") = some true)
theorem xc_of {K : PySem.W.Frag} {D : Addr} (h : xcB K D = true) : ExcC K D := by
  simp only [xcB, Bool.and_eq_true, decide_eq_true_eq] at h
  obtain ⟨⟨⟨⟨⟨⟨⟨h1, h2⟩, h3⟩, h4⟩, h5⟩, h6⟩, h7⟩, h8⟩ := h
  exact ⟨h1, h2, h3, h4, h5, h6, h7, h8⟩
def oexB (K : PySem.W.Frag) (C : Addr) : Bool :=
  (match K.lookup C with
  | some ⟨.type "type", _, .cls cd, sl⟩ => (match cd.mro, sl.toList with
    | .ref C' :: bm, [_, _, _, _, some (.builtin n), _] => C' == C && n == "ValueError.__new__" && cd.hasDict && !cd.hasDel && PySem.HandSPX.refsVE bm
    | _, _ => false)
  | _ => false) && decide (PySem.W.findIn K (.ref C) "__setattr__" = some (some (.builtin "object.__setattr__"))) && decide (PySem.W.subIn K (.ref C) (.type "BaseException") = some true) && decide (PySem.W.typeIn K (.ref C) = some (.type "type")) && PySem.W.keepIn K (.ref C)
theorem oex_of {K : PySem.W.Frag} {C : Addr} (h : oexB K C = true) : OexC K C := by
  simp only [oexB, Bool.and_eq_true, decide_eq_true_eq] at h
  obtain ⟨⟨⟨⟨q, h2⟩, h3⟩, h4⟩, h5⟩ := h
  refine ⟨?_, h2, h3, h4, h5⟩
  split at q
  · rename_i dd cd sl ho
    split at q
    · rename_i C' bm k0 k1 k2 k3 n k5 hm hs
      simp only [Bool.and_eq_true, beq_iff_eq, Bool.not_eq_true'] at q
      obtain ⟨⟨⟨⟨rfl, rfl⟩, hd⟩, hdel⟩, ht⟩ := q
      obtain ⟨nm, bs, mro, ns, qn, hD, sn, sub, ab, col, del⟩ := cd
      obtain ⟨l⟩ := sl
      dsimp only at hm hdel hd hs
      subst hm hdel hd hs
      exact ⟨nm, qn, ns, bs, bm, sn, sub, ab, col, dd, k0, k1, k2, k3, k5, ho, ht⟩
    · cases q
  · cases q
/-- isinstance between own classes at cs: each is of itself alone -/
def apartB (K : PySem.W.Frag) (cs : List Addr) : Bool :=
  (List.range cs.length).all fun i => (List.range cs.length).all fun j => match cs[i]?, cs[j]? with
    | some c, some d => decide (PySem.W.kitOne K (.ref c) (.ref d) = some (decide (j = i)))
    | _, _ => false
theorem apart_of {K : PySem.W.Frag} {cs : List Addr} (h : apartB K cs = true) {i j : Nat} {c d : Addr} (hi : cs[i]? = some c) (hj : cs[j]? = some d) : PySem.W.kitOne K (.ref c) (.ref d) = some (decide (j = i)) := by
  have li := (List.getElem?_eq_some_iff.mp hi).1
  have lj := (List.getElem?_eq_some_iff.mp hj).1
  have h1 := List.all_eq_true.mp (List.all_eq_true.mp h i (List.mem_range.mpr li)) j (List.mem_range.mpr lj)
  rw [hi, hj] at h1
  exact of_decide_eq_true h1
def allB (cs : List Addr) (f : Addr → Bool) : Bool := cs.all f
theorem allB_of {cs : List Addr} {f : Addr → Bool} (h : allB cs f = true) {i : Nat} {c : Addr} (hi : cs[i]? = some c) : f c = true := List.all_eq_true.mp h c (List.mem_of_getElem? hi)
theorem Same.upd {H : Hp} {p : Addr} {o : HO} (h : H p = none) : Same H (L2.upd H p o) := fun b u q => by
  rw [upd_ne (ne_of_none q h)]
  exact q
/-- isinstance(x, C), x a name that holds an exception, C an own class or a built-in type -/
def tIsi (K : PySem.W.Frag) (i : Nat) (u : Value) : TE := fun σ H Q => ∃ e D fs b, σ[i]? = some (some (V.ref e)) ∧ ExT H e D fs ∧ ExcC K D ∧ PySem.W.kitOne K (.ref D) u = some b ∧ Q (.bl b) H
section
variable {X : Cx} {x y : Str} {C : Addr} {p q r pos : Pos} {i : Nat}
theorem pe_isi (hm : X.mg "isinstance" = none) (gC : X.mg y = some (.ref C)) (hN : X.N[i]? = some x := by rfl) (hv : Vis X.env.scope x := by first | exact Or.inl rfl | exact Or.inr (Or.inl rfl) | exact Or.inr (Or.inr rfl)) (hg : Gl X "isinstance" := by rfl) (hy : Gl X y := by rfl)
    (hd : (x == ("__debug__" : Str)) = false := by decide) (hcd : (x == ("__classdict__" : Str)) = false := by decide) (hd2 : (y == ("__debug__" : Str)) = false := by decide)
    (he : starEach (Expr.Name x q :: [Expr.Name y r]) X.env = (false, eval (Expr.Name x q) X.env) :: starEach [Expr.Name y r] X.env := by rfl) (hpl : (backTo pos (starEach [Expr.Name y r] X.env)).any (·.1) = false := by rfl)
    (he2 : starEach [Expr.Name y r] X.env = (false, eval (Expr.Name y r) X.env) :: starEach [] X.env := by rfl) :
    PE X (.Call (.Name "isinstance" p) [.Name x q, .Name y r] [] pos) (tIsi X.K i (.ref C)) := by
  refine ⟨fun pins s σ H Q I h => ?_⟩
  obtain ⟨e, D, fs, b, hs, ex, T, hk, hq⟩ := h
  exact (pe_callB (t := tCons (tVar i) (tCons (tC (.ref C)) tNil)) call_isX hg hm (by decide +kernel) (pa_cons (pv i hN hv hd hcd) (pa_cons (pe_glob hy gC rfl hd2) pa_nil) )).run pins s σ H Q I ⟨_, hs, e, D, fs, _, _, b, rfl, .own C, ex, T, hk, hq⟩
theorem pe_isiT {n : String} (hm : X.mg "isinstance" = none) (hmy : X.mg y = none) (hvy : bootBuiltins y = some (.type n)) (hN : X.N[i]? = some x := by rfl) (hv : Vis X.env.scope x := by first | exact Or.inl rfl | exact Or.inr (Or.inl rfl) | exact Or.inr (Or.inr rfl)) (hg : Gl X "isinstance" := by rfl) (hy : Gl X y := by rfl)
    (hd : (x == ("__debug__" : Str)) = false := by decide) (hcd : (x == ("__classdict__" : Str)) = false := by decide) (hn2 : y ≠ "__name__" := by decide) (hd2 : (y == ("__debug__" : Str)) = false := by decide)
    (he : starEach (Expr.Name x q :: [Expr.Name y r]) X.env = (false, eval (Expr.Name x q) X.env) :: starEach [Expr.Name y r] X.env := by rfl) (hpl : (backTo pos (starEach [Expr.Name y r] X.env)).any (·.1) = false := by rfl)
    (he2 : starEach [Expr.Name y r] X.env = (false, eval (Expr.Name y r) X.env) :: starEach [] X.env := by rfl) :
    PE X (.Call (.Name "isinstance" p) [.Name x q, .Name y r] [] pos) (tIsi X.K i (.type n)) := by
  refine ⟨fun pins s σ H Q I h => ?_⟩
  obtain ⟨e, D, fs, b, hs, ex, T, hk, hq⟩ := h
  exact (pe_callB (t := tCons (tVar i) (tCons (tC (.ty n)) tNil)) call_isX hg hm (by decide +kernel) (pa_cons (pv i hN hv hd hcd) (pa_cons (pe_bltn hy hmy hvy rfl hn2 hd2) pa_nil) )).run pins s σ H Q I ⟨_, hs, e, D, fs, _, _, b, rfl, .ty n, ex, T, hk, hq⟩
end
end L2

set_option Elab.async false
set_option linter.all false
set_option maxRecDepth 100000
set_option maxHeartbeats 1000000
namespace L2
open PySem PySem.Spec PyProof.Rows
/-- v shows as the data d: data without dicts, or a flat dict -/
inductive Shw (K : PySem.W.Frag) (H : Hp) : V → PyData → Prop where
  | dp {v : V} {d : PyData} (h : Dp K H v d) (n : d.hasDict = false) : Shw K H v d
  | d0 {q : Addr} (h : H q = some (.dK [])) : Shw K H (.ref q) (.dict [])
  | d1 {q : Addr} {x : Str} {i : Int} (h : H q = some (.dK [(.inr x, .int i)])) : Shw K H (.ref q) (.dict [(.str x, .int i)])
section
variable {X : Cx} {pins : List (Addr × Obj)} {σ : St} {H : Hp} {s : Shared}
theorem Shw.reads (I : Inv X pins σ H s) {v : V} {d : PyData} {u : Value} (h : Shw X.K H v d) (r : RelV v u) : ∃ as, Reads s.heap u d as ∧ (d.hasDict = true → sysModules ∉ as) := by
  cases h with
  | dp h n =>
    obtain ⟨as, q⟩ := Dp.reads I d v u h r
    exact ⟨as, q, fun z => by rw [n] at z; cases z⟩
  | @d0 q h =>
    obtain rfl : u = Value.ref q := r
    obtain ⟨_, ne, vs, kv, o, es, ep, ho, ex, hd, _, ps, _⟩ := dk_of I.hok h
    cases kv
    have e0 : es.toList = [] := by
      cases hl : es.toList with
      | nil => rfl
      | cons a l => rw [hl] at ps; cases ps
    refine ⟨_, Reads.dict (kvs := []) ho ex.1 hd (by rw [e0]; exact .nil) (by rw [e0]; exact .nil), fun _ hm => ?_⟩
    have hm' : sysModules ∈ [q] := by simpa using hm
    have e : sysModules = q := by simpa using hm'
    rw [← e] at ne
    exact absurd ne (by decide)
  | @d1 q x i h =>
    obtain rfl : u = Value.ref q := r
    obtain ⟨_, ne, vs, kv, o, es, ep, ho, ex, hd, _, ps, _⟩ := dk_of I.hok h
    cases kv with
    | @cons _ kw _ vs' hk kt =>
      cases kt
      obtain ⟨k, w'⟩ := kw
      obtain ⟨ek, ri⟩ := hk
      dsimp only at ek ri
      subst ek
      obtain ⟨t', rfl⟩ := (show ∃ t, w' = Value.int i t from ri)
      generalize hl : es.toList = l at ps
      cases ps with
      | @cons a _ l' _ k1 k2 pl =>
        cases pl
        rcases keyIs_shape (show keyIs (.inr x) a.key = true from k1) with ⟨_, _, z, _⟩ | ⟨y, ty, z, e2⟩
        · cases z
        · cases z
          refine ⟨_, Reads.dict (kvs := [(.str x, .int i)]) ho ex.1 hd (by rw [hl]; exact .cons (by show Reads s.heap a.key (.str x) _; rw [e2]; exact .str x ty) .nil) (by rw [hl]; exact .cons (by show Reads s.heap a.val (.int i) _; rw [k2]; exact .int i t') .nil), fun _ hm => ?_⟩
          have e : sysModules = q := by simpa using hm
          rw [← e] at ne
          exact absurd ne (by decide)
theorem Shw.readsAll (I : Inv X pins σ H s) {v : V} {d : PyData} (h : Shw X.K H v d) : ∀ (n : Nat) {us : List Value}, Vals (List.replicate n v) us → ∃ as, ReadsAll s.heap us (List.replicate n d) as ∧ (d.hasDict = true → sysModules ∉ as)
  | 0, _, .nil => ⟨_, .nil, fun _ hm => by cases hm⟩
  | n + 1, _, .cons r rs => by
    obtain ⟨as, q1, n1⟩ := Shw.reads I h r
    obtain ⟨bs, q2, n2⟩ := Shw.readsAll I h n rs
    exact ⟨_, .cons q1 q2, fun z hm => (List.mem_append.mp hm).elim (n1 z) (n2 z)⟩
end
theorem hasDict_rep (d : PyData) : ∀ n : Nat, PyData.hasDictAll (List.replicate n d) = true → d.hasDict = true
  | 0, h => by cases h
  | n + 1, h => by
    have h' : (d.hasDict || PyData.hasDictAll (List.replicate n d)) = true := h
    rcases Bool.or_eq_true_iff.mp h' with q | q
    · exact q
    · exact hasDict_rep d n q
theorem showable_rep {d : PyData} (h : d.showable = true) : ∀ n : Nat, PyData.showableAll (List.replicate n d) = true
  | 0 => rfl
  | n + 1 => by
    show (d.showable && PyData.showableAll (List.replicate n d)) = true
    rw [h, showable_rep h n]
    rfl
theorem depth_rep {d : PyData} : ∀ n : Nat, PyData.depthAll (List.replicate n d) ≤ d.depth
  | 0 => Nat.zero_le _
  | n + 1 => Nat.max_le.mpr ⟨Nat.le_refl _, depth_rep n⟩
/-- repr(xs), xs a list of one thing again and again -/
def rReprR (K : PySem.W.Frag) : List V → Hp → VK → Prop := fun xs H Q => ∃ (p : Addr) (n : Nat) (v : V) (d : PyData), xs = [.ref p] ∧ H p = some (.lst (List.replicate (n + 1) v)) ∧ Shw K H v d ∧ d.showable = true ∧ d.depth ≤ 20 ∧ (PyData.list (List.replicate (n + 1) d)).shown.length ≤ sizeLine ∧
  Q (.str (PyData.list (List.replicate (n + 1) d)).shown) H
theorem call_reprR {X : Cx} (hg : X.A.guards = some []) (hu : X.A.units + 64 < cLine) : CallR X (.builtin "repr") (rReprR X.K) := by
  intro pins s σ H xs us Q I r h
  obtain ⟨p, n, v, d, rfl, hp, hv, hs, hd, hz, q⟩ := h
  match us, r with
  | [_], .cons rp .nil =>
    obtain rfl := rp
    obtain ⟨_, its, m, rv, _, he⟩ := I.lstM hp
    obtain ⟨as, ra, na⟩ := Shw.readsAll I hv (n + 1) rv
    have hz' : (listText (PyData.shownAll (List.replicate (n + 1) d))).length ≤ sizeLine := by simpa only [PyData.shown] using hz
    obtain ⟨bs, hb, hk⟩ := ReprAllK.of_readsAll (prog := X.prog) (w := X.w) ra (showable_rep hs (n + 1)) (fun z => na (hasDict_rep d _ z)) (fun t ht => Nat.le_trans (listText_mem_le ht) hz')
    have out : Reads s.heap (.ref p) (.list (List.replicate (n + 1) d)) _ := .list he rfl rfl ra
    have dle : PyData.depthAll (List.replicate (n + 1) d) ≤ 20 := Nat.le_trans (depth_rep _) hd
    have hna : p ∉ bs := not_mem_of_deeper out (by simp only [PyData.depth]; omega) hb
    match its, rv, he, hk with
    | x :: l, _, he, hk =>
      refine call_repr_slot (T := "list") (idr := "list.__repr__") (by omega) ⟨_, he, rfl⟩ PySem.F.slot_list_repr.toG ?_
      refine call_list_reprK he rfl rfl hna (by simpa using hk.length_eq) (fun i y e => hk.item i y (by simpa using e)) hg (fun b _ => Clear.nil b) (by show X.A.units + 1 + _ < cLine; omega) (fun _ _ e => e) (fun h' u tk k => ?_) hz'
      exact ⟨_, _, rfl, .str (PyData.list (List.replicate (n + 1) d)).shown, H, I.kept (t' := tk) k, ⟨u, by simp only [PyData.shown]⟩, q⟩
/-- a text n times -/
def mulS (z : Str) (n : Int) : Str := if n < 1 then Str.empty else if (n == 1 || z.length == 0) = true then z else ⟨(List.replicate n.toNat z.cps).foldl (· ++ ·) #[]⟩
theorem op_mul_str {X : Cx} : OpR X (binaryOp .Mult) (fun x y H Q => ∃ (z : Str) (n : Int), x = .str z ∧ y = .int n ∧ 0 ≤ n ∧ n < 64 ∧ z.length ≤ 1000 ∧ (mulS z n).length ≤ sizeLine ∧ Q (.str (mulS z n)) H) := by
  intro pins s σ H x y v u Q I rx ry h
  obtain ⟨z, n, rfl, rfl, h0, h1, hz, hs, q⟩ := h
  obtain ⟨t, rfl⟩ := rx
  obtain ⟨t', rfl⟩ := ry
  refine PySem.P.mul_str (by rw [decide_eq_false (by omega), decide_eq_false (by omega)]; rfl) (fun h2 _ h3 => ?_) (fun h2 _ => ?_) ?_
  · have h4 : (2 ^ 63 - 1) / 64 ≤ ((2 ^ 63 - 1) / n : Int) := Int.le_ediv_of_mul_le (by omega) (by omega)
    omega
  · have h5 : z.length * n.toNat ≤ 1000 * 64 := Nat.mul_le_mul hz (by omega)
    unfold Builtin.Str.tooLong
    rw [sizeLine_eq]
    exact decide_eq_false (by omega)
  · unfold mulS at q hs
    by_cases c1 : n < 1
    · rw [if_pos c1] at q ⊢
      exact ⟨by decide, .str Str.empty, H, I.tok _, ⟨_, rfl⟩, q⟩
    · rw [if_neg c1] at q hs ⊢
      by_cases c2 : (n == 1 || z.length == 0) = true
      · rw [if_pos c2] at q ⊢
        exact ⟨.str z, H, I, ⟨_, rfl⟩, q⟩
      · rw [if_neg c2] at q hs ⊢
        exact ⟨hs, .str _, H, I.tok _, ⟨_, rfl⟩, q⟩
end L2

set_option Elab.async false
set_option linter.all false
set_option maxRecDepth 100000
set_option maxHeartbeats 1000000
namespace L2
open PySem PySem.Spec PyProof.Rows
/-- a new object at p, all else as it was: what is wanted of it -/
def NewQ (H : Hp) (o : HO) (Q : VK) : Prop := ∀ p H', Same H H' → H p = none → H' p = some o → Q (.ref p) H'
theorem NewQ.at {H : Hp} {o : HO} {Q : VK} (h : NewQ H o Q) {p : Addr} (n : H p = none) : Q (.ref p) (L2.upd H p o) := h p _ (Same.upd n) n upd_same
def tLstS (t : TA) : TE := fun σ H Q => t σ H fun xs H1 => xs.length ≤ sizeLine ∧ NewQ H1 (.lst xs) Q
def tTupS (t : TA) : TE := fun σ H Q => t σ H fun xs H1 => xs.length ≤ sizeLine ∧ NewQ H1 (.tup xs) Q
def rCatS : R2 := fun x y H Q => ∃ l b xs zs, x = .ref l ∧ y = .ref b ∧ H l = some (.lst xs) ∧ H b = some (.lst zs) ∧ xs.length + zs.length ≤ sizeLine ∧ NewQ H (.lst (xs ++ zs)) Q
def rRepS : R2 := fun x y H Q => ∃ l k xs, x = .ref l ∧ y = .int k ∧ H l = some (.lst xs) ∧ -(2 ^ 63) ≤ k ∧ k < 2 ^ 63 ∧ xs.length * k.toNat ≤ sizeLine ∧ NewQ H (.lst (List.replicate k.toNat xs).flatten) Q
def rSlW (K : PySem.W.Frag) : V → Option Int → Option Int → Hp → VK → Prop := fun x lo hi H Q => ∃ a xs, x = .ref a ∧ SqL K H a xs ∧ NewQ H (.lst (cutV xs lo hi)) Q
section
variable {X : Cx} {es : List Expr} {t : TA} {pos : Pos}
theorem pe_lstS (h : PA X es t) : PE X (.List es pos) (tLstS t) :=
  ⟨fun pins s σ H Q I hq => wpAny_List_spliced (thn (h.run pos pins s σ H _ I hq) fun us s1 ⟨xs, H1, I1, r, z, q⟩ => ⟨by rw [← r.length]; exact z,
    .ref s1.heap.objs.size, _, I1.laid (t' := s1.toks) (o := .lst xs) (fun _ _ e => Heap.get?_push_of_some _ e) (Nat.le_refl _) ⟨z, us, 0, r, Heap.get?_push_size _ rfl⟩, rfl, q.at I1.fresh⟩)⟩
theorem pe_tupS {x1} (h : PA X es t) : PE X (.Tuple es x1 pos) (tTupS t) :=
  ⟨fun pins s σ H Q I hq => wpAny_Tuple_spliced (thn (h.run pos pins s σ H _ I hq) fun us s1 ⟨xs, H1, I1, r, z, q⟩ => ⟨by rw [← r.length]; exact z,
    .ref s1.heap.objs.size, _, I1.laid (t' := s1.toks) (o := .tup xs) (fun _ _ e => Heap.get?_push_of_some _ e) (Nat.le_refl _) ⟨z, us, r, ⟨_, Heap.get?_push_size _ rfl, rfl, _, rfl⟩⟩, rfl, q.at I1.fresh⟩)⟩
theorem op_catS : OpR X (binaryOp .Add) rCatS := fun pins s σ H x y v u Q I rx ry ⟨l, b, xs, zs, e1, e2, h1, h2, hz, q⟩ => op_cat pins s σ H x y v u Q I rx ry ⟨l, b, xs, zs, e1, e2, h1, h2, hz, fun _ n => q.at n⟩
theorem op_repS : OpR X (binaryOp .Mult) rRepS := fun pins s σ H x y v u Q I rx ry ⟨l, k, xs, e1, e2, h1, h2, h3, hz, q⟩ => op_rep pins s σ H x y v u Q I rx ry ⟨l, k, xs, e1, e2, h1, h2, h3, hz, fun _ n => q.at n⟩
theorem sl_listS : SlR X (rSlW X.K) := fun pins s σ H x v vl vu lo hi sl Q I rx hs hl hh ⟨a, xs, e, h, q⟩ => sl_list pins s σ H x v vl vu lo hi sl Q I rx hs hl hh ⟨a, xs, e, h, fun _ n => q.at n⟩
/-- {} with text or int keys -/
theorem pe_dnewS : PE X (.Dict [] [] pos) (fun _ H Q => NewQ H (.dK []) Q) := ⟨fun pins s σ H Q I h => pe_dnewK.run pins s σ H Q I fun _ n => NewQ.at h n⟩
end
theorem Same.lst {H H' : Hp} {a : Addr} {o : HO} (S : Same H H') (h : H a = some o) : H' a = some o := S _ _ h
end L2

set_option Elab.async false
set_option linter.all false
set_option maxRecDepth 100000
set_option maxHeartbeats 1000000
/-! a + b, a * b, -a where a is an instance of an own class that says what they are. -/
namespace L2
open PySem PySem.Spec PyProof.Rows
theorem back_of {X : Cx} {pins : List (Addr × Obj)} {σ : St} {Q : VK} {u : Value} {s : Shared} (h : EP X pins σ Q u s) : PySem.W.CmpBack (EP X pins σ Q) u s := by
  obtain ⟨v, H, I, r, q⟩ := h
  have h : EP X pins σ Q u s := ⟨v, H, I, r, q⟩
  cases v with
  | non => obtain rfl := (show u = Value.none from r); exact h
  | bl b => obtain rfl := (show u = Value.bool b from r); exact h
  | int i => obtain ⟨t, rfl⟩ := (show ∃ t, u = Value.int i t from r); exact h
  | str i => obtain ⟨t, rfl⟩ := (show ∃ t, u = Value.str i t from r); exact h
  | byt i => obtain ⟨t, rfl⟩ := (show ∃ t, u = Value.bytes i t from r); exact h
  | flt i => obtain ⟨t, rfl⟩ := (show ∃ t, u = Value.float i t from r); exact h
  | ref a => obtain rfl := (show u = Value.ref a from r); exact h
  | ty n => obtain rfl := (show u = Value.type n from r); exact h
/-- what the class says of an operator's method -/
structure OwnOp (K : PySem.W.Frag) (C : Addr) (name : Str) (f : Addr) : Prop where
  first : PySem.W.selfFirst K C = true
  has : PySem.W.findIn K (.ref C) name = some (some (.ref f))
  fn : PySem.W.isFn K (.ref f) = true
/-- the same where the right side is a whole number: int's own slots, and no reflected method of the class's -/
structure OwnOpI (K : PySem.W.Frag) (C : Addr) (name : String) (f : Addr) : Prop where
  one : OwnOp K C (PySem.dunder name) f
  refl : ∃ rc, PySem.W.findIn K (.ref C) (dunderR name) = some rc ∧ (rc = none ∨ ∃ g : Addr, rc = some (.ref g))
  i1 : ∃ fo, PySem.W.findIn K (.type "int") (PySem.dunder name) = some fo
  i2 : ∃ ro, PySem.W.findIn K (.type "int") (dunderR name) = some ro
  sub : PySem.W.subIn K (.type "int") (.ref C) = some false
def rOwn (C : Addr) (sp : Sp) : R2 := fun x y H Q => ∃ p q dx fs dy gs, x = .ref p ∧ y = .ref q ∧ H p = some (.ins C dx fs) ∧ H q = some (.ins C dy gs) ∧ sp [x, y] H Q E0
def rOwnI (C : Addr) (sp : Sp) : R2 := fun x y H Q => ∃ p n dx fs, x = .ref p ∧ y = .int n ∧ H p = some (.ins C dx fs) ∧ sp [x, y] H Q E0
def rOwnN (C : Addr) (sp : Sp) : V → Hp → VK → Prop := fun x H Q => ∃ p dx fs, x = .ref p ∧ H p = some (.ins C dx fs) ∧ sp [x] H Q E0
section
variable {X : Cx} {op : Operator} {C f : Addr} {fd : FuncData} {ps : List Str} {sp : Sp} {k : Nat}
theorem inst_of {pins : List (Addr × Obj)} {σ : St} {H : Hp} {s : Shared} {p dx : Addr} {fs : List (Str × V)} (I : Inv X pins σ H s) (e : H p = some (.ins C dx fs)) : ∃ ox od, PySem.W.InstAt s.heap p ox C od := by
  obtain ⟨mA, O, _⟩ := ins_get I.hok e
  obtain ⟨od, J, _⟩ := O.look
  exact ⟨_, _, J⟩
theorem op_own (O : OwnOp X.K C (PySem.dunder op.info.2) f) (F : FnOk X.prog X.w X.K X.mg X.base CX0 k f fd ps sp) (hr : Room k X.A) (hb : Binds X.K fd ps []) : OpR X (binaryOp op) (rOwn C sp) := by
  intro pins s σ H x y v u Q I rx ry h
  obtain ⟨p, q, dx, fs, dy, gs, rfl, rfl, ep, eq, hq⟩ := h
  have run := run_fn (dvs := []) (E := E0) F hr hb .nil pass0 I (.cons rx (.cons ry .nil)) hq
  obtain rfl : v = Value.ref p := rx
  obtain rfl : u = Value.ref q := ry
  obtain ⟨ox, od, J⟩ := inst_of I ep
  obtain ⟨oy, oe, J2⟩ := inst_of I eq
  obtain ⟨m, fr⟩ := I.fr
  exact PySem.W.binop_K fr I.ok.mod.kin J J2.type O.first O.has O.fn (thn run fun _ _ z => back_of z)
theorem op_ownI (O : OwnOpI X.K C op.info.2 f) (F : FnOk X.prog X.w X.K X.mg X.base CX0 k f fd ps sp) (hr : Room k X.A) (hb : Binds X.K fd ps []) : OpR X (binaryOp op) (rOwnI C sp) := by
  intro pins s σ H x y v u Q I rx ry h
  obtain ⟨p, n, dx, fs, rfl, rfl, ep, hq⟩ := h
  have run := run_fn (dvs := []) (E := E0) F hr hb .nil pass0 I (.cons rx (.cons ry .nil)) hq
  obtain rfl : v = Value.ref p := rx
  obtain ⟨t, rfl⟩ := ry
  obtain ⟨ox, od, J⟩ := inst_of I ep
  obtain ⟨m, fr⟩ := I.fr
  obtain ⟨rc, r1, r2⟩ := O.refl
  obtain ⟨fo, i1⟩ := O.i1
  obtain ⟨ro, i2⟩ := O.i2
  exact PySem.W.ksp_binT fr I.ok.mod.kin J (T := "int") rfl O.one.first O.one.has O.one.fn r1 r2 i1 i2 O.sub (thn run fun _ _ z => back_of z)
theorem un_own (O : OwnOp X.K C "__neg__" f) (F : FnOk X.prog X.w X.K X.mg X.base CX0 k f fd ps sp) (hr : Room k X.A) (hb : Binds X.K fd ps []) : UnR X (unaryOp .USub) (rOwnN C sp) := by
  intro pins s σ H x v Q I rx h
  obtain ⟨p, dx, fs, rfl, ep, hq⟩ := h
  have run := run_fn (dvs := []) (E := E0) F hr hb .nil pass0 I (.cons rx .nil) hq
  obtain rfl : v = Value.ref p := rx
  obtain ⟨ox, od, J⟩ := inst_of I ep
  obtain ⟨m, fr⟩ := I.fr
  exact PySem.W.ksp_neg fr I.ok.mod.kin J O.has O.fn run
end
end L2

set_option Elab.async false
set_option linter.all false
set_option maxRecDepth 100000
set_option maxHeartbeats 1000000
/-! rows without forms: what is said of heaps, tests, powers -/
namespace L2
open PySem PySem.Spec PyProof.Rows
theorem iteD {p : Prop} [Decidable p] {A B : Prop} (h1 : p → A) (h2 : ¬ p → B) : if decide p = true then A else B := by
  by_cases h : p
  · rw [if_pos (decide_eq_true h)]; exact h1 h
  · rw [if_neg (by simpa using h)]; exact h2 h
theorem ifT {b : Bool} {A B : Prop} (h : b = true) (x : A) : if b = true then A else B := by rw [if_pos h]; exact x
theorem ifF {b : Bool} {A B : Prop} (h : b = false) (x : B) : if b = true then A else B := by rw [if_neg (by rw [h]; exact Bool.false_ne_true)]; exact x
def CPowX (i j : Int) : Prop := 0 ≤ j ∧ (Builtin.Int.intBits i : Int) * j ≤ 2 ^ 27
theorem op_powX {X : Cx} : OpR X (binaryOp .Pow) (rI CPowX fun i j => .int (i ^ j.toNat)) := opI fun _ _ _ _ _ _ _ hc q => pow_int hc.1 hc.2 q
/-- all but D as it was -/
def SameB (D : Addr) (H H' : Hp) : Prop := ∀ b o, b ≠ D → H b = some o → H' b = some o
theorem SameB.refl (D : Addr) (H : Hp) : SameB D H H := fun _ _ _ h => h
theorem SameB.to {D : Addr} {H H1 H2 : Hp} (S : SameB D H H1) (T : Same H1 H2) : SameB D H H2 := fun b o n h => T b o (S b o n h)
theorem SameB.trans {D : Addr} {H H1 H2 : Hp} (S : SameB D H H1) (T : SameB D H1 H2) : SameB D H H2 := fun b o n h => T b o n (S b o n h)
theorem SameB.upd {D : Addr} {H H1 : Hp} {o : HO} (S : SameB D H H1) : SameB D H (L2.upd H1 D o) := fun b u n h => by rw [upd_ne n]; exact S b u n h
theorem SqL.same {K : PySem.W.Frag} {H H' : Hp} {a : Addr} {xs : List V} (h : SqL K H a xs) (S : Same H H') : SqL K H' a xs := by
  rcases h with (h | ⟨o, h⟩) | h
  · exact .inl (.inl (S _ _ h))
  · exact .inl (.inr ⟨o, S _ _ h⟩)
  · exact .inr h
theorem SqL.sameB {K : PySem.W.Frag} {D : Addr} {H H' : Hp} {a : Addr} {xs : List V} (h : SqL K H a xs) (S : SameB D H H') (n : a ≠ D) : SqL K H' a xs := by
  rcases h with (h | ⟨o, h⟩) | h
  · exact .inl (.inl (S _ _ n h))
  · exact .inl (.inr ⟨o, S _ _ n h⟩)
  · exact .inr h
theorem seq_asg {te : TE} {i : Nat} {u : TS} {D : Ends} {σ : St} {H : Hp} (h : te σ H fun x H1 => u D (σ.set i (some x)) H1) : tSeq (tAsg te (gName i)) u D σ H := h
theorem te_mid {t : TE} {σ : St} {H : Hp} {Q : VK} (G : V → Hp → Prop) (h : ∀ R : VK, (∀ x H', G x H' → R x H') → t σ H R) (k : ∀ x H', G x H' → Q x H') : t σ H Q := h Q k
theorem ts_mid {t u : TS} {D : Ends} {σ : St} {H : Hp} (G : St → Hp → Prop) (h : ∀ N : St → Hp → Prop, (∀ σ' H', G σ' H' → N σ' H') → t { D with nx := N } σ H) (k : ∀ σ' H', G σ' H' → u D σ' H') : tSeq t u D σ H := h _ k
theorem cut_ints (ns : List Int) (lo hi : Option Int) : ∃ ms : List Int, cutV (ns.map V.int) lo hi = ms.map V.int :=
  ⟨(ns.drop (HT.sIx (ns.map V.int).length 0 lo)).take (HT.sIx (ns.map V.int).length (ns.map V.int).length hi - HT.sIx (ns.map V.int).length 0 lo), by unfold cutV; rw [← List.map_drop, ← List.map_take]⟩
end L2

set_option Elab.async false
set_option linter.all false
set_option maxRecDepth 100000
set_option maxHeartbeats 1000000
/-! the draws of stage 3's laws: _law_purse, _law_mixed, _law_draw -/
namespace E3
open PySem PySem.Spec PyProof.Rows L2
open C8 (Cal Mak Met InsC pe_c pe_mt pe_mt0 call_isC clsBody)
def top (i : Nat) : Stmt := PySem.Challenge.pw_cellplaces_k72_whole_rings.main.body.getD i (.Pass ⟨0, 0, 0, 0⟩)
abbrev sPurse : Stmt := top 18
abbrev sMixed : Stmt := top 19
abbrev sDraw : Stmt := top 20
abbrev sLaw : Stmt := top 24
structure Bt4 (mg : Str → Option Value) : Prop where
  sum_ : mg "sum" = none
  max_ : mg "max" = none
  rng_ : mg "range" = none
  len_ : mg "len" = none
/-- a purse, with so many draws left -/
def PurseAt (H : Hp) (a : Addr) (n : Nat) : Prop := ∃ p0 p1 p2 : Int, H a = some (.lst [.int p0, .int p1, .int p2]) ∧ 0 ≤ p0 ∧ p0 < 10 ^ 480 ∧ 0 ≤ p1 ∧ p1 < 2 ^ 31 ∧ 0 ≤ p2 ∧ p2 + n ≤ 2 ^ 60
theorem PurseAt.same {H H' : Hp} {a : Addr} {n : Nat} (h : PurseAt H a n) (S : Same H H') : PurseAt H' a n :=
  let ⟨p0, p1, p2, h1, h2⟩ := h
  ⟨p0, p1, p2, S _ _ h1, h2⟩
theorem PurseAt.less {H : Hp} {a : Addr} {n m : Nat} (h : PurseAt H a n) (l : m ≤ n) : PurseAt H a m :=
  let ⟨p0, p1, p2, h1, h2, h3, h4, h5, h6, h7⟩ := h
  ⟨p0, p1, p2, h1, h2, h3, h4, h5, h6, by omega⟩
def spPurse (K : PySem.W.Frag) : Sp := fun vs H Q _ => ∃ (sc : Addr) (i : Int) (ns : List Int), vs = [.ref sc, .int i] ∧ SqL K H sc (ns.map V.int) ∧ 0 ≤ i ∧ i < 100 ∧ ∀ H' p, Same H H' → H p = none → PurseAt H' p (2 ^ 59) → Q (.ref p) H'
def spMixed : Sp := fun vs H Q _ => ∃ a b : Int, vs = [.int a, .int b] ∧ 0 ≤ a ∧ a < 2 ^ 31 ∧ 0 ≤ b ∧ b < 2 ^ 61 ∧ ∀ r : Int, 0 ≤ r → r < 2147483587 → Q (.int r) H
def spDraw : Sp := fun vs H Q _ => ∃ (a : Addr) (many : Int) (n : Nat), vs = [.ref a, .int many] ∧ PurseAt H a (n + 4) ∧ 1 ≤ many ∧ many < 2 ^ 100 ∧ ∀ r H', 0 ≤ r → r < many → PurseAt H' a n → SameB a H H' → Q (.int r) H'
theorem bits_100 {m : Int} (h0 : 1 ≤ m) (h : m < 2 ^ 100) : Builtin.Int.intBits m ≤ 100 := by
  unfold Builtin.Int.intBits
  rw [if_neg (by intro e; have := eq_of_beq e; omega)]
  have h1 : m.natAbs < 2 ^ 100 := by
    have e : ((m.natAbs : Nat) : Int) = m := Int.natAbs_of_nonneg (by omega)
    have : ((m.natAbs : Nat) : Int) < ((2 ^ 100 : Nat) : Int) := by rw [e]; exact_mod_cast h
    exact Int.ofNat_lt.mp this
  have := PySem.Flt.log2_lt_of (by decide) h1
  omega
section
variable {P : Program} {w : World} {K : PySem.W.Frag} {mg : Str → Option Value} {base : Heap}
theorem scPurse : FnScope ["_law_script", "_law_at", "_law_cell"] ["_law_script", "_law_at"] (defScope sPurse) := ⟨rfl, rfl, rfl, by decide +kernel, rfl, by decide +kernel, by decide +kernel⟩
theorem ok_purse {f : Addr} {fd : FuncData} (F : Fun K "_law_purse" "_law_purse" sPurse f fd) (B : Bt4 mg) : FnOk P w K mg base CX0 1 f fd ["_law_script", "_law_at"] (spPurse K) := by
  refine F.ok scPurse (fun vs H Q E h => ?_) (fun cdv A outer s H vs Q E hr h => ?_)
  · obtain ⟨sc, i, ns, rfl, _⟩ := h
    rfl
  · obtain ⟨sc, i, ns, rfl, hs, i0, i1, k⟩ := h
    refine ⟨_, pss_cons (ps_set (i := 2) scPurse.nd rfl (Or.inl rfl) (pe_callB (cr_sum rfl) (by rfl) B.sum_ (by decide +kernel) (pa_cons (pe_slice sl_listS (pv 0) (po_some (pv 1)) (po_some (pe_op op_add (pv 1) pe_int))) pa_nil)))
      (pss_one (ps_ret (pe_lstS (pa_cons (pe_op op_mod (pe_callB (call_max2 rfl) (by rfl) B.max_ (by decide +kernel) (pa_cons (pe_op op_sub (pv 2) (pe_op op_pow pe_int pe_int)) (pa_cons pe_int pa_nil))) (pe_op op_powX (pe_op op_pow pe_int pe_int) pe_int))
        (pa_cons (pe_op op_mod (pv 2) pe_int) (pa_cons (pe_op op_mul pe_int (pv 1)) pa_nil)))))), ?_⟩
    obtain ⟨ms, hms⟩ := cut_ints ns (some i) (some (i + 1))
    refine ⟨_, rfl, _, rfl, i, rfl, _, rfl, i, 1, rfl, rfl, i + 1, rfl, sc, _, rfl, hs, fun pc H1 S1 n1 h1 => ?_⟩
    rw [hms] at h1
    refine ⟨pc, ms, rfl, SqL.of h1, ?_⟩
    have c1 : CPow 10 18 := ⟨by decide, by decide, by decide⟩
    have c2 : CPow 10 60 := ⟨by decide, by decide, by decide⟩
    have c3 : CPowX ((10 : Int) ^ (60 : Int).toNat) 8 := ⟨by decide, by decide +kernel⟩
    refine ⟨_, rfl, 10, 18, rfl, rfl, c1, _, _, rfl, rfl, _, _, rfl, ?_⟩
    refine ⟨10, 60, rfl, rfl, c2, _, 8, rfl, rfl, c3, _, _, rfl, rfl, (show (0 : Int) < ((10 : Int) ^ (60 : Int).toNat) ^ (8 : Int).toNat by decide +kernel), ?_⟩
    refine ⟨_, rfl, _, _, rfl, rfl, (show (0 : Int) < 2147483629 by decide), _, rfl, _, _, rfl, rfl, .inl (by constructor <;> decide), (by show 3 ≤ sizeLine; decide), fun p H2 S2 np hp => ?_⟩
    refine k H2 p (S1.trans S2) (S1.free np) ⟨_, _, _, hp, Int.emod_nonneg _ (by decide +kernel), ?_, Int.emod_nonneg _ (by decide), ?_, by omega, by omega⟩
    · have e : ((10 : Int) ^ (60 : Int).toNat) ^ (8 : Int).toNat = 10 ^ 480 := by decide +kernel
      rw [e]
      exact Int.emod_lt_of_pos _ (by decide +kernel)
    · exact Int.lt_trans (Int.emod_lt_of_pos _ (by decide)) (by decide)
theorem scMixed : FnScope ["_law_seed", "_law_step", "_law_found"] ["_law_seed", "_law_step"] (defScope sMixed) := ⟨rfl, rfl, rfl, by decide +kernel, rfl, by decide +kernel, by decide +kernel⟩
theorem ok_mixed {f : Addr} {fd : FuncData} (F : Fun K "_law_mixed" "_law_mixed" sMixed f fd) : FnOk P w K mg base CX0 1 f fd ["_law_seed", "_law_step"] spMixed := by
  refine F.ok scMixed (fun vs H Q E h => ?_) (fun cdv A outer s H vs Q E hr h => ?_)
  · obtain ⟨a, b, rfl, _⟩ := h
    rfl
  · obtain ⟨a, b, rfl, a0, a1, b0, b1, k⟩ := h
    refine ⟨_, pss_cons (ps_set (i := 2) scMixed.nd rfl (Or.inl rfl) (pe_op op_mod (pe_op op_add (pe_op op_add (pe_op op_mul (pv 0) pe_int) (pe_op op_mul (pe_op op_mul pe_int (pv 1)) (pv 1))) (pv 1)) pe_int))
      (pss_cons (ps_set (i := 2) scMixed.nd rfl (Or.inl rfl) (pe_op op_mod (pe_op op_add (pe_op op_mul (pv 2) (pv 2)) pe_int) pe_int))
      (pss_one (ps_ret (pe_op op_mod (pe_op op_mul (pv 2) pe_int) pe_int)))), ?_⟩
    refine ⟨_, rfl, _, _, rfl, rfl, .inr (by constructor <;> decide), _, rfl, _, _, rfl, rfl, .inl (by constructor <;> decide), _, rfl, _, _, rfl, rfl, .inr ⟨by omega, by omega⟩, _, _, rfl, rfl, _, rfl, _, _, rfl, rfl, _, _, rfl, rfl, (show (0 : Int) < 2147483647 by decide), ?_⟩
    generalize hm : (a * 69069 + 104729 * b * b + b) % 2147483647 = m
    have m0 : 0 ≤ m := hm ▸ Int.emod_nonneg _ (by decide)
    have m1 : m < 2147483647 := hm ▸ Int.emod_lt_of_pos _ (by decide)
    refine ⟨_, rfl, _, rfl, _, _, rfl, rfl, .inr ⟨by omega, by omega⟩, _, _, rfl, rfl, _, _, rfl, rfl, (show (0 : Int) < 2147483629 by decide), ?_⟩
    refine ⟨_, rfl, _, _, rfl, rfl, .inr (by constructor <;> decide), _, _, rfl, rfl, (show (0 : Int) < 2147483587 by decide), ?_⟩
    exact k _ (Int.emod_nonneg _ (by decide)) (Int.emod_lt_of_pos _ (by decide))
theorem scDraw : FnScope ["_law_purse_here", "_law_many", "_law_drawn", "_law_found", "_law_piece"] ["_law_purse_here", "_law_many"] (defScope sDraw) := ⟨rfl, rfl, rfl, by decide +kernel, rfl, by decide +kernel, by decide +kernel⟩
theorem ok_draw {f : Addr} {fd : FuncData} (F : Fun K "_law_draw" "_law_draw" sDraw f fd) (B : Bt4 mg) (M : Cal P w K mg base 1 "_law_mixed" spMixed []) : FnOk P w K mg base CX0 2 f fd ["_law_purse_here", "_law_many"] spDraw := by
  refine F.ok scDraw (fun vs H Q E h => ?_) (fun cdv A outer s H vs Q E hr h => ?_)
  · obtain ⟨a, many, n, rfl, _⟩ := h
    rfl
  · obtain ⟨a, many, n, rfl, ⟨p0, p1, p2, hp, a0, a1, b0, b1, c0, c1⟩, m1, m2, k⟩ := h
    refine ⟨_, pss_cons (ps_if (pt_cmpR op_gt (pe_ix ix_list (pv 0) pe_int (fun _ _ => rfl)) pe_int (by rfl))
        (pss_cons (ps_set (i := 2) scDraw.nd rfl (Or.inl rfl) (pe_op op_mod (pe_ix ix_list (pv 0) pe_int (fun _ _ => rfl)) (pv 1)))
        (pss_cons (ps_asg (pe_op op_fdivW (pe_ix ix_list (pv 0) pe_int (fun _ _ => rfl)) (pv 1)) (pg_sub (pv 0) pe_int set_list))
        (pss_one (ps_ret (pv 2))))) pss_nil)
      (pss_cons (ps_set (i := 3) scDraw.nd rfl (Or.inl rfl) pe_int)
      (pss_cons (ps_for PassesOwn.never rfl (pi_range1 rfl B.rng_ (pa_cons (pe_op op_add pe_int (pe_op op_fdiv (pe_bits (pv 1)) pe_int)) pa_nil)) (pg_name (i := 4) scDraw.nd rfl (Or.inl rfl))
        (pss_cons (ps_asg (pe_op op_add (pe_ix ix_list (pv 0) pe_int (fun _ _ => rfl)) pe_int) (pg_sub (pv 0) pe_int set_list))
        (pss_one (ps_set (i := 3) scDraw.nd rfl (Or.inl rfl) (pe_op op_add (pe_op op_mul (pv 3) pe_int) (pe_c M hr (by decide) rfl (pa_cons (pe_ix ix_list (pv 0) pe_int (fun _ _ => rfl)) (pa_cons (pe_ix ix_list (pv 0) pe_int (fun _ _ => rfl)) pa_nil))))))))
      (pss_one (ps_ret (pe_op op_mod (pv 3) (pv 1)))))), ?_⟩
    have ml : CDivW p0 many := by
      refine ⟨by omega, ?_⟩
      have h1 := bits_100 m1 m2
      unfold Builtin.Int.intBits at h1
      rw [if_neg (by intro e; have := eq_of_beq e; omega)] at h1
      omega
    refine ⟨_, rfl, a, _, 0, _, rfl, rfl, SqL.of hp, rfl, _, _, rfl, rfl, _, rfl, iteD (fun h => ?_) (fun h => ?_)⟩
    · refine ⟨_, rfl, a, _, 0, _, rfl, rfl, SqL.of hp, rfl, _, rfl, _, _, rfl, rfl, (show 0 < many by omega), ?_⟩
      refine ⟨_, rfl, a, _, 0, _, rfl, rfl, SqL.of hp, rfl, _, rfl, _, _, rfl, rfl, ml, _, rfl, a, _, 0, 0, rfl, rfl, hp, rfl, ?_⟩
      refine ⟨_, rfl, k _ _ (Int.emod_nonneg _ (by omega)) (Int.emod_lt_of_pos _ (by omega)) ⟨p0 / many, p1, p2, upd_same, Int.ediv_nonneg a0 (by omega), Int.lt_of_le_of_lt (Int.ediv_le_self _ a0) a1, b0, b1, c0, by omega⟩ fun c o nc e => by rw [upd_ne nc]; exact e⟩
    · dsimp only [tNext]
      refine seq_asg ?_
      dsimp only [tC]
      have bb := bits_100 m1 m2
      have jn : ((1 + ((Builtin.Int.intBits many : Nat) : Int) / 28)).toNat ≤ 4 := by omega
      refine ⟨_, rfl, many, rfl, _, 28, rfl, rfl, (by constructor <;> decide), _, _, rfl, rfl, _, rfl, ?_⟩
      refine ⟨by omega, by omega, for_it (walk_range (n := (1 + ((Builtin.Int.intBits many : Nat) : Int) / 28).toNat)) (fun i σ' H' => (∃ fnd v, σ' = [some (.ref a), some (.int many), none, some (.int fnd), v]) ∧ SameB a H H' ∧ H' a = some (.lst [.int p0, .int p1, .int (p2 + (i : Nat))])) ⟨⟨0, none, rfl⟩, SameB.refl _ _, by rw [hp]; simp⟩ (fun _ _ _ _ _ => trivial) ?_ ?_⟩
      · rintro i x σ' H1 H2 hi ⟨⟨fnd, v, rfl⟩, S, hp'⟩ ⟨rfl, rfl⟩
        have hi4 : i < 4 := Nat.lt_of_lt_of_le hi jn
        refine ⟨_, rfl, a, _, 2, _, rfl, rfl, SqL.of hp', rfl, _, _, rfl, rfl, _, rfl, a, _, 2, 2, rfl, rfl, hp', rfl, ?_⟩
        have hq : (upd H2 a (.lst [.int p0, .int p1, .int (p2 + (i : Nat) + 1)])) a = some (.lst [.int p0, .int p1, .int (p2 + (i : Nat) + 1)]) := upd_same
        have sq : SqL K (upd H2 a (.lst [.int p0, .int p1, .int (p2 + (i : Nat) + 1)])) a [.int p0, .int p1, .int (p2 + (i : Nat) + 1)] := SqL.of hq
        refine ⟨_, rfl, _, _, rfl, rfl, .inr (by constructor <;> decide), _, rfl, a, _, 1, _, rfl, rfl, sq, rfl, _, rfl, a, _, 2, _, rfl, rfl, sq, rfl, p1, p2 + (i : Nat) + 1, rfl, b0, b1, by omega, by omega, fun r r0 r1 => ⟨_, _, rfl, rfl, ⟨_, _, rfl⟩, S.upd, ?_⟩⟩
        rw [upd_same]
        have e : p2 + ((i + 1 : Nat) : Int) = p2 + (i : Nat) + 1 := by omega
        rw [e]
        rfl
      · rintro σ' H1 ⟨⟨fnd, v, rfl⟩, S, hp'⟩
        dsimp only
        exact ⟨_, rfl, _, rfl, _, _, rfl, rfl, (show 0 < many by omega), k _ _ (Int.emod_nonneg _ (by omega)) (Int.emod_lt_of_pos _ (by omega)) ⟨p0, p1, _, hp', a0, a1, b0, b1, by omega, by omega⟩ S⟩
end
end E3

set_option linter.all false
set_option maxHeartbeats 400000
/-! rings: the mirrors -/
namespace E3
def pw (b e m : Nat) : Nat := if e = 0 then 1 else b ^ e % m
theorem pw_step {b e m f c x : Nat} (hx : 0 < x) (h : (f * c ^ x) % m = b ^ e % m ∧ 0 < e) :
    (x / 2 = 0 → (if x % 2 = 1 then f * c % m else f) = pw b e m) ∧ (0 < x / 2 → ((if x % 2 = 1 then f * c % m else f) * (c * c % m) ^ (x / 2)) % m = b ^ e % m ∧ 0 < e) := by
  obtain ⟨h1, h2⟩ := h
  refine ⟨fun z => ?_, fun z => ⟨?_, h2⟩⟩
  · have : x = 1 := by omega
    subst this
    rw [if_pos rfl]
    unfold pw
    rw [if_neg (by omega), ← h1, Nat.pow_one]
  · have k : (c * c % m) ^ (x / 2) % m = c ^ (2 * (x / 2)) % m := by
      rw [← Nat.pow_mod, Nat.pow_mul, Nat.pow_two]
    by_cases o : x % 2 = 1
    · rw [if_pos o, Nat.mul_mod, k, Nat.mod_mod, ← Nat.mul_mod, ← h1, Nat.mul_assoc]
      have e1 : x = 2 * (x / 2) + 1 := by omega
      have e2 : c * c ^ (2 * (x / 2)) = c ^ x := by
        conv => rhs; rw [e1, Nat.pow_succ, Nat.mul_comm]
      rw [e2]
    · rw [if_neg o, Nat.mul_mod, k, ← Nat.mul_mod, ← h1]
      have e1 : 2 * (x / 2) = x := by omega
      rw [e1]
/-! powers taken out -/
def stripGo : Nat → Nat → Nat → Nat → Nat × Nat
  | 0, _, v, e => (v, e)
  | n + 1, p, v, e => if v % p = 0 then stripGo n p (v / p) (e + 1) else (v, e)
def facFin (v : Nat) (acc : List (Nat × Nat)) : List (Nat × Nat) := if 1 < v then acc ++ [(v, 1)] else acc
def facGo : Nat → Nat → Nat → List (Nat × Nat) → List (Nat × Nat)
  | 0, _, v, acc => facFin v acc
  | n + 1, p, v, acc => if p * p ≤ v then facGo n (p + 1) (stripGo v p v 0).1 (if 0 < (stripGo v p v 0).2 then acc ++ [(p, (stripGo v p v 0).2)] else acc) else facFin v acc
def facM (v : Nat) : List (Nat × Nat) := facGo v 2 v []
def prodF (l : List (Nat × Nat)) : Nat := l.foldr (fun x r => x.1 ^ x.2 * r) 1
theorem prodF_app (l m : List (Nat × Nat)) : prodF (l ++ m) = prodF l * prodF m := by
  induction l with
  | nil => simp [prodF]
  | cons x l ih =>
    have : prodF (x :: l ++ m) = x.1 ^ x.2 * prodF (l ++ m) := rfl
    rw [this, ih, ← Nat.mul_assoc]; rfl
theorem strip_ok : ∀ (n p v e : Nat), 2 ≤ p → 1 ≤ v → (stripGo n p v e).1 * p ^ (stripGo n p v e).2 = v * p ^ e ∧ 1 ≤ (stripGo n p v e).1 ∧ (stripGo n p v e).1 ≤ v ∧ e ≤ (stripGo n p v e).2
  | 0, p, v, e, h, h1 => ⟨rfl, h1, Nat.le_refl _, Nat.le_refl _⟩
  | n + 1, p, v, e, h, h1 => by
    unfold stripGo
    by_cases z : v % p = 0
    · rw [if_pos z]
      have d := Nat.div_add_mod v p
      rw [z, Nat.add_zero] at d
      have hv : 1 ≤ v / p := Nat.pos_of_ne_zero fun q => by rw [q, Nat.mul_zero] at d; omega
      obtain ⟨a, b, c, g⟩ := strip_ok n p (v / p) (e + 1) h hv
      refine ⟨?_, b, Nat.le_trans c (Nat.div_le_self _ _), by omega⟩
      rw [a, Nat.pow_succ]
      conv => rhs; rw [← d]
      rw [Nat.mul_comm (p ^ e) p, ← Nat.mul_assoc, Nat.mul_comm (v / p) p]
    · rw [if_neg z]
      exact ⟨rfl, h1, Nat.le_refl _, Nat.le_refl _⟩
def Good (l : List (Nat × Nat)) : Prop := ∀ x ∈ l, 2 ≤ x.1 ∧ 1 ≤ x.2
theorem fin_ok {v : Nat} {acc : List (Nat × Nat)} (hv : 1 ≤ v) (g : Good acc) : Good (facFin v acc) ∧ prodF (facFin v acc) = prodF acc * v := by
  unfold facFin
  by_cases z : 1 < v
  · rw [if_pos z]
    refine ⟨fun x hx => ?_, ?_⟩
    · rcases List.mem_append.mp hx with h | h
      · exact g x h
      · obtain rfl := List.mem_singleton.mp h
        exact ⟨z, Nat.le_refl _⟩
    · rw [prodF_app]; simp [prodF]
  · rw [if_neg z]
    have : v = 1 := by omega
    subst this
    exact ⟨g, by simp⟩
theorem facGo_ok : ∀ (n p v : Nat) (acc : List (Nat × Nat)), 2 ≤ p → 1 ≤ v → Good acc → Good (facGo n p v acc) ∧ prodF (facGo n p v acc) = prodF acc * v
  | 0, p, v, acc, h, hv, g => fin_ok hv g
  | n + 1, p, v, acc, h, hv, g => by
    unfold facGo
    by_cases z : p * p ≤ v
    · rw [if_pos z]
      obtain ⟨a, b, c, d⟩ := strip_ok v p v 0 h hv
      generalize stripGo v p v 0 = s at a b c d
      have g2 : Good (if 0 < s.2 then acc ++ [(p, s.2)] else acc) := by
        by_cases y : 0 < s.2
        · rw [if_pos y]
          intro x hx
          rcases List.mem_append.mp hx with h' | h'
          · exact g x h'
          · obtain rfl := List.mem_singleton.mp h'
            exact ⟨h, y⟩
        · rw [if_neg y]; exact g
      obtain ⟨r1, r2⟩ := facGo_ok n (p + 1) s.1 _ (by omega) b g2
      refine ⟨r1, r2.trans ?_⟩
      by_cases y : 0 < s.2
      · rw [if_pos y, prodF_app]
        have : prodF [(p, s.2)] = p ^ s.2 := by simp [prodF]
        rw [this, Nat.mul_assoc, Nat.mul_comm (p ^ s.2), a]; simp
      · rw [if_neg y]
        have : s.2 = 0 := by omega
        rw [this] at a
        simp at a
        rw [a]
    · rw [if_neg z]
      exact fin_ok hv g
theorem facM_ok {v : Nat} (hv : 1 ≤ v) : Good (facM v) ∧ prodF (facM v) = v := by
  obtain ⟨a, b⟩ := facGo_ok v 2 v [] (by decide) hv (fun x hx => by cases hx)
  exact ⟨a, by unfold facM; rw [b]; simp [prodF]⟩
theorem prodF_pos {l : List (Nat × Nat)} (g : Good l) : 1 ≤ prodF l := by
  induction l with
  | nil => exact Nat.le_refl _
  | cons x l ih =>
    have h1 := ih fun y hy => g y (List.mem_cons_of_mem _ hy)
    have h2 : 0 < x.1 ^ x.2 := Nat.pow_pos (by have := (g x (List.mem_cons_self ..)).1; omega)
    exact Nat.mul_pos h2 h1
theorem prodF_take_le {l : List (Nat × Nat)} (g : Good l) (i : Nat) : prodF (l.take i) ≤ prodF l := by
  have e : prodF l = prodF (l.take i) * prodF (l.drop i) := by rw [← prodF_app, List.take_append_drop]
  rw [e]
  exact Nat.le_mul_of_pos_right _ (prodF_pos fun y hy => g y (List.mem_of_mem_drop hy))
theorem prodF_take_succ {l : List (Nat × Nat)} {i : Nat} {x : Nat × Nat} (h : l[i]? = some x) : prodF (l.take (i + 1)) = prodF (l.take i) * x.1 ^ x.2 := by
  rw [List.take_succ, h, prodF_app]; simp [prodF]
theorem prodF_mem_le {l : List (Nat × Nat)} (g : Good l) {x : Nat × Nat} (h : x ∈ l) : x.1 ^ x.2 ≤ prodF l := by
  induction l with
  | nil => cases h
  | cons y l ih =>
    have gl : Good l := fun z hz => g z (List.mem_cons_of_mem _ hz)
    have p1 := prodF_pos gl
    have p2 : 0 < y.1 ^ y.2 := Nat.pow_pos (by have := (g y (List.mem_cons_self ..)).1; omega)
    rcases List.mem_cons.mp h with rfl | h
    · exact Nat.le_mul_of_pos_right _ p1
    · exact Nat.le_trans (ih gl h) (Nat.le_mul_of_pos_left _ p2)
/-! orders -/
def unitsM (p e : Nat) : Nat := (p - 1) * p ^ (e - 1)
def ordLoop : Nat → Nat → Nat → Nat → Nat → Nat
  | 0, _, _, _, f => f
  | n + 1, b, m, q, f => if f % q = 0 ∧ pw b (f / q) m = 1 then ordLoop n b m q (f / q) else f
def ordM (b p e : Nat) : Nat := (facM (unitsM p e)).foldl (fun f x => ordLoop f b (p ^ e) x.1 f) (unitsM p e)
theorem units_pos {p e : Nat} (hp : 2 ≤ p) : 1 ≤ unitsM p e := Nat.mul_pos (by omega) (Nat.pow_pos (by omega))
theorem units_le {p e : Nat} (hp : 2 ≤ p) (he : 1 ≤ e) : unitsM p e ≤ p ^ e := by
  unfold unitsM
  have : e = (e - 1) + 1 := by omega
  conv => rhs; rw [this, Nat.pow_succ, Nat.mul_comm]
  exact Nat.mul_le_mul_right _ (by omega)
theorem units_div {p e : Nat} (hp : 2 ≤ p) (he : 1 ≤ e) : unitsM p e / (p - 1) * p = p ^ e := by
  unfold unitsM
  rw [Nat.mul_div_cancel_left _ (by omega : 0 < p - 1), ← Nat.pow_succ]
  congr 1; omega
theorem div_pos' {f q : Nat} (hf : 1 ≤ f) (h : f % q = 0) : 1 ≤ f / q := Nat.pos_of_ne_zero fun z => by
  have d := Nat.div_add_mod f q
  rw [h, z, Nat.mul_zero] at d
  omega
theorem ordLoop_ok : ∀ (n b m q f : Nat), 1 ≤ f → 1 ≤ ordLoop n b m q f ∧ ordLoop n b m q f ≤ f
  | 0, _, _, _, f, h => ⟨h, Nat.le_refl _⟩
  | n + 1, b, m, q, f, h => by
    unfold ordLoop
    by_cases z : f % q = 0 ∧ pw b (f / q) m = 1
    · rw [if_pos z]
      obtain ⟨a, c⟩ := ordLoop_ok n b m q (f / q) (div_pos' h z.1)
      exact ⟨a, Nat.le_trans c (Nat.div_le_self _ _)⟩
    · rw [if_neg z]
      exact ⟨h, Nat.le_refl _⟩
theorem ordFold_ok (b m : Nat) : ∀ (l : List (Nat × Nat)) (f : Nat), 1 ≤ f → 1 ≤ l.foldl (fun f x => ordLoop f b m x.1 f) f ∧ l.foldl (fun f x => ordLoop f b m x.1 f) f ≤ f
  | [], f, h => ⟨h, Nat.le_refl _⟩
  | x :: l, f, h => by
    obtain ⟨a, c⟩ := ordLoop_ok f b m x.1 f h
    obtain ⟨a2, c2⟩ := ordFold_ok b m l _ a
    exact ⟨a2, Nat.le_trans c2 c⟩
theorem ordM_ok {b p e : Nat} (hp : 2 ≤ p) : 1 ≤ ordM b p e ∧ ordM b p e ≤ unitsM p e := ordFold_ok b (p ^ e) _ _ (units_pos hp)
/-! rings -/
def lcmF (r : Nat) (l : List (Nat × Nat)) : Nat := l.foldl (fun f x => Nat.lcm f (ordM r x.1 x.2)) 1
theorem lcm_le {a b : Nat} (ha : 1 ≤ a) (hb : 1 ≤ b) : 1 ≤ Nat.lcm a b ∧ Nat.lcm a b ≤ a * b := by
  refine ⟨Nat.lcm_pos ha hb, ?_⟩
  exact Nat.le_of_dvd (Nat.mul_pos ha hb) (Nat.lcm_dvd (Nat.dvd_mul_right a b) (Nat.dvd_mul_left b a))
theorem lcmF_take {r : Nat} {l : List (Nat × Nat)} {i : Nat} {x : Nat × Nat} (h : l[i]? = some x) : lcmF r (l.take (i + 1)) = Nat.lcm (lcmF r (l.take i)) (ordM r x.1 x.2) := by
  unfold lcmF
  rw [List.take_succ, h, List.foldl_append]; rfl
theorem lcmF_ok {r : Nat} {l : List (Nat × Nat)} (g : Good l) : ∀ i, 1 ≤ lcmF r (l.take i) ∧ lcmF r (l.take i) ≤ prodF (l.take i)
  | 0 => ⟨Nat.le_refl _, Nat.le_refl _⟩
  | i + 1 => by
    obtain ⟨a, b⟩ := lcmF_ok g (r := r) i
    by_cases h : i < l.length
    · have e := List.getElem?_eq_getElem h
      have gx := g _ (List.getElem_mem h)
      rw [lcmF_take e, prodF_take_succ e]
      obtain ⟨o1, o2⟩ := ordM_ok (b := r) (e := l[i].2) gx.1
      obtain ⟨c, d⟩ := lcm_le a o1
      exact ⟨c, Nat.le_trans d (Nat.mul_le_mul b (Nat.le_trans o2 (units_le gx.1 gx.2)))⟩
    · rw [List.take_of_length_le (by omega)] at a b ⊢
      exact ⟨a, b⟩
def ringM (r last p : Nat) : Nat := if p = last then 1 else lcmF r (facM (last / Nat.gcd p last))
def turnM (r last p t : Nat) : Nat := if p = last then p else p * pw r t last % last
end E3
namespace E3
theorem two_pow_len : ∀ {l : List (Nat × Nat)}, Good l → 2 ^ l.length ≤ prodF l
  | [], _ => Nat.le_refl _
  | x :: l, g => by
    have h1 := two_pow_len (l := l) fun y hy => g y (List.mem_cons_of_mem _ hy)
    obtain ⟨a, b⟩ := g x (List.mem_cons_self ..)
    have h2 : 2 ≤ x.1 ^ x.2 := Nat.le_trans a (Nat.le_self_pow (by omega) _)
    show 2 ^ (l.length + 1) ≤ x.1 ^ x.2 * prodF l
    rw [Nat.pow_succ, Nat.mul_comm]
    exact Nat.mul_le_mul h2 h1
theorem len_lt {l : List (Nat × Nat)} (g : Good l) {V : Nat} (h : prodF l ≤ V) (hV : V < 2 ^ 40) : l.length < 40 := by
  have := two_pow_len g
  exact (Nat.pow_lt_pow_iff_right (by decide : 1 < 2)).mp (Nat.lt_of_le_of_lt (Nat.le_trans this h) hV)
theorem fac_step {p v : Nat} {acc : List (Nat × Nat)} (h : 2 ≤ p) (hv : 1 ≤ v) (g : Good acc) : Good (if 0 < (stripGo v p v 0).2 then acc ++ [(p, (stripGo v p v 0).2)] else acc) ∧
    prodF (if 0 < (stripGo v p v 0).2 then acc ++ [(p, (stripGo v p v 0).2)] else acc) * (stripGo v p v 0).1 = prodF acc * v ∧ 1 ≤ (stripGo v p v 0).1 ∧ (stripGo v p v 0).1 ≤ v := by
  obtain ⟨a, b, c, d⟩ := strip_ok v p v 0 h hv
  generalize stripGo v p v 0 = s at a b c d
  refine ⟨?_, ?_, b, c⟩
  · by_cases y : 0 < s.2
    · rw [if_pos y]
      intro x hx
      rcases List.mem_append.mp hx with h' | h'
      · exact g x h'
      · obtain rfl := List.mem_singleton.mp h'
        exact ⟨h, y⟩
    · rw [if_neg y]; exact g
  · by_cases y : 0 < s.2
    · rw [if_pos y, prodF_app]
      have : prodF [(p, s.2)] = p ^ s.2 := by simp [prodF]
      rw [this, Nat.mul_assoc, Nat.mul_comm (p ^ s.2), a]; simp
    · rw [if_neg y]
      have : s.2 = 0 := by omega
      rw [this] at a
      simp at a
      rw [a]
theorem exp_lt {l : List (Nat × Nat)} (g : Good l) {V : Nat} (h : prodF l ≤ V) (hV : V < 2 ^ 40) {x : Nat × Nat} (hx : x ∈ l) : x.1 < 2 ^ 40 ∧ x.2 < 40 ∧ x.1 ^ x.2 < 2 ^ 40 := by
  obtain ⟨a, b⟩ := g x hx
  have h1 : x.1 ^ x.2 < 2 ^ 40 := Nat.lt_of_le_of_lt (Nat.le_trans (prodF_mem_le g hx) h) hV
  refine ⟨Nat.lt_of_le_of_lt (Nat.le_self_pow (by omega) _) h1, ?_, h1⟩
  exact (Nat.pow_lt_pow_iff_right (by decide : 1 < 2)).mp (Nat.lt_of_le_of_lt (Nat.pow_le_pow_left a _) h1)
end E3

set_option Elab.async false
set_option linter.all false
set_option maxRecDepth 100000
set_option maxHeartbeats 1000000
/-! rings: is_whole, is_count, check_lengths, check_place, power, units, factors -/
namespace E3
open PySem PySem.Spec PyProof.Rows L2
open C8 (Cal Mak Met InsC pe_c pe_mt pe_mt0 call_isC clsBody)
abbrev sWhole : Stmt := top 5
abbrev sCount : Stmt := top 6
abbrev sTurned : Stmt := top 9999
abbrev sRingLen : Stmt := top 8
abbrev sRings : Stmt := top 9
abbrev sChkL : Stmt := top 10
abbrev sChkP : Stmt := top 11
abbrev sPlaces : Stmt := top 12
abbrev sOrder : Stmt := top 13
abbrev sUnits : Stmt := top 14
abbrev sFactors : Stmt := top 15
abbrev sPower : Stmt := top 16
structure Bt5 (mg : Str → Option Value) : Prop where
  isi : mg "isinstance" = none
  int_ : mg "int" = none
  bool_ : mg "bool" = none
  sorted_ : mg "sorted" = none
abbrev cI (n : Nat) : V := .int ((n : Nat) : Int)
/-- rows, columns, a place -/
def Tb (r c : Nat) : Prop := 1 ≤ r ∧ 1 ≤ c ∧ r ≤ 65536 ∧ c ≤ 65536
def spWh1 : Sp := fun vs H Q _ => ∃ i : Int, vs = [.int i] ∧ Q (.bl true) H
def spCnt1 : Sp := fun vs H Q _ => ∃ i : Int, vs = [.int i] ∧ 0 ≤ i ∧ Q (.bl true) H
def spChkL : Sp := fun vs H Q _ => ∃ r c : Nat, vs = [cI r, cI c] ∧ Tb r c ∧ ∀ H', Same H H' → Q .non H'
def spChkP : Sp := fun vs H Q _ => ∃ r c p : Nat, vs = [cI r, cI c, cI p] ∧ Tb r c ∧ p < r * c ∧ ∀ H', Same H H' → Q .non H'
def spPower : Sp := fun vs H Q _ => ∃ b e m : Nat, vs = [cI b, cI e, cI m] ∧ b < 2 ^ 40 ∧ e < 2 ^ 200 ∧ 1 ≤ m ∧ m < 2 ^ 40 ∧ Q (cI (pw b e m)) H
def spUnits : Sp := fun vs H Q _ => ∃ p e : Nat, vs = [cI p, cI e] ∧ 2 ≤ p ∧ p < 2 ^ 40 ∧ 1 ≤ e ∧ e < 2 ^ 40 ∧ Q (cI (unitsM p e)) H
/-- a list of pairs of numbers -/
def PrsAt (H : Hp) (a : Addr) (l : List (Nat × Nat)) : Prop := ∃ ts : List Addr, H a = some (.lst (ts.map V.ref)) ∧ ts.length = l.length ∧ ∀ (i : Nat) (t : Addr) (x : Nat × Nat), ts[i]? = some t → l[i]? = some x → H t = some (.tup [cI x.1, cI x.2])
theorem PrsAt.same {H H' : Hp} {a : Addr} {l : List (Nat × Nat)} (h : PrsAt H a l) (S : Same H H') : PrsAt H' a l :=
  let ⟨ts, h1, h2, h3⟩ := h
  ⟨ts, S _ _ h1, h2, fun i t x e1 e2 => S _ _ (h3 i t x e1 e2)⟩
theorem PrsAt.nil {H : Hp} {a : Addr} (h : H a = some (.lst [])) : PrsAt H a [] := ⟨[], h, rfl, fun i t x e => by simp at e⟩
theorem PrsAt.snoc {H : Hp} {a t : Addr} {l : List (Nat × Nat)} {ts : List Addr} {x : Nat × Nat} (h1 : H a = some (.lst (ts.map V.ref))) (h2 : ts.length = l.length) (h3 : ∀ (i : Nat) (t : Addr) (x : Nat × Nat), ts[i]? = some t → l[i]? = some x → H t = some (.tup [cI x.1, cI x.2]))
    (ht : H t = some (.tup [cI x.1, cI x.2])) : PrsAt (upd H a (.lst (ts.map V.ref ++ [V.ref t]))) a (l ++ [x]) := by
  refine ⟨ts ++ [t], by rw [upd_same, List.map_append]; rfl, by rw [List.length_append, List.length_append, h2]; rfl, fun i u y e1 e2 => ?_⟩
  have ne : ∀ (b : Addr) (q : List V), H b = some (.tup q) → b ≠ a := fun b q e z => by rw [z, h1] at e; cases e
  rcases Nat.lt_trichotomy i ts.length with c | c | c
  · rw [List.getElem?_append_left c] at e1
    rw [List.getElem?_append_left (by omega)] at e2
    have := h3 i u y e1 e2
    rw [upd_ne (ne _ _ this)]
    exact this
  · subst c
    rw [List.getElem?_append_right (Nat.le_refl _)] at e1
    rw [List.getElem?_append_right (by omega), h2] at e2
    simp at e1 e2
    subst e1 e2
    rw [upd_ne (ne _ _ ht)]
    exact ht
  · rw [List.getElem?_eq_none (by simp; omega)] at e1
    cases e1
def spFactors : Sp := fun vs H Q _ => ∃ v : Nat, vs = [cI v] ∧ 1 ≤ v ∧ v < 2 ^ 40 ∧ ∀ H' a, Same H H' → PrsAt H' a (facM v) → Q (.ref a) H'
theorem l40 {n : Nat} (h : n < 2 ^ 40) : ((n : Nat) : Int).natAbs.log2 < 9000 := by
  have := PySem.Flt.log2_lt_of (k := 40) (n := ((n : Nat) : Int).natAbs) (by decide) (by rw [Int.natAbs_natCast]; exact h)
  omega
section
variable {P : Program} {w : World} {K : PySem.W.Frag} {mg : Str → Option Value} {base : Heap}
theorem kit_ii : PySem.W.kitOne K (.type "int") (.type "int") = some true := by kernel_rfl
theorem kit_ib : PySem.W.kitOne K (.type "int") (.type "bool") = some false := by kernel_rfl
theorem scWhole : FnScope ["value"] ["value"] (defScope sWhole) := ⟨rfl, rfl, rfl, by decide +kernel, rfl, by decide +kernel, by decide +kernel⟩
theorem ok_whole1 {f : Addr} {fd : FuncData} (F : Fun K "is_whole" "is_whole" sWhole f fd) (B : Bt5 mg) : FnOk P w K mg base CX0 1 f fd ["value"] spWh1 := by
  refine F.ok scWhole (fun vs H Q E h => ?_) (fun cdv A outer s H vs Q E hr h => ?_)
  · obtain ⟨v, rfl, _⟩ := h
    rfl
  · obtain ⟨i, rfl, q⟩ := h
    refine ⟨_, pss_one (ps_ret (pe_and (pe_callB call_isi (by rfl) B.isi (by decide +kernel) (pa_cons (pv 0) (pa_cons (pe_bltn (v := .ty "int") (by rfl) B.int_ (by decide +kernel) rfl) pa_nil)))
      (pe_one (pe_not (pe_callB call_isi (by rfl) B.isi (by decide +kernel) (pa_cons (pv 0) (pa_cons (pe_bltn (v := .ty "bool") (by rfl) B.bool_ (by decide +kernel) rfl) pa_nil))))))), ?_⟩
    refine ⟨_, rfl, _, _, _, _, true, rfl, .ty "int", .base (.int i), kit_ii, true, rfl, iteT (B := False) ?_⟩
    exact ⟨_, rfl, _, _, _, _, false, rfl, .ty "bool", .base (.int i), kit_ib, false, rfl, q⟩
theorem scCount : FnScope ["value"] ["value"] (defScope sCount) := ⟨rfl, rfl, rfl, by decide +kernel, rfl, by decide +kernel, by decide +kernel⟩
theorem ok_count1 {f : Addr} {fd : FuncData} (F : Fun K "is_count" "is_count" sCount f fd) (Wh : Cal P w K mg base 1 "is_whole" spWh1 []) : FnOk P w K mg base CX0 2 f fd ["value"] spCnt1 := by
  refine F.ok scCount (fun vs H Q E h => ?_) (fun cdv A outer s H vs Q E hr h => ?_)
  · obtain ⟨v, rfl, _⟩ := h
    rfl
  · obtain ⟨i, rfl, i0, q⟩ := h
    refine ⟨_, pss_one (ps_ret (pe_and (pe_c Wh hr (by decide) rfl (pa_cons (pv 0) pa_nil)) (pe_one (pe_cmpR op_ge (pv 0) pe_int (nomark _))))), ?_⟩
    refine ⟨_, rfl, _, rfl, true, rfl, iteT (B := False) ⟨_, rfl, _, _, rfl, rfl, ?_⟩⟩
    show Q (.bl (decide (0 ≤ i))) H
    rw [decide_eq_true i0]
    exact q
theorem scChkL : FnScope ["rows", "columns", "value"] ["rows", "columns"] (defScope sChkL) := ⟨rfl, rfl, rfl, by decide +kernel, rfl, by decide +kernel, by decide +kernel⟩
theorem ok_chkL {f : Addr} {fd : FuncData} (F : Fun K "check_lengths" "check_lengths" sChkL f fd) (Wh : Cal P w K mg base 1 "is_whole" spWh1 []) : FnOk P w K mg base CX0 2 f fd ["rows", "columns"] spChkL := by
  refine F.ok scChkL (fun vs H Q E h => ?_) (fun cdv A outer s H vs Q E hr h => ?_)
  · obtain ⟨r, c, rfl, _⟩ := h
    rfl
  · obtain ⟨r, c, rfl, ⟨r1, c1, r2, c2⟩, q⟩ := h
    refine ⟨_, pss_one (ps_for PassesOwn.never rfl (pi_list (pe_lstS (pa_cons (pv 0) (pa_cons (pv 1) pa_nil)))) (pg_name (i := 2) scChkL.nd rfl (Or.inl rfl))
      (pss_one (ps_if (PW.pt (pw_or (pt_not (pt_val (pe_c Wh hr (by decide) rfl (pa_cons (pv 2) pa_nil)))) (pw_or1 (pt_cmpR op_lt (pv 2) pe_int (nomark _))))) (pss_one ps_never) pss_nil))), ?_⟩
    refine ⟨_, rfl, _, rfl, (by show 2 ≤ sizeLine; decide), fun l H1 S1 n1 h1 => ?_⟩
    refine ⟨l, rfl, ⟨_, SqL.of h1⟩, for_it (walk_list (xs := [cI r, cI c])) (fun i σ' H' => (∃ u, σ' = [some (cI r), some (cI c), u]) ∧ Same H1 H') ⟨⟨none, rfl⟩, Same.refl _⟩ (fun i σ' H' _ p => SqL.of (p.2 _ _ h1)) ?_ ?_⟩
    · rintro i x σ' H2 H3 hi ⟨⟨u, rfl⟩, S2⟩ ⟨rfl, hx⟩
      have hv : ∃ n : Nat, x = cI n ∧ 1 ≤ n := by
        match i, hi, hx with
        | 0, _, hx => exact ⟨r, (Option.some.inj hx).symm, r1⟩
        | 1, _, hx => exact ⟨c, (Option.some.inj hx).symm, c1⟩
      obtain ⟨n, rfl, n1⟩ := hv
      refine ⟨_, rfl, _, rfl, true, rfl, iteF ⟨_, rfl, _, _, rfl, rfl, _, rfl, ?_⟩⟩
      rw [decide_eq_false (by omega)]
      exact iteF ⟨⟨_, rfl⟩, S2⟩
    · rintro σ' H2 ⟨_, S2⟩
      exact q H2 (S1.trans S2)
theorem scChkP : FnScope ["rows", "columns", "place"] ["rows", "columns", "place"] (defScope sChkP) := ⟨rfl, rfl, rfl, by decide +kernel, rfl, by decide +kernel, by decide +kernel⟩
theorem ok_chkP {f : Addr} {fd : FuncData} (F : Fun K "check_place" "check_place" sChkP f fd) (L : Cal P w K mg base 2 "check_lengths" spChkL []) (Cn : Cal P w K mg base 2 "is_count" spCnt1 []) : FnOk P w K mg base CX0 3 f fd ["rows", "columns", "place"] spChkP := by
  refine F.ok scChkP (fun vs H Q E h => ?_) (fun cdv A outer s H vs Q E hr h => ?_)
  · obtain ⟨r, c, p, rfl, _⟩ := h
    rfl
  · obtain ⟨r, c, p, rfl, hT, hp, q⟩ := h
    refine ⟨_, pss_cons (ps_expr (pe_c L hr (by decide) rfl (pa_cons (pv 0) (pa_cons (pv 1) pa_nil))))
      (pss_one (ps_if (PW.pt (pw_or (pt_not (pt_val (pe_c Cn hr (by decide) rfl (pa_cons (pv 2) pa_nil)))) (pw_or1 (pt_cmpR op_ge (pv 2) (pe_op op_mul (pv 0) (pv 1)) (nomark _))))) (pss_one ps_never) pss_nil)), ?_⟩
    obtain ⟨r1, c1, r2, c2⟩ := id hT
    refine ⟨_, rfl, _, rfl, r, c, rfl, hT, fun H1 S1 => ⟨_, rfl, _, rfl, by omega, true, rfl, iteF ⟨_, rfl, _, rfl, _, rfl, _, _, rfl, rfl, .inl ⟨by omega, by omega⟩, _, _, rfl, rfl, _, rfl, ?_⟩⟩⟩
    rw [decide_eq_false (by
      have h0 : ((p : Nat) : Int) < ((r * c : Nat) : Int) := Int.ofNat_lt.mpr hp
      rw [Int.natCast_mul] at h0
      omega)]
    exact iteF (q H1 S1)
theorem scPower : FnScope ["base", "exponent", "modulus", "found"] ["base", "exponent", "modulus"] (defScope sPower) := ⟨rfl, rfl, rfl, by decide +kernel, rfl, by decide +kernel, by decide +kernel⟩
theorem ok_power {f : Addr} {fd : FuncData} (F : Fun K "power" "power" sPower f fd) : FnOk P w K mg base CX0 1 f fd ["base", "exponent", "modulus"] spPower := by
  refine F.ok scPower (fun vs H Q E h => ?_) (fun cdv A outer s H vs Q E hr h => ?_)
  · obtain ⟨b, e, m, rfl, _⟩ := h
    rfl
  · obtain ⟨b, e, m, rfl, hb, he, m1, m2, q⟩ := h
    refine ⟨_, pss_cons (ps_set (i := 3) scPower.nd rfl (Or.inl rfl) pe_int)
      (pss_cons (ps_while PassesOwn.never (pt_cmpR op_gt (pv 1) pe_int (nomark _))
        (pss_cons (ps_if (pt_cmpR op_eq (pe_op op_mod (pv 1) pe_int) pe_int (nomark _)) (pss_one (ps_set (i := 3) scPower.nd rfl (Or.inl rfl) (pe_op op_mod (pe_op op_mul (pv 3) (pv 0)) (pv 2)))) pss_nil)
        (pss_cons (ps_set (i := 0) scPower.nd rfl (Or.inl rfl) (pe_op op_mod (pe_op op_mul (pv 0) (pv 0)) (pv 2)))
        (pss_one (ps_set (i := 1) scPower.nd rfl (Or.inl rfl) (pe_op op_fdiv (pv 1) pe_int))))))
      (pss_one (ps_ret (pv 3)))), ?_⟩
    refine while_by (fun σ' H' => ∃ c x g : Nat, σ' = [some (cI c), some (cI x), some (cI m), some (cI g)] ∧ H' = H ∧ c < 2 ^ 40 ∧ g < 2 ^ 40 ∧ (x = 0 → g = pw b e m) ∧ (0 < x → (g * c ^ x) % m = b ^ e % m ∧ 0 < e)) (fun σ' _ => match σ' with
      | [_, some (.int x), _, _] => x.toNat
      | _ => 0) ⟨b, e, 1, rfl, rfl, hb, by decide, fun z => ?_, fun z => ⟨?_, z⟩⟩ ?_ ?_
    · unfold pw; rw [if_pos z]
    · rw [Nat.one_mul]
    · rintro σ' H' ⟨c, x, g, rfl, rfl, c1, g1, h1, h2⟩
      refine ⟨_, rfl, _, _, rfl, rfl, _, rfl, iteD (fun hx => ?_) (fun hx => ?_)⟩
      · have x0 : 0 < x := by omega
        obtain ⟨k1, k2⟩ := pw_step x0 (h2 x0)
        have lt : ∀ y : Nat, y % m < 2 ^ 40 := fun y => Nat.lt_trans (Nat.mod_lt _ (by omega)) m2
        have m0 : (0 : Int) < ((m : Nat) : Int) := by omega
        have ex : ((x : Nat) : Int) % 2 = ((x % 2 : Nat) : Int) := by rw [Int.natCast_emod]; rfl
        refine ⟨_, rfl, _, _, rfl, rfl, (by show (0 : Int) < 2; decide), ?_⟩
        have fin : ∀ (g' : Nat) (v : V), v = cI g' → g' < 2 ^ 40 → g' = (if x % 2 = 1 then g * c % m else g) → ∃ c' x' g'' : Nat, [some (V.int (((c : Nat) : Int) * ((c : Nat) : Int) % ((m : Nat) : Int))), some (V.int (((x : Nat) : Int) / 2)), some (cI m), some v] = [some (cI c'), some (cI x'), some (cI m), some (cI g'')] ∧ H' = H' ∧ c' < 2 ^ 40 ∧ g'' < 2 ^ 40 ∧ (x' = 0 → g'' = pw b e m) ∧ (0 < x' → (g'' * c' ^ x') % m = b ^ e % m ∧ 0 < e) := by
          intro g' v hv l e1
          subst hv
          refine ⟨c * c % m, x / 2, g', ?_, rfl, lt _, l, ?_, ?_⟩
          · simp only [cI, Int.natCast_emod, Int.natCast_mul, Int.natCast_ediv]; rfl
          · rw [e1]; exact k1
          · rw [e1]; exact k2
        have me : (((x : Nat) : Int) / 2).toNat < ((x : Nat) : Int).toNat := by omega
        refine ⟨rfl, _, rfl, iteD (fun ho => ?_) (fun ho => ?_)⟩
        · refine ⟨_, rfl, _, rfl, _, _, rfl, rfl, .inl ⟨by omega, by omega⟩, _, rfl, _, _, rfl, rfl, m0, ?_⟩
          refine ⟨_, rfl, _, rfl, _, _, rfl, rfl, .inl ⟨by omega, by omega⟩, _, rfl, _, _, rfl, rfl, m0, ?_⟩
          refine ⟨_, rfl, _, _, rfl, rfl, (by constructor <;> decide), ?_⟩
          have e1 : V.int (((g : Nat) : Int) * ((c : Nat) : Int) % ((m : Nat) : Int)) = cI (g * c % m) := by unfold cI; rw [Int.natCast_emod, Int.natCast_mul]
          have o1 : x % 2 = 1 := by
            have z := V.int.inj ho
            rw [ex] at z
            omega
          exact ⟨fin _ _ e1 (lt _) (by rw [if_pos o1]), me⟩
        · dsimp only [tNext]
          refine ⟨_, rfl, _, rfl, _, _, rfl, rfl, .inl ⟨by omega, by omega⟩, _, rfl, _, _, rfl, rfl, m0, ?_⟩
          refine ⟨_, rfl, _, _, rfl, rfl, (by constructor <;> decide), ?_⟩
          have o1 : ¬ x % 2 = 1 := fun z => ho (by show V.int (((x : Nat) : Int) % 2) = V.int 1; rw [ex, z]; rfl)
          exact ⟨fin _ _ rfl g1 (by rw [if_neg o1]), me⟩
      · have x0 : x = 0 := by omega
        refine ⟨_, rfl, ?_⟩
        rw [h1 x0]
        exact q
    · rintro σ' H' Q1 Q2 hq h
      obtain ⟨v, hv, i, j, e1, e2, b, hb, r⟩ := h
      exact ⟨v, hv, i, j, e1, e2, b, hb, hq _ _ r⟩
end
end E3

set_option Elab.async false
set_option linter.all false
set_option maxRecDepth 100000
set_option maxHeartbeats 1000000
/-! rings: units, factors, order -/
namespace E3
open PySem PySem.Spec PyProof.Rows L2
open C8 (Cal Mak Met InsC pe_c pe_mt pe_mt0 call_isC clsBody)
def spOrder : Sp := fun vs H Q _ => ∃ b p e : Nat, vs = [cI b, cI p, cI e] ∧ b < 2 ^ 40 ∧ 2 ≤ p ∧ 1 ≤ e ∧ p ^ e < 2 ^ 40 ∧ ∀ H', Same H H' → Q (cI (ordM b p e)) H'
theorem cI_div (a b : Nat) : V.int (((a : Nat) : Int) / ((b : Nat) : Int)) = cI (a / b) := congrArg V.int (Int.natCast_ediv a b).symm
theorem cI_mod (a b : Nat) : V.int (((a : Nat) : Int) % ((b : Nat) : Int)) = cI (a % b) := congrArg V.int (Int.natCast_emod a b).symm
theorem cI_mul (a b : Nat) : V.int (((a : Nat) : Int) * ((b : Nat) : Int)) = cI (a * b) := congrArg V.int (Int.natCast_mul a b).symm
theorem cI_add (a b : Nat) : V.int (((a : Nat) : Int) + ((b : Nat) : Int)) = cI (a + b) := congrArg V.int (Int.natCast_add a b).symm
theorem cI_sub1 {a : Nat} (h : 1 ≤ a) : V.int (((a : Nat) : Int) - 1) = cI (a - 1) := congrArg V.int (by omega)
theorem cI_inj {a b : Nat} (h : cI a = cI b) : a = b := by have := V.int.inj h; omega
def WFac (V : Nat) (a : Addr) (H : Hp) : Nat → L2.St → Hp → Prop := fun m σ H' => ∃ n p v acc u, σ = [some (cI v), some (.ref a), some (cI p), u] ∧ Same H H' ∧ PrsAt H' a acc ∧ m = v + 2 - p ∧ v + 2 ≤ n + p ∧ facGo n p v acc = facM V ∧ 2 ≤ p ∧ p ≤ 2 ^ 40 ∧ 1 ≤ v ∧ v < 2 ^ 40 ∧ Good acc ∧ prodF acc * v = V
def WStr (p v : Nat) (a : Addr) (H : Hp) : Nat → L2.St → Hp → Prop := fun m σ H' => ∃ n v2 e, σ = [some (cI v2), some (.ref a), some (cI p), some (cI e)] ∧ H' = H ∧ v2 = m ∧ v2 ≤ n ∧ stripGo n p v2 e = stripGo v p v 0 ∧ 1 ≤ v2 ∧ v2 ≤ v
section
variable {P : Program} {w : World} {K : PySem.W.Frag} {mg : Str → Option Value} {base : Heap}
theorem scUnits : FnScope ["prime", "exponent", "found", "_"] ["prime", "exponent"] (defScope sUnits) := ⟨rfl, rfl, rfl, by decide +kernel, rfl, by decide +kernel, by decide +kernel⟩
theorem ok_units {f : Addr} {fd : FuncData} (F : Fun K "units" "units" sUnits f fd) (B : Bt4 mg) : FnOk P w K mg base CX0 1 f fd ["prime", "exponent"] spUnits := by
  refine F.ok scUnits (fun vs H Q E h => ?_) (fun cdv A outer s H vs Q E hr h => ?_)
  · obtain ⟨p, e, rfl, _⟩ := h
    rfl
  · obtain ⟨p, e, rfl, p2, pl, e1, el, q⟩ := h
    refine ⟨_, pss_cons (ps_set (i := 2) scUnits.nd rfl (Or.inl rfl) (pe_op op_sub (pv 0) pe_int))
      (pss_cons (ps_for PassesOwn.never rfl (pi_range1 rfl B.rng_ (pa_cons (pe_op op_sub (pv 1) pe_int) pa_nil)) (pg_name (i := 3) scUnits.nd rfl (Or.inl rfl))
        (pss_one (ps_set (i := 2) scUnits.nd rfl (Or.inl rfl) (pe_op op_mul (pv 2) (pv 0)))))
      (pss_one (ps_ret (pv 2)))), ?_⟩
    refine ⟨_, rfl, _, _, rfl, rfl, ?_⟩
    refine ⟨_, rfl, _, _, rfl, rfl, _, rfl, by omega, by omega, for_it (walk_range (n := (((e : Nat) : Int) - 1).toNat)) (fun i σ' H' => (∃ u, σ' = [some (cI p), some (cI e), some (cI ((p - 1) * p ^ i)), u]) ∧ H' = H) ⟨⟨none, ?_⟩, rfl⟩ (fun _ _ _ _ _ => trivial) ?_ ?_⟩
    · rw [Nat.pow_zero, Nat.mul_one, ← cI_sub1 (by omega)]; rfl
    · rintro i x σ' H2 H3 hi ⟨⟨u, rfl⟩, rfl⟩ ⟨rfl, rfl⟩
      refine ⟨_, rfl, _, rfl, _, _, rfl, rfl, .inr ⟨by omega, by omega⟩, ⟨some (V.int (0 + (i : Nat))), ?_⟩, rfl⟩
      have := cI_mul ((p - 1) * p ^ i) p
      rw [Nat.pow_succ, ← Nat.mul_assoc, ← this]
      rfl
    · rintro σ' H2 ⟨⟨u, rfl⟩, rfl⟩
      refine ⟨_, rfl, ?_⟩
      have ee : (((e : Nat) : Int) - 1).toNat = e - 1 := by omega
      rw [ee]
      exact q
theorem scFactors : FnScope ["value", "found", "prime", "exponent"] ["value"] (defScope sFactors) := ⟨rfl, rfl, rfl, by decide +kernel, rfl, by decide +kernel, by decide +kernel⟩
theorem ok_factors {f : Addr} {fd : FuncData} (F : Fun K "factors" "factors" sFactors f fd) : FnOk P w K mg base CX0 1 f fd ["value"] spFactors := by
  refine F.ok scFactors (fun vs H Q E h => ?_) (fun cdv A outer s H vs Q E hr h => ?_)
  · obtain ⟨v, rfl, _⟩ := h
    rfl
  · obtain ⟨M, rfl, v1, v2, q⟩ := h
    refine ⟨_, pss_cons (ps_set (i := 1) scFactors.nd rfl (Or.inl rfl) (pe_lstS pa_nil))
      (pss_cons (ps_set (i := 2) scFactors.nd rfl (Or.inl rfl) pe_int)
      (pss_cons (ps_while PassesOwn.never (pt_cmpR op_le (pe_op op_mul (pv 2) (pv 2)) (pv 0) (nomark _))
        (pss_cons (ps_set (i := 3) scFactors.nd rfl (Or.inl rfl) pe_int)
        (pss_cons (ps_while PassesOwn.never (pt_cmpR op_eq (pe_op op_mod (pv 0) (pv 2)) pe_int (nomark _))
          (pss_cons (ps_set (i := 0) scFactors.nd rfl (Or.inl rfl) (pe_op op_fdivW (pv 0) (pv 2)))
          (pss_one (ps_aug (i := 3) scFactors.nd rfl (.inl rfl) pe_int ip_add))))
        (pss_cons (ps_if (pt_cmpR op_gt (pv 3) pe_int (nomark _)) (pss_one (ps_expr (pe_bm PySem.F.plainAttrs_list PySem.F.slot_list_append PySem.F.type_list_append mt_append (pv 1) (pa_cons (pe_tupS (pa_cons (pv 2) (pa_cons (pv 3) pa_nil))) pa_nil)))) pss_nil)
        (pss_one (ps_aug (i := 2) scFactors.nd rfl (.inl rfl) pe_int ip_add))))))
      (pss_cons (ps_if (pt_cmpR op_gt (pv 0) pe_int (nomark _)) (pss_one (ps_expr (pe_bm PySem.F.plainAttrs_list PySem.F.slot_list_append PySem.F.type_list_append mt_append (pv 1) (pa_cons (pe_tupS (pa_cons (pv 0) (pa_cons pe_int pa_nil))) pa_nil)))) pss_nil)
      (pss_one (ps_ret (pv 1)))))), ?_⟩
    refine ⟨(by show 0 ≤ sizeLine; decide), fun a H1 S1 n1 h1 => ?_⟩
    refine ⟨WFac M a H, ⟨_, M, 2, M, [], none, rfl, S1, .nil h1, rfl, Nat.le_refl _, rfl, Nat.le_refl _, by decide, v1, v2, (fun x hx => by cases hx), by simp [prodF]⟩, ?_⟩
    rintro m σ' H' ⟨n, p, v, acc, u, rfl, S2, pr, rfl, hn, hf, p2, pl, hv1, hv2, gd, hp⟩
    have vV : v ≤ M := by rw [← hp]; exact Nat.le_mul_of_pos_left _ (prodF_pos gd)
    refine ⟨_, rfl, _, rfl, _, _, rfl, rfl, .inl ⟨by omega, by omega⟩, _, rfl, _, _, rfl, rfl, _, rfl, iteD (fun hpv => ?_) (fun hpv => ?_)⟩
    · have pv' : p * p ≤ v := by
        have h0 : ((p * p : Nat) : Int) ≤ ((v : Nat) : Int) := by rw [Int.natCast_mul]; exact hpv
        omega
      have plv : p ≤ v := Nat.le_trans (Nat.le_mul_of_pos_left _ (by omega)) pv'
      refine ⟨fun σ'' H'' => ∃ m', m' < v + 2 - p ∧ WFac M a H m' σ'' H'', fun _ _ z => z, ?_⟩
      refine ⟨WStr p v a H', ⟨_, v, v, 0, rfl, rfl, rfl, Nat.le_refl _, rfl, hv1, Nat.le_refl _⟩, ?_⟩
      rintro m2 σ2 H2 ⟨n2, w2, e, rfl, rfl, rfl, wn, hs, w1, wv⟩
      have p0 : (0 : Int) < ((p : Nat) : Int) := by omega
      refine ⟨_, rfl, _, rfl, _, _, rfl, rfl, p0, rfl, _, rfl, iteD (fun hz => ?_) (fun hz => ?_)⟩
      · have hz' : w2 % p = 0 := cI_inj ((cI_mod w2 p).symm.trans hz)
        refine ⟨fun σ'' H'' => ∃ m', m' < w2 ∧ WStr p v a H2 m' σ'' H'', fun _ _ z => z, ?_⟩
        have dlt : w2 / p < w2 := Nat.div_lt_self (by omega) (by omega)
        refine ⟨_, rfl, _, rfl, _, _, rfl, rfl, ⟨p0, l40 (by omega)⟩, ?_⟩
        match n2, wn, hs with
        | 0, wn, _ => exact absurd wn (by omega)
        | k + 1, wn, hs =>
        have hs2 : stripGo k p (w2 / p) (e + 1) = stripGo v p v 0 := by rw [← hs]; exact (if_pos hz').symm
        refine ⟨_, rfl, ?_⟩
        refine ⟨_, _, rfl, rfl, w2 / p, dlt, k, w2 / p, e + 1, ?_, rfl, rfl, by omega, hs2, div_pos' w1 hz', by omega⟩
        have a1 := cI_div w2 p
        have a2 := cI_add e 1
        rw [← a1, ← a2]
        rfl
      · have hz' : ¬ w2 % p = 0 := fun z => hz (by have := cI_mod w2 p; rw [z] at this; exact this)
        have hs1 : (w2, e) = stripGo v p v 0 := by
          rw [← hs]
          match n2, wn with
          | 0, wn => exact absurd wn (by omega)
          | k + 1, _ => exact (if_neg hz').symm
        obtain ⟨g2, hp2, s1, s2⟩ := fac_step p2 hv1 gd
        have hf2 : ∀ k, n = k + 1 → facGo k (p + 1) (stripGo v p v 0).1 (if 0 < (stripGo v p v 0).2 then acc ++ [(p, (stripGo v p v 0).2)] else acc) = facM M := by
          intro k e1
          rw [← hf, e1]
          exact (if_pos pv').symm
        rw [← hs1] at g2 hp2 s1 s2 hf2
        obtain ⟨k, rfl⟩ : ∃ k, n = k + 1 := ⟨n - 1, by omega⟩
        have hf3 := hf2 k rfl
        have fin : ∀ (H3 : Hp) (acc' : List (Nat × Nat)), Same H H3 → PrsAt H3 a acc' → acc' = (if 0 < e then acc ++ [(p, e)] else acc) → ∃ x, ([some (cI w2), some (V.ref a), some (cI p), some (cI e)] : L2.St)[2]? = some (some x) ∧ ∃ i j, x = V.int i ∧ V.int 1 = V.int j ∧ ∃ m', m' < v + 2 - p ∧ WFac M a H m' [some (cI w2), some (V.ref a), some (V.int (i + j)), some (cI e)] H3 := by
          intro H3 acc' S3 pr3 ea
          rw [← ea] at g2 hp2 hf3
          refine ⟨_, rfl, _, _, rfl, rfl, _, ?_, k, p + 1, w2, acc', some (cI e), ?_, S3, pr3, rfl, by omega, hf3, by omega, ?_, s1, by omega, g2, hp2.trans hp⟩
          · omega
          · have a2 := cI_add p 1
            rw [← a2]
            rfl
          · have : p * p < 2 ^ 40 := by omega
            have : p < 2 ^ 40 := Nat.lt_of_le_of_lt (Nat.le_mul_of_pos_left _ (by omega)) this
            omega
        refine ⟨_, rfl, _, _, rfl, rfl, _, rfl, iteD (fun he => ?_) (fun he => ?_)⟩
        · have e0 : 0 < e := by omega
          obtain ⟨ts, t1, t2, t3⟩ := pr
          refine ⟨_, rfl, .inl ⟨rfl, _, SqL.of t1⟩, _, rfl, _, rfl, (by show 2 ≤ sizeLine; decide), fun t H3 S3 n3 h3 => ?_⟩
          have t1' := S3 _ _ t1
          have al : acc.length < 40 := len_lt gd (show prodF acc ≤ M by rw [← hp]; exact Nat.le_mul_of_pos_right _ hv1) v2
          refine ⟨a, _, _, rfl, rfl, t1', by rw [List.length_map, t2, sizeLine_eq]; omega, ?_⟩
          refine fin _ (acc ++ [(p, e)]) ?_ (.snoc t1' t2 (fun i u y e1 e2 => S3 _ _ (t3 i u y e1 e2)) h3) (by rw [if_pos e0])
          intro b o hb
          rw [upd_ne (ne_of_none hb n1)]
          exact S3 _ _ (S2 _ _ hb)
        · dsimp only [tNext]
          exact fin _ acc S2 pr (by rw [if_neg (by omega)])
    · have pv' : ¬ p * p ≤ v := fun z => hpv (by
        have h0 : ((p * p : Nat) : Int) ≤ ((v : Nat) : Int) := Int.ofNat_le.mpr z
        rw [Int.natCast_mul] at h0
        exact h0)
      have hf2 : facFin v acc = facM M := by
        rw [← hf]
        match n with
        | 0 => rfl
        | k + 1 => exact (if_neg pv').symm
      refine ⟨_, rfl, _, _, rfl, rfl, _, rfl, iteD (fun hv => ?_) (fun hv => ?_)⟩
      · obtain ⟨ts, t1, t2, t3⟩ := pr
        refine ⟨_, rfl, .inl ⟨rfl, _, SqL.of t1⟩, _, rfl, (by show 2 ≤ sizeLine; decide), fun t H3 S3 n3 h3 => ?_⟩
        have t1' := S3 _ _ t1
        have al : acc.length < 40 := len_lt gd (show prodF acc ≤ M by rw [← hp]; exact Nat.le_mul_of_pos_right _ hv1) v2
        refine ⟨a, _, _, rfl, rfl, t1', by rw [List.length_map, t2, sizeLine_eq]; omega, ?_⟩
        refine ⟨_, rfl, q _ a ?_ ?_⟩
        · intro b o hb
          rw [upd_ne (ne_of_none hb n1)]
          exact S3 _ _ (S2 _ _ hb)
        · rw [← hf2]
          unfold facFin
          rw [if_pos (by omega)]
          exact .snoc t1' t2 (fun i u y e1 e2 => S3 _ _ (t3 i u y e1 e2)) h3
      · dsimp only [tNext]
        refine ⟨_, rfl, q _ a S2 ?_⟩
        rw [← hf2]
        unfold facFin
        rw [if_neg (by omega)]
        exact pr
end
end E3

set_option Elab.async false
set_option linter.all false
set_option maxRecDepth 100000
set_option maxHeartbeats 1000000
/-! rings: order, ring_length, turned -/
namespace L2
open PySem PySem.Spec PyProof.Rows
def rLcm : List V → Hp → VK → Prop := fun vs H Q => ∃ a b : Nat, vs = [.int (a : Nat), .int (b : Nat)] ∧ a < 2 ^ 64 ∧ b < 2 ^ 64 ∧ Nat.lcm a b < 2 ^ 64 ∧ Q (.int ((Nat.lcm a b : Nat) : Int)) H
theorem cr_lcm {X : Cx} : CallR X (.builtin "math.lcm") rLcm := by
  intro pins s σ H vs us Q I r h
  obtain ⟨a, b, rfl, ha, hb, hl, q⟩ := h
  obtain ⟨t, u, rfl⟩ := Vals.int2 r
  refine PySem.W.mg_lcm_v (c := ((Nat.lcm a b : Nat) : Int)) (by omega) (by omega) ?_ ?_ ⟨.int _, H, I.tok _, ⟨_, rfl⟩, q⟩
  · rw [Int.natAbs_natCast, Int.natAbs_natCast, Nat.lcm_one_left]
  · rw [Int.natAbs_natCast]
    have := PySem.Flt.log2_lt_of (k := 64) (by decide) hl
    have e : bitsLine = bitsLine := rfl
    have : 64 < bitsLine := by decide +kernel
    omega
end L2
namespace E3
open PySem PySem.Spec PyProof.Rows L2
open C8 (Cal Mak Met InsC pe_c pe_mt pe_mt0 call_isC clsBody)
def WOrd (b p e q f0 U : Nat) (u : Option V) (H : Hp) : Nat → L2.St → Hp → Prop := fun m σ H' => ∃ n f, σ = [some (cI b), some (cI p), some (cI e), some (cI f), some (cI (p ^ e)), some (cI q), u] ∧ H' = H ∧ f = m ∧ f ≤ n ∧ ordLoop n b (p ^ e) q f = ordLoop f0 b (p ^ e) q f0 ∧ 1 ≤ f ∧ f ≤ U
/-- what is passed to turned, ring_length, rings -/
def spTurnM : Sp := fun vs H Q _ => ∃ r c p t : Nat, vs = [cI r, cI c, cI p, cI t] ∧ Tb r c ∧ p < r * c ∧ t < 2 ^ 200 ∧ ∀ H', Same H H' → Q (cI (turnM r (r * c - 1) p t)) H'
def spRingM : Sp := fun vs H Q _ => ∃ r c p : Nat, vs = [cI r, cI c, cI p] ∧ Tb r c ∧ p < r * c ∧ ∀ H', Same H H' → Q (cI (ringM r (r * c - 1) p)) H'
theorem tb_lt {r c : Nat} (h : Tb r c) : 1 ≤ r * c ∧ r * c ≤ 2 ^ 32 := by
  obtain ⟨r1, c1, r2, c2⟩ := h
  exact ⟨Nat.mul_pos r1 c1, Nat.le_trans (Nat.mul_le_mul r2 c2) (by decide)⟩
theorem cI_last {r c : Nat} (h : Tb r c) : V.int (((r : Nat) : Int) * ((c : Nat) : Int) - 1) = cI (r * c - 1) := by
  have := (tb_lt h).1
  rw [← cI_sub1 this, Int.natCast_mul]
section
variable {P : Program} {w : World} {K : PySem.W.Frag} {mg : Str → Option Value} {base : Heap}
theorem scOrder : FnScope ["base", "prime", "exponent", "found", "modulus", "part", "_"] ["base", "prime", "exponent"] (defScope sOrder) := ⟨rfl, rfl, rfl, by decide +kernel, rfl, by decide +kernel, by decide +kernel⟩
theorem ok_order {f : Addr} {fd : FuncData} (F : Fun K "order" "order" sOrder f fd) (U : Cal P w K mg base 1 "units" spUnits []) (Fa : Cal P w K mg base 1 "factors" spFactors []) (Pw : Cal P w K mg base 1 "power" spPower []) : FnOk P w K mg base CX0 2 f fd ["base", "prime", "exponent"] spOrder := by
  refine F.ok scOrder (fun vs H Q E h => ?_) (fun cdv A outer s H vs Q E hr h => ?_)
  · obtain ⟨b, p, e, rfl, _⟩ := h
    rfl
  · obtain ⟨b, p, e, rfl, hb, p2, e1, hpe, q⟩ := h
    refine ⟨_, pss_cons (ps_set (i := 3) scOrder.nd rfl (Or.inl rfl) (pe_c U hr (by decide) rfl (pa_cons (pv 1) (pa_cons (pv 2) pa_nil))))
      (pss_cons (ps_set (i := 4) scOrder.nd rfl (Or.inl rfl) (pe_op op_mul (pe_op op_fdivW (pv 3) (pe_op op_sub (pv 1) pe_int)) (pv 1)))
      (pss_cons (ps_for PassesOwn.never rfl (pi_list (pe_c Fa hr (by decide) rfl (pa_cons (pv 3) pa_nil))) (pg_tup rfl (pgs_cons (pg_name (i := 5) scOrder.nd rfl (Or.inl rfl)) (pgs_cons (pg_name (i := 6) scOrder.nd rfl (Or.inl rfl)) pgs_nil)))
        (pss_one (ps_while PassesOwn.never (PW.pt (pw_and (pt_cmpR op_eq (pe_op op_mod (pv 3) (pv 5)) pe_int (nomark _)) (pw_and1 (pt_cmpR op_eq (pe_c Pw hr (by decide) rfl (pa_cons (pv 0) (pa_cons (pe_op op_fdivW (pv 3) (pv 5)) (pa_cons (pv 4) pa_nil)))) pe_int (nomark _)))))
          (pss_one (ps_set (i := 3) scOrder.nd rfl (Or.inl rfl) (pe_op op_fdivW (pv 3) (pv 5)))))))
      (pss_one (ps_ret (pv 3))))), ?_⟩
    have pl : p < 2 ^ 40 := Nat.lt_of_le_of_lt (Nat.le_self_pow (by omega) _) hpe
    have el : e < 2 ^ 40 := by
      have : 2 ^ e < 2 ^ 40 := Nat.lt_of_le_of_lt (Nat.pow_le_pow_left p2 _) hpe
      have := (Nat.pow_lt_pow_iff_right (by decide : 1 < 2)).mp this
      omega
    have U1 := units_pos (e := e) p2
    have U2 := units_le p2 e1
    have Ul : unitsM p e < 2 ^ 40 := by omega
    refine ⟨_, rfl, _, rfl, p, e, rfl, p2, pl, e1, el, ?_⟩
    refine ⟨_, rfl, _, rfl, _, _, rfl, rfl, _, _, rfl, rfl, ⟨by omega, ?_⟩, _, rfl, _, _, rfl, rfl, .inr ⟨by omega, by omega⟩, ?_⟩
    · have := l40 (n := p - 1) (by omega)
      have e0 : ((p - 1 : Nat) : Int) = ((p : Nat) : Int) - 1 := by omega
      rw [← e0]
      exact this
    have hm : V.int (((unitsM p e : Nat) : Int) / (((p : Nat) : Int) - 1) * ((p : Nat) : Int)) = cI (p ^ e) := by
      have e0 : ((p - 1 : Nat) : Int) = ((p : Nat) : Int) - 1 := by omega
      rw [← e0, ← Int.natCast_ediv, ← Int.natCast_mul, units_div p2 e1]
    refine ⟨_, rfl, _, rfl, U1, Ul, fun H1 a S1 pr => ?_⟩
    obtain ⟨g, hp⟩ := facM_ok U1
    obtain ⟨ts, t1, t2, t3⟩ := pr
    refine ⟨a, rfl, ⟨_, SqL.of t1⟩, for_it (walk_list (xs := ts.map V.ref)) (fun i σ' H' => (∃ u1 u2, σ' = [some (cI b), some (cI p), some (cI e), some (cI (((facM (unitsM p e)).take i).foldl (fun f x => ordLoop f b (p ^ e) x.1 f) (unitsM p e))), some (cI (p ^ e)), u1, u2]) ∧ Same H1 H') ⟨⟨none, none, ?_⟩, Same.refl _⟩ (fun i σ' H' _ z => SqL.of (z.2 _ _ t1)) ?_ ?_⟩
    · rw [List.take_zero, ← hm]; rfl
    · rintro i x σ' H9 H2 hi ⟨⟨u1, u2, rfl⟩, S2⟩ ⟨rfl, hx⟩
      rw [List.length_map] at hi
      have hi2 : i < (facM (unitsM p e)).length := by omega
      rw [List.getElem?_map, List.getElem?_eq_getElem hi] at hx
      obtain rfl := Option.some.inj hx
      have ey := List.getElem?_eq_getElem hi2
      have ht := S2 _ _ (t3 i _ _ (List.getElem?_eq_getElem hi) ey)
      have gy := g _ (List.getElem_mem hi2)
      obtain ⟨yl, ye, _⟩ := exp_lt g (Nat.le_of_eq hp) Ul (List.getElem_mem hi2)
      have foldS : ((facM (unitsM p e)).take (i + 1)).foldl (fun f x => ordLoop f b (p ^ e) x.1 f) (unitsM p e) = ordLoop (((facM (unitsM p e)).take i).foldl (fun f x => ordLoop f b (p ^ e) x.1 f) (unitsM p e)) b (p ^ e) ((facM (unitsM p e))[i]).1 (((facM (unitsM p e)).take i).foldl (fun f x => ordLoop f b (p ^ e) x.1 f) (unitsM p e)) := by
        rw [List.take_succ, ey, List.foldl_append]; rfl
      obtain ⟨f1, f2⟩ := ordFold_ok b (p ^ e) ((facM (unitsM p e)).take i) (unitsM p e) U1
      rw [foldS]
      generalize ((facM (unitsM p e)).take i).foldl (fun f x => ordLoop f b (p ^ e) x.1 f) (unitsM p e) = f0 at f1 f2
      generalize (facM (unitsM p e))[i] = y at ht gy yl ye
      refine ⟨_, _, rfl, SqT.of ht, rfl, _, _, rfl, _, _, rfl, rfl, ?_⟩
      refine ⟨WOrd b p e y.1 f0 (unitsM p e) (some (cI y.2)) H2, ⟨_, f0, f0, rfl, rfl, rfl, Nat.le_refl _, rfl, f1, f2⟩, ?_⟩
      rintro m σ3 H3 ⟨n, f, rfl, rfl, rfl, fn, hs, fp, fu⟩
      have y0 : (0 : Int) < ((y.1 : Nat) : Int) := by omega
      have stop : ¬ (f % y.1 = 0 ∧ pw b (f / y.1) (p ^ e) = 1) → f = ordLoop f0 b (p ^ e) y.1 f0 := by
        intro hz
        rw [← hs]
        match n, fn with
        | 0, fn => exact absurd fn (by omega)
        | k + 1, _ => exact (if_neg hz).symm
      refine ⟨_, rfl, _, rfl, _, _, rfl, rfl, y0, rfl, _, rfl, iteD (fun hz => ?_) (fun hz => ?_)⟩
      · have hz' : f % y.1 = 0 := cI_inj ((cI_mod f y.1).symm.trans hz)
        have dlt : f / y.1 < f := Nat.div_lt_self (by omega) (by omega)
        have m1 : 1 ≤ p ^ e := Nat.pow_pos (by omega)
        have dv : CDivW ((f : Nat) : Int) ((y.1 : Nat) : Int) := ⟨y0, l40 yl⟩
        refine ⟨_, rfl, _, rfl, _, rfl, _, _, rfl, rfl, dv, _, rfl, b, f / y.1, p ^ e, ?_, hb, by omega, m1, hpe, rfl, _, rfl, iteD (fun hq => ?_) (fun hq => ?_)⟩
        · have := cI_div f y.1
          rw [← this]
          rfl
        · have hq' : pw b (f / y.1) (p ^ e) = 1 := cI_inj hq
          refine ⟨fun σ'' H'' => ∃ m', m' < f ∧ WOrd b p e y.1 f0 (unitsM p e) (some (cI y.2)) H3 m' σ'' H'', fun _ _ z => z, ?_⟩
          match n, fn, hs with
          | 0, fn, _ => exact absurd fn (by omega)
          | k + 1, fn, hs =>
          have hs2 : ordLoop k b (p ^ e) y.1 (f / y.1) = ordLoop f0 b (p ^ e) y.1 f0 := by rw [← hs]; exact (if_pos ⟨hz', hq'⟩).symm
          refine ⟨_, rfl, _, rfl, _, _, rfl, rfl, dv, f / y.1, dlt, k, f / y.1, ?_, rfl, rfl, by omega, hs2, div_pos' fp hz', by omega⟩
          have := cI_div f y.1
          rw [← this]
          rfl
        · dsimp only
          refine ⟨⟨some (cI y.1), some (cI y.2), ?_⟩, S2⟩
          rw [← stop (fun z => hq (by rw [z.2]; rfl))]
      · dsimp only
        refine ⟨⟨some (cI y.1), some (cI y.2), ?_⟩, S2⟩
        rw [← stop (fun z => hz (by have := cI_mod f y.1; rw [z.1] at this; exact this))]
    · rintro σ' H2 ⟨⟨u1, u2, rfl⟩, S2⟩
      refine ⟨_, rfl, ?_⟩
      rw [List.length_map, t2, List.take_length]
      exact q H2 (S1.trans S2)
end
end E3

set_option Elab.async false
set_option linter.all false
set_option maxRecDepth 100000
set_option maxHeartbeats 1000000
/-! A head by facts: one Bool of the law's own, and the defs. -/
namespace Hb
open PySem PySem.Spec PyProof.Rows L2 He
abbrev AlB : Type := Bool × List FnV
def obsB (ex : PySem.W.Frag → Bool) (fn : List FnD) (K : PySem.W.Frag) : AlB := (ex K && fn.all fun d => (Fa.code d.at_ d.qual).ok K && PySem.W.keepIn K (.ref (fAd K d.at_)), fn.map fun d => fnObs K d.at_)
def valB (fn : List FnD) : AlB := (true, fn.map FnD.val)
def SaysB (ex : PySem.W.Frag → Bool) (fn : List FnD) (K : PySem.W.Frag) : Prop := obsB ex fn K = valB fn
def lookB (n : Nat) (ex : PySem.W.Frag → Bool) (fn : List FnD) (g : Addr → Option Obj) : AlB := obsB ex fn (frG g (asG g n))
def hookB (n : Nat) (ex : PySem.W.Frag → Bool) (fn : List FnD) : PySem.W.Hook where
  α := AlB
  obs := fun s => lookB n ex fn s.heap.get?
  val := fun _ => valB fn
  says := fun _ h => ∃ K : PySem.W.Frag, K.In h ∧ SaysB ex fn K
  of := fun _ _ e => ⟨_, frG_in, e⟩
  keeps := fun _ _ _ ⟨K, hK, c⟩ k => ⟨K, PySem.W.Frag.In.keeps hK k, c⟩
theorem lookB_eq {n : Nat} {ex : PySem.W.Frag → Bool} {fn : List FnD} {g : Addr → Option Obj} {s : Shared} (h : ∀ a, g a = s.heap.get? a) : lookB n ex fn g = (hookB n ex fn).obs s := by
  have e : g = s.heap.get? := funext h
  rw [e] <;> rfl
/-- a def of the text, by its statement -/
def dS (at_ : Str × Option Str) (name qual : Str) (st : Stmt) : FnD := ⟨at_, name, qual, defArgs st, defBody st, defScope st⟩
section
variable {ex : PySem.W.Frag → Bool} {fn : List FnD} {K : PySem.W.Frag}
theorem SaysB.bool (c : SaysB ex fn K) : ex K = true := (ba (show (ex K && fn.all fun d => (Fa.code d.at_ d.qual).ok K && PySem.W.keepIn K (.ref (fAd K d.at_))) = true from congrArg (fun z : AlB => z.1) c)).1
theorem SaysB.fun_ (c : SaysB ex fn K) (i : Nat) {at_ : Str × Option Str} {name qual : Str} {st : Stmt} (h : fn[i]? = some (dS at_ name qual st) := by rfl) : ∃ fd, L2.Fun K name qual st (fAd K at_) fd := by
  have c2 := (ba (show (ex K && fn.all fun d => (Fa.code d.at_ d.qual).ok K && PySem.W.keepIn K (.ref (fAd K d.at_))) = true from congrArg (fun z : AlB => z.1) c)).2
  have c3 := ba (List.all_eq_true.mp c2 _ (List.mem_of_getElem? h))
  have e : fn.map (fun d => fnObs K d.at_) = fn.map FnD.val := congrArg (fun z : AlB => z.2) c
  have e2 : (fn.map fun d => fnObs K d.at_)[i]? = (fn.map FnD.val)[i]? := by rw [e]
  rw [List.getElem?_map, List.getElem?_map, h] at e2
  obtain ⟨oc, od, osl, kV, doc, pm, an, cdv, ct, l, k⟩ := fn_ok (Option.some.inj e2) c3.1
  exact ⟨_, ⟨oc, od, kV, doc, pm, an, cdv, ct, osl, rfl, l, k⟩, c3.2⟩
end
theorem bindsA {K : PySem.W.Frag} {x qual : Str} {st : Stmt} {f : Addr} {fd : FuncData} {ps : List Str} (F : L2.Fun K x qual st f fd)
    (h : ∀ (kV doc pm : Value) (an : Option Addr) (cdv ct : Value) (us : List Value), us.length = ps.length → bindArgs (PySem.W.fnOf x qual (defArgs st) (defBody st) (defScope st) .none kV doc pm an cdv ct) ⟨us, []⟩ = pure (ps.zip us)) (s : Shared) (us : List Value) (hl : us.length = ps.length) : BindsTo s fd ⟨us, []⟩ (ps.zip us) := by
  obtain ⟨oc, od, kV, doc, pm, an, cdv, ct, osl, rfl, lk, hcd⟩ := F.ex
  exact .of_eq (h kV doc pm an cdv ct us hl)
/-! own operators, isinstance, as Bools -/
section
variable {K : PySem.W.Frag} {C : Addr}
def ownB (K : PySem.W.Frag) (C : Addr) (m : Str) : Bool := PySem.W.selfFirst K C && (eqO (PySem.W.findIn K (.ref C) m) (some (some (.ref (ma K C m)))) && PySem.W.isFn K (.ref (ma K C m)))
theorem ownB_ok {m : Str} (h : ownB K C m = true) : OwnOp K C m (ma K C m) :=
  let ⟨h1, h2⟩ := ba h
  let ⟨h3, h4⟩ := ba h2
  ⟨h1, eqO_ok h3, h4⟩
def ownIB (K : PySem.W.Frag) (C : Addr) (name : String) : Bool := ownB K C (PySem.dunder name) && ((match PySem.W.findIn K (.ref C) (dunderR name) with
  | some none => true
  | some (some (.ref _)) => true
  | _ => false) && ((PySem.W.findIn K (.type "int") (PySem.dunder name)).isSome && ((PySem.W.findIn K (.type "int") (dunderR name)).isSome && decide (PySem.W.subIn K (.type "int") (.ref C) = some false))))
theorem ownIB_ok {name : String} (h : ownIB K C name = true) : OwnOpI K C name (ma K C (PySem.dunder name)) := by
  obtain ⟨h1, h⟩ := ba h
  obtain ⟨h2, h⟩ := ba h
  obtain ⟨h3, h⟩ := ba h
  obtain ⟨h4, h5⟩ := ba h
  refine ⟨ownB_ok h1, ?_, Option.isSome_iff_exists.mp h3, Option.isSome_iff_exists.mp h4, of_decide_eq_true h5⟩
  split at h2
  · rename_i e
    exact ⟨_, e, .inl rfl⟩
  · rename_i a e
    exact ⟨_, e, .inr ⟨a, rfl⟩⟩
  · cases h2
def insB (K : PySem.W.Frag) (C : Addr) : Bool := eqO (PySem.W.findIn K (.ref C) "__class__") (some (some (.builtin "object.__class__"))) && (eqO (PySem.W.specialIn K (.builtin "object.__class__") "__get__") (some (some (.builtin "getset_descriptor.__get__"))) &&
  (decide (PySem.W.takesIn K (.builtin "object.__class__") = some true) && (decide (PySem.W.mroIn K C (.type "object") = some true) && decide (PySem.W.kitOne K (.ref C) (.ref C) = some true))))
theorem insB_ok (c : Cls K C) (h : insB K C = true) : C8.InsC K C := by
  obtain ⟨h1, h⟩ := ba h
  obtain ⟨h2, h⟩ := ba h
  obtain ⟨h3, h⟩ := ba h
  obtain ⟨h4, h5⟩ := ba h
  exact ⟨c, eqO_ok h1, eqO_ok h2, of_decide_eq_true h3, of_decide_eq_true h4, of_decide_eq_true h5⟩
/-- a global that is a built-in function -/
def bltB (K : PySem.W.Frag) (x : Str) (n : String) : Bool := eqO (PySem.W.nsIn K mainGlobals x) (some (some (.builtin n)))
theorem bltB_ok {h : Heap} {mg : Str → Option Value} (X : K.In h) (G : h.Ns mainGlobals mg) {x : Str} {n : String} (c : bltB K x n = true) : mg x = some (.builtin n) := PySem.W.mg_of X G (eqO_ok c)
/-- the facts of a list hold -/
theorem fa_ok {fa : List Fa} (h : (fa.all fun f => f.ok K) = true) (i : Nat) {f : Fa} (hi : fa[i]? = some f := by rfl) : f.ok K = true := List.all_eq_true.mp h f (List.mem_of_getElem? hi)
theorem bool_ok {l : List Bool} (h : (l.all id) = true) (i : Nat) {b : Bool} (hi : l[i]? = some b := by rfl) : b = true := List.all_eq_true.mp h b (List.mem_of_getElem? hi)
end
end Hb

set_option Elab.async false
set_option linter.all false
set_option maxRecDepth 100000
set_option maxHeartbeats 1000000
/-! f(k=v, ..): a def called with keywords alone -/
namespace L2
open PySem PySem.Spec PyProof.Rows
def CalK (P : Program) (w : World) (K : PySem.W.Frag) (mg : Str → Option Value) (base : Heap) (k : Nat) (x : Str) (sp : Sp) (ks : List Str) (gV : List V → List V → List V) : Prop :=
  ∃ (f : Addr) (fd : FuncData) (ps : List Str) (g : List Value → List Value → List Value), FnOk P w K mg base CX0 k f fd ps sp ∧ mg x = some (.ref f) ∧ PySem.W.keepIn K (.ref f) = true ∧ KBinds K fd ps ks g gV
section
variable {X : Cx} {k j : Nat} {x : Str} {sp : Sp} {ks : List Str} {gV : List V → List V → List V} {p pos : Pos} {kws : List Keyword} {tk : TA}
theorem pe_cK (c : CalK X.prog X.w X.K X.mg X.base k x sp ks gV) (hr : Room j X.A) (hk : k ≤ j) (hg : Gl X x) (hkw : PK X kws tk)
    (hall : (backToKw pos (keywordEach kws X.env)).all (·.1.isSome) = true := by rfl) (hks : (backToKw pos (keywordEach kws X.env)).filterMap (·.1) = ks := by rfl)
    (hdb : (x == ("__debug__" : Str)) = false := by decide)
    (hpl : ((backTo pos (starEach [] X.env)).any (·.1) || (backToKw pos (keywordEach kws X.env)).any (·.1.isNone)) = false := by rfl) :
    PE X (.Call (.Name x p) [] kws pos) (tCallK sp gV C8.E0 tNil tk) := by
  obtain ⟨f, fd, ps, g, F, hm, kp, hb⟩ := c
  refine ⟨fun pins s σ H Q I h => ?_⟩
  refine wpAny_Call_Name_kw (ld_glob I hg hm ?_ hdb)
  refine PySem.W.callWith_KW0 (h₀ := X.base) I.ok.mod.kin kp hall (thn (hkw.run pos pins s σ H _ I h) fun ws s2 ⟨zs, H2, I2, rz, q2⟩ => ⟨I2.kIn, ?_⟩) hpl
  rw [hks]
  exact run_fnk F (hr.mono hk) hb pass0 I2 .nil rz q2
end
end L2

set_option Elab.async false
set_option linter.all false
set_option maxRecDepth 100000
set_option maxHeartbeats 1000000
/-! rings: ring_length, turned -/
namespace L2
open PySem PySem.Spec PyProof.Rows
section
variable {P : Program} {w : World} {K : PySem.W.Frag} {mg : Str → Option Value} {base : Heap} {x qual : Str} {st : Stmt} {dvs : List V} {f : Addr} {fd : FuncData}
/-- a def with defaults whose body lets nothing out -/
theorem FunD.ok0 {N ps : List Str} {k : Nat} {sp : Sp} (F : FunD K x qual (defArgs st) (defBody st) (defScope st) dvs [] f fd) (S : FnScope N ps (defScope st)) (len : ∀ vs H Q E, sp vs H Q E → vs.length = ps.length)
    (hbody : ∀ (cdv : Value) (A : Around) (outer : List Env) (s : Shared) (H : Hp) (vs : List V) (Q : VK) (E : XK), Room k (A.deeper (envOfC qual (defScope st) s.heap.objs.size f cdv)) → sp vs H Q E →
      ∃ t, PSs (cxOf CX0 P w K mg base N qual (defScope st) f cdv A outer s H E).nox (defBody st) t ∧ t { nx := fun _ H' => Q .non H', rt := Q } (start N vs) H) : FnOk P w K mg base CX0 (k + 1) f fd ps sp :=
  F.ok S len fun cdv A outer s H vs Q E hr h => let ⟨t, h1, h2⟩ := hbody cdv A outer s H vs Q E hr h; ⟨t, h1.nox, h2⟩
theorem FunD.plain (F : FunD K x qual (defArgs st) (defBody st) (defScope st) [] [] f fd) : Fun K x qual st f fd := by
  obtain ⟨oc, od, dV, kV, doc, pm, an, cdv, ct, osl, rfl, lk, hcd, hD, hK⟩ := F.ex
  rcases hD with ⟨_, rfl⟩ | ⟨e, _⟩
  · exact ⟨⟨oc, od, kV, doc, pm, an, cdv, ct, osl, rfl, lk, hcd⟩, F.kp⟩
  · exact absurd rfl e
end
end L2
namespace E3
open PySem PySem.Spec PyProof.Rows L2
open C8 (Cal Mak Met InsC pe_c pe_mt pe_mt0 call_isC clsBody)
theorem pw0 {b e m : Nat} (h : e = 0) : pw b e m = 1 := if_pos h
section
variable {P : Program} {w : World} {K : PySem.W.Frag} {mg : Str → Option Value} {base : Heap}
theorem scRingLen : FnScope ["rows", "columns", "place", "last", "found", "prime", "many"] ["rows", "columns", "place"] (defScope sRingLen) := ⟨rfl, rfl, rfl, by decide +kernel, rfl, by decide +kernel, by decide +kernel⟩
theorem ok_ringLen {f : Addr} {fd : FuncData} (F : Fun K "ring_length" "ring_length" sRingLen f fd) (hg : mg "gcd" = some (.builtin "math.gcd")) (hl : mg "lcm" = some (.builtin "math.lcm")) (Cp : Cal P w K mg base 3 "check_place" spChkP []) (Fa : Cal P w K mg base 1 "factors" spFactors []) (Or_ : Cal P w K mg base 2 "order" spOrder []) : FnOk P w K mg base CX0 4 f fd ["rows", "columns", "place"] spRingM := by
  refine F.ok scRingLen (fun vs H Q E h => ?_) (fun cdv A outer s H vs Q E hr h => ?_)
  · obtain ⟨r, c, p, rfl, _⟩ := h
    rfl
  · obtain ⟨r, c, p, rfl, hT, hp, q⟩ := h
    refine ⟨_, pss_cons (ps_expr (pe_c Cp hr (by decide) rfl (pa_cons (pv 0) (pa_cons (pv 1) (pa_cons (pv 2) pa_nil)))))
      (pss_cons (ps_set (i := 3) scRingLen.nd rfl (Or.inl rfl) (pe_op op_sub (pe_op op_mul (pv 0) (pv 1)) pe_int))
      (pss_cons (ps_if (pt_cmpR op_eq (pv 2) (pv 3) (nomark _)) (pss_one (ps_ret pe_int)) pss_nil)
      (pss_cons (ps_set (i := 4) scRingLen.nd rfl (Or.inl rfl) pe_int)
      (pss_cons (ps_for PassesOwn.never rfl (pi_list (pe_c Fa hr (by decide) rfl (pa_cons (pe_op op_fdivW (pv 3) (pe_callBfun cr_gcd (by rfl) hg (pa_cons (pv 2) (pa_cons (pv 3) pa_nil)))) pa_nil))) (pg_tup rfl (pgs_cons (pg_name (i := 5) scRingLen.nd rfl (Or.inl rfl)) (pgs_cons (pg_name (i := 6) scRingLen.nd rfl (Or.inl rfl)) pgs_nil)))
        (pss_one (ps_set (i := 4) scRingLen.nd rfl (Or.inl rfl) (pe_callBfun cr_lcm (by rfl) hl (pa_cons (pv 4) (pa_cons (pe_c Or_ hr (by decide) rfl (pa_cons (pv 0) (pa_cons (pv 5) (pa_cons (pv 6) pa_nil)))) pa_nil))))))
      (pss_one (ps_ret (pv 4))))))), ?_⟩
    obtain ⟨r1, c1, r2, c2⟩ := id hT
    obtain ⟨l1, l2⟩ := tb_lt hT
    refine ⟨_, rfl, _, rfl, _, rfl, r, c, p, rfl, hT, hp, fun H1 S1 => ?_⟩
    have el := cI_last hT
    dsimp only
    refine seq_asg (te_mid (fun x H' => x = cI (r * c - 1) ∧ H1 = H') (fun R k => ⟨_, rfl, _, rfl, _, _, rfl, rfl, .inl ⟨by omega, by omega⟩, _, _, rfl, rfl, k _ _ ⟨el, rfl⟩⟩) ?_)
    rintro x _ ⟨rfl, rfl⟩
    generalize hL : r * c - 1 = L at el q
    have hLl : L < 2 ^ 40 := by omega
    have hp2 : p ≤ L := by omega
    refine ⟨_, rfl, _, rfl, rfl, _, rfl, iteD (fun he => ?_) (fun he => ?_)⟩
    · have : p = L := cI_inj he
      have e1 : ringM r L p = 1 := if_pos this
      have := q H1 S1
      rw [e1] at this
      exact this
    · dsimp only [tNext]
      have pl : p < L := by
        rcases Nat.lt_or_ge p L with z | z
        · exact z
        · exact absurd (congrArg cI (Nat.le_antisymm hp2 z)) he
      have e1 : ringM r L p = lcmF r (facM (L / Nat.gcd p L)) := if_neg (by omega)
      rw [e1] at q
      have gp : 1 ≤ Nat.gcd p L := Nat.gcd_pos_of_pos_right _ (by omega)
      have gl : Nat.gcd p L ≤ L := Nat.gcd_le_right _ (by omega)
      have d1 : 1 ≤ L / Nat.gcd p L := Nat.div_pos gl gp
      have d2 : L / Nat.gcd p L < 2 ^ 40 := Nat.lt_of_le_of_lt (Nat.div_le_self _ _) hLl
      refine ⟨_, rfl, _, rfl, _, rfl, _, _, rfl, _, _, rfl, rfl, ⟨?_, ?_⟩, L / Nat.gcd p L, ?_, d1, d2, fun H2 a S2 pr => ?_⟩
      · simp only [Int.natAbs_natCast]; omega
      · simp only [Int.natAbs_natCast]; exact l40 (by omega)
      · have := cI_div L (Nat.gcd p L)
        rw [← this, ← Int.natAbs_natCast p, ← Int.natAbs_natCast L]
        simp
      · obtain ⟨g, hpd⟩ := facM_ok d1
        obtain ⟨ts, t1, t2, t3⟩ := pr
        generalize L / Nat.gcd p L = D at q d1 d2 g hpd t2 t3
        refine ⟨a, rfl, ⟨_, SqL.of t1⟩, for_it (walk_list (xs := ts.map V.ref)) (fun i σ' H' => (∃ u1 u2, σ' = [some (cI r), some (cI c), some (cI p), some (cI L), some (cI (lcmF r ((facM D).take i))), u1, u2]) ∧ Same H2 H') ⟨⟨none, none, rfl⟩, Same.refl _⟩ (fun i σ' H' _ z => SqL.of (z.2 _ _ t1)) ?_ ?_⟩
        · rintro i x σ' H9 H3 hi ⟨⟨u1, u2, rfl⟩, S3⟩ ⟨rfl, hx⟩
          rw [List.length_map] at hi
          have hi2 : i < (facM D).length := by omega
          rw [List.getElem?_map, List.getElem?_eq_getElem hi] at hx
          obtain rfl := Option.some.inj hx
          have ey := List.getElem?_eq_getElem hi2
          have ht := S3 _ _ (t3 i _ _ (List.getElem?_eq_getElem hi) ey)
          have gy := g _ (List.getElem_mem hi2)
          obtain ⟨yl, ye, yp⟩ := exp_lt g (Nat.le_of_eq hpd) d2 (List.getElem_mem hi2)
          obtain ⟨a1, a2⟩ := lcmF_ok g (r := r) (i + 1)
          obtain ⟨b1, b2⟩ := lcmF_ok g (r := r) i
          have p1 := prodF_take_le g (i + 1)
          have p2 := prodF_take_le g i
          obtain ⟨o1, o2⟩ := ordM_ok (b := r) (e := ((facM D)[i]).2) gy.1
          have o3 := units_le gy.1 gy.2
          rw [lcmF_take ey] at a1 a2
          rw [lcmF_take ey]
          refine ⟨_, _, rfl, SqT.of ht, rfl, _, _, rfl, _, _, rfl, rfl, ?_⟩
          refine ⟨_, rfl, _, rfl, _, rfl, _, rfl, r, _, _, rfl, by omega, gy.1, gy.2, yp, fun H4 S4 => ?_⟩
          exact ⟨_, _, rfl, by omega, by omega, by omega, ⟨_, _, rfl⟩, S3.trans S4⟩
        · rintro σ' H3 ⟨⟨u1, u2, rfl⟩, S3⟩
          refine ⟨_, rfl, ?_⟩
          rw [List.length_map, t2, List.take_length]
          exact q H3 ((S1.trans S2).trans S3)
end
end E3

set_option linter.all false
set_option maxHeartbeats 400000
/-! rings: the mirrors of the dicts -/
namespace E3
abbrev Dt := List (Nat × Nat)
def getI (l : Dt) (k : Nat) : Option Nat := (l.find? fun x => decide (x.1 = k)).map (·.2)
def putI (l : Dt) (k v : Nat) : Dt := if (l.any fun x => decide (x.1 = k)) = true then l.map (fun x => if x.1 = k then (x.1, v) else x) else l ++ [(k, v)]
def addI (g : Dt) (k s : Nat) : Dt := putI g k ((getI g k).getD 0 + s)
def grow1 (l pl : Nat) (parts : Dt) (g : Dt) : Dt := parts.foldl (fun g x => addI g (Nat.lcm l x.1) (pl * x.2)) g
def growM (found parts : Dt) : Dt := found.foldl (fun g x => grow1 x.1 x.2 parts g) []
def partsM (r p e : Nat) : Dt := (1, 1) :: (List.range e).map fun j => (ordM r p (j + 1), unitsM p (j + 1))
def placesM (r : Nat) (fac : Dt) : Dt := fac.foldl (fun d x => growM d (partsM r x.1 x.2)) [(1, 1)]
def cntF (l : Dt) : Nat := l.foldr (fun x n => (x.2 + 1) * n) 1
theorem putI_len (l : Dt) (k v : Nat) : (putI l k v).length ≤ l.length + 1 := by
  unfold putI
  split
  · rw [List.length_map]; omega
  · rw [List.length_append]; simp
theorem putI_keys (l : Dt) (k v j : Nat) : j ∈ (putI l k v).map (·.1) ↔ j = k ∨ j ∈ l.map (·.1) := by
  unfold putI
  by_cases h : (l.any fun x => decide (x.1 = k)) = true
  · rw [if_pos h, List.map_map]
    have e : ((fun x : Nat × Nat => x.1) ∘ fun x => if x.1 = k then (x.1, v) else x) = (fun x => x.1) := by
      funext x
      simp only [Function.comp]
      split <;> rfl
    rw [e]
    refine ⟨.inr, fun z => z.elim (fun e => ?_) id⟩
    subst e
    obtain ⟨x, hx, he⟩ := List.any_eq_true.mp h
    exact List.mem_map.mpr ⟨x, hx, of_decide_eq_true he⟩
  · rw [if_neg h, List.map_append, List.mem_append]
    simp only [List.map_cons, List.map_nil, List.mem_singleton]
    exact Or.comm
def KeysB (l : Dt) (B : Nat) : Prop := ∀ j ∈ l.map (·.1), 1 ≤ j ∧ j ≤ B
theorem KeysB.put {l : Dt} {B k v : Nat} (h : KeysB l B) (k1 : 1 ≤ k) (k2 : k ≤ B) : KeysB (putI l k v) B := fun j hj => by
  rcases (putI_keys l k v j).mp hj with e | e
  · subst e; exact ⟨k1, k2⟩
  · exact h j e
theorem grow1_ok (l pl : Nat) {B : Nat} : ∀ (parts : Dt) (g : Dt), KeysB g B → (∀ x ∈ parts, 1 ≤ Nat.lcm l x.1 ∧ Nat.lcm l x.1 ≤ B) → KeysB (grow1 l pl parts g) B ∧ (grow1 l pl parts g).length ≤ g.length + parts.length ∧ ∀ j, j ∈ (grow1 l pl parts g).map (·.1) ↔ j ∈ g.map (·.1) ∨ ∃ x ∈ parts, j = Nat.lcm l x.1
  | [], g, h, _ => ⟨h, Nat.le_refl _, fun j => ⟨.inl, fun z => z.elim id fun ⟨x, hx, _⟩ => by cases hx⟩⟩
  | y :: parts, g, h, hp => by
    obtain ⟨y1, y2⟩ := hp y (List.mem_cons_self ..)
    obtain ⟨a, b, c⟩ := grow1_ok l pl parts (addI g (Nat.lcm l y.1) (pl * y.2)) (h.put y1 y2) fun x hx => hp x (List.mem_cons_of_mem _ hx)
    have pl' := putI_len g (Nat.lcm l y.1) ((getI g (Nat.lcm l y.1)).getD 0 + pl * y.2)
    refine ⟨a, ?_, fun j => ?_⟩
    · refine Nat.le_trans b ?_
      rw [List.length_cons]
      unfold addI
      omega
    · refine (c j).trans ?_
      unfold addI
      rw [putI_keys]
      constructor
      · rintro ((e | e) | ⟨x, hx, e⟩)
        · exact .inr ⟨y, List.mem_cons_self .., e⟩
        · exact .inl e
        · exact .inr ⟨x, List.mem_cons_of_mem _ hx, e⟩
      · rintro (e | ⟨x, hx, e⟩)
        · exact .inl (.inr e)
        · rcases List.mem_cons.mp hx with rfl | hx
          · exact .inl (.inl e)
          · exact .inr ⟨x, hx, e⟩
theorem growF_ok {B : Nat} (parts : Dt) : ∀ (found g : Dt), KeysB g B → (∀ y ∈ found, ∀ x ∈ parts, 1 ≤ Nat.lcm y.1 x.1 ∧ Nat.lcm y.1 x.1 ≤ B) → KeysB (found.foldl (fun g x => grow1 x.1 x.2 parts g) g) B ∧ (found.foldl (fun g x => grow1 x.1 x.2 parts g) g).length ≤ g.length + found.length * parts.length ∧
    ∀ j, j ∈ (found.foldl (fun g x => grow1 x.1 x.2 parts g) g).map (·.1) ↔ j ∈ g.map (·.1) ∨ ∃ y ∈ found, ∃ x ∈ parts, j = Nat.lcm y.1 x.1
  | [], g, h, _ => ⟨h, by simp, fun j => ⟨.inl, fun z => z.elim id fun ⟨y, hy, _⟩ => by cases hy⟩⟩
  | y :: found, g, h, hp => by
    obtain ⟨a, b, c⟩ := grow1_ok y.1 y.2 parts g h (hp y (List.mem_cons_self ..))
    obtain ⟨a2, b2, c2⟩ := growF_ok parts found _ a fun z hz => hp z (List.mem_cons_of_mem _ hz)
    refine ⟨a2, ?_, fun j => ?_⟩
    · refine Nat.le_trans b2 ?_
      rw [List.length_cons, Nat.add_mul, Nat.one_mul]
      omega
    · refine (c2 j).trans ?_
      rw [c j]
      constructor
      · rintro ((e | ⟨x, hx, e⟩) | ⟨z, hz, x, hx, e⟩)
        · exact .inl e
        · exact .inr ⟨y, List.mem_cons_self .., x, hx, e⟩
        · exact .inr ⟨z, List.mem_cons_of_mem _ hz, x, hx, e⟩
      · rintro (e | ⟨z, hz, x, hx, e⟩)
        · exact .inl (.inl e)
        · rcases List.mem_cons.mp hz with rfl | hz
          · exact .inl (.inr ⟨x, hx, e⟩)
          · exact .inr ⟨z, hz, x, hx, e⟩
theorem parts_ok {r p e : Nat} (hp : 2 ≤ p) (he : 1 ≤ e) : (partsM r p e).length = e + 1 ∧ ∀ x ∈ partsM r p e, 1 ≤ x.1 ∧ x.1 ≤ p ^ e ∧ x.2 ≤ p ^ e := by
  refine ⟨by simp [partsM], fun x hx => ?_⟩
  have pe : 1 ≤ p ^ e := Nat.pow_pos (by omega)
  rcases List.mem_cons.mp hx with rfl | hx
  · exact ⟨Nat.le_refl _, pe, pe⟩
  · obtain ⟨j, hj, rfl⟩ := List.mem_map.mp hx
    have hj := List.mem_range.mp hj
    obtain ⟨a, b⟩ := ordM_ok (b := r) (e := j + 1) hp
    have c := units_le hp (show 1 ≤ j + 1 by omega)
    have d : p ^ (j + 1) ≤ p ^ e := Nat.pow_le_pow_right (by omega) (by omega)
    exact ⟨a, by show ordM r p (j + 1) ≤ _; omega, by show unitsM p (j + 1) ≤ _; omega⟩
theorem placesM_take {r : Nat} {l : Dt} {i : Nat} {x : Nat × Nat} (h : l[i]? = some x) : placesM r (l.take (i + 1)) = growM (placesM r (l.take i)) (partsM r x.1 x.2) := by
  unfold placesM
  rw [List.take_succ, h, List.foldl_append]; rfl
theorem cntF_app (l m : Dt) : cntF (l ++ m) = cntF l * cntF m := by
  induction l with
  | nil => simp [cntF]
  | cons x l ih =>
    have : cntF (x :: l ++ m) = (x.2 + 1) * cntF (l ++ m) := rfl
    rw [this, ih, ← Nat.mul_assoc]; rfl
theorem cntF_pos (l : Dt) : 1 ≤ cntF l := by
  induction l with
  | nil => exact Nat.le_refl _
  | cons x l ih => exact Nat.mul_pos (by omega) ih
theorem cntF_take_succ {l : Dt} {i : Nat} {x : Nat × Nat} (h : l[i]? = some x) : cntF (l.take (i + 1)) = cntF (l.take i) * (x.2 + 1) := by
  rw [List.take_succ, h, cntF_app]; simp [cntF]
theorem cntF_take_le (l : Dt) (i : Nat) : cntF (l.take i) ≤ cntF l := by
  have e : cntF l = cntF (l.take i) * cntF (l.drop i) := by rw [← cntF_app, List.take_append_drop]
  rw [e]
  exact Nat.le_mul_of_pos_right _ (cntF_pos _)
theorem key_lcm {d : Dt} {B r p e : Nat} (hd : KeysB d B) (hp : 2 ≤ p) (he : 1 ≤ e) : ∀ y ∈ d, ∀ x ∈ partsM r p e, 1 ≤ Nat.lcm y.1 x.1 ∧ Nat.lcm y.1 x.1 ≤ B * p ^ e := fun y hy x hx => by
  obtain ⟨a, b⟩ := hd y.1 (List.mem_map.mpr ⟨y, hy, rfl⟩)
  obtain ⟨c, f, _⟩ := (parts_ok hp he).2 x hx
  obtain ⟨g, h⟩ := lcm_le a c
  exact ⟨g, Nat.le_trans h (Nat.mul_le_mul b f)⟩
theorem places_ok {r : Nat} {l : Dt} (g : Good l) : ∀ i, KeysB (placesM r (l.take i)) (prodF (l.take i)) ∧ (placesM r (l.take i)).length ≤ cntF (l.take i) ∧ 1 ∈ (placesM r (l.take i)).map (·.1)
  | 0 => ⟨fun j hj => by
      have : j = 1 := by simpa [placesM] using hj
      subst this; exact ⟨Nat.le_refl _, Nat.le_refl _⟩, Nat.le_refl _, List.mem_cons_self ..⟩
  | i + 1 => by
    obtain ⟨a, b, c⟩ := places_ok g (r := r) i
    by_cases h : i < l.length
    · have e := List.getElem?_eq_getElem h
      have gx := g _ (List.getElem_mem h)
      rw [placesM_take e, prodF_take_succ e, cntF_take_succ e]
      obtain ⟨k1, k2, k3⟩ := growF_ok (B := prodF (l.take i) * (l[i]).1 ^ (l[i]).2) (partsM r (l[i]).1 (l[i]).2) (placesM r (l.take i)) [] (fun j hj => by cases hj) (key_lcm a gx.1 gx.2)
      refine ⟨k1, ?_, ?_⟩
      · refine Nat.le_trans k2 ?_
        rw [(parts_ok gx.1 gx.2).1]
        simp only [List.length_nil, Nat.zero_add]
        exact Nat.mul_le_mul_right _ b
      · refine (k3 1).mpr (.inr ?_)
        obtain ⟨y, hy, he⟩ := List.mem_map.mp c
        exact ⟨y, hy, (1, 1), List.mem_cons_self .., by
          show 1 = Nat.lcm y.1 1
          rw [he]; rfl⟩
    · rw [List.take_of_length_le (by omega)] at a b c ⊢
      exact ⟨a, b, c⟩
theorem getI_some {l : Dt} {k : Nat} (h : k ∈ l.map (·.1)) : ∃ v, getI l k = some v := by
  obtain ⟨x, hx, e⟩ := List.mem_map.mp h
  unfold getI
  cases hf : l.find? fun x => decide (x.1 = k) with
  | none => exact absurd (decide_eq_true e) (List.find?_eq_none.mp hf x hx)
  | some y => exact ⟨y.2, rfl⟩
/-- the sorted list -/
def sortI (l : List Nat) : List Nat := l.mergeSort (fun a b => decide (a ≤ b))
theorem sortI_ok (l : List Nat) : (sortI l).Perm l ∧ (sortI l).Pairwise (· ≤ ·) := by
  refine ⟨List.mergeSort_perm _ _, ?_⟩
  have := List.pairwise_mergeSort (le := fun a b : Nat => decide (a ≤ b)) (fun a b c h1 h2 => by simp at *; omega) (fun a b => by simp; omega) l
  exact this.imp fun h => of_decide_eq_true h
theorem sorted_eq : ∀ {l m : List Nat}, l.Perm m → l.Pairwise (· ≤ ·) → m.Pairwise (· ≤ ·) → l = m
  | [], m, p, _, _ => (List.Perm.nil_eq p)
  | x :: l, [], p, _, _ => by have := p.length_eq; simp at this
  | x :: l, y :: m, p, h1, h2 => by
    have a := List.pairwise_cons.mp h1
    have b := List.pairwise_cons.mp h2
    have e : x = y := by
      have m1 : x ∈ y :: m := p.mem_iff.mp (List.mem_cons_self ..)
      have m2 : y ∈ x :: l := p.mem_iff.mpr (List.mem_cons_self ..)
      rcases List.mem_cons.mp m1 with e | m1
      · exact e
      · rcases List.mem_cons.mp m2 with e | m2
        · exact e.symm
        · exact Nat.le_antisymm (a.1 _ m2) (b.1 _ m1)
    subst e
    rw [sorted_eq (List.Perm.cons_inv p) a.2 b.2]
/-- rings(r, c) -/
def bumpM (d : Dt) : Dt := putI d 1 ((getI d 1).getD 0 + 1)
def ringsD (r last : Nat) : Dt := if 0 < last then bumpM (placesM r (facM last)) else [(1, 1)]
def ringsM (r last : Nat) : List (Nat × Nat) := (sortI ((ringsD r last).map (·.1))).map fun k => (k, ((getI (ringsD r last) k).getD 0) / k)
end E3

set_option Elab.async false
set_option linter.all false
set_option maxRecDepth 100000
set_option maxHeartbeats 1000000
/-! sorted(d), d a dict with whole numbers as keys -/
namespace L2
open PySem PySem.Spec PyProof.Rows
section
variable {prog : Program} {w : World} {A : Around} {E : Value → Shared → Prop} {s : Shared} {T : String} {r d : Addr} {n : Nat} {P : Nat → Value → Prop} {OK : Heap → Prop}
theorem collect_kdl {Q : List Value → Shared → Prop} (K : PySem.W.KdlSrc prog w T r d n P OK) (hh : A.handled = none) (hok : OK s.heap) (hn : n ≤ sizeLine)
    (hQ : ∀ h' tk acc', (∀ b o, s.heap.get? b = some o → h'.get? b = some o) → ItemsOf P acc' n → Q acc'.toList { s with heap := h', toks := tk }) : wpAny (model prog w) A (collect (.ref r)) Q E s := by
  have hS : (s.heap.push { cls := .type "list", data := .seq ([] : List Value).toArray }).get? s.heap.objs.size = some { cls := .type "list", data := .seq ([] : List Value).toArray } := Heap.get?_push_size _ rfl
  have hlt := K.there _ hok
  have key : ∀ R : Result → Shared → Prop, (∀ h' tk acc' c', (∀ b o, s.heap.get? b = some o → h'.get? b = some o) → h'.get? s.heap.objs.size = some { cls := .type "list", dict := none, data := .seq acc' c', slots := #[] } → ItemsOf P acc' n → R (.ok (.ret (.ref s.heap.objs.size))) { s with heap := h', toks := tk }) →
      codeAny (model prog w) A (.builtin "list.__iadd__" ⟨[.ref s.heap.objs.size, .ref r], []⟩) R { s with heap := s.heap.push { cls := .type "list", data := .seq ([] : List Value).toArray } } := by
    intro R hR
    refine codeAny_builtin F.entry_list_iadd ?_
    rw [Around.under_plainId F.plain_list_iadd _]
    show wpAny _ A.in1 (Builtin.List.listExtendWith (.ref s.heap.objs.size) (.ref r) (.ref s.heap.objs.size)) _ _ _
    exact PySem.W.kdl_extend (s := { s with heap := s.heap.push { cls := .type "list", data := .seq ([] : List Value).toArray } }) K hh (K.keep _ _ hok fun b _ o e => Heap.get?_push_of_some _ e) s.heap.objs.size (Nat.ne_of_gt hlt.1) (Nat.ne_of_gt hlt.2) (.ref s.heap.objs.size) _ hS
      (fun h' tk acc' c' hk hS' hacc => hR h' tk acc' c' (fun b o e => hk b o (Nat.ne_of_lt (Heap.lt_size e)) (Heap.get?_push_of_some _ e)) hS' hacc) hn
  unfold collect
  refine wpAny_bind (wpAny_runValue (codeAny_builtin F.entry_proto_collect ?_))
  rw [Around.under_plainId F.plain_proto_collect _]
  show wpAny _ A.in1 (newList [] >>= fun l => again (.builtin "list.__iadd__" ⟨[l, .ref r], []⟩)) _ _ s
  refine wpAny_bind (wpAny_newObj_type ?_)
  refine wpAny_pure ⟨plainId_quiet F.plain_list_iadd _, key _ fun h' tk acc' c' hk hS' hacc => ?_⟩
  show wpAny _ A (load s.heap.objs.size >>= _) _ _ _
  refine wpAny_bind (wpAny_load hS' ?_)
  exact wpAny_pure (hQ h' tk acc' hk hacc)
end
def rSortedD : List V → Hp → VK → Prop := fun vs H Q => ∃ (d : Addr) (kvs : List (Key × V)) (ns : List Int), vs = [V.ref d] ∧ Rd H d (.dK kvs) ∧ kvs.map (·.1) = ns.map Sum.inl ∧
  ∀ ns' : List Int, ns'.Perm ns → ns'.Pairwise (· ≤ ·) → NewQ H (.lst (ns'.map V.int)) Q
theorem cr_sortedD {X : Cx} (hc : X.calm = true) : CallR X (.builtin "sorted") rSortedD := by
  intro pins s σ H vs us Q I r h
  obtain ⟨d, kvs, ns, rfl, hd, hk, q⟩ := h
  obtain ⟨z, lo, rs, rk, hdo⟩ := dk_rd I.hok hd
  obtain ⟨ep, hat⟩ := hdo.dictAt
  have hl : kvs.length = rs.length := Paired.length rk
  rw [Vals.ref1 r]
  refine Calls.call_function_entry kind_sorted plain_sorted entry_sorted (args_sorted1 _) ?_
  unfold Builtin.«sorted»
  refine wpAny_bind (m := checkCount "sorted" 1 1 _) (wpAny_pure ?_)
  refine wpAny_bind (collect_kdl (PySem.W.kdl_dict (knd := mixKind X.prog X.w) (kvs := rs) (ep := ep) lo) (I.ok.hd hc) hat (by rw [← hl]; exact z) fun h' tk acc hkp hacc => ?_)
  have sz : acc.toList.length = ns.length := by
    have e := congrArg List.length hk
    rw [List.length_map, List.length_map] at e
    rw [Array.length_toList, hacc.1, ← hl, e]
  have hv : Vals (ns.map V.int) acc.toList := by
    refine vals_of_at (by rw [List.length_map]; exact sz.symm) fun j x w h1 h2 => ?_
    obtain ⟨k, y, hky, hi⟩ := hacc.2 j w (by rw [← Array.getElem?_toList]; exact h2)
    have e1 : (kvs.map (·.1))[j]? = some k := by
      rw [KV.keys rk, List.getElem?_map, hky] <;> rfl
    rw [hk, List.getElem?_map] at e1
    rw [List.getElem?_map] at h1
    cases e : ns[j]? with
    | none => rw [e] at e1; cases e1
    | some i =>
      rw [e] at e1 h1
      have := Option.some.inj e1
      subst this
      have := Option.some.inj h1
      subst this
      exact keyIs_rel (k := Sum.inl i) (v := w) hi
  have hi := hv.ints
  have I1 : Inv X pins σ H { s with heap := h', toks := tk } := I.kept hkp
  have hz : acc.toList.length ≤ sizeLine := by
    have e := congrArg List.length hk
    rw [List.length_map, List.length_map] at e
    omega
  refine wpAny_bind (wpAny_newList ?_ hz)
  have hoL : (h'.push (seqObj "list" acc.toList.toArray 0)).get? h'.objs.size = some (seqObj "list" acc.toList.toArray 0) := Heap.get?_push_size _ rfl
  show wpAny _ _ _ _ _ { s with heap := h'.push (seqObj "list" acc.toList.toArray 0), toks := tk }
  refine wpAny_bind (wpAny_holding (wpAny_call_entry slot_list_sort ⟨_, hoL, rfl⟩ entry_list_sort (SrtO.list_sort_ord SrtO.swo_int hoL hz (fun h2 => SrtO.ints_sortable hi h2) fun out hs hb => ⟨_, rfl, ?_⟩) (args_list_sort _)))
  obtain ⟨k1, k2, k3⟩ := SrtO.ints_out hi hs hb
  obtain ⟨ep2, he'⟩ := sortedHeap_at (vs := acc.toList) (out := out.toArray) hoL
  have hlen : ((out.map SrtO.iv).map V.int).length ≤ sizeLine := by rw [List.length_map, k2.length_eq, ← sz]; exact hz
  refine wpAny_pure ⟨_, rfl, .ref h'.objs.size, upd H h'.objs.size (.lst ((out.map SrtO.iv).map V.int)), I1.laid (t' := tk) (fun b u e => ?_) (Nat.le_refl _) ⟨hlen, out, ep2, vals_of_ints k1, he'⟩, rfl, (q _ k2 k3).at I1.fresh⟩
  have lt := Heap.lt_size e
  rw [sortedHeap_old (Nat.ne_of_lt lt) (by rw [size_push']; exact Nat.lt_succ_of_lt lt)]
  exact Heap.get?_push_of_some _ e
end L2

set_option Elab.async false
set_option linter.all false
set_option maxRecDepth 100000
set_option maxHeartbeats 1000000
/-! rings: places_by_length -/
namespace E3
open PySem PySem.Spec PyProof.Rows L2
open C8 (Cal Mak Met InsC pe_c pe_mt pe_mt0 call_isC clsBody)
def kvsOf (l : Dt) : List (Key × V) := l.map fun x => ((Sum.inl ((x.1 : Nat) : Int) : Key), cI x.2)
abbrev kI (n : Nat) : Key := Sum.inl ((n : Nat) : Int)
theorem kI_inj {a b : Nat} : kI a = kI b ↔ a = b := ⟨fun h => by have := Sum.inl.inj h; omega, fun h => by rw [h]⟩
theorem val_kvs (l : Dt) (k : Nat) : valV (kvsOf l) (kI k) = (getI l k).map cI := by
  induction l with
  | nil => rfl
  | cons x l ih =>
    unfold kvsOf at ih ⊢
    rw [List.map_cons]
    by_cases h : x.1 = k
    · rw [valV_pos (kI_inj.mpr h)]
      simp [getI, h]
    · rw [valV_neg (fun z => h (kI_inj.mp z)), ih]
      simp [getI, h]
theorem put_kvs (l : Dt) (k v : Nat) : putK (kvsOf l) (kI k) (cI v) = kvsOf (putI l k v) := by
  unfold putK putI
  have e : ((kvsOf l).any fun kv => decide (kv.1 = kI k)) = (l.any fun x => decide (x.1 = k)) := by
    unfold kvsOf
    rw [List.any_map]
    congr 1
    funext x
    show decide (kI x.1 = kI k) = decide (x.1 = k)
    exact decide_eq_decide.mpr kI_inj
  rw [e]
  by_cases h : (l.any fun x => decide (x.1 = k)) = true
  · rw [if_pos h, if_pos h]
    unfold kvsOf
    rw [List.map_map, List.map_map]
    refine List.map_congr_left fun x _ => ?_
    show (if kI x.1 = kI k then (kI x.1, cI v) else (kI x.1, cI x.2)) = _
    by_cases h2 : x.1 = k
    · rw [if_pos (kI_inj.mpr h2)]; simp only [Function.comp, if_pos h2]
    · rw [if_neg (fun z => h2 (kI_inj.mp z))]; simp only [Function.comp, if_neg h2]
  · rw [if_neg h, if_neg h]
    unfold kvsOf
    rw [List.map_append]; rfl
theorem kvs_len (l : Dt) : (kvsOf l).length = l.length := List.length_map _
theorem kvs_at {l : Dt} {i : Nat} {y : Nat × Nat} (h : l[i]? = some y) : (kvsOf l)[i]? = some (kI y.1, cI y.2) := by unfold kvsOf; rw [List.getElem?_map, h]; rfl
theorem _root_.L2.SameB.toSame {D : Addr} {H H1 H2 : Hp} (S : SameB D H1 H2) (S0 : Same H H1) (n : H D = none) : Same H H2 := fun b o h => S b o (fun z => by rw [z, n] at h; cases h) (S0 b o h)
theorem PrsAt.keep {H H' : Hp} {a : Addr} {l : List (Nat × Nat)} (h : PrsAt H a l) (k : ∀ b o, H b = some o → (∀ kvs, o ≠ .dK kvs) → H' b = some o) : PrsAt H' a l :=
  let ⟨ts, h1, h2, h3⟩ := h
  ⟨ts, k _ _ h1 (fun _ z => nomatch z), h2, fun i t x e1 e2 => k _ _ (h3 i t x e1 e2) (fun _ z => nomatch z)⟩
theorem parts_ok' (r p j : Nat) : (partsM r p j).length = j + 1 := by simp [partsM]
theorem ne_of_2 {H6 : Hp} {a G T : Addr} {o : HO} {q : HO} {kvs : List (Key × V)} (h : (upd H6 T q) a = some o) (hG : H6 G = some (.dK kvs)) (gt : G ≠ T) (ho : ∀ k, o ≠ .dK k := by intro _ z; cases z) : a ≠ G := fun z => by
  rw [z, upd_ne gt, hG] at h
  exact ho _ (Option.some.inj h).symm
/-- what is returned: a new dict; cnt: few enough lengths -/
def spPlaces : Sp := fun vs H Q _ => ∃ r L : Nat, vs = [cI r, cI L] ∧ r < 2 ^ 40 ∧ 1 ≤ L ∧ L < 2 ^ 40 ∧ cntF (facM L) < sizeLine ∧ ∀ H' D, Same H H' → H D = none → H' D = some (.dK (kvsOf (placesM r (facM L)))) → Q (.ref D) H'
theorem partsM_succ (r p j : Nat) : partsM r p (j + 1) = partsM r p j ++ [(ordM r p (j + 1), unitsM p (j + 1))] := by
  unfold partsM
  rw [List.range_succ, List.map_append]; rfl
theorem grow1_take {l pl : Nat} {parts g : Dt} {j : Nat} {x : Nat × Nat} (h : parts[j]? = some x) : grow1 l pl (parts.take (j + 1)) g = addI (grow1 l pl (parts.take j) g) (Nat.lcm l x.1) (pl * x.2) := by
  unfold grow1
  rw [List.take_succ, h, List.foldl_append]; rfl
theorem growM_take {found parts : Dt} {i : Nat} {y : Nat × Nat} (h : found[i]? = some y) : growM (found.take (i + 1)) parts = grow1 y.1 y.2 parts (growM (found.take i) parts) := by
  unfold growM
  rw [List.take_succ, h, List.foldl_append]; rfl
section
variable {P : Program} {w : World} {K : PySem.W.Frag} {mg : Str → Option Value} {base : Heap}
theorem scPlaces : FnScope ["rows", "last", "found", "prime", "many", "parts", "exponent", "grown", "length", "places", "turn", "share", "whole"] ["rows", "last"] (defScope sPlaces) := ⟨rfl, rfl, rfl, by decide +kernel, rfl, by decide +kernel, by decide +kernel⟩
theorem ok_places {f : Addr} {fd : FuncData} (F : Fun K "places_by_length" "places_by_length" sPlaces f fd) (B : Bt4 mg) (hl : mg "lcm" = some (.builtin "math.lcm")) (U : Cal P w K mg base 1 "units" spUnits []) (Fa : Cal P w K mg base 1 "factors" spFactors []) (Or_ : Cal P w K mg base 2 "order" spOrder []) : FnOk P w K mg base CX0 3 f fd ["rows", "last"] spPlaces := by
  refine F.ok scPlaces (fun vs H Q E h => ?_) (fun cdv A outer s H vs Q E hr h => ?_)
  · obtain ⟨r, c, rfl, _⟩ := h
    rfl
  · obtain ⟨r, L, rfl, hrl, L1, L2, hc, q⟩ := h
    refine ⟨_, pss_cons (ps_set (i := 2) scPlaces.nd rfl (Or.inl rfl) (pe_disp (pps_cons pe_int pe_int pps_nil) (by rfl) (by rfl) (fun z => by cases z) (by decide)))
      (pss_cons (ps_for PassesOwn.never rfl (pi_list (pe_c Fa hr (by decide) rfl (pa_cons (pv 1) pa_nil))) (pg_tup rfl (pgs_cons (pg_name (i := 3) scPlaces.nd rfl (Or.inl rfl)) (pgs_cons (pg_name (i := 4) scPlaces.nd rfl (Or.inl rfl)) pgs_nil)))
        (pss_cons (ps_set (i := 5) scPlaces.nd rfl (Or.inl rfl) (pe_lstS (pa_cons (pe_tupS (pa_cons pe_int (pa_cons pe_int pa_nil))) pa_nil)))
        (pss_cons (ps_for PassesOwn.never rfl (pi_range2 rfl B.rng_ (pa_cons pe_int (pa_cons (pe_op op_add (pv 4) pe_int) pa_nil))) (pg_name (i := 6) scPlaces.nd rfl (Or.inl rfl))
          (pss_one (ps_expr (pe_bm PySem.F.plainAttrs_list PySem.F.slot_list_append PySem.F.type_list_append mt_append (pv 5) (pa_cons (pe_tupS (pa_cons (pe_c Or_ hr (by decide) rfl (pa_cons (pv 0) (pa_cons (pv 3) (pa_cons (pv 6) pa_nil)))) (pa_cons (pe_c U hr (by decide) rfl (pa_cons (pv 3) (pa_cons (pv 6) pa_nil))) pa_nil))) pa_nil)))))
        (pss_cons (ps_set (i := 7) scPlaces.nd rfl (Or.inl rfl) pe_dnewK)
        (pss_cons (ps_lock (ps_for PassesOwn.never rfl (pi_items (pv 2)) (pg_tup rfl (pgs_cons (pg_name (i := 8) scPlaces.nd rfl (Or.inl rfl)) (pgs_cons (pg_name (i := 9) scPlaces.nd rfl (Or.inl rfl)) pgs_nil)))
          (pss_one (ps_for PassesOwn.never rfl (pi_list (pv 5)) (pg_tup rfl (pgs_cons (pg_name (i := 10) scPlaces.nd rfl (Or.inl rfl)) (pgs_cons (pg_name (i := 11) scPlaces.nd rfl (Or.inl rfl)) pgs_nil)))
            (pss_cons (ps_set (i := 12) scPlaces.nd rfl (Or.inl rfl) (pe_callBfun cr_lcm (by rfl) hl (pa_cons (pv 8) (pa_cons (pv 10) pa_nil))))
            (pss_one (ps_dput (hu_of hr) (pv 7) (pv 12) (pe_op op_add (pe_dget2 (hu_of hr) (pv 7) (pv 12) pe_int ⟨rfl, rfl, rfl, rfl⟩) (pe_op op_mul (pv 9) (pv 11))) rfl)))))))
        (pss_one (ps_set (i := 2) scPlaces.nd rfl (Or.inl rfl) (pv 7))))))))
      (pss_one (ps_ret (pv 2)))), ?_⟩
    refine seq_asg (te_mid (fun x H0 => ∃ D0, x = V.ref D0 ∧ H D0 = none ∧ Same H H0 ∧ H0 D0 = some (.dK (kvsOf [(1, 1)]))) (fun R k D0 n0 => ⟨upd_same, [(kI 1, cI 1)], rfl, by decide, k _ _ ⟨D0, rfl, n0, fun b o hb => ?_, upd_same⟩⟩) ?_)
    · rw [upd_ne (ne_of_none hb n0), upd_ne (ne_of_none hb n0)]
      exact hb
    rintro x H0 ⟨D0, rfl, n0, S0, hD0⟩
    refine ⟨_, rfl, L, rfl, L1, L2, fun H1 a S1 pr => ?_⟩
    obtain ⟨g, hpd⟩ := facM_ok L1
    obtain ⟨ts, t1, t2, t3⟩ := pr
    refine ⟨a, rfl, ⟨_, SqL.of t1⟩, for_it (walk_list (xs := ts.map V.ref)) (fun i σ' H' => (∃ D u3 u4 u5 u6 u7 u8 u9 u10 u11 u12, σ' = [some (cI r), some (cI L), some (.ref D), u3, u4, u5, u6, u7, u8, u9, u10, u11, u12] ∧ H D = none ∧ H' D = some (.dK (kvsOf (placesM r ((facM L).take i))))) ∧ Same H1 H') ⟨⟨D0, none, none, none, none, none, none, none, none, none, none, rfl, n0, S1 _ _ hD0⟩, Same.refl _⟩ (fun i σ' H' _ z => SqL.of (z.2 _ _ t1)) ?_ ?_⟩
    · rintro i x σ' H9 H2 hi ⟨⟨D, u3, u4, u5, u6, u7, u8, u9, u10, u11, u12, rfl, nD, hD⟩, S2⟩ ⟨rfl, hx⟩
      rw [List.length_map] at hi
      have hi2 : i < (facM L).length := by omega
      rw [List.getElem?_map, List.getElem?_eq_getElem hi] at hx
      obtain rfl := Option.some.inj hx
      have ey := List.getElem?_eq_getElem hi2
      have ht := S2 _ _ (t3 i _ _ (List.getElem?_eq_getElem hi) ey)
      have gy := g _ (List.getElem_mem hi2)
      obtain ⟨yl, ye, yp⟩ := exp_lt g (Nat.le_of_eq hpd) L2 (List.getElem_mem hi2)
      obtain ⟨kb, kl, k1⟩ := places_ok g (r := r) i
      have pt := prodF_take_le g (i + 1)
      rw [prodF_take_succ ey, hpd] at pt
      have ct := cntF_take_le (facM L) (i + 1)
      rw [cntF_take_succ ey] at ct
      rw [placesM_take ey]
      generalize placesM r ((facM L).take i) = fd0 at hD kb kl k1
      generalize prodF ((facM L).take i) = B0 at kb pt
      generalize cntF ((facM L).take i) = c0 at kl ct
      generalize (facM L)[i] = y at ht gy yl ye yp pt ct
      obtain ⟨pl1, pl2⟩ := parts_ok (r := r) gy.1 gy.2
      refine ⟨_, _, rfl, SqT.of ht, rfl, _, _, rfl, _, _, rfl, rfl, ?_⟩
      refine ⟨(by show 2 ≤ sizeLine; decide), fun t0 H3 S3 n3 h3 => ⟨(by show 1 ≤ sizeLine; decide), fun b H4 S4 n4 h4 => ?_⟩⟩
      have nb2 : H2 b = none := S3.free n4
      have pr0 : PrsAt H4 b (partsM r y.1 0) := ⟨[t0], h4, rfl, fun j t z e1 e2 => by
        match j, e1, e2 with
        | 0, e1, e2 =>
          obtain rfl := Option.some.inj e1
          obtain rfl := Option.some.inj e2
          exact S4 _ _ h3⟩
      refine ⟨_, rfl, _, _, rfl, rfl, _, _, rfl, ⟨by decide, by decide, by omega, by omega⟩, ?_⟩
      have ne : ((((y.2 : Nat) : Int) + 1) - 1).toNat = y.2 := by omega
      rw [ne]
      refine for_it (walk_range (n := y.2)) (fun j σ' H' => (∃ u6, σ' = [some (cI r), some (cI L), some (.ref D), some (cI y.1), some (cI y.2), some (.ref b), u6, u7, u8, u9, u10, u11, u12]) ∧ SameB b H4 H' ∧ PrsAt H' b (partsM r y.1 j)) ⟨⟨u6, rfl⟩, SameB.refl _ _, pr0⟩ (fun _ _ _ _ _ => trivial) ?_ ?_
      · rintro j x σ' H5 H6 hj ⟨⟨u6, rfl⟩, S5, pr5⟩ ⟨rfl, hx⟩
        obtain rfl : x = cI (j + 1) := hx.trans (by show V.int (1 + ((j : Nat) : Int)) = _; exact congrArg V.int (by omega))
        obtain ⟨us, w1, w2, w3⟩ := pr5
        refine ⟨_, rfl, .inl ⟨rfl, _, SqL.of w1⟩, _, rfl, _, rfl, _, rfl, r, y.1, j + 1, rfl, hrl, gy.1, by omega, ?_, fun H7 S7 => ?_⟩
        · exact Nat.lt_of_le_of_lt (Nat.pow_le_pow_right (by omega) (by omega)) yp
        · refine ⟨_, rfl, _, rfl, y.1, j + 1, rfl, gy.1, yl, by omega, by omega, (by show 2 ≤ sizeLine; decide), fun t H8 S8 n8 h8 => ?_⟩
          have S78 := S7.trans S8
          have w1' := S78 _ _ w1
          refine ⟨b, _, _, rfl, rfl, w1', by rw [List.length_map, w2, (parts_ok' r y.1 j), sizeLine_eq]; omega, ⟨_, rfl⟩, ?_, ?_⟩
          · exact (S5.to S78).upd
          · rw [partsM_succ]
            exact .snoc w1' w2 (fun i u z e1 e2 => S78 _ _ (w3 i u z e1 e2)) h8
      · rintro σ' H5 ⟨⟨u6, rfl⟩, S5, pr5⟩
        have S25 : Same H2 H5 := S5.toSame (S3.trans S4) nb2
        refine fun G nG => ?_
        have hD5 := S25 _ _ hD
        have gD : D ≠ G := ne_of_none hD5 nG
        have hD6 : (upd H5 G (.dK [])) D = some (.dK (kvsOf fd0)) := by rw [upd_ne gD]; exact hD5
        refine ⟨D, _, hD6, trivial, fun od => ?_⟩
        have keep5 : ∀ H' : Hp, SameB G (upd (upd H5 G (.dK [])) D (.frz od (.dK (kvsOf fd0)))) H' → ∀ c o, H5 c = some o → c ≠ D → H' c = some o := by
          intro H' S c o hc hcd
          refine S c o (ne_of_none hc nG) ?_
          rw [upd_ne hcd, upd_ne (ne_of_none hc nG)]
          exact hc
        have keepP : ∀ H' : Hp, SameB G (upd (upd H5 G (.dK [])) D (.frz od (.dK (kvsOf fd0)))) H' → PrsAt H' b (partsM r y.1 y.2) := fun H' S => pr5.keep fun c o hc ho => keep5 H' S c o hc fun z => by
          rw [z, hD5] at hc
          exact ho _ (Option.some.inj hc).symm
        refine ⟨_, rfl, D, od, _, rfl, upd_same, for_it walk_items (fun i2 σ' H' => (∃ u6 u8 u9 u10 u11 u12, σ' = [some (cI r), some (cI L), some (.ref D), some (cI y.1), some (cI y.2), some (.ref b), u6, some (.ref G), u8, u9, u10, u11, u12]) ∧ SameB G (upd (upd H5 G (.dK [])) D (.frz od (.dK (kvsOf fd0)))) H' ∧ H' G = some (.dK (kvsOf (growM (fd0.take i2) (partsM r y.1 y.2))))) ⟨⟨u6, u8, u9, u10, u11, u12, rfl⟩, SameB.refl _ _, ?_⟩ (fun i2 σ' H' _ z => z.2.1 _ _ gD upd_same) ?_ ?_⟩
        · rw [upd_ne (Ne.symm gD), upd_same]; rfl
        · rintro i2 x σ' H6 H7 hi6 ⟨⟨u6, u8, u9, u10, u11, u12, rfl⟩, S6, hG⟩ ⟨T, xa, xb, rfl, nT, rfl, ea, eb⟩
          rw [kvs_len] at hi6
          have ez := List.getElem?_eq_getElem hi6
          dsimp only at ea eb
          rw [kvs_at ez] at ea eb
          obtain rfl := Option.some.inj ea
          obtain rfl := Option.some.inj eb
          have gt : G ≠ T := ne_of_none hG nT
          obtain ⟨f1, f2, _⟩ := growF_ok (B := B0 * y.1 ^ y.2) (partsM r y.1 y.2) (fd0.take i2) [] (fun j hj => by cases hj) (fun z hz => key_lcm kb gy.1 gy.2 z (List.mem_of_mem_take hz))
          have f1 : KeysB (growM (fd0.take i2) (partsM r y.1 y.2)) (B0 * y.1 ^ y.2) := f1
          have f2' : (growM (fd0.take i2) (partsM r y.1 y.2)).length ≤ i2 * (y.2 + 1) := by
            refine Nat.le_trans f2 ?_
            rw [pl1, List.length_take]
            simp only [List.length_nil, Nat.zero_add]
            exact Nat.mul_le_mul_right _ (by omega)
          have hk2 := key_lcm kb gy.1 gy.2 (r := r) _ (List.getElem_mem hi6)
          have kz := kb (fd0[i2]).1 (List.mem_map.mpr ⟨_, List.getElem_mem hi6, rfl⟩)
          have b0l : B0 ≤ B0 * y.1 ^ y.2 := Nat.le_mul_of_pos_right _ (Nat.pow_pos (by omega))
          have cz : i2 * (y.2 + 1) + (y.2 + 1) < sizeLine := by
            have h1 : (i2 + 1) * (y.2 + 1) ≤ c0 * (y.2 + 1) := Nat.mul_le_mul_right _ (by omega)
            rw [Nat.add_mul, Nat.one_mul] at h1
            omega
          rw [growM_take ez]
          generalize growM (fd0.take i2) (partsM r y.1 y.2) = g0 at hG f1 f2'
          generalize fd0[i2] = z at hk2 kz
          refine ⟨T, _, rfl, SqT.of upd_same, rfl, _, _, rfl, _, _, rfl, rfl, ?_⟩
          have S7 : SameB G (upd (upd H5 G (.dK [])) D (.frz od (.dK (kvsOf fd0)))) (upd H6 T (.tup [kV (kI z.1), cI z.2])) := S6.to (Same.upd nT)
          obtain ⟨us, w1, w2, w3⟩ := keepP _ S7
          refine ⟨_, rfl, b, rfl, ⟨_, SqL.of w1⟩, for_it (walk_list (xs := us.map V.ref)) (fun j σ' H' => (∃ u10 u11 u12, σ' = [some (cI r), some (cI L), some (.ref D), some (cI y.1), some (cI y.2), some (.ref b), u6, some (.ref G), some (cI z.1), some (cI z.2), u10, u11, u12]) ∧ SameB G (upd (upd H5 G (.dK [])) D (.frz od (.dK (kvsOf fd0)))) H' ∧ SameB G (upd H6 T (.tup [kV (kI z.1), cI z.2])) H' ∧ H' G = some (.dK (kvsOf (grow1 z.1 z.2 ((partsM r y.1 y.2).take j) g0)))) ⟨⟨u10, u11, u12, rfl⟩, S7, SameB.refl _ _, ?_⟩ (fun j σ' H' _ zz => SqL.of (zz.2.2.1 _ _ (ne_of_2 w1 hG gt) w1)) ?_ ?_⟩
          · rw [upd_ne gt]; exact hG
          · rintro j x σ' H8 H7 hj ⟨⟨u10, u11, u12, rfl⟩, S8, S8b, hG8⟩ ⟨rfl, hx⟩
            rw [List.length_map] at hj
            have hj2 : j < (partsM r y.1 y.2).length := by omega
            rw [List.getElem?_map, List.getElem?_eq_getElem hj] at hx
            obtain rfl := Option.some.inj hx
            have ev := List.getElem?_eq_getElem hj2
            have hv := w3 j _ _ (List.getElem?_eq_getElem hj) ev
            have hv8 := S8b _ _ (ne_of_2 hv hG gt) hv
            obtain ⟨v1, v2, v3⟩ := pl2 _ (List.getElem_mem hj2)
            obtain ⟨m1, m2⟩ := hk2 _ (List.getElem_mem hj2)
            obtain ⟨q1, q2, _⟩ := grow1_ok z.1 z.2 ((partsM r y.1 y.2).take j) g0 f1 (fun x hx => hk2 x (List.mem_of_mem_take hx))
            rw [List.length_take] at q2
            rw [grow1_take ev]
            generalize grow1 z.1 z.2 ((partsM r y.1 y.2).take j) g0 = g1 at hG8 q1 q2
            generalize (partsM r y.1 y.2)[j] = v at hv8 v1 v2 v3 m1 m2
            refine ⟨_, _, rfl, SqT.of hv8, rfl, _, _, rfl, _, _, rfl, rfl, ?_⟩
            refine ⟨_, rfl, _, rfl, z.1, v.1, rfl, by omega, by omega, by omega, ?_⟩
            refine ⟨_, rfl, G, rfl, .inl ⟨_, .inl hG8⟩, _, rfl, _, DGet.k (k := kI (Nat.lcm z.1 v.1)) hG8, _, rfl, _, rfl, _, _, rfl, rfl, .inr ⟨by omega, by omega⟩, ?_⟩
            refine ⟨(((getI g1 (Nat.lcm z.1 v.1)).getD 0 : Nat) : Int), _, ?_, rfl, _, rfl, _, rfl, G, _, rfl, DPut.k (k := kI (Nat.lcm z.1 v.1)) hG8 ?_, ?_⟩
            · rw [val_kvs]
              cases getI g1 (Nat.lcm z.1 v.1) <;> rfl
            · rw [kvs_len]; omega
            · have ev2 : V.int ((((getI g1 (Nat.lcm z.1 v.1)).getD 0 : Nat) : Int) + ((z.2 : Nat) : Int) * ((v.2 : Nat) : Int)) = cI ((getI g1 (Nat.lcm z.1 v.1)).getD 0 + z.2 * v.2) := by rw [← cI_add, Int.natCast_mul]
              refine ⟨⟨_, _, _, rfl⟩, S8.upd, S8b.upd, ?_⟩
              rw [upd_same]
              dsimp only
              rw [ev2, put_kvs]; rfl
          · rintro σ' H8 ⟨⟨u10, u11, u12, rfl⟩, S8, S8b, hG8⟩
            rw [List.length_map, w2, List.take_length] at hG8
            exact ⟨⟨_, _, _, _, _, _, rfl⟩, S8, hG8⟩
        · rintro σ' H7 ⟨⟨u6, u8, u9, u10, u11, u12, rfl⟩, S7, hG⟩
          rw [kvs_len, List.take_length] at hG
          refine ⟨S7 _ _ gD upd_same, _, rfl, ⟨G, _, _, _, _, _, _, _, _, _, _, rfl, ?_, ?_⟩, ?_⟩
          · exact ((S0.trans S1).trans (S2.trans S25)).free nG
          · rw [upd_ne (Ne.symm gD)]; exact hG
          · refine S2.trans fun c o hc => ?_
            by_cases e : c = D
            · subst e
              rw [hD] at hc
              rw [upd_same]; exact hc
            · rw [upd_ne e]
              exact keep5 H7 S7 c o (S25 _ _ hc) e
    · rintro σ' H2 ⟨⟨D, u3, u4, u5, u6, u7, u8, u9, u10, u11, u12, rfl, nD, hD⟩, S2⟩
      rw [List.length_map, t2, List.take_length] at hD
      exact ⟨_, rfl, q H2 D ((S0.trans S1).trans S2) nD hD⟩
end
end E3

set_option Elab.async false
set_option linter.all false
set_option maxRecDepth 100000
set_option maxHeartbeats 1000000
/-! rings: rings -/
namespace E3
open PySem PySem.Spec PyProof.Rows L2
open C8 (Cal Mak Met InsC pe_c pe_mt pe_mt0 call_isC clsBody)
theorem cast_back : ∀ {l : List Int}, (∀ x ∈ l, 0 ≤ x) → (l.map Int.toNat).map (fun n : Nat => (n : Int)) = l
  | [], _ => rfl
  | x :: l, h => by
    have h1 := cast_back (l := l) fun y hy => h y (List.mem_cons_of_mem _ hy)
    have h2 := h x (List.mem_cons_self ..)
    simp only [List.map_cons, h1, Int.toNat_of_nonneg h2]
theorem sorted_int {l : List Nat} {ns : List Int} (p : ns.Perm (l.map fun n : Nat => (n : Int))) (h : ns.Pairwise (· ≤ ·)) : ns = (sortI l).map fun n : Nat => (n : Int) := by
  have pos : ∀ x ∈ ns, 0 ≤ x := fun x hx => by
    obtain ⟨n, _, e⟩ := List.mem_map.mp (p.mem_iff.mp hx)
    omega
  have e := cast_back pos
  have p2 : (ns.map Int.toNat).Perm l := by
    have := p.map Int.toNat
    rw [List.map_map] at this
    have id_ : (Int.toNat ∘ fun n : Nat => (n : Int)) = id := by funext n; simp
    rw [id_, List.map_id] at this
    exact this
  have h2 : (ns.map Int.toNat).Pairwise (· ≤ ·) := by
    rw [List.pairwise_map]
    refine h.imp_of_mem fun ha hb hab => ?_
    omega
  obtain ⟨q1, q2⟩ := sortI_ok l
  rw [← sorted_eq (p2.trans q1.symm) h2 q2, e]
def spRingsM : Sp := fun vs H Q _ => ∃ r c : Nat, vs = [cI r, cI c] ∧ Tb r c ∧ cntF (facM (r * c - 1)) + 1 < sizeLine ∧ ∀ H' a, Same H H' → H a = none → PrsAt H' a (ringsM r (r * c - 1)) → Q (.ref a) H'
theorem kvs_keys (l : Dt) : (kvsOf l).map (·.1) = ((l.map (·.1)).map fun n : Nat => (n : Int)).map Sum.inl := by
  unfold kvsOf
  rw [List.map_map, List.map_map, List.map_map]; rfl
theorem ringsD_ok {r L : Nat} (hL : L < 2 ^ 40) : KeysB (ringsD r L) (2 ^ 40) ∧ (ringsD r L).length ≤ cntF (facM L) + 1 := by
  unfold ringsD
  by_cases h : 0 < L
  · rw [if_pos h]
    obtain ⟨g, hp⟩ := facM_ok h
    obtain ⟨a, b, c⟩ := places_ok g (r := r) (facM L).length
    rw [List.take_length] at a b c
    rw [hp] at a
    have a' : KeysB (placesM r (facM L)) (2 ^ 40) := fun j hj => ⟨(a j hj).1, by have := (a j hj).2; omega⟩
    exact ⟨a'.put (Nat.le_refl _) (by decide), Nat.le_trans (putI_len _ _ _) (by omega)⟩
  · rw [if_neg h]
    refine ⟨fun j hj => ?_, by have := cntF_pos (facM L); simp⟩
    have : j = 1 := by simpa using hj
    subst this
    decide
section
variable {P : Program} {w : World} {K : PySem.W.Frag} {mg : Str → Option Value} {base : Heap}
theorem scRings : FnScope ["rows", "columns", "last", "places", "length"] ["rows", "columns"] (defScope sRings) := ⟨rfl, rfl, rfl, by decide +kernel, rfl, by decide +kernel, by decide +kernel⟩
theorem ok_rings {f : Addr} {fd : FuncData} (F : Fun K "rings" "rings" sRings f fd) (B5 : Bt5 mg) (Cl : Cal P w K mg base 2 "check_lengths" spChkL []) (Pl : Cal P w K mg base 3 "places_by_length" spPlaces []) : FnOk P w K mg base CX0 4 f fd ["rows", "columns"] spRingsM := by
  refine F.ok scRings (fun vs H Q E h => ?_) (fun cdv A outer s H vs Q E hr h => ?_)
  · obtain ⟨r, c, rfl, _⟩ := h
    rfl
  · obtain ⟨r, c, rfl, hT, hc, q⟩ := h
    refine ⟨_, pss_cons (ps_expr (pe_c Cl hr (by decide) rfl (pa_cons (pv 0) (pa_cons (pv 1) pa_nil))))
      (pss_cons (ps_set (i := 2) scRings.nd rfl (Or.inl rfl) (pe_op op_sub (pe_op op_mul (pv 0) (pv 1)) pe_int))
      (pss_cons (ps_set (i := 3) scRings.nd rfl (Or.inr rfl) (pe_disp (pps_cons pe_int pe_int pps_nil) (by rfl) (by rfl) (fun z => by cases z) (by decide)))
      (pss_cons (ps_if (pt_cmpR op_gt (pv 2) pe_int (nomark _)) (pss_cons (ps_set (i := 3) scRings.nd rfl (Or.inr rfl) (pe_c Pl hr (by decide) rfl (pa_cons (pv 0) (pa_cons (pv 2) pa_nil))))
        (pss_one (ps_dput (hu_of hr) (pv 3) pe_int (pe_op op_add (pe_dget (hu_of hr) (pv 3) pe_int (fun _ _ => rfl)) pe_int) rfl))) pss_nil)
      (pss_one (ps_ret (pe_lc (own := [("length", 4)]) (g := gName 4) (tt := tYes) (te := tTupS (tCons (tVar 4) (tCons (tOp (rI CDivW fun i j => .int (i / j)) (tDGet (tVar 3) (tVar 4)) (tVar 4)) tNil))) rfl scRings.nd (pi_list (pe_callB (cr_sortedD rfl) (by rfl) B5.sorted_ (by decide +kernel) (pa_cons (pv 3) pa_nil)))
        (blkOk_by (own := [("length", 4)]) (N := ["rows", "columns", "last", "places", "length"]) (sc := defScope sRings) (by decide +kernel))
        (fun _ _ _ _ _ => pg_name (i := 4) scRings.nd rfl (Or.inl rfl)) (fun _ _ _ _ _ => pts_nil) (fun _ _ _ _ _ => by exact pe_tupS (pa_cons (pv 4) (pa_cons (pe_op op_fdivW (pe_dget (hu_of hr) (pv 3) (pv 4) (fun _ _ => rfl)) (pv 4)) pa_nil))))))))), ?_⟩
    obtain ⟨r1, c1, r2, c2⟩ := id hT
    obtain ⟨l1, l2⟩ := tb_lt hT
    refine ⟨_, rfl, _, rfl, r, c, rfl, hT, fun H1 S1 => ?_⟩
    have el := cI_last hT
    dsimp only
    refine seq_asg (te_mid (fun x H' => x = cI (r * c - 1) ∧ H1 = H') (fun R k => ⟨_, rfl, _, rfl, _, _, rfl, rfl, .inl ⟨by omega, by omega⟩, _, _, rfl, rfl, k _ _ ⟨el, rfl⟩⟩) ?_)
    rintro x _ ⟨rfl, rfl⟩
    generalize hL : r * c - 1 = L at el q hc
    have hLl : L < 2 ^ 40 := by omega
    refine seq_asg (te_mid (fun x H0 => ∃ D0, x = V.ref D0 ∧ H1 D0 = none ∧ Same H1 H0 ∧ H0 D0 = some (.dK (kvsOf [(1, 1)]))) (fun R k D0 n0 => ⟨upd_same, [(kI 1, cI 1)], rfl, by decide, k _ _ ⟨D0, rfl, n0, fun b o hb => ?_, upd_same⟩⟩) ?_)
    · rw [upd_ne (ne_of_none hb n0), upd_ne (ne_of_none hb n0)]
      exact hb
    rintro x H2 ⟨D0, rfl, n0, S2, hD0⟩
    have S12 := S1.trans S2
    refine ts_mid (fun σ' H' => ∃ D, σ' = [some (cI r), some (cI c), some (cI L), some (.ref D), none] ∧ Same H H' ∧ H' D = some (.dK (kvsOf (ringsD r L)))) (fun N k => ?_) ?_
    · refine ⟨_, rfl, _, _, rfl, rfl, _, rfl, iteD (fun hx => ?_) (fun hx => ?_)⟩
      · have h0 : 0 < L := by omega
        refine ⟨_, rfl, _, rfl, r, L, rfl, by omega, h0, hLl, by omega, fun H3 D S3 nD hD => ?_⟩
        obtain ⟨g, hp⟩ := facM_ok h0
        obtain ⟨a, b, c'⟩ := places_ok g (r := r) (facM L).length
        rw [List.take_length] at a b c'
        obtain ⟨v, hv⟩ := getI_some c'
        refine ⟨_, rfl, D, cI v, rfl, ?_, ((v : Nat) : Int), 1, rfl, rfl, _, rfl, D, _, rfl, DPut.k (k := kI 1) hD (by rw [kvs_len]; omega), ?_⟩
        · have := DGet.k (k := kI 1) hD
          rw [val_kvs, hv] at this
          exact this
        · refine k _ _ ⟨D, rfl, ?_, ?_⟩
          · intro b o hb
            rw [upd_ne (ne_of_none hb (S12.free nD))]
            exact S3 _ _ (S12 _ _ hb)
          · have ev : V.int (((v : Nat) : Int) + 1) = cI (v + 1) := cI_add v 1
            rw [upd_same]
            dsimp only
            rw [ev, put_kvs]
            unfold ringsD bumpM
            rw [if_pos h0, hv]; rfl
      · have h0 : ¬ 0 < L := by omega
        refine k _ _ ⟨D0, rfl, S12, ?_⟩
        rw [hD0]
        unfold ringsD
        rw [if_neg h0]
    · rintro σ' H3 ⟨D, rfl, S3, hD⟩
      obtain ⟨kb, kl⟩ := ringsD_ok (r := r) hLl
      refine ⟨_, rfl, D, _, _, rfl, .inl hD, kvs_keys _, fun ns' p1 p2 b H4 S4 n4 h4 => ?_⟩
      rw [sorted_int p1 p2] at h4
      have sk := sortI_ok ((ringsD r L).map (·.1))
      have hrl : (ringsM r L).length = (sortI ((ringsD r L).map (·.1))).length := by unfold ringsM; rw [List.length_map]
      refine ⟨b, rfl, ⟨_, SqL.of h4⟩, fun Dl nDl => lc_it (walk_list (xs := (List.map (fun n : Nat => (n : Int)) (sortI ((ringsD r L).map (·.1)))).map V.int)) (fun i H' => SameB Dl H4 H' ∧ PrsAt H' Dl ((ringsM r L).take i)) ⟨fun c o nc hc => by rw [upd_ne nc]; exact hc, .nil upd_same⟩ (fun i H' _ z => SqL.of (z.1 _ _ (ne_of_none h4 nDl) h4)) ?_ ?_⟩
      · rintro i x H5 H6 hi ⟨S5, pr⟩ ⟨rfl, hx⟩
        rw [List.length_map, List.length_map] at hi
        rw [List.getElem?_map, List.getElem?_map, List.getElem?_eq_getElem hi] at hx
        obtain rfl := Option.some.inj hx
        have hm : (sortI ((ringsD r L).map (·.1)))[i] ∈ (ringsD r L).map (·.1) := sk.1.mem_iff.mp (List.getElem_mem hi)
        have hri : (ringsM r L)[i]? = some ((sortI ((ringsD r L).map (·.1)))[i], ((getI (ringsD r L) ((sortI ((ringsD r L).map (·.1)))[i])).getD 0) / (sortI ((ringsD r L).map (·.1)))[i]) := by
          unfold ringsM
          rw [List.getElem?_map, List.getElem?_eq_getElem hi]; rfl
        generalize (sortI ((ringsD r L).map (·.1)))[i] = n at hm hri
        obtain ⟨n1, n2⟩ := kb n hm
        obtain ⟨v, hv⟩ := getI_some hm
        rw [hv] at hri
        have hD5 : H6 D = some (.dK (kvsOf (ringsD r L))) := S5 _ _ (ne_of_none (S4 _ _ hD) nDl) (S4 _ _ hD)
        obtain ⟨ts, t1, t2, t3⟩ := pr
        refine ⟨rfl, iteT (B := False) ⟨_, rfl, _, rfl, _, rfl, D, cI v, rfl, ?_, _, rfl, _, _, rfl, rfl, ⟨by show (0 : Int) < ((n : Nat) : Int); omega, ?_⟩, (by show 2 ≤ sizeLine; decide), fun t H7 S7 n7 h7 => ?_⟩⟩
        · have := DGet.k (k := kI n) hD5
          rw [val_kvs, hv] at this
          exact this
        · have := PySem.Flt.log2_lt_of (k := 41) (n := ((n : Nat) : Int).natAbs) (by decide) (by rw [Int.natAbs_natCast]; omega)
          show ((n : Nat) : Int).natAbs.log2 < 9000
          omega
        · have t1' := S7 _ _ t1
          refine ⟨_, t1', ?_, ?_, ?_⟩
          · rw [List.length_map, t2, List.length_take]
            have := sk.1.length_eq
            rw [List.length_map] at this
            omega
          · exact (S5.to S7).upd
          · rw [List.take_succ, hri]
            refine .snoc t1' t2 (fun i u z e1 e2 => S7 _ _ (t3 i u z e1 e2)) ?_
            rw [h7]
            exact congrArg (fun z => some (HO.tup [cI n, z])) (cI_div v n)
      · rintro H5 ⟨S5, pr⟩
        rw [List.length_map, List.length_map, ← hrl, List.take_length] at pr
        exact q H5 Dl (S5.toSame (S3.trans S4) ((S3.trans S4).free nDl)) ((S3.trans S4).free nDl) pr
end
end E3

set_option linter.all false
set_option maxHeartbeats 400000
/-! primes, powers, Euler's theorem for powers of a prime -/
namespace E3
def Pr (p : Nat) : Prop := 2 ≤ p ∧ ∀ d, d ∣ p → d = 1 ∨ d = p
theorem Pr.cop {p : Nat} (h : Pr p) (x : Nat) (n : ¬ p ∣ x) : Nat.Coprime p x := by
  rcases h.2 _ (Nat.gcd_dvd_left p x) with e | e
  · exact e
  · exact absurd (e ▸ Nat.gcd_dvd_right p x) n
theorem Pr.mul {p a b : Nat} (h : Pr p) (d : p ∣ a * b) : p ∣ a ∨ p ∣ b := by
  by_cases n : p ∣ a
  · exact .inl n
  · exact .inr ((h.cop a n).dvd_of_dvd_mul_left d)
theorem Pr.pow {p a : Nat} (h : Pr p) : ∀ n : Nat, p ∣ a ^ n → p ∣ a
  | 0, d => by
    rw [Nat.pow_zero] at d
    have := Nat.le_of_dvd (by decide) d
    have := h.1
    omega
  | n + 1, d => (h.mul (Nat.pow_succ a n ▸ d)).elim (Pr.pow h n) id
theorem Pr.same {p q : Nat} (hp : Pr p) (hq : Pr q) (d : p ∣ q) : p = q := (hq.2 p d).elim (fun e => absurd e (by have := hp.1; omega)) id
theorem pr_div : ∀ n, 2 ≤ n → ∃ q, Pr q ∧ q ∣ n := by
  intro n
  induction n using Nat.strongRecOn with
  | _ n ih =>
    intro h
    by_cases p : Pr n
    · exact ⟨n, p, Nat.dvd_refl n⟩
    · have : ∃ d, d ∣ n ∧ d ≠ 1 ∧ d ≠ n := by
        refine Classical.byContradiction fun z => p ⟨h, fun d hd => ?_⟩
        by_cases e : d = 1
        · exact .inl e
        · by_cases e2 : d = n
          · exact .inr e2
          · exact absurd ⟨d, hd, e, e2⟩ z
      obtain ⟨d, hd, d1, d2⟩ := this
      have dl := Nat.le_of_dvd (by omega) hd
      have d0 : d ≠ 0 := fun z => by subst z; have := Nat.eq_zero_of_zero_dvd hd; omega
      obtain ⟨q, hq, hqd⟩ := ih d (by omega) (by omega)
      exact ⟨q, hq, Nat.dvd_trans hqd hd⟩
theorem pow_div {p : Nat} (h : Pr p) : ∀ {n d : Nat}, d ∣ p ^ n → ∃ i, i ≤ n ∧ d = p ^ i
  | 0, d, hd => ⟨0, Nat.le_refl _, by simpa using hd⟩
  | n + 1, d, hd => by
    by_cases k : p ∣ d
    · obtain ⟨m, rfl⟩ := k
      rw [Nat.pow_succ, Nat.mul_comm (p ^ n) p] at hd
      have : m ∣ p ^ n := Nat.dvd_of_mul_dvd_mul_left (by have := h.1; omega) hd
      obtain ⟨i, hi, e⟩ := pow_div h this
      exact ⟨i + 1, by omega, by rw [e, Nat.pow_succ, Nat.mul_comm]⟩
    · have c : Nat.Coprime d p := (h.cop d k).symm
      rw [Nat.pow_succ] at hd
      obtain ⟨i, hi, e⟩ := pow_div h (c.dvd_of_dvd_mul_right hd)
      exact ⟨i, by omega, e⟩
/-! a list mapped into itself -/
theorem perm_of : ∀ {a b : List Nat}, a.Nodup → b.length ≤ a.length → (∀ x ∈ a, x ∈ b) → a.Perm b
  | [], b, _, h, _ => by
    have : b = [] := List.length_eq_zero_iff.mp (by simpa using h)
    rw [this]
  | x :: a, b, n, h, s => by
    have hx := s x (List.mem_cons_self ..)
    have nn := List.nodup_cons.mp n
    have p := List.perm_cons_erase hx
    refine (List.Perm.cons x (perm_of nn.2 ?_ fun y hy => ?_)).trans p.symm
    · rw [List.length_erase_of_mem hx]
      simp at h
      omega
    · have hne : y ≠ x := fun e => nn.1 (e ▸ hy)
      exact (List.mem_erase_of_ne hne).mpr (s y (List.mem_cons_of_mem _ hy))
theorem map_perm {l : List Nat} {f : Nat → Nat} (n : l.Nodup) (i : ∀ x ∈ l, ∀ y ∈ l, f x = f y → x = y) (s : ∀ x ∈ l, f x ∈ l) : (l.map f).Perm l := by
  refine perm_of ?_ (by rw [List.length_map]; exact Nat.le_refl _) fun y hy => ?_
  · rw [List.Nodup, List.pairwise_map]
    exact List.Pairwise.imp_of_mem (fun {a b} ha hb hab e => hab (i a ha b hb e)) n
  · obtain ⟨x, hx, e⟩ := List.mem_map.mp hy
    exact e ▸ s x hx
def prodL (l : List Nat) : Nat := l.foldr (· * ·) 1
theorem prodL_perm {a b : List Nat} (p : a.Perm b) : prodL a = prodL b := by
  induction p with
  | nil => rfl
  | cons x _ ih => show x * prodL _ = x * prodL _; rw [ih]
  | swap x y l => show y * (x * prodL l) = x * (y * prodL l); rw [← Nat.mul_assoc, ← Nat.mul_assoc, Nat.mul_comm y x]
  | trans _ _ h1 h2 => rw [h1, h2]
theorem prodL_map (r m : Nat) : ∀ l : List Nat, prodL (l.map fun x => r * x % m) % m = r ^ l.length * prodL l % m
  | [] => by simp [prodL]
  | x :: l => by
    show (r * x % m * prodL (l.map fun x => r * x % m)) % m = r ^ (l.length + 1) * (x * prodL l) % m
    rw [Nat.mul_mod, prodL_map r m l, Nat.mod_mod, ← Nat.mul_mod]
    congr 1
    rw [Nat.pow_succ]
    simp only [Nat.mul_assoc, Nat.mul_left_comm, Nat.mul_comm]
theorem prodL_cop {m : Nat} : ∀ {l : List Nat}, (∀ x ∈ l, Nat.Coprime m x) → Nat.Coprime m (prodL l)
  | [], _ => Nat.coprime_one_right m
  | x :: l, h => (h x (List.mem_cons_self ..)).mul_right (prodL_cop fun y hy => h y (List.mem_cons_of_mem _ hy))
def unitsL (p k : Nat) : List Nat := (List.range (p * k)).filter fun x => decide (¬ x % p = 0)
theorem unitsL_len {p : Nat} (hp : 2 ≤ p) : ∀ k, (unitsL p k).length = (p - 1) * k
  | 0 => rfl
  | k + 1 => by
    have e : unitsL p (k + 1) = unitsL p k ++ ((List.range p).map (p * k + ·)).filter fun x => decide (¬ x % p = 0) := by
      unfold unitsL
      rw [Nat.mul_succ, List.range_add, List.filter_append]
    rw [e, List.length_append, unitsL_len hp k, List.filter_map, List.length_map]
    have e2 : (List.range p).filter ((fun x => decide (¬ x % p = 0)) ∘ fun x => p * k + x) = (List.range p).filter (fun x => decide (¬ x = 0)) := by
      refine List.filter_congr fun x hx => ?_
      have hx := List.mem_range.mp hx
      simp only [Function.comp, Nat.mul_add_mod, Nat.mod_eq_of_lt hx]
    rw [e2]
    have e3 : ∀ n, ((List.range (n + 1)).filter (fun x => decide (¬ x = 0))).length = n := by
      intro n
      induction n with
      | zero => rfl
      | succ n ih => rw [List.range_succ, List.filter_append, List.length_append, ih]; simp
    have := e3 (p - 1)
    rw [show p - 1 + 1 = p by omega] at this
    rw [this, Nat.mul_succ]
theorem euler {p r j : Nat} (hp : Pr p) (hr : ¬ p ∣ r) (hj : 1 ≤ j) : r ^ unitsM p j % p ^ j = 1 % p ^ j := by
  have p2 := hp.1
  obtain ⟨k, hk⟩ : ∃ k, k = p ^ (j - 1) := ⟨_, rfl⟩
  have em : p ^ j = p * k := by rw [hk, ← Nat.pow_succ']; congr 1; omega
  have kp : 0 < k := hk ▸ Nat.pow_pos (by omega)
  have eu : unitsM p j = (unitsL p k).length := by rw [unitsL_len p2]; unfold unitsM; rw [hk]
  rw [eu]
  have cop : ∀ x, ¬ p ∣ x → Nat.Coprime (p ^ j) x := fun x hx => Nat.Coprime.pow_left j (hp.cop x hx)
  have mem : ∀ x, x ∈ unitsL p k ↔ x < p * k ∧ ¬ p ∣ x := fun x => by
    unfold unitsL
    rw [List.mem_filter, List.mem_range, decide_eq_true_eq, Nat.dvd_iff_mod_eq_zero]
  generalize hm : p ^ j = m at em cop
  have m0 : 0 < m := by rw [em]; exact Nat.mul_pos (by omega) kp
  have pm : p ∣ m := em ▸ Nat.dvd_mul_right p k
  have nd : (unitsL p k).Nodup := List.Pairwise.filter _ List.nodup_range
  have ps : ∀ x ∈ unitsL p k, r * x % m ∈ unitsL p k := fun x hx => by
    obtain ⟨_, h2⟩ := (mem x).mp hx
    refine (mem _).mpr ⟨em ▸ Nat.mod_lt _ m0, fun d => ?_⟩
    have : p ∣ r * x := (Nat.dvd_mod_iff pm).mp d
    exact (hp.mul this).elim hr h2
  have inj : ∀ x ∈ unitsL p k, ∀ y ∈ unitsL p k, r * x % m = r * y % m → x = y := fun x hx y hy e => by
    have hx1 := ((mem x).mp hx).1
    have hy1 := ((mem y).mp hy).1
    have key : ∀ a b : Nat, a < m → b ≤ a → r * a % m = r * b % m → a = b := fun a b ha hab e => by
      have h := Nat.sub_mod_eq_zero_of_mod_eq e
      rw [← Nat.mul_sub] at h
      have h2 : m ∣ a - b := (cop r hr).dvd_of_dvd_mul_left (Nat.dvd_of_mod_eq_zero h)
      have := Nat.eq_zero_of_dvd_of_lt h2 (by omega)
      omega
    rcases Nat.le_total x y with h | h
    · exact (key y x (em ▸ hy1) h e.symm).symm
    · exact key x y (em ▸ hx1) h e
  have pe := prodL_perm (map_perm nd inj ps)
  have h1 := prodL_map r m (unitsL p k)
  rw [pe] at h1
  have c := prodL_cop (m := m) (l := unitsL p k) fun x hx => cop x ((mem x).mp hx).2
  have r1 : 1 ≤ r ^ (unitsL p k).length := Nat.pow_pos (Nat.pos_of_ne_zero fun z => hr (z ▸ Nat.dvd_zero p))
  have h2 : (r ^ (unitsL p k).length * prodL (unitsL p k)) % m = (1 * prodL (unitsL p k)) % m := by rw [Nat.one_mul]; exact h1.symm
  have h3 := Nat.sub_mod_eq_zero_of_mod_eq h2
  rw [← Nat.sub_mul] at h3
  have h4 : m ∣ r ^ (unitsL p k).length - 1 := c.dvd_of_dvd_mul_right (Nat.dvd_of_mod_eq_zero h3)
  have h5 : r ^ (unitsL p k).length = 1 + (r ^ (unitsL p k).length - 1) := by omega
  rw [h5, Nat.add_mod, Nat.mod_eq_zero_of_dvd h4, Nat.add_zero, Nat.mod_mod]
end E3

set_option linter.all false
set_option maxHeartbeats 400000
/-! the factors are primes; the order -/
namespace E3
theorem strip_nd : ∀ (n p v e : Nat), 2 ≤ p → 1 ≤ v → v ≤ n → ¬ p ∣ (stripGo n p v e).1
  | 0, p, v, e, h, h1, h2 => by omega
  | n + 1, p, v, e, h, h1, h2 => by
    unfold stripGo
    by_cases z : v % p = 0
    · rw [if_pos z]
      have := Nat.div_lt_self (show 0 < v by omega) (show 1 < p by omega)
      exact strip_nd n p (v / p) (e + 1) h (div_pos' h1 z) (by omega)
    · rw [if_neg z]
      exact fun d => z (Nat.mod_eq_zero_of_dvd d)
theorem strip_pos {p v : Nat} (h : 2 ≤ p) (h1 : 1 ≤ v) (h2 : 0 < (stripGo v p v 0).2) : p ∣ v := by
  by_cases z : v % p = 0
  · exact Nat.dvd_of_mod_eq_zero z
  · exfalso
    have e : stripGo v p v 0 = (v, 0) := by
      match v, h1 with
      | k + 1, _ => exact if_neg z
    rw [e] at h2
    exact absurd h2 (Nat.lt_irrefl 0)
def Asc (l : List (Nat × Nat)) : Prop := (∀ x ∈ l, Pr x.1) ∧ l.Pairwise (fun x y => x.1 < y.1)
theorem pr_min {p : Nat} (h : 2 ≤ p) {v : Nat} (d : p ∣ v) (hq : ∀ q, 2 ≤ q → q < p → ¬ q ∣ v) : Pr p := by
  refine ⟨h, fun q hqp => ?_⟩
  have ql := Nat.le_of_dvd (by omega) hqp
  have q0 : q ≠ 0 := fun z => by rw [z] at hqp; have := Nat.eq_zero_of_zero_dvd hqp; omega
  by_cases e : q = 1
  · exact .inl e
  · by_cases e2 : q = p
    · exact .inr e2
    · exact absurd (Nat.dvd_trans hqp d) (hq q (by omega) (by omega))
theorem fin_pr {p v : Nat} {acc : List (Nat × Nat)} (h : 2 ≤ p) (hv : 1 ≤ v) (hq : ∀ q, 2 ≤ q → q < p → ¬ q ∣ v) (pv : v < p * p) (ha : Asc acc) (hl : ∀ x ∈ acc, x.1 < p) : Asc (facFin v acc) := by
  unfold facFin
  by_cases z : 1 < v
  · rw [if_pos z]
    have pl : p ≤ v := Nat.le_of_not_lt fun c => hq v z c (Nat.dvd_refl v)
    have vp : Pr v := by
      refine ⟨z, fun d hd => ?_⟩
      obtain ⟨e, rfl⟩ := hd
      by_cases d1 : d = 1
      · exact .inl d1
      · have d0 : d ≠ 0 := fun c => by subst c; simp at z
        have dp : p ≤ d := Nat.le_of_not_lt fun c => hq d (by omega) c (Nat.dvd_mul_right d e)
        by_cases e1 : e = 1
        · exact .inr (by rw [e1, Nat.mul_one])
        · have e0 : e ≠ 0 := fun c => by subst c; simp at z
          have ep : p ≤ e := Nat.le_of_not_lt fun c => hq e (by omega) c (Nat.dvd_mul_left e d)
          have := Nat.mul_le_mul dp ep
          omega
    refine ⟨fun x hx => ?_, List.pairwise_append.mpr ⟨ha.2, List.pairwise_singleton _ _, fun x hx y hy => ?_⟩⟩
    · rcases List.mem_append.mp hx with c | c
      · exact ha.1 x c
      · obtain rfl := List.mem_singleton.mp c
        exact vp
    · obtain rfl := List.mem_singleton.mp hy
      have := hl x hx
      show x.1 < v
      omega
  · rw [if_neg z]
    exact ha
theorem facGo_pr : ∀ (n p v : Nat) (acc : List (Nat × Nat)), v + 2 ≤ n + p → 2 ≤ p → 1 ≤ v → (∀ q, 2 ≤ q → q < p → ¬ q ∣ v) → Asc acc → (∀ x ∈ acc, x.1 < p) → Asc (facGo n p v acc)
  | 0, p, v, acc, hf, h, hv, hq, ha, hl => fin_pr h hv hq (by
      have : p ≤ p * p := Nat.le_mul_of_pos_left p (by omega)
      omega) ha hl
  | n + 1, p, v, acc, hf, h, hv, hq, ha, hl => by
    unfold facGo
    by_cases z : p * p ≤ v
    · rw [if_pos z]
      obtain ⟨a, b, c, d⟩ := strip_ok v p v 0 h hv
      have nd := strip_nd v p v 0 h hv (Nat.le_refl _)
      have sp := strip_pos (v := v) h hv
      have pv : p ≤ v := Nat.le_trans (Nat.le_mul_of_pos_left p (by omega)) z
      generalize stripGo v p v 0 = s at a b c d nd sp
      have sv : s.1 ∣ v := ⟨p ^ s.2, by rw [a]; simp⟩
      refine facGo_pr n (p + 1) s.1 _ (by omega) (by omega) b (fun q q2 ql hd => ?_) ?_ ?_
      · by_cases e : q = p
        · subst e; exact nd hd
        · exact hq q q2 (by omega) (Nat.dvd_trans hd sv)
      · by_cases y : 0 < s.2
        · rw [if_pos y]
          refine ⟨fun x hx => ?_, List.pairwise_append.mpr ⟨ha.2, List.pairwise_singleton _ _, fun x hx y hy => ?_⟩⟩
          · rcases List.mem_append.mp hx with c | c
            · exact ha.1 x c
            · obtain rfl := List.mem_singleton.mp c
              exact pr_min h (sp y) hq
          · obtain rfl := List.mem_singleton.mp hy
            exact hl x hx
        · rw [if_neg y]; exact ha
      · by_cases y : 0 < s.2
        · rw [if_pos y]
          intro x hx
          rcases List.mem_append.mp hx with c | c
          · have := hl x c; omega
          · obtain rfl := List.mem_singleton.mp c
            exact Nat.lt_succ_self p
        · rw [if_neg y]
          intro x hx
          have := hl x hx; omega
    · rw [if_neg z]
      exact fin_pr h hv hq (by omega) ha hl
theorem facM_pr {v : Nat} (hv : 1 ≤ v) : Asc (facM v) := facGo_pr v 2 v [] (Nat.le_refl _) (Nat.le_refl _) hv (fun q a b => by omega) ⟨fun x hx => (by cases hx), List.Pairwise.nil⟩ (fun x hx => by cases hx)
/-! powers that leave 1 -/
section
variable {r m : Nat}
def Ex (r m a : Nat) : Prop := r ^ a % m = 1
theorem Ex.zero (h : 2 ≤ m) : Ex r m 0 := by unfold Ex; rw [Nat.pow_zero]; exact Nat.mod_eq_of_lt h
theorem Ex.add (h : 2 ≤ m) {a b : Nat} (ha : Ex r m a) : Ex r m (a + b) ↔ Ex r m b := by
  unfold Ex at *
  rw [Nat.pow_add, Nat.mul_mod, ha, Nat.one_mul, Nat.mod_mod]
theorem Ex.mul (h : 2 ≤ m) {a : Nat} (ha : Ex r m a) : ∀ k, Ex r m (a * k)
  | 0 => Ex.zero h
  | k + 1 => by rw [Nat.mul_succ, Nat.add_comm]; exact (Ex.add h ha).mpr (Ex.mul h ha k)
theorem Ex.mod (h : 2 ≤ m) {a b : Nat} (ha : Ex r m a) (hb : Ex r m b) : Ex r m (b % a) := by
  have e := Nat.div_add_mod b a
  rw [← e] at hb
  have := (Ex.add h (Ex.mul h ha (b / a)) (b := b % a)).mp hb
  exact this
theorem Ex.gcd (h : 2 ≤ m) : ∀ (a b : Nat), Ex r m a → Ex r m b → Ex r m (Nat.gcd a b) := by
  intro a b
  induction a, b using Nat.gcd.induction with
  | H0 n => intro _ hb; rw [Nat.gcd_zero_left]; exact hb
  | H1 a b ha ih => intro h1 h2; rw [Nat.gcd_rec]; exact ih (Ex.mod h h1 h2) h1
theorem Ex.order (h : 2 ≤ m) {f : Nat} (f1 : 1 ≤ f) (hf : Ex r m f) (hq : ∀ q, Pr q → q ∣ f → ¬ Ex r m (f / q)) (k : Nat) : Ex r m k ↔ f ∣ k := by
  refine ⟨fun hk => ?_, fun ⟨c, e⟩ => e ▸ Ex.mul h hf c⟩
  have hg := Ex.gcd h f k hf hk
  obtain ⟨c, hc⟩ := Nat.gcd_dvd_left f k
  by_cases e : c = 1
  · rw [e, Nat.mul_one] at hc
    rw [hc]; exact Nat.gcd_dvd_right f k
  · have c0 : c ≠ 0 := fun z => by rw [z] at hc; omega
    obtain ⟨q, pq, d, hd⟩ := pr_div c (by omega)
    have q0 : 0 < q := by have := pq.1; omega
    have e1 : f = q * (Nat.gcd f k * d) := by
      conv => lhs; rw [hc, hd]
      simp only [Nat.mul_left_comm]
    have e2 : f / q = Nat.gcd f k * d := Nat.div_eq_of_eq_mul_right q0 e1
    exact absurd (e2 ▸ Ex.mul h hg d) (hq q pq ⟨_, e1⟩)
end
theorem pw_ex {r m a : Nat} (h : 1 ≤ a) : pw r a m = 1 ↔ Ex r m a := by unfold pw Ex; rw [if_neg (by omega)]
theorem ordLoop_ex {r m q : Nat} (h : 2 ≤ m) (q2 : 2 ≤ q) : ∀ (n f : Nat), 1 ≤ f → f ≤ n → Ex r m f → Ex r m (ordLoop n r m q f) ∧ ordLoop n r m q f ∣ f ∧ ¬ (q ∣ ordLoop n r m q f ∧ Ex r m (ordLoop n r m q f / q))
  | 0, f, h1, h2, _ => by omega
  | n + 1, f, h1, h2, he => by
    unfold ordLoop
    by_cases z : f % q = 0 ∧ pw r (f / q) m = 1
    · rw [if_pos z]
      have p1 := div_pos' h1 z.1
      have dl := Nat.div_lt_self (show 0 < f by omega) (show 1 < q by omega)
      obtain ⟨a, b, c⟩ := ordLoop_ex h q2 n (f / q) p1 (by omega) ((pw_ex p1).mp z.2)
      exact ⟨a, Nat.dvd_trans b (Nat.div_dvd_of_dvd (Nat.dvd_of_mod_eq_zero z.1)), c⟩
    · rw [if_neg z]
      refine ⟨he, Nat.dvd_refl f, fun w => z ⟨Nat.mod_eq_zero_of_dvd w.1, (pw_ex (div_pos' h1 (Nat.mod_eq_zero_of_dvd w.1))).mpr w.2⟩⟩
theorem keep_nd {r m q f g : Nat} (h : 2 ≤ m) (q2 : 2 ≤ q) (d : g ∣ f) (f1 : 1 ≤ f) (n : ¬ (q ∣ f ∧ Ex r m (f / q))) : ¬ (q ∣ g ∧ Ex r m (g / q)) := fun ⟨a, b⟩ => by
  obtain ⟨c, hc⟩ := d
  obtain ⟨e, he⟩ := a
  refine n ⟨Nat.dvd_trans ⟨e, he⟩ ⟨c, hc⟩, ?_⟩
  have q0 : 0 < q := by omega
  have e1 : g / q = e := Nat.div_eq_of_eq_mul_right q0 he
  have e2 : f / q = e * c := Nat.div_eq_of_eq_mul_right q0 (by rw [hc, he, Nat.mul_assoc])
  rw [e2]
  exact Ex.mul h (e1 ▸ b) c
theorem ordFold_ex {r m : Nat} (h : 2 ≤ m) : ∀ (l : List (Nat × Nat)), Good l → ∀ f, 1 ≤ f → Ex r m f → Ex r m (l.foldl (fun f x => ordLoop f r m x.1 f) f) ∧ l.foldl (fun f x => ordLoop f r m x.1 f) f ∣ f ∧ ∀ x ∈ l, ¬ (x.1 ∣ l.foldl (fun f x => ordLoop f r m x.1 f) f ∧ Ex r m (l.foldl (fun f x => ordLoop f r m x.1 f) f / x.1))
  | [], _, f, h1, he => ⟨he, Nat.dvd_refl f, fun x hx => by cases hx⟩
  | y :: l, g, f, h1, he => by
    have gy := g y (List.mem_cons_self ..)
    obtain ⟨a, b, c⟩ := ordLoop_ex h gy.1 f f h1 (Nat.le_refl _) he
    have p1 := (ordLoop_ok f r m y.1 f h1).1
    obtain ⟨a2, b2, c2⟩ := ordFold_ex h l (fun z hz => g z (List.mem_cons_of_mem _ hz)) (ordLoop f r m y.1 f) p1 a
    refine ⟨a2, Nat.dvd_trans b2 b, fun x hx => ?_⟩
    rcases List.mem_cons.mp hx with rfl | hx
    · exact keep_nd h gy.1 b2 p1 c
    · exact c2 x hx
theorem pr_in : ∀ {l : List (Nat × Nat)} {q : Nat}, Pr q → q ∣ prodF l → Asc l → ∃ x ∈ l, x.1 = q
  | [], q, hq, d, _ => by
    have := Nat.le_of_dvd (by decide) d
    have := hq.1
    simp [prodF] at *
    omega
  | x :: l, q, hq, d, a => by
    have d2 : q ∣ x.1 ^ x.2 * prodF l := d
    rcases hq.mul d2 with e | e
    · exact ⟨x, List.mem_cons_self .., (hq.same (a.1 x (List.mem_cons_self ..)) (hq.pow _ e)).symm⟩
    · obtain ⟨y, hy, e2⟩ := pr_in hq e ⟨fun z hz => a.1 z (List.mem_cons_of_mem _ hz), (List.pairwise_cons.mp a.2).2⟩
      exact ⟨y, List.mem_cons_of_mem _ hy, e2⟩
/-- the order -/
theorem ord_iff {r p e : Nat} (hp : Pr p) (he : 1 ≤ e) (hr : ¬ p ∣ r) (k : Nat) : Ex r (p ^ e) k ↔ ordM r p e ∣ k := by
  have p2 := hp.1
  have m2 : 2 ≤ p ^ e := Nat.le_trans p2 (Nat.le_self_pow (by omega) _)
  have u1 := units_pos (e := e) p2
  have eu : Ex r (p ^ e) (unitsM p e) := by
    have := euler hp hr he
    rw [Nat.mod_eq_of_lt m2] at this
    exact this
  obtain ⟨g, hpd⟩ := facM_ok u1
  obtain ⟨a, b, c⟩ := ordFold_ex m2 (facM (unitsM p e)) g (unitsM p e) u1 eu
  refine Ex.order m2 (ordM_ok p2).1 a (fun q hq hd => ?_) k
  obtain ⟨x, hx, ex⟩ := pr_in hq (by rw [hpd]; exact Nat.dvd_trans hd b) (facM_pr u1)
  have := c x hx
  rw [ex] at this
  exact fun z => this ⟨hd, z⟩
theorem ord_dvd {r p e : Nat} (hp : Pr p) (he : 1 ≤ e) (hr : ¬ p ∣ r) : ordM r p e ∣ unitsM p e := by
  have p2 := hp.1
  have m2 : 2 ≤ p ^ e := Nat.le_trans p2 (Nat.le_self_pow (by omega) _)
  have := euler hp hr he
  rw [Nat.mod_eq_of_lt m2] at this
  exact (ord_iff hp he hr _).mp this
end E3

set_option linter.all false
set_option maxHeartbeats 400000
/-! sums over the dict of the lengths -/
namespace E3
def sumT (t : Nat) : Dt → Nat
  | [] => 0
  | x :: l => (if x.1 ∣ t then x.2 else 0) + sumT t l
def NdK (d : Dt) : Prop := (d.map (·.1)).Nodup
theorem sumT_app (t : Nat) : ∀ a b : Dt, sumT t (a ++ b) = sumT t a + sumT t b
  | [], b => by simp [sumT]
  | x :: a, b => by
    show (if x.1 ∣ t then x.2 else 0) + sumT t (a ++ b) = _
    rw [sumT_app t a b, ← Nat.add_assoc]; rfl
theorem getI_cons (x : Nat × Nat) (l : Dt) (k : Nat) : getI (x :: l) k = if x.1 = k then some x.2 else getI l k := by
  unfold getI
  rw [List.find?_cons]
  by_cases h : x.1 = k
  · simp [h]
  · simp [h]
theorem getI_none {l : Dt} {k : Nat} (h : k ∉ l.map (·.1)) : getI l k = none := by
  cases e : getI l k with
  | none => rfl
  | some v =>
    exfalso
    unfold getI at e
    cases hf : l.find? fun x => decide (x.1 = k) with
    | none => rw [hf] at e; cases e
    | some y =>
      have := List.find?_some hf
      exact h (List.mem_map.mpr ⟨y, List.mem_of_find?_eq_some hf, of_decide_eq_true this⟩)
theorem map_id {l : Dt} {k v : Nat} (h : k ∉ l.map (·.1)) : l.map (fun x => if x.1 = k then (x.1, v) else x) = l := by
  conv => rhs; rw [← List.map_id l]
  refine List.map_congr_left fun x hx => ?_
  rw [if_neg fun e => h (List.mem_map.mpr ⟨x, hx, e⟩)]; rfl
theorem any_mem (l : Dt) (k : Nat) : (l.any fun x => decide (x.1 = k)) = true ↔ k ∈ l.map (·.1) := by
  rw [List.any_eq_true, List.mem_map]
  exact ⟨fun ⟨x, h, e⟩ => ⟨x, h, of_decide_eq_true e⟩, fun ⟨x, h, e⟩ => ⟨x, h, decide_eq_true e⟩⟩
/-- a put, by its parts -/
theorem putI_cons {x : Nat × Nat} {l : Dt} {k v : Nat} (n : NdK (x :: l)) : putI (x :: l) k v = if x.1 = k then (k, v) :: l else x :: putI l k v := by
  have nn := List.nodup_cons.mp n
  by_cases h : x.1 = k
  · rw [if_pos h]
    unfold putI
    rw [if_pos ((any_mem _ k).mpr (List.mem_map.mpr ⟨x, List.mem_cons_self .., h⟩)), List.map_cons, if_pos h, map_id (h ▸ nn.1), h]
  · rw [if_neg h]
    unfold putI
    by_cases m : k ∈ l.map (·.1)
    · rw [if_pos ((any_mem (x :: l) k).mpr (show k ∈ (x :: l).map (·.1) from List.mem_cons_of_mem _ m)), if_pos ((any_mem _ k).mpr m), List.map_cons, if_neg h]
    · rw [if_neg (fun z => (List.mem_cons.mp ((any_mem _ k).mp z)).elim (fun e => h e.symm) m), if_neg (fun z => m ((any_mem _ k).mp z))]; rfl
theorem putI_nd {l : Dt} {k v : Nat} (n : NdK l) : NdK (putI l k v) := by
  unfold NdK putI
  by_cases h : (l.any fun x => decide (x.1 = k)) = true
  · rw [if_pos h, List.map_map]
    have e : ((fun x : Nat × Nat => x.1) ∘ fun x => if x.1 = k then (x.1, v) else x) = (fun x => x.1) := by
      funext x
      simp only [Function.comp]
      split <;> rfl
    rw [e]; exact n
  · rw [if_neg h, List.map_append]
    refine List.nodup_append.mpr ⟨n, by simp, fun a ha b hb => ?_⟩
    have : b = k := by simpa using hb
    subst this
    exact fun z => h ((any_mem _ _).mpr (z ▸ ha))
theorem sum_put (t k v : Nat) : ∀ {l : Dt}, NdK l → sumT t (putI l k v) + (if k ∣ t then (getI l k).getD 0 else 0) = sumT t l + if k ∣ t then v else 0
  | [], _ => by simp [putI, sumT, getI]
  | x :: l, n => by
    rw [putI_cons n, getI_cons]
    by_cases h : x.1 = k
    · rw [if_pos h, if_pos h]
      show (if k ∣ t then v else 0) + sumT t l + (if k ∣ t then x.2 else 0) = (if x.1 ∣ t then x.2 else 0) + sumT t l + _
      rw [h]; omega
    · rw [if_neg h, if_neg h]
      have := sum_put t k v (List.nodup_cons.mp n).2 (l := l)
      show (if x.1 ∣ t then x.2 else 0) + sumT t (putI l k v) + _ = (if x.1 ∣ t then x.2 else 0) + sumT t l + _
      omega
theorem sum_add {t k s : Nat} {l : Dt} (n : NdK l) : sumT t (addI l k s) = sumT t l + if k ∣ t then s else 0 := by
  have := sum_put t k ((getI l k).getD 0 + s) n
  unfold addI
  by_cases h : k ∣ t
  · simp only [if_pos h] at this ⊢; omega
  · simp only [if_neg h] at this ⊢; omega
theorem sum_grow1 (t l pl : Nat) : ∀ (parts g : Dt), NdK g → NdK (grow1 l pl parts g) ∧ sumT t (grow1 l pl parts g) = sumT t g + if l ∣ t then pl * sumT t parts else 0
  | [], g, n => ⟨n, by show sumT t g = _; simp [sumT]⟩
  | x :: parts, g, n => by
    obtain ⟨a, b⟩ := sum_grow1 t l pl parts (addI g (Nat.lcm l x.1) (pl * x.2)) (putI_nd n)
    refine ⟨a, ?_⟩
    show sumT t (grow1 l pl parts (addI g (Nat.lcm l x.1) (pl * x.2))) = _
    rw [b, sum_add n]
    have e : (Nat.lcm l x.1 ∣ t) ↔ (l ∣ t ∧ x.1 ∣ t) := ⟨fun h => ⟨Nat.dvd_trans (Nat.dvd_lcm_left _ _) h, Nat.dvd_trans (Nat.dvd_lcm_right _ _) h⟩, fun h => Nat.lcm_dvd h.1 h.2⟩
    by_cases h1 : l ∣ t
    · rw [if_pos h1, if_pos h1]
      by_cases h2 : x.1 ∣ t
      · rw [if_pos (e.mpr ⟨h1, h2⟩)]
        show _ = sumT t g + pl * ((if x.1 ∣ t then x.2 else 0) + sumT t parts)
        rw [if_pos h2, Nat.mul_add]; omega
      · rw [if_neg (fun z => h2 (e.mp z).2)]
        show _ = sumT t g + pl * ((if x.1 ∣ t then x.2 else 0) + sumT t parts)
        rw [if_neg h2, Nat.mul_add]; omega
    · rw [if_neg h1, if_neg h1, if_neg (fun z => h1 (e.mp z).1)]
theorem sum_growF (t : Nat) (parts : Dt) : ∀ (found g : Dt), NdK g → NdK (found.foldl (fun g x => grow1 x.1 x.2 parts g) g) ∧ sumT t (found.foldl (fun g x => grow1 x.1 x.2 parts g) g) = sumT t g + sumT t found * sumT t parts
  | [], g, n => ⟨n, by simp [sumT]⟩
  | y :: found, g, n => by
    obtain ⟨a, b⟩ := sum_grow1 t y.1 y.2 parts g n
    obtain ⟨a2, b2⟩ := sum_growF t parts found _ a
    refine ⟨a2, ?_⟩
    show sumT t (found.foldl (fun g x => grow1 x.1 x.2 parts g) (grow1 y.1 y.2 parts g)) = sumT t g + ((if y.1 ∣ t then y.2 else 0) + sumT t found) * sumT t parts
    rw [b2, b, Nat.add_mul]
    by_cases h : y.1 ∣ t
    · rw [if_pos h, if_pos h]; omega
    · rw [if_neg h, if_neg h]; omega
theorem sum_parts {p r t : Nat} (hp : Pr p) (hr : ¬ p ∣ r) : ∀ e, sumT t (partsM r p e) = Nat.gcd (p ^ e) (r ^ t - 1)
  | 0 => by
    show (if 1 ∣ t then 1 else 0) + 0 = _
    rw [if_pos (Nat.one_dvd t), Nat.pow_zero, Nat.gcd_one_left]
  | e + 1 => by
    have e0 : partsM r p (e + 1) = partsM r p e ++ [(ordM r p (e + 1), unitsM p (e + 1))] := by
      unfold partsM
      rw [List.range_succ, List.map_append]; rfl
    rw [e0, sumT_app, sum_parts hp hr e]
    show _ + ((if ordM r p (e + 1) ∣ t then unitsM p (e + 1) else 0) + 0) = _
    have p2 := hp.1
    have m2 : 2 ≤ p ^ (e + 1) := Nat.le_trans p2 (Nat.le_self_pow (by omega) _)
    have r1 : 1 ≤ r ^ t := Nat.pow_pos (Nat.pos_of_ne_zero fun z => hr (z ▸ Nat.dvd_zero p))
    have ei : ordM r p (e + 1) ∣ t ↔ p ^ (e + 1) ∣ r ^ t - 1 := by
      rw [← ord_iff hp (by omega) hr]
      unfold Ex
      constructor
      · intro h
        have := Nat.sub_mod_eq_zero_of_mod_eq (h.trans (Nat.mod_eq_of_lt m2).symm)
        exact Nat.dvd_of_mod_eq_zero this
      · intro h
        have h5 : r ^ t = 1 + (r ^ t - 1) := by omega
        rw [h5, Nat.add_mod, Nat.mod_eq_zero_of_dvd h, Nat.add_zero, Nat.mod_mod, Nat.mod_eq_of_lt m2]
    generalize r ^ t - 1 = x at ei
    by_cases h : ordM r p (e + 1) ∣ t
    · rw [if_pos h]
      have hx := ei.mp h
      have hx2 : p ^ e ∣ x := Nat.dvd_trans (Nat.pow_dvd_pow p (by omega)) hx
      rw [Nat.gcd_eq_left hx, Nat.gcd_eq_left hx2]
      unfold unitsM
      have : p ^ (e + 1) = p ^ e + (p - 1) * p ^ e := by
        rw [Nat.pow_succ, Nat.sub_mul, Nat.one_mul, Nat.mul_comm]
        have : p ^ e ≤ p * p ^ e := Nat.le_mul_of_pos_left _ (by omega)
        omega
      simp only [Nat.add_sub_cancel]
      omega
    · rw [if_neg h, Nat.add_zero, Nat.add_zero]
      refine Nat.dvd_antisymm (Nat.dvd_gcd (Nat.dvd_trans (Nat.gcd_dvd_left _ _) (Nat.pow_dvd_pow p (by omega))) (Nat.gcd_dvd_right _ _)) (Nat.dvd_gcd ?_ (Nat.gcd_dvd_right _ _))
      obtain ⟨i, hi, eg⟩ := pow_div hp (Nat.gcd_dvd_left (p ^ (e + 1)) x)
      by_cases ie : i = e + 1
      · exfalso
        rw [ie] at eg
        exact h (ei.mpr (eg ▸ Nat.gcd_dvd_right _ _))
      · rw [eg]
        exact Nat.pow_dvd_pow p (by omega)
theorem cop_prod {p : Nat} (hp : Pr p) : ∀ {l : List (Nat × Nat)}, Asc l → (∀ x ∈ l, p ≠ x.1) → ¬ p ∣ prodF l
  | [], _, _, d => by
    have := Nat.le_of_dvd (by decide) d
    have := hp.1
    simp [prodF] at *
    omega
  | x :: l, a, n, d => by
    have d2 : p ∣ x.1 ^ x.2 * prodF l := d
    rcases hp.mul d2 with e | e
    · exact n x (List.mem_cons_self ..) (hp.same (a.1 x (List.mem_cons_self ..)) (hp.pow _ e))
    · exact cop_prod hp ⟨fun z hz => a.1 z (List.mem_cons_of_mem _ hz), (List.pairwise_cons.mp a.2).2⟩ (fun z hz => n z (List.mem_cons_of_mem _ hz)) e
theorem asc_tail {x : Nat × Nat} {l : List (Nat × Nat)} (a : Asc (x :: l)) : Asc l := ⟨fun z hz => a.1 z (List.mem_cons_of_mem _ hz), (List.pairwise_cons.mp a.2).2⟩
theorem asc_ne {x : Nat × Nat} {l : List (Nat × Nat)} (a : Asc (x :: l)) : ∀ y ∈ l, x.1 ≠ y.1 := fun y hy => Nat.ne_of_lt ((List.pairwise_cons.mp a.2).1 y hy)
/-- the sum of all whose length divides t -/
theorem sum_places {r t : Nat} : ∀ (l : List (Nat × Nat)) (d : Dt), Asc l → (∀ x ∈ l, ¬ x.1 ∣ r) → NdK d → NdK (l.foldl (fun d x => growM d (partsM r x.1 x.2)) d) ∧ sumT t (l.foldl (fun d x => growM d (partsM r x.1 x.2)) d) = sumT t d * Nat.gcd (prodF l) (r ^ t - 1)
  | [], d, _, _, n => ⟨n, by show sumT t d = _; simp [prodF]⟩
  | x :: l, d, a, hr, n => by
    obtain ⟨n1, s1⟩ := sum_growF t (partsM r x.1 x.2) d [] (by simp [NdK])
    obtain ⟨n2, s2⟩ := sum_places (r := r) (t := t) l (growM d (partsM r x.1 x.2)) (asc_tail a) (fun y hy => hr y (List.mem_cons_of_mem _ hy)) n1
    refine ⟨n2, ?_⟩
    show sumT t (l.foldl (fun d x => growM d (partsM r x.1 x.2)) (growM d (partsM r x.1 x.2))) = sumT t d * Nat.gcd (x.1 ^ x.2 * prodF l) (r ^ t - 1)
    have px := a.1 x (List.mem_cons_self ..)
    have c : Nat.Coprime (x.1 ^ x.2) (prodF l) := Nat.Coprime.pow_left _ (px.cop _ (cop_prod px (asc_tail a) (asc_ne a)))
    have e1 : sumT t (growM d (partsM r x.1 x.2)) = sumT t d * Nat.gcd (x.1 ^ x.2) (r ^ t - 1) := by
      unfold growM
      rw [s1, sum_parts px (hr x (List.mem_cons_self ..))]
      show 0 + _ = _
      omega
    rw [s2, e1, Nat.mul_assoc]
    congr 1
    rw [Nat.gcd_comm (x.1 ^ x.2) _, Nat.gcd_comm (prodF l) _, Nat.gcd_comm (x.1 ^ x.2 * prodF l) _, Nat.Coprime.gcd_mul _ c]
/-- lengths divide what has them -/
def DvD (d : Dt) : Prop := ∀ x ∈ d, x.1 ∣ x.2 ∧ 1 ≤ x.2
theorem getI_mem {l : Dt} {k v : Nat} (h : getI l k = some v) : (k, v) ∈ l := by
  unfold getI at h
  cases hf : l.find? fun x => decide (x.1 = k) with
  | none => rw [hf] at h; cases h
  | some y =>
    rw [hf] at h
    have e0 := List.find?_some hf
    have e1 : y.1 = k := of_decide_eq_true e0
    have e2 := Option.some.inj h
    have := List.mem_of_find?_eq_some hf
    rw [← e1, ← e2]; exact this
theorem put_mem {l : Dt} {k v : Nat} {x : Nat × Nat} (h : x ∈ putI l k v) : x = (k, v) ∨ x ∈ l := by
  unfold putI at h
  by_cases c : (l.any fun x => decide (x.1 = k)) = true
  · rw [if_pos c] at h
    obtain ⟨y, hy, e⟩ := List.mem_map.mp h
    by_cases k1 : y.1 = k
    · rw [if_pos k1] at e
      exact .inl (e ▸ k1 ▸ rfl)
    · rw [if_neg k1] at e
      exact .inr (e ▸ hy)
  · rw [if_neg c] at h
    rcases List.mem_append.mp h with h | h
    · exact .inr h
    · exact .inl (List.mem_singleton.mp h)
theorem dv_add {l : Dt} {k s : Nat} (h : DvD l) (d : k ∣ s) (s1 : 1 ≤ s) : DvD (addI l k s) := fun x hx => by
  rcases put_mem hx with e | e
  · subst e
    refine ⟨?_, by show 1 ≤ _ + s; omega⟩
    show k ∣ (getI l k).getD 0 + s
    refine Nat.dvd_add ?_ d
    cases g : getI l k with
    | none => exact Nat.dvd_zero k
    | some v => exact (h _ (getI_mem g)).1
  · exact h x e
theorem dv_grow1 {l pl : Nat} (d : l ∣ pl) (p1 : 1 ≤ pl) : ∀ (parts g : Dt), DvD parts → DvD g → DvD (grow1 l pl parts g)
  | [], g, _, h => h
  | x :: parts, g, hp, h => by
    obtain ⟨x1, x2⟩ := hp x (List.mem_cons_self ..)
    exact dv_grow1 d p1 parts _ (fun y hy => hp y (List.mem_cons_of_mem _ hy)) (dv_add h (Nat.lcm_dvd (Nat.dvd_trans d (Nat.dvd_mul_right _ _)) (Nat.dvd_trans x1 (Nat.dvd_mul_left _ _))) (Nat.mul_pos p1 x2))
theorem dv_growF {parts : Dt} (hp : DvD parts) : ∀ (found g : Dt), DvD found → DvD g → DvD (found.foldl (fun g x => grow1 x.1 x.2 parts g) g)
  | [], g, _, h => h
  | y :: found, g, hf, h => by
    obtain ⟨y1, y2⟩ := hf y (List.mem_cons_self ..)
    exact dv_growF hp found _ (fun z hz => hf z (List.mem_cons_of_mem _ hz)) (dv_grow1 y1 y2 parts g hp h)
theorem dv_parts {r p e : Nat} (hp : Pr p) (hr : ¬ p ∣ r) : DvD (partsM r p e) := fun x hx => by
  rcases List.mem_cons.mp hx with rfl | hx
  · exact ⟨Nat.dvd_refl 1, Nat.le_refl 1⟩
  · obtain ⟨j, _, rfl⟩ := List.mem_map.mp hx
    exact ⟨ord_dvd hp (by omega) hr, units_pos hp.1⟩
theorem dv_places {r : Nat} : ∀ (l : List (Nat × Nat)) (d : Dt), Asc l → (∀ x ∈ l, ¬ x.1 ∣ r) → DvD d → DvD (l.foldl (fun d x => growM d (partsM r x.1 x.2)) d)
  | [], d, _, _, h => h
  | x :: l, d, a, hr, h => dv_places l _ (asc_tail a) (fun y hy => hr y (List.mem_cons_of_mem _ hy)) (dv_growF (dv_parts (a.1 x (List.mem_cons_self ..)) (hr x (List.mem_cons_self ..))) d [] h fun x hx => by cases hx)
/-- the other base leaves the same -/
theorem ord_same {r c p e : Nat} (m2 : 2 ≤ p ^ e) (h : r * c % p ^ e = 1) : ordM r p e = ordM c p e := by
  have ex : ∀ {a b : Nat}, a * b % p ^ e = 1 → ∀ k, Ex a (p ^ e) k → Ex b (p ^ e) k := fun {a b} hab k hk => by
    unfold Ex at *
    have h1 : (a * b) ^ k % p ^ e = 1 := by rw [Nat.pow_mod, hab, Nat.one_pow, Nat.mod_eq_of_lt m2]
    rw [Nat.mul_pow, Nat.mul_mod, hk, Nat.one_mul, Nat.mod_mod] at h1
    exact h1
  have h2 : c * r % p ^ e = 1 := by rw [Nat.mul_comm]; exact h
  have pwe : ∀ k, pw r k (p ^ e) = 1 ↔ pw c k (p ^ e) = 1 := fun k => by
    by_cases z : k = 0
    · rw [pw, pw, if_pos z, if_pos z]
    · rw [pw_ex (by omega), pw_ex (by omega)]
      exact ⟨ex h k, ex h2 k⟩
  have lp : ∀ (n q f : Nat), ordLoop n r (p ^ e) q f = ordLoop n c (p ^ e) q f := by
    intro n
    induction n with
    | zero => intros; rfl
    | succ n ih =>
      intro q f
      unfold ordLoop
      by_cases z : f % q = 0 ∧ pw r (f / q) (p ^ e) = 1
      · rw [if_pos z, if_pos ⟨z.1, (pwe _).mp z.2⟩, ih]
      · rw [if_neg z, if_neg fun w => z ⟨w.1, (pwe _).mpr w.2⟩]
  unfold ordM
  congr 1
  funext f x
  exact lp _ _ _
end E3

set_option linter.all false
set_option maxHeartbeats 400000
/-! few divisors; Euclid's steps; the rings of small tables, turn by turn -/
namespace E3
theorem four_pow : ∀ e, 1 ≤ e → (e + 1) * (e + 1) ≤ 4 ^ e
  | 0, h => by omega
  | 1, _ => by decide
  | e + 2, _ => by
    have := four_pow (e + 1) (by omega)
    rw [Nat.pow_succ]
    have h2 : (e + 2 + 1) * (e + 2 + 1) ≤ (e + 1 + 1) * (e + 1 + 1) * 4 := by
      simp only [Nat.add_mul, Nat.mul_add]; omega
    omega
theorem three_pow : ∀ e, (e + 1) * (e + 1) ≤ 2 * 3 ^ e
  | 0 => by decide
  | 1 => by decide
  | e + 2 => by
    have := three_pow (e + 1)
    rw [Nat.pow_succ]
    have h2 : (e + 2 + 1) * (e + 2 + 1) ≤ (e + 1 + 1) * (e + 1 + 1) * 3 := by
      simp only [Nat.add_mul, Nat.mul_add]; omega
    omega
theorem two_pow3 : ∀ e, (e + 1) * (e + 1) ≤ 3 * 2 ^ e
  | 0 => by decide
  | 1 => by decide
  | 2 => by decide
  | e + 3 => by
    have := two_pow3 (e + 2)
    rw [Nat.pow_succ]
    have h2 : (e + 3 + 1) * (e + 3 + 1) ≤ (e + 2 + 1) * (e + 2 + 1) * 2 := by
      simp only [Nat.add_mul, Nat.mul_add]; omega
    omega
theorem sq_mul (a b : Nat) : (a * b) * (a * b) = (a * a) * (b * b) := by simp only [Nat.mul_assoc, Nat.mul_left_comm, Nat.mul_comm]
theorem cnt4 : ∀ {l : List (Nat × Nat)}, Good l → (∀ x ∈ l, 4 ≤ x.1) → cntF l * cntF l ≤ prodF l
  | [], _, _ => Nat.le_refl _
  | x :: l, g, h => by
    have ih := cnt4 (l := l) (fun y hy => g y (List.mem_cons_of_mem _ hy)) fun y hy => h y (List.mem_cons_of_mem _ hy)
    show ((x.2 + 1) * cntF l) * ((x.2 + 1) * cntF l) ≤ x.1 ^ x.2 * prodF l
    rw [sq_mul]
    exact Nat.mul_le_mul (Nat.le_trans (four_pow _ (g x (List.mem_cons_self ..)).2) (Nat.pow_le_pow_left (h x (List.mem_cons_self ..)) _)) ih
theorem cnt3 {l : List (Nat × Nat)} (g : Good l) (a : Asc l) (h : ∀ x ∈ l, 3 ≤ x.1) : cntF l * cntF l ≤ 2 * prodF l := by
  match l with
  | [] => decide
  | x :: l =>
    have gl : Good l := fun y hy => g y (List.mem_cons_of_mem _ hy)
    have hl : ∀ y ∈ l, 4 ≤ y.1 := fun y hy => by
      have := (List.pairwise_cons.mp a.2).1 y hy
      have := h x (List.mem_cons_self ..)
      omega
    have ih := cnt4 gl hl
    show ((x.2 + 1) * cntF l) * ((x.2 + 1) * cntF l) ≤ 2 * (x.1 ^ x.2 * prodF l)
    rw [sq_mul]
    have h1 := Nat.mul_le_mul (Nat.le_trans (three_pow x.2) (Nat.mul_le_mul_left 2 (Nat.pow_le_pow_left (h x (List.mem_cons_self ..)) x.2))) ih
    exact Nat.le_trans h1 (Nat.le_of_eq (Nat.mul_assoc _ _ _))
theorem cnt2 {l : List (Nat × Nat)} (g : Good l) (a : Asc l) : cntF l * cntF l ≤ 6 * prodF l := by
  match l with
  | [] => decide
  | x :: l =>
    have gl : Good l := fun y hy => g y (List.mem_cons_of_mem _ hy)
    have hl : ∀ y ∈ l, 3 ≤ y.1 := fun y hy => by
      have := (List.pairwise_cons.mp a.2).1 y hy
      have := (g x (List.mem_cons_self ..)).1
      omega
    have ih := cnt3 gl (asc_tail a) hl
    show ((x.2 + 1) * cntF l) * ((x.2 + 1) * cntF l) ≤ 6 * (x.1 ^ x.2 * prodF l)
    rw [sq_mul]
    have h1 := Nat.mul_le_mul (Nat.le_trans (two_pow3 x.2) (Nat.mul_le_mul_left 3 (Nat.pow_le_pow_left (g x (List.mem_cons_self ..)).1 _))) ih
    refine Nat.le_trans h1 (Nat.le_of_eq ?_)
    rw [show (6 : Nat) = 3 * 2 from rfl]
    simp only [Nat.mul_assoc, Nat.mul_left_comm]
theorem cnt_few {v : Nat} (h : v < 2 ^ 32) : cntF (facM v) < 2 ^ 18 := by
  by_cases z : 1 ≤ v
  · obtain ⟨g, hp⟩ := facM_ok z
    have := cnt2 g (facM_pr z)
    rw [hp] at this
    refine Nat.lt_of_not_le fun c => ?_
    have := Nat.mul_le_mul c c
    omega
  · have : v = 0 := by omega
    subst this; decide
/-! Euclid's steps -/
def euS (s : Nat × Nat) : Nat × Nat := if s.2 = 0 then s else (s.2, s.1 % s.2)
def euN : Nat → Nat × Nat → Nat × Nat
  | 0, s => s
  | n + 1, s => euS (euN n s)
theorem euN_succ (n : Nat) (s : Nat × Nat) : euN (n + 1) s = euN n (euS s) := by
  induction n with
  | zero => rfl
  | succ n ih => show euS (euN (n + 1) s) = euS (euN n (euS s)); rw [ih]
theorem euS_gcd (s : Nat × Nat) : Nat.gcd (euS s).1 (euS s).2 = Nat.gcd s.1 s.2 := by
  unfold euS
  by_cases z : s.2 = 0
  · rw [if_pos z]
  · rw [if_neg z]
    show Nat.gcd s.2 (s.1 % s.2) = _
    rw [Nat.gcd_comm s.1 s.2, Nat.gcd_rec s.2 s.1, Nat.gcd_comm]
theorem euN_gcd (s : Nat × Nat) : ∀ n, Nat.gcd (euN n s).1 (euN n s).2 = Nat.gcd s.1 s.2
  | 0 => rfl
  | n + 1 => by show Nat.gcd (euS (euN n s)).1 (euS (euN n s)).2 = _; rw [euS_gcd, euN_gcd s n]
theorem euN_zero : ∀ (n : Nat) (s : Nat × Nat), s.2 = 0 → (euN n s).2 = 0
  | 0, _, h => h
  | n + 1, s, h => by
    have e : euS s = s := if_pos h
    rw [euN_succ, e]; exact euN_zero n s h
theorem euN_end : ∀ (k : Nat) (s : Nat × Nat), s.2 < 2 ^ k → (euN (2 * k) s).2 = 0
  | 0, s, h => by
    show s.2 = 0
    simp at h; exact h
  | k + 1, s, h => by
    rw [show 2 * (k + 1) = 2 * k + 1 + 1 by omega, euN_succ, euN_succ]
    by_cases z : s.2 = 0
    · have e : euS s = s := if_pos z
      rw [e, e]
      exact euN_zero _ s z
    · have e : euS s = (s.2, s.1 % s.2) := if_neg z
      rw [e]
      by_cases y : s.1 % s.2 = 0
      · refine euN_zero _ _ ?_
        have e2 : euS (s.2, s.1 % s.2) = (s.2, s.1 % s.2) := if_pos y
        rw [e2]; exact y
      · have e2 : euS (s.2, s.1 % s.2) = (s.1 % s.2, s.2 % (s.1 % s.2)) := if_neg y
        rw [e2]
        refine euN_end k _ ?_
        have c1 : s.1 % s.2 < s.2 := Nat.mod_lt _ (by omega)
        have c2 : s.2 % (s.1 % s.2) < s.1 % s.2 := Nat.mod_lt _ (by omega)
        have c3 : s.2 % (s.1 % s.2) ≤ s.2 - s.1 % s.2 := by
          rw [Nat.mod_eq_sub_mod (Nat.le_of_lt c1)]
          exact Nat.mod_le _ _
        have : 2 ^ (k + 1) = 2 * 2 ^ k := by rw [Nat.pow_succ, Nat.mul_comm]
        show s.2 % (s.1 % s.2) < 2 ^ k
        omega
/-! turn by turn; m: the places seen, as bits -/
def nxN (r c p : Nat) : Nat := p % c * r + p / c
abbrev St3 := Nat × Nat × Nat
def stepB (r c : Nat) (s : St3) : St3 := if s.2.2.testBit s.1 = true then s else (nxN r c s.1, s.2.1 + 1, s.2.2 ||| 1 <<< s.1)
def itB (r c : Nat) : Nat → St3 → St3
  | 0, s => s
  | n + 1, s => stepB r c (itB r c n s)
def walkE (r c : Nat) : Nat → St3 → St3
  | 0, s => s
  | n + 1, s => if s.2.2.testBit s.1 = true then s else walkE r c n (nxN r c s.1, s.2.1 + 1, s.2.2 ||| 1 <<< s.1)
theorem itB_succ (r c n : Nat) (s : St3) : itB r c (n + 1) s = itB r c n (stepB r c s) := by
  induction n with
  | zero => rfl
  | succ n ih => show stepB r c (itB r c (n + 1) s) = stepB r c (itB r c n (stepB r c s)); rw [ih]
theorem itB_stop (r c : Nat) {s : St3} (h : s.2.2.testBit s.1 = true) : ∀ n, itB r c n s = s
  | 0 => rfl
  | n + 1 => by show stepB r c (itB r c n s) = s; rw [itB_stop r c h n]; exact if_pos h
theorem itB_eq (r c : Nat) : ∀ (n : Nat) (s : St3), itB r c n s = walkE r c n s
  | 0, s => rfl
  | n + 1, s => by
    rw [itB_succ]
    unfold walkE
    by_cases h : s.2.2.testBit s.1 = true
    · rw [if_pos h]
      have e : stepB r c s = s := if_pos h
      rw [e]; exact itB_stop r c h n
    · rw [if_neg h]
      have e : stepB r c s = (nxN r c s.1, s.2.1 + 1, s.2.2 ||| 1 <<< s.1) := if_neg h
      rw [e]; exact itB_eq r c n _
def outS (r c : Nat) (d : Dt × Nat) (spot : Nat) : Dt × Nat := if d.2.testBit spot = true then d else (addI d.1 (walkE r c (r * c) (spot, 0, d.2)).2.1 1, (walkE r c (r * c) (spot, 0, d.2)).2.2)
def outB (r c n : Nat) : Dt × Nat := (List.range n).foldl (outS r c) ([], 0)
theorem outB_succ (r c n : Nat) : outB r c (n + 1) = outS r c (outB r c n) n := by
  unfold outB
  rw [List.range_succ, List.foldl_append]; rfl
def insI (x : Nat) : List Nat → List Nat
  | [] => [x]
  | y :: l => if x ≤ y then x :: y :: l else y :: insI x l
def insS (l : List Nat) : List Nat := l.foldr insI []
theorem insI_perm (x : Nat) : ∀ l, (insI x l).Perm (x :: l)
  | [] => .refl _
  | y :: l => by
    unfold insI
    by_cases h : x ≤ y
    · rw [if_pos h]
    · rw [if_neg h]
      exact ((insI_perm x l).cons y).trans (.swap x y l)
theorem insI_sorted (x : Nat) : ∀ {l}, l.Pairwise (· ≤ ·) → (insI x l).Pairwise (· ≤ ·)
  | [], _ => List.pairwise_singleton _ _
  | y :: l, h => by
    unfold insI
    have a := List.pairwise_cons.mp h
    by_cases z : x ≤ y
    · rw [if_pos z]
      refine List.pairwise_cons.mpr ⟨fun w hw => ?_, h⟩
      rcases List.mem_cons.mp hw with rfl | hw
      · exact z
      · exact Nat.le_trans z (a.1 w hw)
    · rw [if_neg z]
      refine List.pairwise_cons.mpr ⟨fun w hw => ?_, insI_sorted x a.2⟩
      rcases List.mem_cons.mp ((insI_perm x l).mem_iff.mp hw) with rfl | hw
      · omega
      · exact a.1 w hw
theorem insS_ok : ∀ l, (insS l).Perm l ∧ (insS l).Pairwise (· ≤ ·)
  | [] => ⟨.refl _, List.Pairwise.nil⟩
  | x :: l => by
    obtain ⟨a, b⟩ := insS_ok l
    exact ⟨(insI_perm x (insS l)).trans (a.cons x), insI_sorted x b⟩
theorem sort_eq (l : List Nat) : sortI l = insS l := by
  obtain ⟨a, b⟩ := sortI_ok l
  obtain ⟨c, d⟩ := insS_ok l
  exact sorted_eq (a.trans c.symm) b d
def toldOf (d : Dt) : List (Nat × Nat) := (insS (d.map (·.1))).map fun k => (k, ((getI d k).getD 0) / k)
def bruteOf (d : Dt) : List (Nat × Nat) := (insS (d.map (·.1))).map fun k => (k, (getI d k).getD 0)
def okSmall (r c : Nat) : Bool := decide (toldOf (ringsD r (r * c - 1)) = bruteOf (outB r c (r * c)).1)
theorem small_all : ((List.range 15).all fun r => (List.range 15).all fun c => okSmall (r + 1) (c + 1)) = true := by decide +kernel
end E3

set_option linter.all false
set_option maxHeartbeats 400000
/-! what rings tells -/
namespace E3
theorem getI_nd : ∀ {l : Dt} {x : Nat × Nat}, NdK l → x ∈ l → getI l x.1 = some x.2
  | y :: l, x, n, h => by
    rw [getI_cons]
    have nn := List.nodup_cons.mp n
    rcases List.mem_cons.mp h with rfl | h
    · rw [if_pos rfl]
    · rw [if_neg fun e => nn.1 (List.mem_map.mpr ⟨x, h, e.symm⟩)]
      exact getI_nd nn.2 h
theorem sum_map_perm {a b : List Nat} (p : a.Perm b) : a.sum = b.sum := by
  induction p with
  | nil => rfl
  | cons x _ ih => simp [ih]
  | swap x y l => simp; omega
  | trans _ _ h1 h2 => rw [h1, h2]
def gv (d : Dt) (k : Nat) : Nat := (getI d k).getD 0
theorem sumT_eq (t : Nat) (d : Dt) : ∀ l : Dt, (∀ x ∈ l, getI d x.1 = some x.2) → (l.map fun x => if x.1 ∣ t then gv d x.1 else 0).sum = sumT t l
  | [], _ => rfl
  | x :: l, h => by
    have e := h x (List.mem_cons_self ..)
    show (if x.1 ∣ t then gv d x.1 else 0) + (l.map _).sum = (if x.1 ∣ t then x.2 else 0) + sumT t l
    rw [sumT_eq t d l fun y hy => h y (List.mem_cons_of_mem _ hy)]
    unfold gv
    rw [e]; rfl
theorem sum_keys (t : Nat) {d : Dt} (n : NdK d) {ks : List Nat} (p : ks.Perm (d.map (·.1))) : (ks.map fun k => if k ∣ t then gv d k else 0).sum = sumT t d := by
  rw [sum_map_perm (p.map _), List.map_map]
  exact sumT_eq t d d fun x hx => getI_nd n hx
/-- rows, columns, the last place -/
structure Rc (r c L : Nat) : Prop where
  r1 : 1 ≤ r
  c1 : 1 ≤ c
  e : r * c = L + 1
theorem Rc.swap {r c L : Nat} (h : Rc r c L) : Rc c r L := ⟨h.c1, h.r1, by rw [Nat.mul_comm]; exact h.e⟩
theorem Rc.nd {r c L : Nat} (h : Rc r c L) {p : Nat} (hp : 2 ≤ p) (d : p ∣ L) : ¬ p ∣ r := fun z => by
  have h1 : p ∣ L + 1 := h.e ▸ Nat.dvd_trans z (Nat.dvd_mul_right r c)
  have h2 : p ∣ 1 := (Nat.dvd_add_right d).mp h1
  have := Nat.le_of_dvd (by decide) h2
  omega
theorem fac_dvd {l : List (Nat × Nat)} {x : Nat × Nat} (h : x ∈ l) : x.1 ^ x.2 ∣ prodF l := by
  induction l with
  | nil => cases h
  | cons y l ih =>
    rcases List.mem_cons.mp h with rfl | h
    · exact Nat.dvd_mul_right _ _
    · exact Nat.dvd_trans (ih h) (Nat.dvd_mul_left _ _)
theorem fac_dvd1 {l : List (Nat × Nat)} {x : Nat × Nat} (b : 1 ≤ x.2) (h : x ∈ l) : x.1 ∣ prodF l := by
  have e : x.1 ∣ x.1 ^ x.2 := by
    have := Nat.pow_dvd_pow x.1 b
    rw [Nat.pow_one] at this
    exact this
  exact Nat.dvd_trans e (fac_dvd h)
theorem Rc.fac {r c L : Nat} (h : Rc r c L) (hL : 1 ≤ L) : ∀ x ∈ facM L, ¬ x.1 ∣ r := fun x hx => by
  obtain ⟨g, hp⟩ := facM_ok hL
  obtain ⟨a, b⟩ := g x hx
  exact h.nd a (by rw [← hp]; exact fac_dvd1 b hx)
theorem rings_facts {r c L : Nat} (h : Rc r c L) : NdK (ringsD r L) ∧ DvD (ringsD r L) ∧ 1 ∈ (ringsD r L).map (·.1) ∧ (∀ k ∈ (ringsD r L).map (·.1), 1 ≤ k) ∧ ∀ t, sumT t (ringsD r L) = Nat.gcd L (r ^ t - 1) + 1 - (if L = 0 then r ^ t - 1 else 0) := by
  unfold ringsD
  by_cases z : 0 < L
  · rw [if_pos z]
    obtain ⟨g, hp⟩ := facM_ok z
    have nf := h.fac z
    have n0 : NdK [(1, 1)] := by simp [NdK]
    have s := fun t => sum_places (r := r) (t := t) (facM L) [(1, 1)] (facM_pr z) nf n0
    have e : bumpM (placesM r (facM L)) = addI (placesM r (facM L)) 1 1 := rfl
    have dv : DvD (placesM r (facM L)) := dv_places (facM L) [(1, 1)] (facM_pr z) nf fun x hx => by
      obtain rfl := List.mem_singleton.mp hx
      exact ⟨Nat.dvd_refl 1, Nat.le_refl 1⟩
    obtain ⟨kb, _, _⟩ := places_ok g (r := r) (facM L).length
    rw [List.take_length] at kb
    rw [e]
    refine ⟨putI_nd (s 0).1, dv_add dv (Nat.dvd_refl 1) (Nat.le_refl 1), ?_, fun k hk => ?_, fun t => ?_⟩
    · exact (putI_keys _ _ _ 1).mpr (.inl rfl)
    · rcases (putI_keys _ _ _ k).mp hk with rfl | hk
      · exact Nat.le_refl 1
      · exact (kb k hk).1
    · rw [show sumT t (addI (placesM r (facM L)) 1 1) = _ from sum_add (s t).1, if_pos (Nat.one_dvd t)]
      have := (s t).2
      rw [hp] at this
      have e1 : sumT t [(1, 1)] = 1 := by show (if 1 ∣ t then 1 else 0) + 0 = 1; rw [if_pos (Nat.one_dvd t)]
      rw [e1, Nat.one_mul] at this
      unfold placesM
      rw [this, if_neg (by omega)]; rfl
  · rw [if_neg z]
    have L0 : L = 0 := by omega
    refine ⟨by simp [NdK], fun x hx => by
      obtain rfl := List.mem_singleton.mp hx
      exact ⟨Nat.dvd_refl 1, Nat.le_refl 1⟩, by simp, fun k hk => ?_, fun t => ?_⟩
    · have : k = 1 := by simpa using hk
      omega
    · rw [L0, Nat.gcd_zero_left, if_pos rfl]
      show (if 1 ∣ t then 1 else 0) + 0 = _
      rw [if_pos (Nat.one_dvd t)]; omega
theorem told_fst (r L : Nat) : (ringsM r L).map (·.1) = sortI ((ringsD r L).map (·.1)) := by
  unfold ringsM
  rw [List.map_map]
  exact List.map_id _
/-- the sums over what is told -/
theorem told_sum {r c L : Nat} (h : Rc r c L) (t : Nat) : (((ringsM r L).filter fun x => decide (x.1 ∣ t)).map fun x => x.1 * x.2).sum = sumT t (ringsD r L) := by
  obtain ⟨n, dv, _, k1, _⟩ := rings_facts h
  have sk := sortI_ok ((ringsD r L).map (·.1))
  rw [← sum_keys t n sk.1]
  unfold ringsM
  have mem : ∀ k ∈ sortI ((ringsD r L).map (·.1)), k ∈ (ringsD r L).map (·.1) := fun k hk => sk.1.mem_iff.mp hk
  generalize sortI ((ringsD r L).map (·.1)) = ks at mem
  induction ks with
  | nil => rfl
  | cons k ks ih =>
    have ih := ih fun j hj => mem j (List.mem_cons_of_mem _ hj)
    have hk := mem k (List.mem_cons_self ..)
    obtain ⟨x, hx, e⟩ := List.mem_map.mp hk
    have gx := getI_nd n hx
    rw [e] at gx
    have d := (dv x hx).1
    rw [e] at d
    have ev : k * ((getI (ringsD r L) k).getD 0 / k) = gv (ringsD r L) k := by
      unfold gv
      rw [gx]
      exact Nat.mul_div_cancel' d
    rw [List.map_cons, List.map_cons, List.sum_cons, List.filter_cons]
    by_cases c : k ∣ t
    · rw [if_pos (by simpa using c), List.map_cons, List.sum_cons, ih, if_pos c]
      show k * _ + _ = _
      rw [ev]
    · rw [if_neg (by simpa using c), ih, if_neg c, Nat.zero_add]
theorem told_pos {r c L : Nat} (h : Rc r c L) : ∀ x ∈ ringsM r L, 1 ≤ x.1 ∧ 1 ≤ x.2 := by
  obtain ⟨n, dv, _, k1, _⟩ := rings_facts h
  have sk := sortI_ok ((ringsD r L).map (·.1))
  intro x hx
  obtain ⟨k, hk, rfl⟩ := List.mem_map.mp hx
  have hk := sk.1.mem_iff.mp hk
  obtain ⟨y, hy, e⟩ := List.mem_map.mp hk
  have gx := getI_nd n hy
  obtain ⟨d, p⟩ := dv y hy
  rw [e] at gx d
  have kp := k1 k hk
  refine ⟨kp, ?_⟩
  show 1 ≤ (getI (ringsD r L) k).getD 0 / k
  rw [gx]
  exact Nat.div_pos (Nat.le_of_dvd p d) kp
theorem told_nd {r c L : Nat} (h : Rc r c L) : ((ringsM r L).map (·.1)).Nodup ∧ ((ringsM r L).map (·.1)).Pairwise (· ≤ ·) := by
  obtain ⟨n, _⟩ := rings_facts h
  have sk := sortI_ok ((ringsD r L).map (·.1))
  rw [told_fst]
  exact ⟨sk.1.nodup_iff.mpr n, sk.2⟩
/-- the other way about -/
theorem told_swap {r c L : Nat} (h : Rc r c L) : ringsM c L = ringsM r L := by
  have e : ringsD c L = ringsD r L := by
    unfold ringsD
    by_cases z : 0 < L
    · rw [if_pos z, if_pos z]
      obtain ⟨g, hp⟩ := facM_ok z
      have pe : ∀ x ∈ facM L, partsM c x.1 x.2 = partsM r x.1 x.2 := fun x hx => by
        unfold partsM
        congr 1
        refine List.map_congr_left fun j hj => ?_
        have hj := List.mem_range.mp hj
        have x2 := (g x hx).1
        have m2 : 2 ≤ x.1 ^ (j + 1) := Nat.le_trans x2 (Nat.le_self_pow (by omega) _)
        have dv : x.1 ^ (j + 1) ∣ L := hp ▸ Nat.dvd_trans (Nat.pow_dvd_pow x.1 (by omega)) (fac_dvd hx)
        rw [ord_same m2 (r := c) (c := r)]
        rw [Nat.mul_comm, h.e, Nat.add_mod, Nat.mod_eq_zero_of_dvd dv, Nat.zero_add, Nat.mod_mod, Nat.mod_eq_of_lt m2]
      have fe : ∀ (l d : Dt), (∀ x ∈ l, partsM c x.1 x.2 = partsM r x.1 x.2) → l.foldl (fun d x => growM d (partsM c x.1 x.2)) d = l.foldl (fun d x => growM d (partsM r x.1 x.2)) d := by
        intro l
        induction l with
        | nil => intros; rfl
        | cons x l ih =>
          intro d hx
          show l.foldl _ (growM d (partsM c x.1 x.2)) = l.foldl _ (growM d (partsM r x.1 x.2))
          rw [hx x (List.mem_cons_self ..)]
          exact ih _ fun y hy => hx y (List.mem_cons_of_mem _ hy)
      unfold placesM
      rw [fe _ _ pe]
    · rw [if_neg z, if_neg z]
  unfold ringsM
  rw [e]
/-! the ring of a place -/
theorem ord_iff0 {r p : Nat} (hp : Pr p) (hr : ¬ p ∣ r) (v t : Nat) : (if v = 0 then 1 else ordM r p v) ∣ t ↔ p ^ v ∣ r ^ t - 1 := by
  by_cases z : v = 0
  · rw [if_pos z, z, Nat.pow_zero]
    exact ⟨fun _ => Nat.one_dvd _, fun _ => Nat.one_dvd _⟩
  · rw [if_neg z, ← ord_iff hp (by omega) hr]
    have p2 := hp.1
    have m2 : 2 ≤ p ^ v := Nat.le_trans p2 (Nat.le_self_pow (by omega) _)
    have r1 : 1 ≤ r ^ t := Nat.pow_pos (Nat.pos_of_ne_zero fun z => hr (z ▸ Nat.dvd_zero p))
    unfold Ex
    constructor
    · intro h
      exact Nat.dvd_of_mod_eq_zero (Nat.sub_mod_eq_zero_of_mod_eq (h.trans (Nat.mod_eq_of_lt m2).symm))
    · intro h
      have h5 : r ^ t = 1 + (r ^ t - 1) := by omega
      rw [h5, Nat.add_mod, Nat.mod_eq_zero_of_dvd h, Nat.add_zero, Nat.mod_mod, Nat.mod_eq_of_lt m2]
theorem lcm_iff (a b t : Nat) : Nat.lcm a b ∣ t ↔ a ∣ t ∧ b ∣ t := ⟨fun h => ⟨Nat.dvd_trans (Nat.dvd_lcm_left _ _) h, Nat.dvd_trans (Nat.dvd_lcm_right _ _) h⟩, fun h => Nat.lcm_dvd h.1 h.2⟩
theorem mul_iff {a b x : Nat} (c : Nat.Coprime a b) : a * b ∣ x ↔ a ∣ x ∧ b ∣ x := ⟨fun h => ⟨Nat.dvd_trans (Nat.dvd_mul_right _ _) h, Nat.dvd_trans (Nat.dvd_mul_left _ _) h⟩, fun h => c.mul_dvd_of_dvd_of_dvd h.1 h.2⟩
theorem lcmF_iff {r : Nat} : ∀ (l : List (Nat × Nat)) (f : Nat), Good l → Asc l → (∀ x ∈ l, ¬ x.1 ∣ r) → ∀ t, l.foldl (fun f x => Nat.lcm f (ordM r x.1 x.2)) f ∣ t ↔ f ∣ t ∧ prodF l ∣ r ^ t - 1
  | [], f, _, _, _, t => ⟨fun h => ⟨h, Nat.one_dvd _⟩, fun h => h.1⟩
  | x :: l, f, g, a, hr, t => by
    have px := a.1 x (List.mem_cons_self ..)
    have c : Nat.Coprime (x.1 ^ x.2) (prodF l) := Nat.Coprime.pow_left _ (px.cop _ (cop_prod px (asc_tail a) (asc_ne a)))
    have o := ord_iff0 px (hr x (List.mem_cons_self ..)) x.2 t
    rw [if_neg (by have := (g x (List.mem_cons_self ..)).2; omega)] at o
    show l.foldl (fun f x => Nat.lcm f (ordM r x.1 x.2)) (Nat.lcm f (ordM r x.1 x.2)) ∣ t ↔ f ∣ t ∧ x.1 ^ x.2 * prodF l ∣ r ^ t - 1
    rw [lcmF_iff l _ (fun y hy => g y (List.mem_cons_of_mem _ hy)) (asc_tail a) (fun y hy => hr y (List.mem_cons_of_mem _ hy)) t, lcm_iff, mul_iff c, o]
    exact and_assoc
theorem mem_grow1 {l pl j : Nat} : ∀ {parts g : Dt}, (j ∈ g.map (·.1) ∨ ∃ x ∈ parts, j = Nat.lcm l x.1) → j ∈ (grow1 l pl parts g).map (·.1)
  | [], g, h => h.elim id fun ⟨x, hx, _⟩ => by cases hx
  | y :: parts, g, h => by
    refine mem_grow1 (parts := parts) (g := addI g (Nat.lcm l y.1) (pl * y.2)) ?_
    rcases h with h | ⟨x, hx, e⟩
    · exact .inl ((putI_keys _ _ _ j).mpr (.inr h))
    · rcases List.mem_cons.mp hx with rfl | hx
      · exact .inl ((putI_keys _ _ _ j).mpr (.inl e))
      · exact .inr ⟨x, hx, e⟩
theorem mem_growF {j : Nat} {parts : Dt} : ∀ {found g : Dt}, (j ∈ g.map (·.1) ∨ ∃ y ∈ found, ∃ x ∈ parts, j = Nat.lcm y.1 x.1) → j ∈ (found.foldl (fun g x => grow1 x.1 x.2 parts g) g).map (·.1)
  | [], g, h => h.elim id fun ⟨x, hx, _⟩ => by cases hx
  | z :: found, g, h => by
    refine mem_growF (found := found) (g := grow1 z.1 z.2 parts g) ?_
    rcases h with h | ⟨y, hy, x, hx, e⟩
    · exact .inl (mem_grow1 (.inl h))
    · rcases List.mem_cons.mp hy with rfl | hy
      · exact .inl (mem_grow1 (.inr ⟨x, hx, e⟩))
      · exact .inr ⟨y, hy, x, hx, e⟩
theorem mem_parts (r p : Nat) {v e : Nat} (h : v ≤ e) : ∃ x ∈ partsM r p e, x.1 = if v = 0 then 1 else ordM r p v := by
  by_cases z : v = 0
  · exact ⟨(1, 1), List.mem_cons_self .., by rw [if_pos z]⟩
  · refine ⟨(ordM r p (v - 1 + 1), unitsM p (v - 1 + 1)), List.mem_cons_of_mem _ (List.mem_map.mpr ⟨v - 1, List.mem_range.mpr (by omega), rfl⟩), ?_⟩
    rw [if_neg z]
    show ordM r p (v - 1 + 1) = _
    rw [show v - 1 + 1 = v by omega]
theorem key_for {r : Nat} : ∀ (l : List (Nat × Nat)) (d : Dt) (D k0 : Nat), Asc l → (∀ x ∈ l, ¬ x.1 ∣ r) → D ∣ prodF l → k0 ∈ d.map (·.1) →
    ∃ k ∈ (l.foldl (fun d x => growM d (partsM r x.1 x.2)) d).map (·.1), ∀ t, k ∣ t ↔ k0 ∣ t ∧ D ∣ r ^ t - 1
  | [], d, D, k0, _, _, hD, h0 => ⟨k0, h0, fun t => by
      have : D = 1 := Nat.dvd_one.mp hD
      subst this
      exact ⟨fun h => ⟨h, Nat.one_dvd _⟩, fun h => h.1⟩⟩
  | x :: l, d, D, k0, a, hr, hD, h0 => by
    have px := a.1 x (List.mem_cons_self ..)
    have c : Nat.Coprime (x.1 ^ x.2) (prodF l) := Nat.Coprime.pow_left _ (px.cop _ (cop_prod px (asc_tail a) (asc_ne a)))
    have hD2 : D ∣ x.1 ^ x.2 * prodF l := hD
    have eD : D = Nat.gcd D (x.1 ^ x.2) * Nat.gcd D (prodF l) := by
      rw [← Nat.Coprime.gcd_mul D c, Nat.gcd_eq_left hD2]
    obtain ⟨v, hv, ev⟩ := pow_div px (Nat.gcd_dvd_right D (x.1 ^ x.2))
    obtain ⟨y, hy, ey⟩ := mem_parts r x.1 hv
    obtain ⟨z, hz, ez⟩ := List.mem_map.mp h0
    have hk : Nat.lcm k0 y.1 ∈ (growM d (partsM r x.1 x.2)).map (·.1) := mem_growF (.inr ⟨z, hz, y, hy, by rw [ez]⟩)
    obtain ⟨k, hk2, q⟩ := key_for l (growM d (partsM r x.1 x.2)) (Nat.gcd D (prodF l)) _ (asc_tail a) (fun y hy => hr y (List.mem_cons_of_mem _ hy)) (Nat.gcd_dvd_right _ _) hk
    refine ⟨k, hk2, fun t => ?_⟩
    have c2 : Nat.Coprime (Nat.gcd D (x.1 ^ x.2)) (Nat.gcd D (prodF l)) := Nat.Coprime.coprime_dvd_left (Nat.gcd_dvd_right _ _) (Nat.Coprime.coprime_dvd_right (Nat.gcd_dvd_right _ _) c)
    rw [q t, lcm_iff, ey, ord_iff0 px (hr x (List.mem_cons_self ..)) v t, ← ev, and_assoc, ← mul_iff c2, ← eD]
theorem ring_in {r c L : Nat} (h : Rc r c L) {p : Nat} (hp : p ≤ L) : ringM r L p ∈ (ringsM r L).map (·.1) := by
  have sk := sortI_ok ((ringsD r L).map (·.1))
  rw [told_fst, sk.1.mem_iff]
  obtain ⟨n, dv, k1, _, _⟩ := rings_facts h
  unfold ringM
  by_cases e : p = L
  · rw [if_pos e]; exact k1
  · rw [if_neg e]
    have z : 0 < L := by omega
    obtain ⟨g, hpd⟩ := facM_ok z
    have gp : 0 < Nat.gcd p L := Nat.gcd_pos_of_pos_right _ z
    obtain ⟨D, hD⟩ : ∃ D, D = L / Nat.gcd p L := ⟨_, rfl⟩
    rw [← hD]
    have dD : D ∣ L := hD ▸ Nat.div_dvd_of_dvd (Nat.gcd_dvd_right p L)
    have D1 : 1 ≤ D := hD ▸ Nat.div_pos (Nat.gcd_le_right _ z) gp
    obtain ⟨g2, hp2⟩ := facM_ok D1
    obtain ⟨k, hk, q⟩ := key_for (facM L) [(1, 1)] D 1 (facM_pr z) (h.fac z) (by rw [hpd]; exact dD) (List.mem_cons_self ..)
    have nf2 : ∀ x ∈ facM D, ¬ x.1 ∣ r := fun x hx => by
      obtain ⟨a, b⟩ := g2 x hx
      have d1 := fac_dvd1 b hx
      rw [hp2] at d1
      exact h.nd a (Nat.dvd_trans d1 dD)
    have q2 := lcmF_iff (r := r) (facM D) 1 g2 (facM_pr D1) nf2
    rw [hp2] at q2
    have ek : lcmF r (facM D) = k := Nat.dvd_antisymm ((q2 k).mpr ((q k).mp (Nat.dvd_refl k))) ((q _).mpr ((q2 _).mp (Nat.dvd_refl _)))
    rw [ek]
    unfold ringsD
    rw [if_pos z]
    exact (putI_keys _ _ _ k).mpr (.inr hk)
/-! squares, single rows -/
theorem all_dvd {t : Nat} : ∀ {d : Dt}, DvD d → sumT t d = sumT 0 d → ∀ x ∈ d, x.1 ∣ t
  | [], _, _, x, hx => by cases hx
  | y :: d, h, e, x, hx => by
    have le : ∀ d : Dt, sumT t d ≤ sumT 0 d := fun d => by
      induction d with
      | nil => exact Nat.le_refl _
      | cons z d ih =>
        show (if z.1 ∣ t then z.2 else 0) + sumT t d ≤ (if z.1 ∣ 0 then z.2 else 0) + sumT 0 d
        rw [if_pos (Nat.dvd_zero z.1)]
        split <;> omega
    have e2 : (if y.1 ∣ t then y.2 else 0) + sumT t d = (if y.1 ∣ 0 then y.2 else 0) + sumT 0 d := e
    rw [if_pos (Nat.dvd_zero y.1)] at e2
    have l2 := le d
    have y1 := (h y (List.mem_cons_self ..)).2
    by_cases c : y.1 ∣ t
    · rw [if_pos c] at e2
      rcases List.mem_cons.mp hx with rfl | hx
      · exact c
      · exact all_dvd (fun z hz => h z (List.mem_cons_of_mem _ hz)) (by omega) x hx
    · rw [if_neg c] at e2
      omega
theorem perm_len : ∀ {a b : List Nat}, a.Nodup → (∀ k ∈ a, k ∈ b) → a.length ≤ b.length
  | [], _, _, _ => Nat.zero_le _
  | x :: a, b, n, h => by
    have nn := List.nodup_cons.mp n
    have hx := h x (List.mem_cons_self ..)
    have ih := perm_len (b := b.erase x) nn.2 fun k hk => (List.mem_erase_of_ne (fun e => nn.1 (by rw [← e]; exact hk))).mpr (h k (List.mem_cons_of_mem _ hk))
    rw [List.length_erase_of_mem hx] at ih
    have : 0 < b.length := List.length_pos_of_mem hx
    simp only [List.length_cons]
    omega
theorem told_of {d : Dt} {ks : List Nat} {r L : Nat} (hd : ringsD r L = d) (n : NdK d) (ha : ∀ k ∈ d.map (·.1), k ∈ ks) (hb : ∀ k ∈ ks, k ∈ d.map (·.1)) (hn : ks.Nodup) (hs : ks.Pairwise (· ≤ ·)) : ringsM r L = ks.map fun k => (k, gv d k / k) := by
  have p : ks.Perm (d.map (·.1)) := perm_of hn (perm_len n ha) hb
  have sk := sortI_ok (d.map (·.1))
  unfold ringsM
  rw [hd, sorted_eq (sk.1.trans p.symm) sk.2 hs]; rfl
theorem row_one {n : Nat} (hn : 1 ≤ n) : ringsM 1 (n - 1) = [(1, n)] := by
  have h : Rc 1 n (n - 1) := ⟨Nat.le_refl 1, hn, by omega⟩
  obtain ⟨nd, dv, k1, kp, s⟩ := rings_facts h
  have st : ∀ t, sumT t (ringsD 1 (n - 1)) = n := fun t => by
    rw [s t, Nat.one_pow]
    have : Nat.gcd (n - 1) (1 - 1) = n - 1 := Nat.gcd_zero_right _
    rw [this]
    split <;> omega
  have a := all_dvd dv ((st 1).trans (st 0).symm)
  have one : ∀ k ∈ (ringsD 1 (n - 1)).map (·.1), k ∈ [1] := fun k hk => by
    obtain ⟨x, hx, e⟩ := List.mem_map.mp hk
    have := a x hx
    rw [e] at this
    simp [Nat.dvd_one.mp this]
  have t := told_of (r := 1) (L := n - 1) rfl nd one (fun k hk => by simp at hk; subst hk; exact k1) (by simp) (List.pairwise_singleton _ _)
  have sk := sum_keys 1 nd (ks := [1]) (perm_of (by simp) (perm_len nd one) fun k hk => by simp at hk; subst hk; exact k1)
  rw [st 1] at sk
  have e1 : gv (ringsD 1 (n - 1)) 1 = n := by simpa using sk
  rw [t]
  simp [e1]
theorem square {n : Nat} (hn : 2 ≤ n) : ringsM n (n * n - 1) = [(1, n), (2, n * (n - 1) / 2)] := by
  have nn : 4 ≤ n * n := Nat.mul_le_mul hn hn
  have h : Rc n n (n * n - 1) := ⟨by omega, by omega, by omega⟩
  obtain ⟨nd, dv, k1, kp, s⟩ := rings_facts h
  have L0 : ¬ n * n - 1 = 0 := by omega
  have fac : n * n - 1 = (n - 1) * (n + 1) := by
    have e : n = (n - 1) + 1 := by omega
    generalize n - 1 = m at e
    subst e
    simp only [Nat.add_mul, Nat.mul_add, Nat.one_mul, Nat.mul_one]; omega
  have s1 : sumT 1 (ringsD n (n * n - 1)) = n := by
    rw [s 1, Nat.pow_one, if_neg L0, Nat.gcd_comm, Nat.gcd_eq_left (fac ▸ Nat.dvd_mul_right _ _)]; omega
  have s2 : sumT 2 (ringsD n (n * n - 1)) = n * n := by
    rw [s 2, Nat.pow_two, if_neg L0, Nat.gcd_self]; omega
  have s0 : sumT 0 (ringsD n (n * n - 1)) = n * n := by
    rw [s 0, Nat.pow_zero, if_neg L0]
    show Nat.gcd (n * n - 1) 0 + 1 - 0 = _
    rw [Nat.gcd_zero_right]; omega
  have a := all_dvd dv (s2.trans s0.symm)
  have lt : n < n * n := by
    have := Nat.mul_le_mul_right n hn
    omega
  have two : ∀ k ∈ (ringsD n (n * n - 1)).map (·.1), k ∈ [1, 2] := fun k hk => by
    obtain ⟨x, hx, e⟩ := List.mem_map.mp hk
    have d := a x hx
    rw [e] at d
    have := Nat.le_of_dvd (by decide) d
    have := kp k hk
    have : k = 1 ∨ k = 2 := by omega
    simpa using this
  have k2 : 2 ∈ (ringsD n (n * n - 1)).map (·.1) := by
    refine Classical.byContradiction fun c => ?_
    have b : ∀ x ∈ ringsD n (n * n - 1), x.1 = 1 := fun x hx => by
      have := two x.1 (List.mem_map.mpr ⟨x, hx, rfl⟩)
      rcases List.mem_cons.mp this with e | e
      · exact e
      · have e := List.mem_singleton.mp e
        exact absurd (List.mem_map.mpr ⟨x, hx, e⟩) c
    have : ∀ d : Dt, (∀ x ∈ d, x.1 = 1) → sumT 1 d = sumT 2 d := fun d => by
      induction d with
      | nil => intro _; rfl
      | cons y d ih =>
        intro hy
        show (if y.1 ∣ 1 then y.2 else 0) + sumT 1 d = (if y.1 ∣ 2 then y.2 else 0) + sumT 2 d
        have e := hy y (List.mem_cons_self ..)
        rw [e, if_pos (by decide), if_pos (by decide), ih fun z hz => hy z (List.mem_cons_of_mem _ hz)]
    have := this _ b
    omega
  have both : ∀ k ∈ [1, 2], k ∈ (ringsD n (n * n - 1)).map (·.1) := fun k hk => by
    rcases List.mem_cons.mp hk with e | e
    · exact e ▸ k1
    · exact (List.mem_singleton.mp e) ▸ k2
  have t := told_of (r := n) (L := n * n - 1) rfl nd two both (by decide) (by decide)
  have pm := perm_of (a := [1, 2]) (by decide) (perm_len nd two) both
  have q1 := sum_keys 1 nd pm
  have q2 := sum_keys 2 nd pm
  rw [s1] at q1
  rw [s2] at q2
  have e1 : gv (ringsD n (n * n - 1)) 1 = n := by simpa using q1
  have e2 : gv (ringsD n (n * n - 1)) 1 + gv (ringsD n (n * n - 1)) 2 = n * n := by simpa using q2
  have e3 : gv (ringsD n (n * n - 1)) 2 = n * (n - 1) := by
    rw [Nat.mul_sub, Nat.mul_one]; omega
  rw [t]
  simp [e1, e3]
end E3

set_option Elab.async false
set_option linter.all false
set_option maxRecDepth 100000
set_option maxHeartbeats 1000000
/-! law_k72: _law_rings, _law_back -/
namespace E3
open PySem PySem.Spec PyProof.Rows L2
open C8 (Cal Mak Met InsC pe_c pe_mt pe_mt0 call_isC clsBody)
abbrev sLRings : Stmt := top 21
abbrev sBack : Stmt := top 22
abbrev sGreat : Stmt := top 23
def seenK (ks : List Nat) : List (Key × V) := ks.map fun k => (kI k, V.bl true)
theorem seen_val (ks : List Nat) (k : Nat) : (valV (seenK ks) (kI k)).isSome = decide (k ∈ ks) := by
  induction ks with
  | nil => rfl
  | cons x ks ih =>
    unfold seenK at ih ⊢
    rw [List.map_cons]
    by_cases h : x = k
    · rw [valV_pos (kI_inj.mpr h)]; simp [h]
    · rw [valV_neg (fun z => h (kI_inj.mp z)), ih]
      simp [show ¬ k = x from fun z => h z.symm]
theorem seen_put {ks : List Nat} {k : Nat} (h : k ∉ ks) : putK (seenK ks) (kI k) (V.bl true) = seenK (ks ++ [k]) := by
  rw [putK_new _ (by
    have := seen_val ks k
    rw [decide_eq_false h] at this
    cases e : valV (seenK ks) (kI k) with
    | none => rfl
    | some v => rw [e] at this; cases this)]
  unfold seenK
  rw [List.map_append]; rfl
def MaskOf (ks : List Nat) (m : Nat) : Prop := ∀ k, k ∈ ks ↔ m.testBit k = true
theorem mask_put {ks : List Nat} {m h : Nat} (hm : MaskOf ks m) : MaskOf (ks ++ [h]) (m ||| 1 <<< h) := fun k => by
  rw [List.mem_append, hm k, List.mem_singleton, Nat.testBit_or, Nat.one_shiftLeft, Nat.testBit_two_pow, Bool.or_eq_true, decide_eq_true_eq]
  exact or_congr Iff.rfl eq_comm
/-- all but F and S as it was -/
def SameFS (F S : Addr) (H H' : Hp) : Prop := ∀ b o, b ≠ F → b ≠ S → H b = some o → H' b = some o
def spLRings : Sp := fun vs H Q _ => ∃ r c : Nat, vs = [cI r, cI c] ∧ 1 ≤ r ∧ r ≤ 15 ∧ 1 ≤ c ∧ c ≤ 15 ∧ ∀ H' a, Same H H' → H a = none → PrsAt H' a (bruteOf (outB r c (r * c)).1) → Q (.ref a) H'
def spBack : Sp := fun vs H Q _ => ∃ r c t : Nat, vs = [cI r, cI c, cI t] ∧ Tb r c ∧ t < 100 ∧ Q (cI (if 0 < r * c - 1 then Nat.gcd (r * c - 1) (r ^ t - 1) + 1 else 1)) H
section
variable {P : Program} {w : World} {K : PySem.W.Frag} {mg : Str → Option Value} {base : Heap}
theorem scLRings : FnScope ["_law_high", "_law_wide", "_law_found", "_law_seen", "_law_spot", "_law_here", "_law_length", "_law_turn"] ["_law_high", "_law_wide"] (defScope sLRings) := ⟨rfl, rfl, rfl, by decide +kernel, rfl, by decide +kernel, by decide +kernel⟩
theorem ok_lrings {f : Addr} {fd : FuncData} (F : Fun K "_law_rings" "_law_rings" sLRings f fd) (B : Bt4 mg) (B5 : Bt5 mg) : FnOk P w K mg base CX0 1 f fd ["_law_high", "_law_wide"] spLRings := by
  refine F.ok scLRings (fun vs H Q E h => ?_) (fun cdv A outer s H vs Q E hr h => ?_)
  · obtain ⟨r, c, rfl, _⟩ := h
    rfl
  · obtain ⟨r, c, rfl, r1, r2, c1, c2, q⟩ := h
    refine ⟨_, pss_cons (ps_asg (pe_tupS (pa_cons pe_dnewK (pa_cons pe_dnewK pa_nil))) (pg_tup rfl (pgs_cons (pg_name (i := 2) scLRings.nd rfl (Or.inr rfl)) (pgs_cons (pg_name (i := 3) scLRings.nd rfl (Or.inl rfl)) pgs_nil))))
      (pss_cons (ps_for PassesOwn.never rfl (pi_range1 rfl B.rng_ (pa_cons (pe_op op_mul (pv 0) (pv 1)) pa_nil)) (pg_name (i := 4) scLRings.nd rfl (Or.inl rfl))
        (pss_one (ps_if (pt_cmp (pc_dnotin (hu_of hr) (pv 4) (pv 3)))
          (pss_cons (ps_par (i := 5) (j := 6) (by rfl) scLRings.nd rfl rfl (by decide) rfl rfl (pa_cons (pv 4) (pa_cons pe_int pa_nil)) (by rfl))
          (pss_cons (ps_for PassesOwn.never rfl (pi_range1 rfl B.rng_ (pa_cons (pe_op op_mul (pv 0) (pv 1)) pa_nil)) (pg_name (i := 7) scLRings.nd rfl (Or.inl rfl))
            (pss_one (ps_if (pt_cmp (pc_dnotin (hu_of hr) (pv 5) (pv 3)))
              (pss_cons (ps_dput (hu_of hr) (pv 3) (pv 5) pe_bl rfl)
              (pss_one (ps_par (i := 5) (j := 6) (by rfl) scLRings.nd rfl rfl (by decide) rfl rfl (pa_cons (pe_op op_add (pe_op op_mul (pe_op op_mod (pv 5) (pv 1)) (pv 0)) (pe_op op_fdivW (pv 5) (pv 1))) (pa_cons (pe_op op_add (pv 6) pe_int) pa_nil)) (by rfl)))) pss_nil)))
          (pss_one (ps_dput (hu_of hr) (pv 2) (pv 6) (pe_op op_add (pe_dget2 (hu_of hr) (pv 2) (pv 6) pe_int ⟨rfl, rfl, rfl, rfl⟩) pe_int) rfl)))) pss_nil)))
      (pss_one (ps_ret (pe_lc (own := [("_law_length", 6)]) (g := gName 6) (tt := tYes) (te := tTupS (tCons (tVar 6) (tCons (tDGet (tVar 2) (tVar 6)) tNil))) rfl scLRings.nd (pi_list (pe_callB (cr_sortedD rfl) (by rfl) B5.sorted_ (by decide +kernel) (pa_cons (pv 2) pa_nil)))
        (blkOk_by (own := [("_law_length", 6)]) (N := ["_law_high", "_law_wide", "_law_found", "_law_seen", "_law_spot", "_law_here", "_law_length", "_law_turn"]) (sc := defScope sLRings) (by decide +kernel))
        (fun _ _ _ _ _ => pg_name (i := 6) scLRings.nd rfl (Or.inl rfl)) (fun _ _ _ _ _ => pts_nil) (fun _ _ _ _ _ => by exact pe_tupS (pa_cons (pv 6) (pa_cons (pe_dget (hu_of hr) (pv 2) (pv 6) (fun _ _ => rfl)) pa_nil))))))), ?_⟩
    have rc : r * c ≤ 225 := Nat.mul_le_mul r2 c2
    refine fun F0 nF => fun S0 nS => ⟨(by show 2 ≤ sizeLine; decide), fun t H1 S1 n1 h1 => ⟨t, _, rfl, SqT.of h1, rfl, _, _, rfl, _, _, rfl, rfl, ?_⟩⟩
    have fs : F0 ≠ S0 := fun z => by rw [z, upd_same] at nS; exact absurd nS (by simp) 
    have nS2 : H S0 = none := by rw [upd_ne (Ne.symm fs)] at nS; exact nS
    have hF1 : H1 F0 = some (.dK (kvsOf [])) := S1 _ _ (by rw [upd_ne fs, upd_same]; rfl)
    have hS1 : H1 S0 = some (.dK (seenK [])) := S1 _ _ (by rw [upd_same]; rfl)
    have SA : Same H H1 := fun b o hb => S1 _ _ (by rw [upd_ne (ne_of_none hb nS2), upd_ne (ne_of_none hb nF)]; exact hb)
    have tb : Tb r c := ⟨r1, c1, by omega, by omega⟩
    have e_rc : (((r : Nat) : Int) * ((c : Nat) : Int)).toNat = r * c := by rw [← Int.natCast_mul, Int.toNat_natCast]
    refine ⟨_, rfl, _, rfl, _, _, rfl, rfl, .inl ⟨by omega, by omega⟩, _, rfl, by rw [← Int.natCast_mul]; omega, by rw [← Int.natCast_mul]; omega, ?_⟩
    rw [e_rc]
    refine for_it (walk_range (n := r * c)) (fun i σ' H' => (∃ u4 u5 u6 u7, σ' = [some (cI r), some (cI c), some (.ref F0), some (.ref S0), u4, u5, u6, u7]) ∧ SameFS F0 S0 H1 H' ∧ H' F0 = some (.dK (kvsOf (outB r c i).1)) ∧ (outB r c i).1.length ≤ i ∧ ∃ ks, H' S0 = some (.dK (seenK ks)) ∧ MaskOf ks (outB r c i).2 ∧ ks.length ≤ i * (r * c)) ⟨⟨none, none, none, none, rfl⟩, fun _ _ _ _ h => h, hF1, Nat.le_refl _, [], hS1, fun k => by simp [outB], Nat.zero_le _⟩ (fun _ _ _ _ _ => trivial) ?_ ?_
    · rintro i x σ' H2 H3 hi ⟨⟨u4, u5, u6, u7, rfl⟩, S2, hF, lF, ks, hS, hm, lk⟩ ⟨rfl, hx⟩
      obtain rfl : x = cI i := hx.trans (congrArg V.int (by omega))
      rw [outB_succ]
      generalize outB r c i = ob at hF lF hm
      refine ⟨_, rfl, _, rfl, S0, _, rfl, DGet.k (k := kI i) hS, _, rfl, ?_⟩
      rw [seen_val]
      by_cases hk : i ∈ ks
      · rw [decide_eq_true hk]
        refine ifF rfl ?_
        have e : outS r c ob i = ob := if_pos ((hm i).mp hk)
        rw [e]
        exact ⟨⟨_, _, _, _, rfl⟩, S2, hF, by omega, ks, hS, hm, Nat.le_trans lk (Nat.mul_le_mul_right _ (by omega))⟩
      · rw [decide_eq_false hk]
        refine ifT rfl ?_
        have hb : ¬ ob.2.testBit i = true := fun z => hk ((hm i).mpr z)
        have e : outS r c ob i = (addI ob.1 (walkE r c (r * c) (i, 0, ob.2)).2.1 1, (walkE r c (r * c) (i, 0, ob.2)).2.2) := if_neg hb
        rw [e, ← itB_eq]
        refine ⟨_, rfl, _, _, rfl, ?_⟩
        refine ⟨_, rfl, _, rfl, _, _, rfl, rfl, .inl ⟨by omega, by omega⟩, _, rfl, by rw [← Int.natCast_mul]; omega, by rw [← Int.natCast_mul]; omega, ?_⟩
        rw [e_rc]
        refine for_it (walk_range (n := r * c)) (fun j σ' H' => (∃ u7, σ' = [some (cI r), some (cI c), some (.ref F0), some (.ref S0), some (cI i), some (cI (itB r c j (i, 0, ob.2)).1), some (cI (itB r c j (i, 0, ob.2)).2.1), u7]) ∧ SameFS F0 S0 H1 H' ∧ H' F0 = some (.dK (kvsOf ob.1)) ∧ ∃ ks', H' S0 = some (.dK (seenK ks')) ∧ MaskOf ks' (itB r c j (i, 0, ob.2)).2.2 ∧ ks'.length ≤ i * (r * c) + j) ⟨⟨u7, rfl⟩, S2, hF, ks, hS, hm, lk⟩ (fun _ _ _ _ _ => trivial) ?_ ?_
        · rintro j x σ' H4 H5 hj ⟨⟨u7, rfl⟩, S4, hF4, ks', hS4, hm4, lk4⟩ ⟨rfl, hx⟩
          have es : itB r c (j + 1) (i, 0, ob.2) = stepB r c (itB r c j (i, 0, ob.2)) := rfl
          rw [es]
          generalize itB r c j (i, 0, ob.2) = st at hm4
          obtain ⟨hh, ll, mm⟩ := st
          dsimp only at hm4 ⊢
          refine ⟨_, rfl, _, rfl, S0, _, rfl, DGet.k (k := kI hh) hS4, _, rfl, ?_⟩
          rw [seen_val]
          by_cases hk4 : hh ∈ ks'
          · rw [decide_eq_true hk4]
            refine ifF rfl ?_
            have e : stepB r c (hh, ll, mm) = (hh, ll, mm) := if_pos ((hm4 hh).mp hk4)
            rw [e]
            exact ⟨⟨_, rfl⟩, S4, hF4, ks', hS4, hm4, by omega⟩
          · rw [decide_eq_false hk4]
            refine ifT rfl ?_
            have e : stepB r c (hh, ll, mm) = (nxN r c hh, ll + 1, mm ||| 1 <<< hh) := if_neg fun z => hk4 ((hm4 hh).mpr z)
            rw [e]
            have lz : (seenK ks').length < sizeLine := by
              unfold seenK
              rw [List.length_map, sizeLine_eq]
              have : i * (r * c) ≤ 225 * 225 := Nat.mul_le_mul (by omega) rc
              omega
            refine ⟨_, rfl, _, rfl, S0, _, rfl, DPut.k (k := kI hh) hS4 lz, ?_⟩
            have cp : (0 : Int) < ((c : Nat) : Int) := by omega
            refine ⟨_, rfl, _, rfl, _, _, rfl, rfl, cp, _, rfl, _, _, rfl, rfl, .inr ⟨by omega, by omega⟩, _, rfl, _, rfl, _, _, rfl, rfl, ⟨cp, l40 (by omega)⟩, _, _, rfl, rfl, _, rfl, _, _, rfl, rfl, _, _, rfl, ⟨some x, ?_⟩, ?_, ?_, ks' ++ [hh], ?_, mask_put hm4, ?_⟩
            · have e1 : V.int (((hh : Nat) : Int) % ((c : Nat) : Int) * ((r : Nat) : Int) + ((hh : Nat) : Int) / ((c : Nat) : Int)) = cI (nxN r c hh) := by
                unfold nxN
                rw [← cI_add, Int.natCast_mul, Int.natCast_emod, Int.natCast_ediv]
              have e2 : V.int (((ll : Nat) : Int) + 1) = cI (ll + 1) := cI_add ll 1
              rw [← e1, ← e2]; rfl
            · intro b o b1 b2 hb'
              rw [upd_ne b2]
              exact S4 b o b1 b2 hb'
            · rw [upd_ne fs]; exact hF4
            · rw [upd_same, seen_put hk4]
            · rw [List.length_append]; simp; omega
        · rintro σ' H4 ⟨⟨u7, rfl⟩, S4, hF4, ks', hS4, hm4, lk4⟩
          generalize itB r c (r * c) (i, 0, ob.2) = st at hm4
          obtain ⟨hh, ll, mm⟩ := st
          dsimp only at hm4 ⊢
          refine ⟨_, rfl, F0, rfl, .inl ⟨_, .inl hF4⟩, _, rfl, _, DGet.k (k := kI ll) hF4, ?_⟩
          refine ⟨(((getI ob.1 ll).getD 0 : Nat) : Int), 1, ?_, rfl, _, rfl, _, rfl, F0, _, rfl, DPut.k (k := kI ll) hF4 (by rw [kvs_len, sizeLine_eq]; omega), ?_⟩
          · rw [val_kvs]
            cases getI ob.1 ll <;> rfl
          · refine ⟨⟨_, _, _, _, rfl⟩, ?_, ?_, ?_, ks', ?_, hm4, ?_⟩
            · intro b o b1 b2 hb'
              rw [upd_ne b1]
              exact S4 b o b1 b2 hb'
            · have ev : V.int ((((getI ob.1 ll).getD 0 : Nat) : Int) + 1) = cI ((getI ob.1 ll).getD 0 + 1) := cI_add _ 1
              rw [upd_same]
              dsimp only
              rw [ev, put_kvs]; rfl
            · exact Nat.le_trans (putI_len _ _ _) (by omega)
            · rw [upd_ne (Ne.symm fs)]; exact hS4
            · rw [Nat.add_mul, Nat.one_mul]; exact lk4
    · rintro σ' H2 ⟨⟨u4, u5, u6, u7, rfl⟩, S2, hF, lF, ks, hS, hm, lk⟩
      have S02 : Same H H2 := fun b o hb => S2 b o (ne_of_none hb nF) (ne_of_none hb nS2) (SA b o hb)
      generalize (outB r c (r * c)).1 = d at q hF lF
      refine ⟨_, rfl, F0, _, _, rfl, .inl hF, kvs_keys _, fun ns' p1 p2 b H4 S4 n4 h4 => ?_⟩
      rw [sorted_int p1 p2] at h4
      have sk := sortI_ok (d.map (·.1))
      have hrl : (bruteOf d).length = (sortI (d.map (·.1))).length := by unfold bruteOf; rw [List.length_map, sort_eq]
      refine ⟨b, rfl, ⟨_, SqL.of h4⟩, fun Dl nDl => lc_it (walk_list (xs := (List.map (fun n : Nat => (n : Int)) (sortI (d.map (·.1)))).map V.int)) (fun i H' => SameB Dl H4 H' ∧ PrsAt H' Dl ((bruteOf d).take i)) ⟨fun c o nc hc => by rw [upd_ne nc]; exact hc, .nil upd_same⟩ (fun i H' _ z => SqL.of (z.1 _ _ (ne_of_none h4 nDl) h4)) ?_ ?_⟩
      · rintro i x H5 H6 hi ⟨S5, pr⟩ ⟨rfl, hx⟩
        rw [List.length_map, List.length_map] at hi
        rw [List.getElem?_map, List.getElem?_map, List.getElem?_eq_getElem hi] at hx
        obtain rfl := Option.some.inj hx
        have hm2 : (sortI (d.map (·.1)))[i] ∈ d.map (·.1) := sk.1.mem_iff.mp (List.getElem_mem hi)
        have hri : (bruteOf d)[i]? = some ((sortI (d.map (·.1)))[i], (getI d ((sortI (d.map (·.1)))[i])).getD 0) := by
          unfold bruteOf
          rw [← sort_eq, List.getElem?_map, List.getElem?_eq_getElem hi]; rfl
        generalize (sortI (d.map (·.1)))[i] = n at hm2 hri
        obtain ⟨v, hv⟩ := getI_some hm2
        rw [hv] at hri
        have hD5 : H6 F0 = some (.dK (kvsOf d)) := S5 _ _ (ne_of_none (S4 _ _ hF) nDl) (S4 _ _ hF)
        obtain ⟨ts, t1, t2, t3⟩ := pr
        refine ⟨rfl, iteT (B := False) ⟨_, rfl, _, rfl, _, rfl, F0, cI v, rfl, ?_, (by show 2 ≤ sizeLine; decide), fun t H7 S7 n7 h7 => ?_⟩⟩
        · have := DGet.k (k := kI n) hD5
          rw [val_kvs, hv] at this
          exact this
        · have t1' := S7 _ _ t1
          refine ⟨_, t1', ?_, ?_, ?_⟩
          · rw [List.length_map, t2, List.length_take, sizeLine_eq]
            have := sk.1.length_eq
            rw [List.length_map] at this
            omega
          · exact (S5.to S7).upd
          · rw [List.take_succ, hri]
            exact .snoc t1' t2 (fun i u z e1 e2 => S7 _ _ (t3 i u z e1 e2)) h7
      · rintro H5 ⟨S5, pr⟩
        rw [List.length_map, List.length_map, ← hrl, List.take_length] at pr
        exact q H5 Dl (S5.toSame (S02.trans S4) ((S02.trans S4).free nDl)) ((S02.trans S4).free nDl) pr
theorem scBack : FnScope ["_law_high", "_law_wide", "_law_times", "_law_last", "_law_found", "_law_turn", "_law_one", "_law_other"] ["_law_high", "_law_wide", "_law_times"] (defScope sBack) := ⟨rfl, rfl, rfl, by decide +kernel, rfl, by decide +kernel, by decide +kernel⟩
theorem ok_back {f : Addr} {fd : FuncData} (F : Fun K "_law_back" "_law_back" sBack f fd) (B : Bt4 mg) : FnOk P w K mg base CX0 1 f fd ["_law_high", "_law_wide", "_law_times"] spBack := by
  refine F.ok scBack (fun vs H Q E h => ?_) (fun cdv A outer s H vs Q E hr h => ?_)
  · obtain ⟨r, c, t, rfl, _⟩ := h
    rfl
  · obtain ⟨r, c, t, rfl, tb, tl, q⟩ := h
    refine ⟨_, pss_cons (ps_par (i := 3) (j := 4) (by rfl) scBack.nd rfl rfl (by decide) rfl rfl (pa_cons (pe_op op_sub (pe_op op_mul (pv 0) (pv 1)) pe_int) (pa_cons pe_int pa_nil)) (by rfl))
      (pss_cons (ps_for PassesOwn.never rfl (pi_range1 rfl B.rng_ (pa_cons (pv 2) pa_nil)) (pg_name (i := 5) scBack.nd rfl (Or.inl rfl)) (pss_one (ps_set (i := 4) scBack.nd rfl (Or.inl rfl) (pe_op op_mul (pv 4) (pv 0)))))
      (pss_cons (ps_par (i := 6) (j := 7) (by rfl) scBack.nd rfl rfl (by decide) rfl rfl (pa_cons (pe_op op_sub (pv 4) pe_int) (pa_cons (pv 3) pa_nil)) (by rfl))
      (pss_cons (ps_for PassesOwn.never rfl (pi_range1 rfl B.rng_ (pa_cons pe_int pa_nil)) (pg_name (i := 5) scBack.nd rfl (Or.inl rfl))
        (pss_one (ps_if (pt_cmpR op_ne (pv 7) pe_int (nomark _)) (pss_one (ps_par (i := 6) (j := 7) (by rfl) scBack.nd rfl rfl (by decide) rfl rfl (pa_cons (pv 7) (pa_cons (pe_op op_mod (pv 6) (pv 7)) pa_nil)) (by rfl))) pss_nil)))
      (pss_one (ps_ret (pe_ifExp (pt_cmpR op_gt (pv 3) pe_int (nomark _)) (pe_op op_add (pv 6) pe_int) pe_int)))))), ?_⟩
    obtain ⟨r1, c1, r2, c2⟩ := id tb
    obtain ⟨l1, l2⟩ := tb_lt tb
    have el := cI_last tb
    have rp : ∀ i, 1 ≤ r ^ i := fun i => Nat.pow_pos (by omega)
    refine ⟨_, rfl, _, rfl, _, _, rfl, rfl, .inl ⟨by omega, by omega⟩, _, _, rfl, rfl, _, _, rfl, ?_⟩
    refine ⟨_, rfl, _, rfl, by omega, by omega, ?_⟩
    rw [Int.toNat_natCast]
    refine for_it (walk_range (n := t)) (fun i σ' H' => (∃ u5, σ' = [some (cI r), some (cI c), some (cI t), some (cI (r * c - 1)), some (cI (r ^ i)), u5, none, none]) ∧ H' = H) ⟨⟨none, by rw [← el]; rfl⟩, rfl⟩ (fun _ _ _ _ _ => trivial) ?_ ?_
    · rintro i x σ' H2 H3 hi ⟨⟨u, rfl⟩, rfl⟩ ⟨rfl, hx⟩
      refine ⟨_, rfl, _, rfl, _, _, rfl, rfl, .inr ⟨by omega, by omega⟩, ⟨some x, ?_⟩, rfl⟩
      have := cI_mul (r ^ i) r
      rw [Nat.pow_succ, ← this]; rfl
    · rintro σ' H2 ⟨⟨u, rfl⟩, rfl⟩
      refine ⟨_, rfl, _, _, rfl, rfl, _, rfl, _, _, rfl, ?_⟩
      have ef : V.int (((r ^ t : Nat) : Int) - 1) = cI (r ^ t - 1) := cI_sub1 (rp t)
      refine ⟨400, rfl, by decide, by decide, for_it (walk_range (n := 400)) (fun i σ' H' => (∃ u5, σ' = [some (cI r), some (cI c), some (cI t), some (cI (r * c - 1)), some (cI (r ^ t)), u5, some (cI (euN i (r ^ t - 1, r * c - 1)).1), some (cI (euN i (r ^ t - 1, r * c - 1)).2)]) ∧ H' = H2) ⟨⟨u, ?_⟩, rfl⟩ (fun _ _ _ _ _ => trivial) ?_ ?_⟩
      · show _ = [some (cI r), some (cI c), some (cI t), some (cI (r * c - 1)), some (cI (r ^ t)), u, some (cI (r ^ t - 1)), some (cI (r * c - 1))]
        rw [← ef]; rfl
      · rintro i x σ' H3 H4 hi ⟨⟨u, rfl⟩, rfl⟩ ⟨rfl, hx⟩
        have es : euN (i + 1) (r ^ t - 1, r * c - 1) = euS (euN i (r ^ t - 1, r * c - 1)) := rfl
        rw [es]
        generalize euN i (r ^ t - 1, r * c - 1) = st
        obtain ⟨a, b⟩ := st
        dsimp only
        by_cases z : b = 0
        · have e : euS (a, b) = (a, b) := if_pos z
          rw [e]
          refine ⟨_, rfl, rfl, _, rfl, ifF ?_ ⟨⟨some x, rfl⟩, rfl⟩⟩
          subst z
          rw [decide_eq_true (show cI 0 = V.int 0 from rfl)]; rfl
        · have e : euS (a, b) = (b, a % b) := if_neg z
          rw [e]
          have nb : ¬ cI b = V.int 0 := fun k => z (cI_inj (b := 0) k)
          refine ⟨_, rfl, rfl, _, rfl, ifT (by rw [decide_eq_false nb]; rfl) ?_⟩
          refine ⟨_, rfl, _, rfl, _, rfl, _, _, rfl, rfl, (show (0 : Int) < ((b : Nat) : Int) by omega), _, _, rfl, ⟨some x, ?_⟩, rfl⟩
          have := cI_mod a b
          rw [← this]; rfl
      · rintro σ' H3 ⟨⟨u, rfl⟩, rfl⟩
        have hg := euN_gcd (r ^ t - 1, r * c - 1) 400
        have hz := euN_end 200 (r ^ t - 1, r * c - 1) (by show r * c - 1 < 2 ^ 200; exact Nat.lt_of_le_of_lt (show r * c - 1 ≤ 2 ^ 32 by omega) (by decide))
        rw [show (2 * 200 : Nat) = 400 from rfl] at hz
        rw [hz, Nat.gcd_zero_right] at hg
        refine ⟨_, rfl, _, _, rfl, rfl, _, rfl, iteD (fun hx => ?_) (fun hx => ?_)⟩
        · refine ⟨_, rfl, _, _, rfl, rfl, ?_⟩
          rw [if_pos (by omega)] at q
          rw [hg]
          have := cI_add (Nat.gcd (r ^ t - 1) (r * c - 1)) 1
          rw [Nat.gcd_comm (r * c - 1)] at q
          rw [← this] at q
          exact q
        · rw [if_neg (by omega)] at q
          exact q
end
end E3

set_option Elab.async false
set_option linter.all false
set_option maxRecDepth 100000
set_option maxHeartbeats 1000000
/-! lists of pairs, lists of numbers as data; comprehensions over a list of pairs -/
namespace E3
open PySem PySem.Spec PyProof.Rows L2
def prD (l : List (Nat × Nat)) : PyData := .list (l.map fun x => .tuple [.int (x.1 : Nat), .int (x.2 : Nat)])
theorem canAll : ∀ l : List (Nat × Nat), PyData.canLayAll0 (l.map fun x => .tuple [.int (x.1 : Nat), .int (x.2 : Nat)]) = true
  | [] => rfl
  | x :: l => by
    show (PyData.canLay0 _ && PyData.canLayAll0 _) = true
    rw [canAll l]; rfl
theorem depAll : ∀ l : List (Nat × Nat), PyData.depthAll (l.map fun x => .tuple [.int (x.1 : Nat), .int (x.2 : Nat)]) ≤ 8
  | [] => by show PyData.depthAll [] ≤ 8; decide
  | x :: l => by
    have h := depAll l
    have e : PyData.depthAll ((x :: l).map fun x => .tuple [.int (x.1 : Nat), .int (x.2 : Nat)]) = max (PyData.depth (.tuple [.int (x.1 : Nat), .int (x.2 : Nat)])) (PyData.depthAll (l.map fun x => .tuple [.int (x.1 : Nat), .int (x.2 : Nat)])) := by first | rfl | simp [PyData.depthAll]
    have e2 : PyData.depth (.tuple [.int (x.1 : Nat), .int (x.2 : Nat)]) ≤ 8 := by simp [PyData.depth, PyData.depthAll]
    omega
theorem sh_prD (l : List (Nat × Nat)) : SeqAt.shaped (prD l) = true ∧ PyData.canLay0 (prD l) = true := by
  have c : PyData.canLay0 (prD l) = true := canAll l
  refine ⟨?_, c⟩
  have d : PyData.depth (prD l) ≤ 64 := by
    have h := depAll l
    have e : PyData.depth (prD l) = PyData.depthAll (l.map fun x => .tuple [.int (x.1 : Nat), .int (x.2 : Nat)]) + 1 := by first | rfl | simp [prD, PyData.depth] | (simp [prD, PyData.depth]; omega)
    omega
  show (PyData.canLay0 _ && decide _) = true
  rw [c, decide_eq_true d]; rfl
theorem dp_prs {K : PySem.W.Frag} {H : Hp} : ∀ {l : List (Nat × Nat)} {ts : List Addr}, ts.length = l.length → (∀ (i : Nat) (t : Addr) (x : Nat × Nat), ts[i]? = some t → l[i]? = some x → H t = some (.tup [cI x.1, cI x.2])) → DpAll K H (ts.map V.ref) (l.map fun x => .tuple [.int (x.1 : Nat), .int (x.2 : Nat)])
  | [], [], _, _ => .nil
  | x :: l, t :: ts, h, g => .cons (.tup (SqT.of (g 0 t x rfl rfl)) (.cons (.int _) (.cons (.int _) .nil))) (dp_prs (by simpa using h) fun i t x e1 e2 => g (i + 1) t x (by simpa using e1) (by simpa using e2))
  | [], _ :: _, h, _ => by simp at h
  | _ :: _, [], h, _ => by simp at h
def inD (l : List Nat) : PyData := .list (l.map fun n : Nat => .int (n : Nat))
theorem canInts : ∀ l : List Nat, PyData.canLayAll0 (l.map fun n : Nat => .int (n : Nat)) = true
  | [] => rfl
  | x :: l => by
    show (PyData.canLay0 _ && PyData.canLayAll0 _) = true
    rw [canInts l]; rfl
theorem depInts : ∀ l : List Nat, PyData.depthAll (l.map fun n : Nat => .int (n : Nat)) ≤ 8
  | [] => by show PyData.depthAll [] ≤ 8; decide
  | x :: l => by
    have h := depInts l
    have e : PyData.depthAll ((x :: l).map fun n : Nat => .int (n : Nat)) = max (PyData.depth (.int (x : Nat))) (PyData.depthAll (l.map fun n : Nat => .int (n : Nat))) := by first | rfl | simp [PyData.depthAll]
    have e2 : PyData.depth (.int (x : Nat)) ≤ 8 := by simp [PyData.depth]
    omega
theorem sh_inD (l : List Nat) : SeqAt.shaped (inD l) = true ∧ PyData.canLay0 (inD l) = true := by
  have c : PyData.canLay0 (inD l) = true := canInts l
  refine ⟨?_, c⟩
  have d : PyData.depth (inD l) ≤ 64 := by
    have h := depInts l
    have e : PyData.depth (inD l) = PyData.depthAll (l.map fun n : Nat => .int (n : Nat)) + 1 := by first | rfl | simp [inD, PyData.depth] | (simp [inD, PyData.depth]; omega)
    omega
  show (PyData.canLay0 _ && decide _) = true
  rw [c, decide_eq_true d]; rfl
theorem dp_ints {K : PySem.W.Frag} {H : Hp} : ∀ l : List Nat, DpAll K H (l.map cI) (l.map fun n : Nat => .int (n : Nat))
  | [] => .nil
  | x :: l => .cons (.int _) (dp_ints l)
theorem dp_inD {K : PySem.W.Frag} {H : Hp} {a : Addr} {l : List Nat} (h : H a = some (.lst (l.map cI))) : Dp K H (.ref a) (inD l) := .lst (SqL.of h) (dp_ints l)
theorem dp_prD {K : PySem.W.Frag} {H : Hp} {a : Addr} {l : List (Nat × Nat)} (h : PrsAt H a l) : Dp K H (.ref a) (prD l) :=
  let ⟨_, h1, h2, h3⟩ := h
  .lst (SqL.of h1) (dp_prs h2 h3)
theorem PrsAt.sameB {D : Addr} {H H' : Hp} {a : Addr} {l : List (Nat × Nat)} (h : PrsAt H a l) (S : SameB D H H') (n : H D = none) : PrsAt H' a l :=
  let ⟨ts, h1, h2, h3⟩ := h
  ⟨ts, S _ _ (ne_of_none h1 n) h1, h2, fun i t x e1 e2 => S _ _ (ne_of_none (h3 i t x e1 e2) n) (h3 i t x e1 e2)⟩
/-- a comprehension over a list of pairs -/
theorem lc_prs {K : PySem.W.Frag} {a D : Addr} {l : List (Nat × Nat)} {g : TG} {tt : TT} {te : TE} {vs : List Nat} {σ : L2.St} {H1 : Hp} {Qd : Hp → Prop} (val : Nat × Nat → V) (cond : Nat × Nat → Bool) (pr : PrsAt H1 a l) (nD : H1 D = none) (lz : l.length < sizeLine)
    (hs : ∀ (x : Nat × Nat) (t : Addr) (H' : Hp) (K1 : VK) (K0 : Hp → Prop), x ∈ l → H' t = some (.tup [cI x.1, cI x.2]) → (cond x = true → K1 (val x) H') → (cond x = false → K0 H') → g (.ref t) (wipe σ vs) H' fun σ2 H2 => wipe σ2 vs = wipe σ vs ∧ tt σ2 H2 fun b H3 => if b = true then te σ2 H3 K1 else K0 H3)
    (hd : ∀ H', SameB D H1 H' → H' D = some (.lst ((l.filter cond).map val)) → Qd H') :
    ∃ W : Nat → Nat → Hp → Prop, (∃ m, W 0 m (upd H1 D (.lst []))) ∧ ∀ i m H, W i m H →
      ((Itl K a).stop i H ∧ Qd H) ∨ ((Itl K a).go i H ∧ ∃ Nx : Hp → Prop, (∀ H', Nx H' → ∃ m', m' < m ∧ W (i + 1) m' H') ∧ ∀ x H', (Itl K a).yld i H x H' → g x (wipe σ vs) H' fun σ2 H2 => wipe σ2 vs = wipe σ vs ∧ tt σ2 H2 fun b H3 =>
        if b = true then te σ2 H3 fun y H4 => ∃ acc, H4 D = some (.lst acc) ∧ acc.length < sizeLine ∧ Nx (upd H4 D (.lst (acc ++ [y]))) else Nx H3) := by
  obtain ⟨ts, t1, t2, t3⟩ := pr
  refine lc_it (walk_list (xs := ts.map V.ref)) (fun i H' => SameB D H1 H' ∧ H' D = some (.lst (((l.take i).filter cond).map val))) ⟨fun c o nc hc => by rw [upd_ne nc]; exact hc, upd_same⟩ (fun i H' _ z => SqL.of (z.1 _ _ (ne_of_none t1 nD) t1)) ?_ ?_
  · rintro i x H5 H6 hi ⟨S5, h5⟩ ⟨rfl, hx⟩
    rw [List.length_map] at hi
    have hi2 : i < l.length := by omega
    rw [List.getElem?_map, List.getElem?_eq_getElem hi] at hx
    obtain rfl := Option.some.inj hx
    have ey := List.getElem?_eq_getElem hi2
    have ht0 := t3 i _ _ (List.getElem?_eq_getElem hi) ey
    have ht := S5 _ _ (ne_of_none ht0 nD) ht0
    refine hs l[i] _ _ _ _ (List.getElem_mem hi2) ht (fun hc => ⟨_, h5, ?_, S5.upd, ?_⟩) (fun hc => ⟨S5, ?_⟩)
    · rw [List.length_map]
      refine Nat.lt_of_le_of_lt (List.length_filter_le _ _) ?_
      rw [List.length_take]; omega
    · rw [upd_same, List.take_succ, ey, List.filter_append, List.map_append]
      simp [hc]
    · rw [h5, List.take_succ, ey, List.filter_append, List.map_append]
      simp [hc]
  · rintro H5 ⟨S5, h5⟩
    rw [List.length_map, t2, List.take_length] at h5
    exact hd H5 S5 h5
end E3

set_option Elab.async false
set_option linter.all false
set_option maxRecDepth 100000
/-! set(xs), xs a list of whole numbers; sorted of such a set, of any size -/
namespace L2
open PySem PySem.Spec PyProof.Rows
/-- the set just made -/
abbrev nSet (w : World) : Obj := { cls := .type "set", dict := none, data := .set #[] 0 (.fresh 0 0 (!w.params.followText "set-order")) }
section
variable {P : Program} {w : World} {A : Around} {E : Value → Shared → Prop} {s : Shared} {l : Addr} {items : Array Value} {ns : List Int}
/-- what set.__init__ has done behind its walk -/
abbrev SetDone (w : World) (s : Shared) (ns : List Int) (s₂ : Shared) : Prop := ∃ h' tk c, s₂ = { s with heap := h', toks := tk } ∧ SetR w h' s.heap.objs.size (fun j => decide (j ∈ ns)) c ∧ c ≤ ns.length ∧ ∀ b o, s.heap.get? b = some o → h'.get? b = some o
theorem ints_at (hit : IntsAre items.toList ns) (i : Nat) (v : Value) (hv : items[i]? = some v) : ∃ k t, ns[i]? = some k ∧ v = .int k t := by
  have z : items.size = ns.length := by rw [← Array.length_toList]; exact IntsAre.length hit
  have lt : i < ns.length := z ▸ (Array.getElem?_eq_some_iff.mp hv).1
  obtain ⟨t, e⟩ := hit.int_at i v (by rw [Array.getElem?_toList]; exact hv)
  exact ⟨ns[i], t, List.getElem?_eq_getElem lt, by rw [e, List.getD_eq_getElem?_getD, List.getElem?_eq_getElem lt] <;> rfl⟩
set_option maxHeartbeats 3200000 in
theorem set_init_ints (hh : A.handled = none) (hl : s.heap.IsList l items) (hit : IntsAre items.toList ns) (hb : ns.length + 1 < scanBound) (T : Shared.TypeIs { s with heap := s.heap.push (nSet w) } (.ref s.heap.objs.size) "set") {R : Result → Shared → Prop} (hR : ∀ s₂, SetDone w s ns s₂ → R (.ok (.ret .none)) s₂) :
    wpAny (model P w) A.in1 (Builtin.«set.__init__» ⟨[.ref s.heap.objs.size, .ref l], []⟩) (fun fin s' => match fin with | .done f => R (.ok f) s' | .again c' => c'.quiet = true ∧ codeAny (model P w) A c' R s') (fun e s' => R (.error e) s') { s with heap := s.heap.push (nSet w) } := by
  have hS : (s.heap.push (nSet w)).get? s.heap.objs.size = some (nSet w) := Heap.get?_push_size _ rfl
  obtain ⟨⟨oc, od, dt, osl⟩, hol, rfl, nl, rfl⟩ := hl
  have h1 : (s.heap.push (nSet w)).get? l = some { cls := .type "list", dict := od, data := .seq items nl, slots := osl } := Heap.get?_push_of_some _ hol
  have L1 : (s.heap.push (nSet w)).IsList l items := ⟨_, h1, rfl, nl, rfl⟩
  have lS : l < s.heap.objs.size := Heap.lt_size hol
  have n1 := F.sub_list_set
  have n2 := F.sub_list_frozenset
  have n3 : (Value.type "list" == Value.type "dict") = false := by decide
  have isz : items.size = ns.length := by rw [← Array.length_toList]; exact IntsAre.length hit
  unfold Builtin.«set.__init__» noKeywords Builtin.Frozenset.updateFrom
  generalize hPI : pyIter = PI
  wp_walk
  subst hPI
  refine wpAny_pyIter_list L1 ?_
  refine wpAny_bind (wpAny_runValue ?_)
  have sz : (s.heap.push (nSet w)).objs.size = s.heap.objs.size + 1 := Heap.size_push ..
  have ne1 : l ≠ (s.heap.push (nSet w)).objs.size := by rw [sz]; exact Nat.ne_of_lt (Nat.lt_succ_of_lt lS)
  have nf : s.heap.objs.size ∉ [(s.heap.push (nSet w)).objs.size, l] := by
    rw [sz]
    simp only [List.mem_cons, List.not_mem_nil, or_false, not_or]
    exact ⟨Nat.ne_of_lt (Nat.lt_succ_self _), Nat.ne_of_gt lS⟩
  refine set_update_ints ((Walks.list (by simp [hh]) _ l ne1 items).toS) s.heap.objs.size nf ns isz hb (ints_at hit) (items.size - 0) 0 _ (by omega) (Nat.zero_le _) ⟨⟨_, Heap.get?_push_size _ rfl, rfl, rfl⟩, L1.push _⟩ ⟨0, Nat.le_refl 0, setR_new_at (Heap.get?_push_of_some _ hS)⟩ ?_
  rintro ⟨h', g2, d', tk', os'⟩ c' hm hc' hS'
  obtain rfl : g2 = s.gens := hm.gens
  obtain rfl : d' = s.drawn := hm.drawn
  obtain rfl : os' = s.os := hm.os
  refine wpAny_pure ?_
  refine wpAny_pure (hR _ ⟨h', tk', c', rfl, hS', by omega, fun b o e => ?_⟩)
  have b0 : b < s.heap.objs.size := Heap.lt_size e
  refine hm.heap b o ?_ (Heap.get?_push_of_some _ (Heap.get?_push_of_some _ e))
  simp only [List.mem_cons, List.not_mem_nil, or_false, not_or]
  exact ⟨Nat.ne_of_lt b0, by rw [sz]; exact Nat.ne_of_lt (Nat.lt_succ_of_lt b0)⟩
set_option maxHeartbeats 3200000 in
theorem call_set_ints {Q : Value → Shared → Prop} (hh : A.handled = none) (hl : s.heap.IsList l items) (hit : IntsAre items.toList ns) (hb : ns.length + 1 < scanBound) (h : ∀ s₂, SetDone w s ns s₂ → Q (.ref s.heap.objs.size) s₂) : wpAny (model P w) A (call (.type "set") [.ref l]) Q E s := by
  obtain ⟨c, tl, m1⟩ := F.called_set.mro
  have m2 := F.called_set.made
  have m3 := F.called_set.sub
  have m4 := F.called_set.notType
  have m5 := F.called_set.canCreate
  have m6 := F.typeCall_set_1 (.ref l)
  have T : Shared.TypeIs { s with heap := s.heap.push (nSet w) } (.ref s.heap.objs.size) "set" := ⟨_, Heap.get?_push_size _ rfl, rfl⟩
  have m7 := F.called_set.init.lookup
  have m8 := F.called_set.init.bind (.ref s.heap.objs.size)
  refine wpAny_call (codeAny_of_tree (show wpAny _ _ (callAny (.type "set") _) _ _ _ from wpAny_pure ⟨Code.quiet_builtin _ (by decide +kernel), codeAny_builtin F.entry_type_call ?_⟩))
  rw [Around.under_plain (weight_type_call_type "set" [.ref l] []) rfl]
  repeat (any_goals (first | assumption | wp_step))
  refine codeAny_mono (code_set_led1 (.ref l) (E := E) (Q₁ := fun obj s₁ => obj = .ref s.heap.objs.size ∧ s₁ = { s with heap := s.heap.push (nSet w) }) ⟨rfl, rfl⟩) fun r s₁ hr => ?_
  match r, hr with
  | .error e, hr => exact hr
  | .ok (.ret obj), ⟨e1, e2⟩ =>
    subst e1 e2
    repeat (any_goals (first | assumption | wp_step))
    refine codeAny_mono (codeAny_call_builtin (R := wants (fun r s₂ => r = .none ∧ SetDone w s ns s₂) E) F.called_set.init.plain F.entry_set_init (check_set_init_1 T (set_init_ints (by simp [hh]) hl hit hb T fun s₂ d => ⟨rfl, d⟩))) fun r₂ s₂ hr₂ => ?_
    match r₂, hr₂ with
    | .error e, hr₂ => exact hr₂
    | .ok (.ret r), ⟨e1, d⟩ =>
      subst e1
      repeat (any_goals (first | assumption | wp_step))
      exact h _ d
end
/-- set(xs), ints -/
def rSetLI (K : PySem.W.Frag) (w : World) : List V → Hp → VK → Prop := fun vs H Q => ∃ (a : Addr) (ns : List Int), vs = [V.ref a] ∧ SqL K H a (ns.map V.int) ∧ ns.length + 1 < scanBound ∧ ∀ p c, H p = none → Q (.ref p) (upd H p (SetO w p (fun j => decide (j ∈ ns)) c))
theorem cr_setL {X : Cx} (hc : X.calm = true) : CallR X (.type "set") (rSetLI X.K X.w) := by
  intro pins s σ H vs us Q I r h
  obtain ⟨a, ns, rfl, hs, hz, q⟩ := h
  obtain ⟨its, rv, hl, _⟩ := I.list hs
  rw [Vals.ref1 r]
  refine call_set_ints (P := X.prog) (w := X.w) (I.ok.hd hc) hl.isList (by simpa using rv.ints) hz fun s₂ d => ?_
  obtain ⟨h', tk, c, rfl, R, _, k⟩ := d
  exact ⟨.ref s.heap.objs.size, _, I.laid (t' := tk) k (Nat.le_refl _) (setO_new R), rfl, q _ c (I.hok.fresh (Nat.le_refl _))⟩
/-- sorted(s), s a set of ints -/
def rSortedSL (w : World) : List V → Hp → VK → Prop := fun vs H Q => ∃ (a : Addr) (S : Int → Bool) (n : Nat), vs = [V.ref a] ∧ H a = some (SetO w a S n) ∧ ∀ ns : List Int, ns.Pairwise (· ≤ ·) → ns.Nodup → (∀ k : Int, k ∈ ns ↔ S k = true) → NewQ H (.lst (ns.map V.int)) Q
theorem cr_sortedSL {X : Cx} (hc : X.calm = true) : CallR X (.builtin "sorted") (rSortedSL X.w) := by
  intro pins s σ H vs us Q I r h
  obtain ⟨a, S, n, rfl, ha, q⟩ := h
  obtain ⟨o, es, ep, t, ho, hex, hd, g, nd, hm, hb, hf, _, hr, hl⟩ := setO_get I ha
  rw [Vals.ref1 r]
  refine Calls.call_function_entry kind_sorted plain_sorted entry_sorted (args_sorted1 _) ?_
  unfold Builtin.«sorted»
  refine wpAny_bind (m := checkCount "sorted" 1 1 _) (wpAny_pure ?_)
  refine wpAny_bind (collect_set (I.ok.hd hc) ⟨o, ho, hex.1, hd⟩ hf hb hr hl fun s1 vs k1 hz g1 o1 pm => ?_)
  have hi := ints_of vs fun v hv => by
    obtain ⟨e, he, ev⟩ := List.mem_map.mp (pm.mem_iff.mp hv)
    obtain ⟨k, tk, e1, _⟩ := g e he
    exact ⟨k, tk, ev.symm.trans e1⟩
  have pk := pm.map Builtin.Re.reRawOf
  rw [List.map_map] at pk
  have pk2 : (vs.map Builtin.Re.reRawOf).Perm (es.toList.map keyOf) := pk
  have vz : vs.length ≤ sizeLine := fits_of_scanBound (by rw [pm.length_eq, List.length_map, Array.length_toList]; exact hb)
  refine wpAny_bind (wpAny_newList ?_ vz)
  have oL : (s1.heap.push (seqObj "list" vs.toArray 0)).get? s1.heap.objs.size = some (seqObj "list" vs.toArray 0) := Heap.get?_push_size _ rfl
  refine wpAny_bind (wpAny_holding (wpAny_call_entry slot_list_sort ⟨_, oL, rfl⟩ entry_list_sort (SrtO.list_sort_ord SrtO.swo_int oL vz (fun h2 => SrtO.ints_sortable hi h2) fun out hs hsb => ⟨_, rfl, ?_⟩) (args_list_sort _)))
  obtain ⟨q1, q2, q3⟩ := SrtO.ints_out hi hs hsb
  obtain ⟨c, hc2⟩ := sortedHeap_at (vs := vs) (out := out.toArray) oL
  have pn := q2.trans pk2
  have ol : ((out.map SrtO.iv).map V.int).length ≤ sizeLine := by rw [List.length_map, q2.length_eq, List.length_map]; exact vz
  have np : H s1.heap.objs.size = none := I.hok.fresh hz
  have kk : ∀ b u, s.heap.get? b = some u → (sortedHeap (s1.heap.push (seqObj "list" vs.toArray 0)) s1.heap.objs.size vs out.toArray).get? b = some u := fun b u e => by
    have lt := Heap.lt_size (k1 b u e)
    rw [sortedHeap_old (Nat.ne_of_lt lt) (by rw [size_push']; exact Nat.lt_succ_of_lt lt)]
    exact Heap.get?_push_of_some _ (k1 b u e)
  have J : Inv X pins σ (upd H s1.heap.objs.size (.lst ((out.map SrtO.iv).map V.int))) { s with heap := sortedHeap (s1.heap.push (seqObj "list" vs.toArray 0)) s1.heap.objs.size vs out.toArray, gens := s1.gens, drawn := s1.drawn, toks := s1.toks } :=
    I.call (ch := []) (Un.laid kk hz np) (I.hok.laid kk hz ⟨ol, out, c, vals_of_ints q1, hc2⟩) (by rw [g1]; exact I.bare) (fun _ z => nomatch z)
  have e : ({ s1 with heap := sortedHeap (s1.heap.push (seqObj "list" vs.toArray 0)) s1.heap.objs.size vs out.toArray } : Shared) = { s with heap := sortedHeap (s1.heap.push (seqObj "list" vs.toArray 0)) s1.heap.objs.size vs out.toArray, gens := s1.gens, drawn := s1.drawn, toks := s1.toks } := by
    cases s1; cases s; cases o1; rfl
  refine wpAny_pure ⟨_, rfl, ?_⟩
  show EP _ _ _ _ _ ({ s1 with heap := sortedHeap (s1.heap.push (seqObj "list" vs.toArray 0)) s1.heap.objs.size vs out.toArray } : Shared)
  rw [e]
  exact ⟨.ref s1.heap.objs.size, _, J, rfl, (q _ q3 (pn.nodup_iff.mpr nd) fun k => by rw [pn.mem_iff, ← hm k]).at np⟩
end L2

set_option linter.all false
set_option maxHeartbeats 400000
/-! fewer divisors: by cubes -/
namespace E3
def cube (n : Nat) : Nat := n * n * n
theorem cube_le {a b : Nat} (h : a ≤ b) : cube a ≤ cube b := Nat.mul_le_mul (Nat.mul_le_mul h h) h
theorem cube_mul (a b : Nat) : cube (a * b) = cube a * cube b := by
  unfold cube
  simp only [Nat.mul_assoc, Nat.mul_left_comm, Nat.mul_comm]
theorem cube_step {u v a b k : Nat} (h : u * a ≤ v * b) (c : cube v ≤ cube u * k) (u0 : 0 < u) : cube a ≤ k * cube b := by
  have h1 := cube_le h
  rw [cube_mul, cube_mul] at h1
  have h2 : cube u * cube a ≤ cube u * (k * cube b) := Nat.le_trans h1 (by rw [← Nat.mul_assoc]; exact Nat.mul_le_mul_right _ c)
  exact Nat.le_of_mul_le_mul_left h2 (Nat.mul_pos (Nat.mul_pos u0 u0) u0)
theorem c8 : ∀ e, 1 ≤ e → cube (e + 1) ≤ 8 ^ e
  | 0, h => by omega
  | 1, _ => by decide
  | e + 2, _ => by
    have ih := c8 (e + 1) (by omega)
    have s : cube (e + 2 + 1) ≤ 8 * cube (e + 1 + 1) := cube_step (u := 1) (v := 2) (by omega) (by decide) (by decide)
    rw [Nat.pow_succ]
    omega
theorem c7 : ∀ e, 7 * cube (e + 1) ≤ 8 * 7 ^ e
  | 0 => by decide
  | 1 => by decide
  | e + 2 => by
    have ih := c7 (e + 1)
    have s : cube (e + 2 + 1) ≤ 7 * cube (e + 1 + 1) := cube_step (u := 2) (v := 3) (by omega) (by decide) (by decide)
    rw [Nat.pow_succ]
    omega
theorem c5 : ∀ e, 5 * cube (e + 1) ≤ 8 * 5 ^ e
  | 0 => by decide
  | 1 => by decide
  | e + 2 => by
    have ih := c5 (e + 1)
    have s : cube (e + 2 + 1) ≤ 5 * cube (e + 1 + 1) := cube_step (u := 2) (v := 3) (by omega) (by decide) (by decide)
    rw [Nat.pow_succ]
    omega
theorem c3 : ∀ e, cube (e + 1) ≤ 3 * 3 ^ e
  | 0 => by decide
  | 1 => by decide
  | 2 => by decide
  | e + 3 => by
    have ih := c3 (e + 2)
    have s : cube (e + 3 + 1) ≤ 3 * cube (e + 2 + 1) := cube_step (u := 3) (v := 4) (by omega) (by decide) (by decide)
    rw [Nat.pow_succ]
    omega
theorem c2 : ∀ e, cube (e + 1) ≤ 8 * 2 ^ e
  | 0 => by decide
  | 1 => by decide
  | 2 => by decide
  | 3 => by decide
  | e + 4 => by
    have ih := c2 (e + 3)
    have s : cube (e + 4 + 1) ≤ 2 * cube (e + 3 + 1) := cube_step (u := 4) (v := 5) (by omega) (by decide) (by decide)
    rw [Nat.pow_succ]
    omega
theorem cnt_cons (x : Nat × Nat) (l : List (Nat × Nat)) : cube (cntF (x :: l)) = cube (x.2 + 1) * cube (cntF l) := cube_mul _ _
theorem cn8 : ∀ {l : List (Nat × Nat)}, Good l → (∀ x ∈ l, 8 ≤ x.1) → cube (cntF l) ≤ prodF l
  | [], _, _ => Nat.le_refl _
  | x :: l, g, h => by
    have ih := cn8 (l := l) (fun y hy => g y (List.mem_cons_of_mem _ hy)) fun y hy => h y (List.mem_cons_of_mem _ hy)
    rw [cnt_cons]
    exact Nat.mul_le_mul (Nat.le_trans (c8 _ (g x (List.mem_cons_self ..)).2) (Nat.pow_le_pow_left (h x (List.mem_cons_self ..)) _)) ih
/-- one more prime ahead -/
theorem cn_step {x : Nat × Nat} {l : List (Nat × Nat)} {p a b A B : Nat} (hx : p ≤ x.1) (c : a * cube (x.2 + 1) ≤ b * p ^ x.2) (ih : A * cube (cntF l) ≤ B * prodF l) : a * A * cube (cntF (x :: l)) ≤ b * B * prodF (x :: l) := by
  rw [cnt_cons]
  have h1 := Nat.mul_le_mul (Nat.le_trans c (Nat.mul_le_mul_left b (Nat.pow_le_pow_left hx x.2))) ih
  show _ ≤ b * B * (x.1 ^ x.2 * prodF l)
  have e1 : a * A * (cube (x.2 + 1) * cube (cntF l)) = a * cube (x.2 + 1) * (A * cube (cntF l)) := by simp only [Nat.mul_assoc, Nat.mul_left_comm, Nat.mul_comm]
  have e2 : b * B * (x.1 ^ x.2 * prodF l) = b * x.1 ^ x.2 * (B * prodF l) := by simp only [Nat.mul_assoc, Nat.mul_left_comm, Nat.mul_comm]
  rw [e1, e2]
  exact h1
theorem good_tail {x : Nat × Nat} {l : List (Nat × Nat)} (g : Good (x :: l)) : Good l := fun y hy => g y (List.mem_cons_of_mem _ hy)
theorem not_pr {n d : Nat} (h : Pr n) (hd : d ∣ n) (d1 : d ≠ 1) (dn : d ≠ n) : False := (h.2 d hd).elim d1 dn
theorem cn7 {l : List (Nat × Nat)} (g : Good l) (a : Asc l) (h : ∀ x ∈ l, 7 ≤ x.1) : 7 * cube (cntF l) ≤ 8 * prodF l := by
  match l with
  | [] => decide
  | x :: l =>
    have hl : ∀ y ∈ l, 8 ≤ y.1 := fun y hy => by
      have := (List.pairwise_cons.mp a.2).1 y hy
      have := h x (List.mem_cons_self ..)
      omega
    have := cn_step (A := 1) (B := 1) (h x (List.mem_cons_self ..)) (c7 x.2) (by simpa using cn8 (good_tail g) hl)
    simpa using this
theorem cn5 {l : List (Nat × Nat)} (g : Good l) (a : Asc l) (h : ∀ x ∈ l, 5 ≤ x.1) : 5 * 7 * cube (cntF l) ≤ 8 * 8 * prodF l := by
  match l with
  | [] => decide
  | x :: l =>
    have hl : ∀ y ∈ l, 7 ≤ y.1 := fun y hy => by
      have := (List.pairwise_cons.mp a.2).1 y hy
      have := h x (List.mem_cons_self ..)
      have py := a.1 y (List.mem_cons_of_mem _ hy)
      have : y.1 ≠ 6 := fun e => not_pr (e ▸ py) (d := 2) (by decide) (by decide) (by decide)
      omega
    exact cn_step (h x (List.mem_cons_self ..)) (c5 x.2) (cn7 (good_tail g) (asc_tail a) hl)
theorem cn3 {l : List (Nat × Nat)} (g : Good l) (a : Asc l) (h : ∀ x ∈ l, 3 ≤ x.1) : 35 * cube (cntF l) ≤ 192 * prodF l := by
  match l with
  | [] => decide
  | x :: l =>
    have hl : ∀ y ∈ l, 5 ≤ y.1 := fun y hy => by
      have := (List.pairwise_cons.mp a.2).1 y hy
      have := h x (List.mem_cons_self ..)
      have py := a.1 y (List.mem_cons_of_mem _ hy)
      have : y.1 ≠ 4 := fun e => not_pr (e ▸ py) (d := 2) (by decide) (by decide) (by decide)
      omega
    have := cn_step (a := 1) (b := 3) (h x (List.mem_cons_self ..)) (by rw [Nat.one_mul]; exact c3 x.2) (cn5 (good_tail g) (asc_tail a) hl)
    simpa using this
theorem cn2 {l : List (Nat × Nat)} (g : Good l) (a : Asc l) : 35 * cube (cntF l) ≤ 1536 * prodF l := by
  match l with
  | [] => decide
  | x :: l =>
    have hl : ∀ y ∈ l, 3 ≤ y.1 := fun y hy => by
      have := (List.pairwise_cons.mp a.2).1 y hy
      have := (g x (List.mem_cons_self ..)).1
      omega
    have := cn_step (a := 1) (b := 8) (g x (List.mem_cons_self ..)).1 (by rw [Nat.one_mul]; exact c2 x.2) (cn3 (good_tail g) (asc_tail a) hl)
    simpa using this
theorem cnt_3500 {v : Nat} (h : v < 900000000) : cntF (facM v) < 3500 := by
  by_cases z : 1 ≤ v
  · obtain ⟨g, hp⟩ := facM_ok z
    have h1 := cn2 g (facM_pr z)
    rw [hp] at h1
    refine Nat.lt_of_not_le fun c => ?_
    have h2 := cube_le c
    have h3 : cube 3500 = 42875000000 := by decide
    omega
  · have : v = 0 := by omega
    subst this; decide
end E3

set_option Elab.async false
set_option linter.all false
set_option maxRecDepth 100000
set_option maxHeartbeats 2000000
/-! law_k72: _law_great_right -/
namespace E3
open PySem PySem.Spec PyProof.Rows L2
open C8 (Cal Mak Met InsC pe_c pe_mt pe_mt0 call_isC clsBody)
abbrev nGreat : List Str := ["_law_purse_here", "_law_high", "_law_wide", "_law_told", "_law_lengths", "_law_times", "_law_turn", "_law_length", "_law_many", "_law_one"]
def spGreat : Sp := fun vs H Q _ => ∃ (pa : Addr) (r c n : Nat), vs = [.ref pa, cI r, cI c] ∧ PurseAt H pa (n + 16) ∧ 1 ≤ r ∧ r ≤ 30000 ∧ 1 ≤ c ∧ c ≤ 30000 ∧ ∀ H', PurseAt H' pa n → SameB pa H H' → Q (.bl true) H'
theorem tb_of {r c : Nat} (r1 : 1 ≤ r) (r2 : r ≤ 30000) (c1 : 1 ≤ c) (c2 : c ≤ 30000) : Tb r c ∧ Rc r c (r * c - 1) ∧ cntF (facM (r * c - 1)) + 1 < sizeLine ∧ cntF (facM (r * c - 1)) < 3500 := by
  have tb : Tb r c := ⟨r1, c1, by omega, by omega⟩
  obtain ⟨l1, l2⟩ := tb_lt tb
  have h9 : r * c ≤ 30000 * 30000 := Nat.mul_le_mul r2 c2
  have := cnt_3500 (v := r * c - 1) (by omega)
  exact ⟨tb, ⟨r1, c1, by omega⟩, by rw [sizeLine_eq]; omega, this⟩
theorem fst_cI (l : List (Nat × Nat)) : (l.filter fun _ => true).map (fun x => cI x.1) = (l.map (·.1)).map cI := by
  rw [List.filter_eq_self.mpr fun _ _ => rfl, List.map_map]; rfl
theorem ints_sum : ∀ l : List Nat, (l.map fun n : Nat => (n : Int)).sum = ((l.sum : Nat) : Int)
  | [] => rfl
  | x :: l => by rw [List.map_cons, List.sum_cons, List.sum_cons, ints_sum l, Int.natCast_add]
theorem vals_ns (l : List Nat) : l.map cI = (l.map fun n : Nat => (n : Int)).map V.int := by rw [List.map_map]; rfl
theorem told_len {r c L : Nat} (h : Rc r c L) (hL : L < 2 ^ 40) : (ringsM r L).length ≤ cntF (facM L) + 1 ∧ ∀ x ∈ ringsM r L, x.1 ≤ 2 ^ 40 := by
  obtain ⟨kb, kl⟩ := ringsD_ok (r := r) hL
  have sk := sortI_ok ((ringsD r L).map (·.1))
  constructor
  · unfold ringsM
    rw [List.length_map, sk.1.length_eq, List.length_map]; exact kl
  · intro x hx
    obtain ⟨k, hk, rfl⟩ := List.mem_map.mp hx
    exact (kb k (sk.1.mem_iff.mp hk)).2
theorem nat_of {i : Int} (h : 0 ≤ i) : ∃ n : Nat, i = ((n : Nat) : Int) := ⟨i.toNat, by omega⟩
theorem set_back {ns : List Nat} {ms : List Int} (nd : ns.Nodup) (so : ns.Pairwise (· ≤ ·)) (h1 : ms.Pairwise (· ≤ ·)) (h2 : ms.Nodup) (h3 : ∀ k : Int, k ∈ ms ↔ decide (k ∈ ns.map fun n : Nat => (n : Int)) = true) : ms.map V.int = ns.map cI := by
  have pos : ∀ x ∈ ms, 0 ≤ x := fun x hx => by
    obtain ⟨n, _, e⟩ := List.mem_map.mp (of_decide_eq_true ((h3 x).mp hx))
    omega
  have e := cast_back pos
  have p2 : (ms.map Int.toNat).Pairwise (· ≤ ·) := by
    rw [List.pairwise_map]
    refine h1.imp_of_mem fun ha hb hab => ?_
    omega
  have n2 : (ms.map Int.toNat).Nodup := by
    rw [List.Nodup, List.pairwise_map]
    refine List.Pairwise.imp_of_mem (fun {a b} ha hb hab z => hab ?_) h2
    have := pos a ha
    have := pos b hb
    omega
  have m1 : ∀ k ∈ ms.map Int.toNat, k ∈ ns := fun k hk => by
    obtain ⟨x, hx, ex⟩ := List.mem_map.mp hk
    obtain ⟨n, hn, en⟩ := List.mem_map.mp (of_decide_eq_true ((h3 x).mp hx))
    have : k = n := by omega
    rw [this]; exact hn
  have m2 : ∀ k ∈ ns, k ∈ ms.map Int.toNat := fun k hk => by
    have := (h3 (k : Int)).mpr (decide_eq_true (List.mem_map.mpr ⟨k, hk, rfl⟩))
    exact List.mem_map.mpr ⟨_, this, by simp⟩
  have pm := perm_of n2 (perm_len nd m2) m1
  have eq := sorted_eq pm p2 so
  rw [← e, eq, List.map_map]; rfl
section
variable {P : Program} {w : World} {K : PySem.W.Frag} {mg : Str → Option Value} {base : Heap}
theorem scGreat : FnScope nGreat ["_law_purse_here", "_law_high", "_law_wide"] (defScope sGreat) := ⟨rfl, rfl, rfl, by decide +kernel, rfl, by decide +kernel, by decide +kernel⟩
theorem ok_great {f : Addr} {fd : FuncData} (F : Fun K "_law_great_right" "_law_great_right" sGreat f fd) (B : Bt4 mg) (B5 : Bt5 mg) (zset : mg "set" = none) (Rg : Cal P w K mg base 4 "rings" spRingsM []) (Rl : Cal P w K mg base 4 "ring_length" spRingM []) (Bk : Cal P w K mg base 1 "_law_back" spBack []) (Dr : Cal P w K mg base 2 "_law_draw" spDraw []) : FnOk P w K mg base CX0 5 f fd ["_law_purse_here", "_law_high", "_law_wide"] spGreat := by
  refine F.ok scGreat (fun vs H Q E h => ?_) (fun cdv A outer s H vs Q E hr h => ?_)
  · obtain ⟨pa, r, c, n, rfl, _⟩ := h
    rfl
  · obtain ⟨pa, r, c, n, rfl, pu, r1, r2, c1, c2, q⟩ := h
    refine ⟨_, pss_cons (ps_set (i := 3) scGreat.nd rfl (Or.inl rfl) (pe_c Rg hr (by decide) rfl (pa_cons (pv 1) (pa_cons (pv 2) pa_nil))))
      (pss_cons (ps_setLc (i := 4) (own := [("_law_length", 7), ("_law_many", 8)]) (g := gTup K 2 (gCons (gName 7) (gCons (gName 8) gNil))) (tt := tYes) (te := tVar 7) rfl scGreat.nd rfl rfl (sw_true rfl rfl rfl (by decide +kernel)) (pi_list (pv 3))
        (blkOk_by (own := [("_law_length", 7), ("_law_many", 8)]) (N := nGreat) (sc := defScope sGreat) (by decide +kernel))
        (fun _ _ _ _ _ => pg_tup rfl (pgs_cons (pg_name (i := 7) scGreat.nd rfl (Or.inl rfl)) (pgs_cons (pg_name (i := 8) scGreat.nd rfl (Or.inl rfl)) pgs_nil))) (fun _ _ _ _ _ => pts_nil) (fun _ _ _ _ _ => by exact pv 7))
      (pss_cons (ps_if (PW.pt (pw_or (pt_cmpR (op_neD hr.units) (pv 4) (pe_callB (cr_sortedSL rfl) (by rfl) B5.sorted_ (by decide +kernel) (pa_cons (pe_callTy (cr_setL rfl) (by rfl) zset (by decide +kernel) (pa_cons (pv 4) pa_nil)) pa_nil)) (nomark _))
          (pw_or1 (pt_cmpR (op_neD hr.units) (pe_lc (own := [("_law_one", 9)]) (g := gName 9) (tt := tOr (tTest (tOp (rI0 fun i j => .bl (decide (i < j))) (tOp (rIxT K) (tVar 9) (tC (.int 0))) (tC (.int 1)))) (tTest (tOp (rI0 fun i j => .bl (decide (i < j))) (tOp (rIxT K) (tVar 9) (tC (.int 1))) (tC (.int 1))))) (te := tVar 9) rfl scGreat.nd (pi_list (pv 3))
            (blkOk_by (own := [("_law_one", 9)]) (N := nGreat) (sc := defScope sGreat) (by decide +kernel))
            (fun _ _ _ _ _ => pg_name (i := 9) scGreat.nd rfl (Or.inl rfl)) (fun _ _ _ _ _ => pts_one (by exact PW.pt (pw_or (pt_cmpR op_lt (pe_ix ix_tup (pv 9) pe_int (fun _ _ => rfl)) pe_int (nomark _)) (pw_or1 (pt_cmpR op_lt (pe_ix ix_tup (pv 9) pe_int (fun _ _ => rfl)) pe_int (nomark _)))))) (fun _ _ _ _ _ => by exact pv 9)) (pe_lstS pa_nil) (nomark _))))) (pss_one (ps_ret pe_bl)) pss_nil)
      (pss_cons (ps_if (PW.pt (pw_or (pt_cmpR op_ne (pe_callB (cr_sum rfl) (by rfl) B.sum_ (by decide +kernel) (pa_cons (pe_lc (own := [("_law_length", 7), ("_law_many", 8)]) (g := gTup K 2 (gCons (gName 7) (gCons (gName 8) gNil))) (tt := tYes) (te := tOp (rI CMul fun i j => .int (i * j)) (tVar 7) (tVar 8)) rfl scGreat.nd (pi_list (pv 3))
            (blkOk_by (own := [("_law_length", 7), ("_law_many", 8)]) (N := nGreat) (sc := defScope sGreat) (by decide +kernel))
            (fun _ _ _ _ _ => pg_tup rfl (pgs_cons (pg_name (i := 7) scGreat.nd rfl (Or.inl rfl)) (pgs_cons (pg_name (i := 8) scGreat.nd rfl (Or.inl rfl)) pgs_nil))) (fun _ _ _ _ _ => pts_nil) (fun _ _ _ _ _ => by exact pe_op op_mul (pv 7) (pv 8))) pa_nil)) (pe_op op_mul (pv 1) (pv 2)) (nomark _))
          (pw_or1 (pt_cmpR (op_neD hr.units) (pe_c Rg hr (by decide) rfl (pa_cons (pv 2) (pa_cons (pv 1) pa_nil))) (pv 3) (nomark _))))) (pss_one (ps_ret pe_bl)) pss_nil)
      (pss_cons (ps_for PassesOwn.never rfl (pi_range2 rfl B.rng_ (pa_cons pe_int (pa_cons pe_int pa_nil))) (pg_name (i := 5) scGreat.nd rfl (Or.inr rfl))
        (pss_one (ps_if (pt_cmpR op_ne (pe_callB (cr_sum rfl) (by rfl) B.sum_ (by decide +kernel) (pa_cons (pe_lc (own := [("_law_length", 7), ("_law_many", 8)]) (g := gTup K 2 (gCons (gName 7) (gCons (gName 8) gNil))) (tt := tTest (tOp rEq (tOp (rI (fun _ j => 0 < j) fun i j => .int (i % j)) (tVar 5) (tVar 7)) (tC (.int 0)))) (te := tOp (rI CMul fun i j => .int (i * j)) (tVar 7) (tVar 8)) rfl scGreat.nd (pi_list (pv 3))
            (blkOk_by (own := [("_law_length", 7), ("_law_many", 8)]) (N := nGreat) (sc := defScope sGreat) (by decide +kernel))
            (fun _ _ _ _ _ => pg_tup rfl (pgs_cons (pg_name (i := 7) scGreat.nd rfl (Or.inl rfl)) (pgs_cons (pg_name (i := 8) scGreat.nd rfl (Or.inl rfl)) pgs_nil))) (fun _ _ _ _ _ => pts_one (by exact pt_cmpR op_eq (pe_op op_mod (pv 5) (pv 7)) pe_int (nomark _))) (fun _ _ _ _ _ => by exact pe_op op_mul (pv 7) (pv 8))) pa_nil)) (pe_c Bk hr (by decide) rfl (pa_cons (pv 1) (pa_cons (pv 2) (pa_cons (pv 5) pa_nil)))) (nomark _)) (pss_one (ps_ret pe_bl)) pss_nil)))
      (pss_cons (ps_for PassesOwn.never rfl (pi_range1 rfl B.rng_ (pa_cons pe_int pa_nil)) (pg_name (i := 6) scGreat.nd rfl (Or.inl rfl))
        (pss_one (ps_if (pt_cmpR op_notIn_seq (pe_c Rl hr (by decide) rfl (pa_cons (pv 1) (pa_cons (pv 2) (pa_cons (pe_c Dr hr (by decide) rfl (pa_cons (pv 0) (pa_cons (pe_op op_mul (pv 1) (pv 2)) pa_nil))) pa_nil)))) (pv 4) (by rfl)) (pss_one (ps_ret pe_bl)) pss_nil)))
      (pss_cons (ps_expr (pe_bm PySem.F.plainAttrs_list PySem.F.slot_list_append PySem.F.type_list_append mt_append (pv 3) (pa_cons pe_str pa_nil)))
      (pss_one (ps_ret (pe_cmpR op_eq (pe_callB call_len_seq (by rfl) B.len_ PySem.boot_len (pa_cons (pe_c Rg hr (by decide) rfl (pa_cons (pv 1) (pa_cons (pv 2) pa_nil))) pa_nil)) (pe_callB call_len_seq (by rfl) B.len_ PySem.boot_len (pa_cons (pv 4) pa_nil)) (nomark _)))))))))), ?_⟩
    obtain ⟨tb, rc, few, c35⟩ := tb_of r1 r2 c1 c2
    obtain ⟨tb2, rc2, few2, _⟩ := tb_of c1 c2 r1 r2
    obtain ⟨l1, l2⟩ := tb_lt tb
    have eL : c * r - 1 = r * c - 1 := by rw [Nat.mul_comm]
    have hLl : r * c - 1 < 2 ^ 40 := by omega
    obtain ⟨tl, tk⟩ := told_len rc hLl
    have tp := told_pos rc
    obtain ⟨tn, ts⟩ := told_nd rc
    have tz : (ringsM r (r * c - 1)).length < sizeLine := by omega
    obtain ⟨_, _, _, _, st⟩ := rings_facts rc
    refine ⟨_, rfl, _, rfl, r, c, rfl, tb, few, fun H1 a S1 na pr => ?_⟩
    have pu1 := pu.same S1
    dsimp only
    refine ⟨_, rfl, a, rfl, (let ⟨_, h, _⟩ := pr; ⟨_, SqL.of h⟩), fun D nD => lc_prs (fun x => cI x.1) (fun _ => true) pr nD tz ?_ ?_⟩
    · intro x t H' K1 K0 hx ht h1 h0
      exact ⟨t, _, rfl, SqT.of ht, rfl, _, _, rfl, _, _, rfl, rfl, rfl, iteT (B := False) ⟨_, rfl, h1 rfl⟩⟩
    intro H2 S2 hD
    rw [fst_cI] at hD
    have ll : ((ringsM r (r * c - 1)).map (·.1)).length = (ringsM r (r * c - 1)).length := List.length_map _
    have pr2 := pr.sameB S2 nD
    have S02 : Same H H2 := S2.toSame S1 (S1.free nD)
    have hDi : H2 D = some (.lst (((ringsM r (r * c - 1)).map (·.1) |>.map fun n : Nat => (n : Int)).map V.int)) := by rw [← vals_ns]; exact hD
    refine ⟨_, rfl, _, rfl, D, _, rfl, SqL.of hDi, ?_, fun p cc np => ⟨p, _, cc, rfl, upd_same, fun ms h1 h2 h3 b H3 S3 nb hb => ?_⟩⟩
    · rw [List.length_map, ll]
      have : (3502 : Nat) < scanBound := by decide
      omega
    rw [set_back tn ts h1 h2 h3] at hb
    have S23 : Same H2 H3 := fun b o hb => S3 _ _ (by rw [upd_ne (ne_of_none hb np)]; exact hb)
    refine ⟨inD _, inD _, dp_inD (S23 _ _ hD), dp_inD hb, (sh_inD _).1, (sh_inD _).1, _, rfl, ?_⟩
    rw [SeqAt.eqv_refl _ (sh_inD _).2]
    refine ifF rfl ?_
    have pr3 := pr2.same S23
    refine ⟨_, rfl, a, rfl, (let ⟨_, h, _⟩ := pr3; ⟨_, SqL.of h⟩), fun D2 nD2 => lc_prs (fun _ => V.non) (fun _ => false) pr3 nD2 tz ?_ ?_⟩
    · intro x t H' K1 K0 hx ht _ h0
      obtain ⟨x1, x2⟩ := tp x hx
      refine ⟨rfl, _, rfl, t, _, 0, _, rfl, rfl, SqT.of ht, rfl, _, _, rfl, rfl, _, rfl, ifF (decide_eq_false (by omega)) ⟨_, rfl, t, _, 1, _, rfl, rfl, SqT.of ht, rfl, _, _, rfl, rfl, _, rfl, ifF (decide_eq_false (by omega)) (h0 rfl)⟩⟩
    intro H4 S4 hD2
    have fe : (ringsM r (r * c - 1)).filter (fun _ => false) = [] := List.filter_eq_nil_iff.mpr fun _ _ => by simp
    rw [fe] at hD2
    have pr4 := pr3.sameB S4 nD2
    have S24 : Same H2 H4 := S4.toSame S23 (S23.free nD2)
    refine ⟨(by show 0 ≤ sizeLine; decide), fun b2 H5 S5 nb2 hb2 => ⟨inD [], inD [], dp_inD (S5 _ _ hD2), dp_inD hb2, (sh_inD _).1, (sh_inD _).1, _, rfl, ?_⟩⟩
    rw [SeqAt.eqv_refl _ (sh_inD _).2]
    refine ifF rfl ?_
    dsimp only [tNext]
    have pr5 := pr4.same S5
    have S25 := S24.trans S5
    refine ⟨_, rfl, a, rfl, (let ⟨_, h, _⟩ := pr5; ⟨_, SqL.of h⟩), fun D3 nD3 => lc_prs (fun x => cI (x.1 * x.2)) (fun _ => true) pr5 nD3 tz ?_ ?_⟩
    · intro x t H' K1 K0 hx ht h1 _
      have xl := tk x hx
      exact ⟨t, _, rfl, SqT.of ht, rfl, _, _, rfl, _, _, rfl, rfl, rfl, iteT (B := False) ⟨_, rfl, _, rfl, _, _, rfl, rfl, .inl ⟨by omega, by omega⟩, by have := h1 rfl; rw [← cI_mul] at this; exact this⟩⟩
    intro H6 S6 hD3
    have S26 : Same H2 H6 := S6.toSame S25 (S25.free nD3)
    have pr6 := pr5.sameB S6 nD3
    have sumAll : ∀ (t : Nat) (cond : Nat × Nat → Bool), (∀ x ∈ ringsM r (r * c - 1), cond x = decide (x.1 ∣ t)) → ((ringsM r (r * c - 1)).filter cond).map (fun x => cI (x.1 * x.2)) = ((((ringsM r (r * c - 1)).filter fun x => decide (x.1 ∣ t)).map fun x => x.1 * x.2).map fun n : Nat => (n : Int)).map V.int := fun t cond hc => by
      rw [List.filter_congr hc, List.map_map, List.map_map]; rfl
    rw [sumAll 0 (fun _ => true) (fun x _ => (decide_eq_true (Nat.dvd_zero x.1)).symm)] at hD3
    refine ⟨D3, _, rfl, SqL.of hD3, ?_⟩
    rw [ints_sum, told_sum rc 0]
    have s0 : sumT 0 (ringsD r (r * c - 1)) = r * c := by
      rw [st 0, Nat.pow_zero]
      show Nat.gcd (r * c - 1) 0 + 1 - (if r * c - 1 = 0 then 0 else 0) = r * c
      rw [Nat.gcd_zero_right]
      split <;> omega
    rw [s0]
    refine ⟨_, rfl, _, rfl, _, _, rfl, rfl, .inl ⟨by omega, by omega⟩, rfl, _, rfl, ifF ?_ ?_⟩
    · rw [Int.natCast_mul, decide_eq_true rfl]; rfl
    refine ⟨_, rfl, _, rfl, c, r, rfl, tb2, few2, fun H7 b7 S7 n7 pr7 => ⟨_, rfl, prD (ringsM r (r * c - 1)), prD (ringsM r (r * c - 1)), ?_, dp_prD (pr6.same S7), (sh_prD _).1, (sh_prD _).1, _, rfl, ?_⟩⟩
    · have e := told_swap rc
      rw [eL, e] at pr7
      exact dp_prD pr7
    rw [SeqAt.eqv_refl _ (sh_prD _).2]
    refine ifF rfl ?_
    dsimp only [tNext]
    have S27 := S26.trans S7
    have pr7 := pr6.same S7
    refine ⟨1, 13, rfl, ⟨by decide, by decide, by decide, by decide⟩, for_it (walk_range (n := 12)) (fun i σ' H' => (∃ u5, σ' = [some (.ref pa), some (cI r), some (cI c), some (.ref a), some (.ref D), u5, none, none, none, none]) ∧ Same H2 H' ∧ PrsAt H' a (ringsM r (r * c - 1))) ⟨⟨none, rfl⟩, S27, pr7⟩ (fun _ _ _ _ _ => trivial) ?_ ?_⟩
    · rintro i x σ' H8 H9 hi ⟨⟨u5, rfl⟩, S8, pr8⟩ ⟨rfl, hx⟩
      obtain rfl : x = cI (i + 1) := hx.trans (by show V.int (1 + ((i : Nat) : Int)) = _; exact congrArg V.int (by omega))
      refine ⟨_, rfl, a, rfl, (let ⟨_, h, _⟩ := pr8; ⟨_, SqL.of h⟩), fun D4 nD4 => lc_prs (fun x => cI (x.1 * x.2)) (fun x => decide (x.1 ∣ i + 1)) pr8 nD4 tz ?_ ?_⟩
      · intro x t H' K1 K0 hx ht h1 h0
        have xl := tk x hx
        obtain ⟨x1, x2⟩ := tp x hx
        refine ⟨t, _, rfl, SqT.of ht, rfl, _, _, rfl, _, _, rfl, rfl, rfl, _, rfl, _, rfl, _, _, rfl, rfl, (show (0 : Int) < ((x.1 : Nat) : Int) by omega), rfl, _, rfl, iteD (fun hz => ?_) (fun hz => ?_)⟩
        · have hz' : (i + 1) % x.1 = 0 := cI_inj (b := 0) ((cI_mod (i + 1) x.1).symm.trans hz)
          have := h1 (decide_eq_true (Nat.dvd_of_mod_eq_zero hz'))
          refine ⟨_, rfl, _, rfl, _, _, rfl, rfl, .inl ⟨by omega, by omega⟩, ?_⟩
          rw [← cI_mul] at this
          exact this
        · refine h0 (decide_eq_false fun d => hz ?_)
          have := cI_mod (i + 1) x.1
          rw [Nat.mod_eq_zero_of_dvd d] at this
          exact this
      intro H10 S10 hD4
      rw [sumAll (i + 1) _ (fun x _ => rfl)] at hD4
      refine ⟨D4, _, rfl, SqL.of hD4, ?_⟩
      rw [ints_sum, told_sum rc (i + 1), st (i + 1)]
      refine ⟨_, rfl, _, rfl, _, rfl, r, c, i + 1, rfl, tb, by omega, rfl, _, rfl, ifF ?_ ⟨⟨some (cI (i + 1)), rfl⟩, S10.toSame S8 (S8.free nD4), pr8.sameB S10 nD4⟩⟩
      have e : Nat.gcd (r * c - 1) (r ^ (i + 1) - 1) + 1 - (if r * c - 1 = 0 then r ^ (i + 1) - 1 else 0) = (if 0 < r * c - 1 then Nat.gcd (r * c - 1) (r ^ (i + 1) - 1) + 1 else 1) := by
        by_cases z : r * c - 1 = 0
        · rw [if_pos z, if_neg (by omega), z, Nat.gcd_zero_left]; omega
        · rw [if_neg z, if_pos (by omega)]; rfl
      rw [e, decide_eq_true rfl]; rfl
    rintro σ' H8 ⟨⟨u5, rfl⟩, S8, pr8⟩
    have pu8 := (pu.same S02).same S8
    have nDp : pa ≠ D := fun z => by
      obtain ⟨p0, p1, p2, hp, _⟩ := pu1
      rw [← z, hp] at nD
      cases nD
    refine ⟨4, rfl, by decide, by decide, for_it (walk_range (n := 4)) (fun i σ' H' => (∃ u6, σ' = [some (.ref pa), some (cI r), some (cI c), some (.ref a), some (.ref D), u5, u6, none, none, none]) ∧ SameB pa H8 H' ∧ PurseAt H' pa (n + 4 * (4 - i))) ⟨⟨none, rfl⟩, SameB.refl _ _, pu8.less (by omega)⟩ (fun _ _ _ _ _ => trivial) ?_ ?_⟩
    · rintro i x σ' H9 H10 hi ⟨⟨u6, rfl⟩, S9, pu9⟩ ⟨rfl, hx⟩
      have hD9 := S9 _ _ (Ne.symm nDp) (S8 _ _ hD)
      refine ⟨_, rfl, _, rfl, _, rfl, _, rfl, _, rfl, _, _, rfl, rfl, .inl ⟨by omega, by omega⟩, pa, _, n + 4 * (4 - (i + 1)), rfl, pu9.less (by omega), by omega, by omega, fun y H11 y0 y1 pu11 S11 => ?_⟩
      obtain ⟨y, rfl⟩ := nat_of y0
      have y2 : y < r * c := by
        rw [← Int.natCast_mul] at y1
        omega
      refine ⟨r, c, y, rfl, tb, y2, fun H12 S12 => ⟨_, rfl, D, _, rfl, .inl (SqL.of (S12 _ _ (S11 _ _ (Ne.symm nDp) hD9))), rfl, ?_, _, rfl, ?_⟩⟩
      · rw [List.all_map, List.all_eq_true]
        exact fun _ _ => rfl
      · have hin := ring_in rc (p := y) (by omega)
        have iv : inV (cI (ringM r (r * c - 1) y)) (((ringsM r (r * c - 1)).map (·.1)).map cI) = true := by
          unfold inV
          rw [List.any_map, List.any_eq_true]
          exact ⟨_, hin, by show (((ringM r (r * c - 1) y : Nat) : Int) == ((ringM r (r * c - 1) y : Nat) : Int)) = true; exact beq_self_eq_true _⟩
        rw [iv]
        exact ifF rfl ⟨⟨some x, rfl⟩, (S9.trans S11).to S12, pu11.same S12⟩
    rintro σ' H9 ⟨⟨u6, rfl⟩, S9, pu9⟩
    have hD9 := S9 _ _ (Ne.symm nDp) (S8 _ _ hD)
    obtain ⟨ts, t1, t2, t3⟩ := pr8
    have nap : a ≠ pa := fun z => by
      obtain ⟨p0, p1, p2, hp, _⟩ := pu
      rw [z, hp] at na
      cases na
    have t19 := S9 _ _ nap t1
    refine ⟨_, rfl, .inl ⟨rfl, _, SqL.of t19⟩, a, _, _, rfl, rfl, t19, by rw [List.length_map, t2]; exact tz, ?_⟩
    have nDa : D ≠ a := fun z => by
      obtain ⟨_, ho, _⟩ := pr
      rw [z, ho] at nD
      cases nD
    refine ⟨_, rfl, _, rfl, r, c, rfl, tb, few, fun H10 b10 S10 n10 pr10 => ?_⟩
    obtain ⟨us, w1, w2, w3⟩ := pr10
    refine ⟨b10, _, rfl, .inl (SqL.of w1), _, rfl, D, _, rfl, .inl (SqL.of (S10 _ _ (by rw [upd_ne nDa]; exact hD9))), rfl, ?_⟩
    rw [decide_eq_true (by rw [List.length_map, List.length_map, w2, ll])]
    refine q H10 ?_ ?_
    · have : PurseAt (upd H9 a (HO.lst (ts.map V.ref ++ [V.str "spoilt"]))) pa n := by
        obtain ⟨p0, p1, p2, hp, z⟩ := pu9.less (show n ≤ n + 4 * (4 - 4) by omega)
        exact ⟨p0, p1, p2, by rw [upd_ne (Ne.symm nap)]; exact hp, z⟩
      exact this.same S10
    · intro b o nb hb
      refine S10 _ _ ?_
      rw [upd_ne (ne_of_none hb na)]
      exact S9 _ _ nb (S8 _ _ (S02 _ _ hb))
end
end E3

set_option Elab.async false
set_option linter.all false
set_option maxRecDepth 100000
set_option maxHeartbeats 1000000
/-! repr of a list of data without dicts -/
namespace L2
open PySem PySem.Spec PyProof.Rows
def rReprD (K : PySem.W.Frag) : List V → Hp → VK → Prop := fun xs H Q => ∃ (p : Addr) (v : V) (vs : List V) (d : PyData) (ds : List PyData), xs = [.ref p] ∧ H p = some (.lst (v :: vs)) ∧ DpAll K H (v :: vs) (d :: ds) ∧ PyData.showableAll (d :: ds) = true ∧ PyData.hasDictAll (d :: ds) = false ∧ PyData.depthAll (d :: ds) ≤ 20 ∧
  (PyData.list (d :: ds)).shown.length ≤ sizeLine ∧ Q (.str (PyData.list (d :: ds)).shown) H
theorem call_reprD {X : Cx} (hg : X.A.guards = some []) (hu : X.A.units + 64 < cLine) : CallR X (.builtin "repr") (rReprD X.K) := by
  rintro pins s σ H xs us Q I r ⟨p, v, vs, d, ds, rfl, hp, hv, hs, hn, hd, hz, q⟩
  rw [Vals.ref1 r]
  obtain ⟨_, its, m, rv, _, he⟩ := I.lstM hp
  obtain ⟨as, ra⟩ := Dp.readsAll I (d :: ds) (v :: vs) its hv rv
  have hz2 : (listText (PyData.shownAll (d :: ds))).length ≤ sizeLine := by simpa only [PyData.shown] using hz
  obtain ⟨bs, hb, hk⟩ := ReprAllK.of_readsAll (prog := X.prog) (w := X.w) ra hs (fun z => by rw [hn] at z; cases z) (fun t ht => Nat.le_trans (listText_mem_le ht) hz2)
  have ro : Reads s.heap (.ref p) (.list (d :: ds)) _ := .list he rfl rfl ra
  have nb : p ∉ bs := not_mem_of_deeper ro (by simp only [PyData.depth]; omega) hb
  match its, rv, he, hk with
  | x :: l, _, he, hk =>
    refine call_repr_slot (T := "list") (idr := "list.__repr__") (by omega) ⟨_, he, rfl⟩ PySem.F.slot_list_repr.toG (call_list_reprK he rfl rfl nb (by simpa using hk.length_eq) (fun i y e => hk.item i y (by simpa using e)) hg (fun b _ => Clear.nil b) (by show X.A.units + 1 + _ < cLine; omega) (fun _ _ e => e) (fun h' u tk k => ?_) hz2)
    exact ⟨_, _, rfl, .str (PyData.list (d :: ds)).shown, H, I.kept (t' := tk) k, ⟨u, by simp only [PyData.shown]⟩, q⟩
end L2

set_option Elab.async false
set_option linter.all false
set_option maxRecDepth 100000
set_option maxHeartbeats 1000000
namespace E3
open PySem PySem.Spec PyProof.Rows L2
def tups (l : List (Nat × Nat)) : List PyData := l.map fun x => .tuple [.int (x.1 : Nat), .int (x.2 : Nat)]
def okTxt (r c : Nat) : Bool := let d := tups (toldOf (ringsD r (r * c - 1)))
  PyData.showableAll d && !PyData.hasDictAll d && decide (PyData.depthAll d ≤ 20) && decide ((PyData.list d).shown.length ≤ 1000)
theorem txt_all : ((List.range 15).all fun r => (List.range 15).all fun c => okTxt (r + 1) (c + 1)) = true := by decide +kernel
theorem small_at {p : Nat → Nat → Bool} (h : ((List.range 15).all fun r => (List.range 15).all fun c => p (r + 1) (c + 1)) = true) {r c : Nat} (r1 : 1 ≤ r) (r2 : r ≤ 15) (c1 : 1 ≤ c) (c2 : c ≤ 15) : p r c = true := by
  have h1 := List.all_eq_true.mp h (r - 1) (List.mem_range.mpr (by omega))
  have h2 := List.all_eq_true.mp h1 (c - 1) (List.mem_range.mpr (by omega))
  rw [show r - 1 + 1 = r by omega, show c - 1 + 1 = c by omega] at h2
  exact h2
end E3

set_option Elab.async false
set_option linter.all false
set_option maxRecDepth 100000
set_option maxHeartbeats 2000000
/-! law_k72's law -/
namespace E3
open PySem PySem.Spec PyProof.Rows L2
open C8 (Cal Mak Met InsC pe_c pe_mt pe_mt0 call_isC clsBody)
theorem repr_prs {K : PySem.W.Frag} {H : Hp} {a : Addr} {l : List (Nat × Nat)} {Q : VK} (pr : PrsAt H a l) (ne : l ≠ []) (h1 : PyData.showableAll (tups l) = true) (h2 : PyData.hasDictAll (tups l) = false) (h3 : PyData.depthAll (tups l) ≤ 20) (h4 : (PyData.list (tups l)).shown.length ≤ sizeLine) (q : Q (.str (PyData.list (tups l)).shown) H) : rReprD K [.ref a] H Q := by
  obtain ⟨ts, t1, t2, t3⟩ := pr
  have dp := dp_prs (K := K) t2 t3
  match l, ts, ne, t2 with
  | x :: l, t :: ts, _, _ => exact ⟨a, _, _, _, _, rfl, t1, dp, h1, h2, h3, h4, q⟩
theorem prs1 {H : Hp} {b t1 : Addr} {x : Nat × Nat} (h : H b = some (.lst [.ref t1])) (h1 : H t1 = some (.tup [cI x.1, cI x.2])) : PrsAt H b [x] := ⟨[t1], h, rfl, fun i t z e1 e2 => by
  match i, e1, e2 with
  | 0, e1, e2 =>
    obtain rfl := Option.some.inj e1
    obtain rfl := Option.some.inj e2
    exact h1⟩
theorem prs2 {H : Hp} {b t1 t2 : Addr} {x y : Nat × Nat} (h : H b = some (.lst [.ref t1, .ref t2])) (h1 : H t1 = some (.tup [cI x.1, cI x.2])) (h2 : H t2 = some (.tup [cI y.1, cI y.2])) : PrsAt H b [x, y] := ⟨[t1, t2], h, rfl, fun i t z e1 e2 => by
  match i, e1, e2 with
  | 0, e1, e2 =>
    obtain rfl := Option.some.inj e1
    obtain rfl := Option.some.inj e2
    exact h1
  | 1, e1, e2 =>
    obtain rfl := Option.some.inj e1
    obtain rfl := Option.some.inj e2
    exact h2⟩
theorem small_told {r c : Nat} (r1 : 1 ≤ r) (r2 : r ≤ 15) (c1 : 1 ≤ c) (c2 : c ≤ 15) : ringsM r (r * c - 1) = toldOf (ringsD r (r * c - 1)) ∧ toldOf (ringsD r (r * c - 1)) = bruteOf (outB r c (r * c)).1 ∧ toldOf (ringsD r (r * c - 1)) ≠ [] := by
  have e : ringsM r (r * c - 1) = toldOf (ringsD r (r * c - 1)) := by unfold ringsM toldOf; rw [sort_eq]
  refine ⟨e, of_decide_eq_true (small_at (p := okSmall) small_all r1 r2 c1 c2), fun z => ?_⟩
  have rc : Rc r c (r * c - 1) := ⟨r1, c1, by have := Nat.mul_pos r1 c1; omega⟩
  obtain ⟨_, _, k1, _⟩ := rings_facts rc
  have sk := sortI_ok ((ringsD r (r * c - 1)).map (·.1))
  have m := sk.1.mem_iff.mpr k1
  rw [← told_fst, e, z] at m
  cases m
theorem r11 : ringsM 1 (1 * 1 - 1) = [(1, 1)] := row_one (Nat.le_refl 1)
theorem r22 : ringsM 2 (2 * 2 - 1) = [(1, 2), (2, 1)] := square (Nat.le_refl 2)
def spLaw (K : PySem.W.Frag) : Sp := fun vs H Q _ => ∃ (sc : Addr) (ns : List Int), vs = [.ref sc] ∧ SqL K H sc (ns.map V.int) ∧ ns.length ≤ 63 ∧ ∀ H', Q (.bl true) H'
section
variable {P : Program} {w : World} {K : PySem.W.Frag} {mg : Str → Option Value} {base : Heap}
theorem scLaw : FnScope ["_law_script", "_law_cell", "_law_purse_here", "_law_high", "_law_wide", "_law_size"] ["_law_script"] (defScope sLaw) := ⟨rfl, rfl, rfl, by decide +kernel, rfl, by decide +kernel, by decide +kernel⟩
theorem ok_law {f : Addr} {fd : FuncData} (F : Fun K "law" "law" sLaw f fd) (B : Bt4 mg) (zrepr : mg "repr" = none) (Pu : Cal P w K mg base 1 "_law_purse" (spPurse K) []) (D : Cal P w K mg base 2 "_law_draw" spDraw []) (Rg : Cal P w K mg base 4 "rings" spRingsM []) (Lr : Cal P w K mg base 1 "_law_rings" spLRings []) (Gr : Cal P w K mg base 5 "_law_great_right" spGreat []) : FnG P w K mg base 6 f fd ["_law_script"] (spLaw K) := by
  refine F.okG scLaw (fun vs H Q E h => ?_) (fun cdv A outer s H vs Q E gA hr h => ?_)
  · obtain ⟨sc, ns, rfl, _⟩ := h
    rfl
  · obtain ⟨sc, ns, rfl, hs, hl, q⟩ := h
    refine ⟨_, pss_cons (ps_for PassesOwn.never rfl (pi_range1 rfl B.rng_ (pa_cons (pe_callB (call_max2 rfl) (by rfl) B.max_ (by decide +kernel) (pa_cons pe_int (pa_cons (pe_callB call_len_seq (by rfl) B.len_ PySem.boot_len (pa_cons (pe_slice sl_listS (pv 0) po_none (po_some pe_int)) pa_nil)) pa_nil))) pa_nil)) (pg_name (i := 1) scLaw.nd rfl (Or.inl rfl))
        (pss_cons (ps_set (i := 2) scLaw.nd rfl (Or.inl rfl) (pe_c Pu hr (by omega) rfl (pa_cons (pv 0) (pa_cons (pv 1) pa_nil))))
        (pss_cons (ps_par (i := 3) (j := 4) (by rfl) scLaw.nd rfl rfl (by decide) rfl rfl (pa_cons (pe_op op_add pe_int (pe_c D hr (by omega) rfl (pa_cons (pv 2) (pa_cons pe_int pa_nil)))) (pa_cons (pe_op op_add pe_int (pe_c D hr (by omega) rfl (pa_cons (pv 2) (pa_cons pe_int pa_nil)))) pa_nil)) (by rfl))
        (pss_cons (ps_if (pt_cmpR op_ne (pe_callB (call_reprD gA hr.units) (by rfl) zrepr (by decide +kernel) (pa_cons (pe_c Rg hr (by omega) rfl (pa_cons (pv 3) (pa_cons (pv 4) pa_nil))) pa_nil)) (pe_callB (call_reprD gA hr.units) (by rfl) zrepr (by decide +kernel) (pa_cons (pe_c Lr hr (by omega) rfl (pa_cons (pv 3) (pa_cons (pv 4) pa_nil))) pa_nil)) (nomark _)) (pss_one (ps_ret pe_bl)) pss_nil)
        (pss_cons (ps_par (i := 3) (j := 4) (by rfl) scLaw.nd rfl rfl (by decide) rfl rfl (pa_cons (pe_op op_add pe_int (pe_c D hr (by omega) rfl (pa_cons (pv 2) (pa_cons (pe_ix ix_list (pe_lstS (pa_cons pe_int (pa_cons pe_int pa_nil))) (pe_c D hr (by omega) rfl (pa_cons (pv 2) (pa_cons pe_int pa_nil))) (fun _ _ => rfl)) pa_nil)))) (pa_cons (pe_op op_add pe_int (pe_c D hr (by omega) rfl (pa_cons (pv 2) (pa_cons pe_int pa_nil)))) pa_nil)) (by rfl))
        (pss_cons (ps_if (pt_not (pt_val (pe_c Gr hr (by omega) rfl (pa_cons (pv 2) (pa_cons (pv 3) (pa_cons (pv 4) pa_nil)))))) (pss_one (ps_ret pe_bl)) pss_nil)
        (pss_cons (ps_set (i := 5) scLaw.nd rfl (Or.inl rfl) (pe_op op_add pe_int (pe_c D hr (by omega) rfl (pa_cons (pv 2) (pa_cons pe_int pa_nil)))))
        (pss_one (ps_if (PW.pt (pw_or (pt_cmpR (op_neD hr.units) (pe_c Rg hr (by omega) rfl (pa_cons (pv 5) (pa_cons (pv 5) pa_nil))) (pe_lstS (pa_cons (pe_tupS (pa_cons pe_int (pa_cons (pv 5) pa_nil))) (pa_cons (pe_tupS (pa_cons pe_int (pa_cons (pe_op op_fdiv (pe_op op_mul (pv 5) (pe_op op_sub (pv 5) pe_int)) pe_int) pa_nil))) pa_nil))) (nomark _))
          (pw_or1 (pt_cmpR (op_neD hr.units) (pe_c Rg hr (by omega) rfl (pa_cons pe_int (pa_cons (pv 5) pa_nil))) (pe_lstS (pa_cons (pe_tupS (pa_cons pe_int (pa_cons (pv 5) pa_nil))) pa_nil)) (nomark _))))) (pss_one (ps_ret pe_bl)) pss_nil)))))))))
      (pss_one (ps_ret (pe_and (pe_cmpR (op_eqD hr.units) (pe_c Rg hr (by omega) rfl (pa_cons pe_int (pa_cons pe_int pa_nil))) (pe_lstS (pa_cons (pe_tupS (pa_cons pe_int (pa_cons pe_int pa_nil))) pa_nil)) (nomark _))
        (pe_one (pe_cmpR (op_eqD hr.units) (pe_c Rg hr (by omega) rfl (pa_cons pe_int (pa_cons pe_int pa_nil))) (pe_lstS (pa_cons (pe_tupS (pa_cons pe_int (pa_cons pe_int pa_nil))) (pa_cons (pe_tupS (pa_cons pe_int (pa_cons pe_int pa_nil))) pa_nil))) (nomark _)))))), ?_⟩
    have lcut : (cutV (ns.map V.int) none (some 5)).length ≤ 63 := by
      unfold cutV
      refine Nat.le_trans (List.length_take_le' _ _) ?_
      rw [List.length_drop, List.length_map]
      omega
    refine ⟨_, rfl, 5, rfl, sc, _, rfl, hs, fun pc H1 S1 n1 h1 => ?_⟩
    refine ⟨pc, _, rfl, .inl (SqL.of h1), 1, _, rfl, _, rfl, ?_⟩
    generalize hm : (if (((cutV (ns.map V.int) none (some 5)).length : Nat) : Int) > 1 then (((cutV (ns.map V.int) none (some 5)).length : Nat) : Int) else 1) = m
    have m0 : 0 ≤ m ∧ m ≤ 63 := by
      rw [← hm]
      split <;> omega
    refine ⟨by omega, by omega, for_it (walk_range (n := m.toNat)) (fun i σ' H' => (∃ u1 u2 u3 u4 u5, σ' = [some (.ref sc), u1, u2, u3, u4, u5]) ∧ Same H H') ⟨⟨none, none, none, none, none, rfl⟩, S1⟩ (fun _ _ _ _ _ => trivial) ?_ ?_⟩
    · rintro i x σ' H9 H2 hi ⟨⟨u1, u2, u3, u4, u5, rfl⟩, S2⟩ ⟨rfl, hx⟩
      subst hx
      refine seq_asg ⟨_, rfl, _, rfl, sc, _, ns, rfl, hs.same S2, by omega, by omega, fun H4 p S4 np hp => ?_⟩
      refine ts_mid (fun σ' H' => ∃ r c : Nat, σ' = [some (.ref sc), some (V.int (0 + (i : Nat))), some (.ref p), some (cI r), some (cI c), u5] ∧ 1 ≤ r ∧ r ≤ 15 ∧ 1 ≤ c ∧ c ≤ 15 ∧ SameB p H4 H' ∧ PurseAt H' p (2 ^ 40)) (fun N k => ?_) ?_
      · refine ⟨_, rfl, p, 15, 2 ^ 40 + 12, rfl, hp.less (by decide), by decide, by decide, fun r H5 r0 r1 hp5 S5 => ⟨_, _, rfl, rfl, _, rfl, p, 15, 2 ^ 40 + 8, rfl, hp5.less (by decide), by decide, by decide, fun c H6 c0 c1 hp6 S6 => ⟨_, _, rfl, rfl, _, _, rfl, ?_⟩⟩⟩
        obtain ⟨r, rfl⟩ := nat_of r0
        obtain ⟨c, rfl⟩ := nat_of c0
        refine k _ _ ⟨1 + r, 1 + c, ?_, by omega, by omega, by omega, by omega, S5.trans S6, hp6.less (by decide)⟩
        have e1 : V.int (1 + ((r : Nat) : Int)) = cI (1 + r) := cI_add 1 r
        have e2 : V.int (1 + ((c : Nat) : Int)) = cI (1 + c) := cI_add 1 c
        rw [← e1, ← e2]; rfl
      rintro σ' H5 ⟨r, c, rfl, r1, r2, c1, c2, S5, hp5⟩
      have S25 : Same H2 H5 := S5.toSame S4 np
      obtain ⟨t1, t2, t3⟩ := small_told r1 r2 c1 c2
      have tx := small_at (p := okTxt) txt_all r1 r2 c1 c2
      unfold okTxt at tx
      simp only [Bool.and_eq_true, Bool.not_eq_true', decide_eq_true_eq] at tx
      obtain ⟨⟨⟨x1, x2⟩, x3⟩, x4⟩ := tx
      obtain ⟨tb, rc, few, _⟩ := tb_of r1 (by omega) c1 (by omega)
      refine ⟨_, rfl, _, rfl, r, c, rfl, tb, few, fun H6 a6 S6 n6 pr6 => ?_⟩
      rw [t1] at pr6
      dsimp only [tNil]
      refine repr_prs pr6 t3 x1 x2 x3 (Nat.le_trans x4 (by decide)) ?_
      refine ⟨_, rfl, _, rfl, r, c, rfl, r1, r2, c1, c2, fun H7 a7 S7 n7 pr7 => ?_⟩
      rw [← t2] at pr7
      dsimp only [tNil]
      refine repr_prs pr7 t3 x1 x2 x3 (Nat.le_trans x4 (by decide)) ?_
      refine ⟨rfl, _, rfl, ifF (by rw [decide_eq_true rfl]; rfl) ?_⟩
      dsimp only [tNext]
      have hp7 := hp5.same (S6.trans S7)
      have S27 := (S25.trans S6).trans S7
      refine ts_mid (fun σ' H' => ∃ r c : Nat, σ' = [some (.ref sc), some (V.int (0 + (i : Nat))), some (.ref p), some (cI r), some (cI c), u5] ∧ 1 ≤ r ∧ r ≤ 30000 ∧ 1 ≤ c ∧ c ≤ 30000 ∧ SameB p H7 H' ∧ PurseAt H' p (2 ^ 30)) (fun N k => ?_) ?_
      · refine ⟨_, rfl, (by show 2 ≤ sizeLine; decide), fun l H8 S8 n8 h8 => ?_⟩
        refine ⟨_, rfl, p, 2, 2 ^ 39, rfl, (hp7.same S8).less (by decide), by decide, by decide, fun y H9 y0 y1 hp9 S9 => ?_⟩
        have nl : l ≠ p := fun z => by
          obtain ⟨p0, p1, p2, hq, _⟩ := hp7
          rw [z, hq] at n8
          cases n8
        have h9 := S9 _ _ nl h8
        obtain ⟨y, rfl⟩ := nat_of y0
        have y2 : y < 2 := by omega
        obtain ⟨v, hv, v1, v2⟩ : ∃ v : Int, atI [V.int 300, V.int 30000] ((y : Nat) : Int) = some (V.int v) ∧ 1 ≤ v ∧ v ≤ 30000 := by
          match y, y2 with
          | 0, _ => exact ⟨300, rfl, by decide, by decide⟩
          | 1, _ => exact ⟨30000, rfl, by decide, by decide⟩
        refine ⟨l, _, _, _, rfl, rfl, SqL.of h9, hv, p, v, 2 ^ 38, rfl, hp9.less (by decide), v1, by omega, fun r' H10 r0 r3 hp10 S10 => ⟨_, _, rfl, rfl, _, rfl, p, 30000, 2 ^ 37, rfl, hp10.less (by decide), by decide, by decide, fun c' H11 c0 c3 hp11 S11 => ⟨_, _, rfl, rfl, _, _, rfl, ?_⟩⟩⟩
        obtain ⟨r', rfl⟩ := nat_of r0
        obtain ⟨c', rfl⟩ := nat_of c0
        refine k _ _ ⟨1 + r', 1 + c', ?_, by omega, by omega, by omega, by omega, (((SameB.refl p H7).to S8).trans S9 |>.trans S10).trans S11, hp11.less (by decide)⟩
        have e1 : V.int (1 + ((r' : Nat) : Int)) = cI (1 + r') := cI_add 1 r'
        have e2 : V.int (1 + ((c' : Nat) : Int)) = cI (1 + c') := cI_add 1 c'
        rw [← e1, ← e2]; rfl
      rintro σ' H8 ⟨r', c', rfl, r3, r4, c3, c4, S8, hp8⟩
      have S28 : Same H2 H8 := S8.toSame S27 np
      refine ⟨_, rfl, _, rfl, _, rfl, p, r', c', 2 ^ 20, rfl, hp8.less (by decide), r3, r4, c3, c4, fun H9 hp9 S9 => ⟨true, rfl, ifF rfl ?_⟩⟩
      dsimp only [tNext]
      have S29 : Same H2 H9 := S9.toSame S28 np
      refine ts_mid (fun σ' H' => ∃ n : Nat, σ' = [some (.ref sc), some (V.int (0 + (i : Nat))), some (.ref p), some (cI r'), some (cI c'), some (cI n)] ∧ 2 ≤ n ∧ n ≤ 30000 ∧ SameB p H9 H') (fun N k => ?_) ?_
      · refine ⟨_, rfl, p, 29999, 2 ^ 10, rfl, hp9.less (by decide), by decide, by decide, fun y H10 y0 y1 hp10 S10 => ⟨_, _, rfl, rfl, ?_⟩⟩
        obtain ⟨y, rfl⟩ := nat_of y0
        refine k _ _ ⟨2 + y, ?_, by omega, by omega, S10⟩
        have e1 : V.int (2 + ((y : Nat) : Int)) = cI (2 + y) := cI_add 2 y
        rw [← e1]; rfl
      rintro σ' H10 ⟨n, rfl, n1, n2, S10⟩
      have S2A : Same H2 H10 := S10.toSame S29 np
      obtain ⟨tb3, rc3, few3, _⟩ := tb_of (r := n) (c := n) (by omega) n2 (by omega) n2
      obtain ⟨tb4, rc4, few4, _⟩ := tb_of (r := 1) (c := n) (by omega) (by omega) (by omega) n2
      refine ⟨_, rfl, _, rfl, n, n, rfl, tb3, few3, fun H11 a11 S11 n11 pr11 => ?_⟩
      rw [square n1] at pr11
      refine ⟨_, rfl, (by show 2 ≤ sizeLine; decide), fun t1 H12 S12 n12 h12 => ⟨_, rfl, _, rfl, _, _, rfl, rfl, _, _, rfl, rfl, .inl ⟨by omega, by omega⟩, _, _, rfl, rfl, (by constructor <;> decide), (by show 2 ≤ sizeLine; decide), fun t2 H13 S13 n13 h13 => ⟨(by show 2 ≤ sizeLine; decide), fun b H14 S14 n14 h14 => ?_⟩⟩⟩
      have e2 : V.int (((n : Nat) : Int) * (((n : Nat) : Int) - 1) / 2) = cI (n * (n - 1) / 2) := by
        have e3 : ((n : Nat) : Int) - 1 = ((n - 1 : Nat) : Int) := by omega
        rw [e3, ← Int.natCast_mul]
        exact cI_div (n * (n - 1)) 2
      have prb : PrsAt H14 b [(1, n), (2, n * (n - 1) / 2)] := prs2 h14 (S14 _ _ (S13 _ _ h12)) (by
        show _ = some (HO.tup [cI 2, cI (n * (n - 1) / 2)])
        rw [← e2]; exact S14 _ _ h13)
      refine ⟨prD _, prD _, dp_prD (((pr11.same S12).same S13).same S14), dp_prD prb, (sh_prD _).1, (sh_prD _).1, _, rfl, ?_⟩
      rw [SeqAt.eqv_refl _ (sh_prD _).2]
      refine ifF rfl ?_
      have S2B := (((S2A.trans S11).trans S12).trans S13).trans S14
      refine ⟨_, rfl, 1, n, rfl, tb4, few4, fun H15 a15 S15 n15 pr15 => ?_⟩
      have e5 : ringsM 1 (1 * n - 1) = [(1, n)] := by rw [Nat.one_mul]; exact row_one (by omega)
      rw [e5] at pr15
      refine ⟨_, rfl, (by show 2 ≤ sizeLine; decide), fun t3 H16 S16 n16 h16 => ⟨(by show 1 ≤ sizeLine; decide), fun b3 H17 S17 n17 h17 => ?_⟩⟩
      have prc : PrsAt H17 b3 [(1, n)] := prs1 h17 (S17 _ _ h16)
      refine ⟨prD _, prD _, dp_prD ((pr15.same S16).same S17), dp_prD prc, (sh_prD _).1, (sh_prD _).1, _, rfl, ?_⟩
      rw [SeqAt.eqv_refl _ (sh_prD _).2]
      refine ifF rfl ?_
      exact ⟨⟨_, _, _, _, _, rfl⟩, S2.trans (((S2B.trans S15).trans S16).trans S17)⟩
    · rintro σ' H2 ⟨⟨u1, u2, u3, u4, u5, rfl⟩, S2⟩
      obtain ⟨tb5, rc5, few5, _⟩ := tb_of (r := 1) (c := 1) (by decide) (by decide) (by decide) (by decide)
      obtain ⟨tb6, rc6, few6, _⟩ := tb_of (r := 2) (c := 2) (by decide) (by decide) (by decide) (by decide)
      refine ⟨1, 1, rfl, tb5, few5, fun H3 a3 S3 n3 pr3 => ?_⟩
      rw [r11] at pr3
      refine ⟨(by show 2 ≤ sizeLine; decide), fun t1 H4 S4 n4 h4 => ⟨(by show 1 ≤ sizeLine; decide), fun b H5 S5 n5 h5 => ?_⟩⟩
      have prb : PrsAt H5 b [(1, 1)] := prs1 h5 (S5 _ _ h4)
      refine ⟨prD _, prD _, dp_prD ((pr3.same S4).same S5), dp_prD prb, (sh_prD _).1, (sh_prD _).1, ?_⟩
      rw [SeqAt.eqv_refl _ (sh_prD _).2]
      refine ⟨true, rfl, iteT (B := False) ?_⟩
      refine ⟨2, 2, rfl, tb6, few6, fun H6 a6 S6 n6 pr6 => ?_⟩
      rw [r22] at pr6
      refine ⟨(by show 2 ≤ sizeLine; decide), fun t2 H7 S7 n7 h7 => ⟨(by show 2 ≤ sizeLine; decide), fun t3 H8 S8 n8 h8 => ⟨(by show 2 ≤ sizeLine; decide), fun b2 H9 S9 n9 h9 => ?_⟩⟩⟩
      have prc : PrsAt H9 b2 [(1, 2), (2, 1)] := prs2 h9 (S9 _ _ (S8 _ _ h7)) (S9 _ _ h8)
      refine ⟨prD _, prD _, dp_prD (((pr6.same S7).same S8).same S9), dp_prD prc, (sh_prD _).1, (sh_prD _).1, ?_⟩
      rw [SeqAt.eqv_refl _ (sh_prD _).2]
      exact q H9
end
end E3

set_option Elab.async false
set_option linter.all false
set_option maxRecDepth 100000
set_option maxHeartbeats 1000000
namespace L2
open PySem PySem.Spec PyProof.Rows
/-- the goal that the head leaves, where the law calls repr: the frame as the facts give it -/
theorem walk_ofGE {l : PySem.W.OpenLaw} {n k : Nat} {q : Program} {loose : List Str} {XP : (Str → Option Value) → Heap → Prop} {YP : World → Heap → Prop} {d : DefRec} {x : Str}
    (hn : l.most = some n) (hn2 : n ≤ sizeLine) (hdf : d.params.defaults = []) (hr : Room k callerA)
    (F : ∀ (w : World) (mg : Str → Option Value) (fa : Addr) (h : Heap), YP w h → h.Ns mainGlobals mg → mg d.name = some (.ref fa) →
      ∃ (K : PySem.W.Frag) (fd : FuncData) (sp : Sp), K.In h ∧ (∀ (s : Shared) (u : Value), BindsTo s fd ⟨[u], []⟩ [(x, u)]) ∧
        (∀ (H : Hp) (a : Addr) (ns : List Int), ns.length ≤ n → SqL K H a (ns.map V.int) → sp [.ref a] H (fun v _ => v = .bl true) fun _ _ _ => False) ∧
        ∀ base : Heap, K.In base → base.Ns mainGlobals mg → FnG l.prog w K mg base k fa fd [x] sp) :
    PySem.W.WalkO q loose XP YP l.row.toRowW d [] (fun f vs => PySem.call f vs) := by
  refine Att.attach_call hn hdf fun w s₀ s₁ mg mb fa o pm cd doc a vs ns G Y ho hd hcd hmg hobj hints hlen hg => ?_
  obtain ⟨K, fd, sp, X, b, s, O⟩ := F w mg fa _ Y G.T.g hmg
  exact call_lawG X G.T.g G.T.b G.T.builtins G.T.nolimit hg hobj hints (Nat.le_trans hlen hn2) hr O b fun H hS _ => s H a ns hlen hS
end L2

set_option Elab.async false
set_option linter.all false
set_option maxRecDepth 100000
set_option maxHeartbeats 1000000
/-! A head by facts: one Bool of the law's own, and the defs, with defaults. -/
namespace Hb
open PySem PySem.Spec PyProof.Rows L2 He
abbrev AlC : Type := Bool × List FnW
def obsC (ex : PySem.W.Frag → Bool) (fn : List DefD) (K : PySem.W.Frag) : AlC := (ex K && fn.all fun d => d.ok K, fn.map fun d => fnW K d.at_)
def valC (fn : List DefD) : AlC := (true, fn.map DefD.val)
def SaysC (ex : PySem.W.Frag → Bool) (fn : List DefD) (K : PySem.W.Frag) : Prop := obsC ex fn K = valC fn
def lookC (n : Nat) (ex : PySem.W.Frag → Bool) (fn : List DefD) (g : Addr → Option Obj) : AlC := obsC ex fn (frG g (asD g n))
def hookC (n : Nat) (ex : PySem.W.Frag → Bool) (fn : List DefD) : PySem.W.Hook where
  α := AlC
  obs := fun s => lookC n ex fn s.heap.get?
  val := fun _ => valC fn
  says := fun _ h => ∃ K : PySem.W.Frag, K.In h ∧ SaysC ex fn K
  of := fun _ _ e => ⟨_, frG_in, e⟩
  keeps := fun _ _ _ ⟨K, hK, c⟩ k => ⟨K, PySem.W.Frag.In.keeps hK k, c⟩
theorem lookC_eq {n : Nat} {ex : PySem.W.Frag → Bool} {fn : List DefD} {g : Addr → Option Obj} {s : Shared} (h : ∀ a, g a = s.heap.get? a) : lookC n ex fn g = (hookC n ex fn).obs s := by
  have e : g = s.heap.get? := funext h
  rw [e] <;> rfl
/-- a def of the text, by its statement -/
def dD (at_ : Str × Option Str) (name qual : Str) (st : Stmt) (dfl : List Dv := []) : DefD := { at_ := at_, name := name, qual := qual, params := defArgs st, body := defBody st, scope := defScope st, dfl := dfl }
section
variable {ex : PySem.W.Frag → Bool} {fn : List DefD} {K : PySem.W.Frag}
theorem SaysC.bool (c : SaysC ex fn K) : ex K = true := (ba (show (ex K && fn.all fun d => d.ok K) = true from congrArg (fun z : AlC => z.1) c)).1
theorem SaysC.def_ (c : SaysC ex fn K) (i : Nat) {d : DefD} (h : fn[i]? = some d := by rfl) : ∃ fd, FunD K d.name d.qual d.params d.body d.scope (d.dvs K) (d.kws K) (fAd K d.at_) fd := by
  have c2 := (ba (show (ex K && fn.all fun d => d.ok K) = true from congrArg (fun z : AlC => z.1) c)).2
  have e : fn.map (fun d => fnW K d.at_) = fn.map DefD.val := congrArg (fun z : AlC => z.2) c
  have e2 : (fn.map fun d => fnW K d.at_)[i]? = (fn.map DefD.val)[i]? := by rw [e]
  rw [List.getElem?_map, List.getElem?_map, h] at e2
  exact DefD.funD (Option.some.inj e2) (List.all_eq_true.mp c2 d (List.mem_of_getElem? h))
theorem SaysC.fun_ (c : SaysC ex fn K) (i : Nat) {at_ : Str × Option Str} {name qual : Str} {st : Stmt} (h : fn[i]? = some (dD at_ name qual st) := by rfl) : ∃ fd, L2.Fun K name qual st (fAd K at_) fd :=
  let ⟨fd, F⟩ := c.def_ i h
  ⟨fd, FunD.plain F⟩
end
end Hb

set_option Elab.async false
set_option linter.all false
set_option maxRecDepth 100000
set_option maxHeartbeats 1000000
/-! what the top left: each def with its promise -/
namespace E3
open PySem PySem.Spec PyProof.Rows L2 He Hb
open C8 (Cal Mak Met InsC)
def fnR : List DefD := [dD ("is_whole", none) "is_whole" "is_whole" sWhole,
  dD ("is_count", none) "is_count" "is_count" sCount,
  dD ("ring_length", none) "ring_length" "ring_length" sRingLen,
  dD ("rings", none) "rings" "rings" sRings,
  dD ("check_lengths", none) "check_lengths" "check_lengths" sChkL,
  dD ("check_place", none) "check_place" "check_place" sChkP,
  dD ("places_by_length", none) "places_by_length" "places_by_length" sPlaces,
  dD ("order", none) "order" "order" sOrder,
  dD ("units", none) "units" "units" sUnits,
  dD ("factors", none) "factors" "factors" sFactors,
  dD ("power", none) "power" "power" sPower,
  dD ("_law_purse", none) "_law_purse" "_law_purse" sPurse,
  dD ("_law_mixed", none) "_law_mixed" "_law_mixed" sMixed,
  dD ("_law_draw", none) "_law_draw" "_law_draw" sDraw,
  dD ("_law_rings", none) "_law_rings" "_law_rings" sLRings,
  dD ("_law_back", none) "_law_back" "_law_back" sBack,
  dD ("_law_great_right", none) "_law_great_right" "_law_great_right" sGreat,
  dD ("law", none) "law" "law" sLaw]
def faR : List Fa := [.glo "is_whole", .glo "is_count", .glo "ring_length", .glo "rings", .glo "check_lengths", .glo "check_place", .glo "places_by_length", .glo "order", .glo "units", .glo "factors", .glo "power", .glo "_law_purse", .glo "_law_mixed", .glo "_law_draw", .glo "_law_rings", .glo "_law_back", .glo "_law_great_right", .glo "law", .free "isinstance", .free "int", .free "bool", .free "sorted", .free "sum", .free "max", .free "range", .free "len", .free "set", .free "repr"]
def bsR (K : PySem.W.Frag) : List Bool := [bltB K "gcd" "math.gcd", bltB K "lcm" "math.lcm"]
def exR (K : PySem.W.Frag) : Bool := (faR.all fun f => f.ok K) && (bsR K).all id
section
variable {P : Program} {w : World} {K : PySem.W.Frag} {mg : Str → Option Value} {base : Heap}
theorem cal_of {x : Str} {f : Addr} {fd : FuncData} {ps : List Str} {k : Nat} {sp : Sp} (kp : PySem.W.keepIn K (.ref f) = true) (g : mg x = some (.ref f)) (b : Binds K fd ps []) (O : FnOk P w K mg base CX0 k f fd ps sp) : Cal P w K mg base k x sp [] := ⟨f, fd, ps, [], O, g, kp, b, .nil⟩
end
theorem facts {P : Program} {w : World} {K : PySem.W.Frag} {h : Heap} {mg : Str → Option Value} {fl : Addr} (X : K.In h) (G : h.Ns mainGlobals mg) (hfa : mg "law" = some (.ref fl)) (c : SaysC exR fnR K) :
    ∃ fd : FuncData, (∀ (s : Shared) (u : Value), BindsTo s fd ⟨[u], []⟩ [("_law_script", u)]) ∧ ∀ base : Heap, K.In base → base.Ns mainGlobals mg → FnG P w K mg base 6 fl fd ["_law_script"] (spLaw K) := by
  have cb := ba (show ((faR.all fun f => f.ok K) && (bsR K).all id) = true from c.bool)
  have ca := cb.1
  have cc := cb.2
  obtain ⟨d_is_whole, F_is_whole⟩ := c.fun_ 0 (at_ := ("is_whole", none)) (name := "is_whole") (qual := "is_whole") (st := sWhole) rfl
  have g_is_whole : mg "is_whole" = some (.ref (ga K "is_whole")) := glo_ok X G (fa_ok ca 0 (f := .glo "is_whole") rfl)
  have b_is_whole := F_is_whole.binds (ps := ["value"]) fun _ _ _ _ _ _ us hl => match us, hl with | [_], _ => rfl
  obtain ⟨d_is_count, F_is_count⟩ := c.fun_ 1 (at_ := ("is_count", none)) (name := "is_count") (qual := "is_count") (st := sCount) rfl
  have g_is_count : mg "is_count" = some (.ref (ga K "is_count")) := glo_ok X G (fa_ok ca 1 (f := .glo "is_count") rfl)
  have b_is_count := F_is_count.binds (ps := ["value"]) fun _ _ _ _ _ _ us hl => match us, hl with | [_], _ => rfl
  obtain ⟨d_ring_length, F_ring_length⟩ := c.fun_ 2 (at_ := ("ring_length", none)) (name := "ring_length") (qual := "ring_length") (st := sRingLen) rfl
  have g_ring_length : mg "ring_length" = some (.ref (ga K "ring_length")) := glo_ok X G (fa_ok ca 2 (f := .glo "ring_length") rfl)
  have b_ring_length := F_ring_length.binds (ps := ["rows", "columns", "place"]) fun _ _ _ _ _ _ us hl => match us, hl with | [_, _, _], _ => rfl
  obtain ⟨d_rings, F_rings⟩ := c.fun_ 3 (at_ := ("rings", none)) (name := "rings") (qual := "rings") (st := sRings) rfl
  have g_rings : mg "rings" = some (.ref (ga K "rings")) := glo_ok X G (fa_ok ca 3 (f := .glo "rings") rfl)
  have b_rings := F_rings.binds (ps := ["rows", "columns"]) fun _ _ _ _ _ _ us hl => match us, hl with | [_, _], _ => rfl
  obtain ⟨d_check_lengths, F_check_lengths⟩ := c.fun_ 4 (at_ := ("check_lengths", none)) (name := "check_lengths") (qual := "check_lengths") (st := sChkL) rfl
  have g_check_lengths : mg "check_lengths" = some (.ref (ga K "check_lengths")) := glo_ok X G (fa_ok ca 4 (f := .glo "check_lengths") rfl)
  have b_check_lengths := F_check_lengths.binds (ps := ["rows", "columns"]) fun _ _ _ _ _ _ us hl => match us, hl with | [_, _], _ => rfl
  obtain ⟨d_check_place, F_check_place⟩ := c.fun_ 5 (at_ := ("check_place", none)) (name := "check_place") (qual := "check_place") (st := sChkP) rfl
  have g_check_place : mg "check_place" = some (.ref (ga K "check_place")) := glo_ok X G (fa_ok ca 5 (f := .glo "check_place") rfl)
  have b_check_place := F_check_place.binds (ps := ["rows", "columns", "place"]) fun _ _ _ _ _ _ us hl => match us, hl with | [_, _, _], _ => rfl
  obtain ⟨d_places_by_length, F_places_by_length⟩ := c.fun_ 6 (at_ := ("places_by_length", none)) (name := "places_by_length") (qual := "places_by_length") (st := sPlaces) rfl
  have g_places_by_length : mg "places_by_length" = some (.ref (ga K "places_by_length")) := glo_ok X G (fa_ok ca 6 (f := .glo "places_by_length") rfl)
  have b_places_by_length := F_places_by_length.binds (ps := ["rows", "last"]) fun _ _ _ _ _ _ us hl => match us, hl with | [_, _], _ => rfl
  obtain ⟨d_order, F_order⟩ := c.fun_ 7 (at_ := ("order", none)) (name := "order") (qual := "order") (st := sOrder) rfl
  have g_order : mg "order" = some (.ref (ga K "order")) := glo_ok X G (fa_ok ca 7 (f := .glo "order") rfl)
  have b_order := F_order.binds (ps := ["base", "prime", "exponent"]) fun _ _ _ _ _ _ us hl => match us, hl with | [_, _, _], _ => rfl
  obtain ⟨d_units, F_units⟩ := c.fun_ 8 (at_ := ("units", none)) (name := "units") (qual := "units") (st := sUnits) rfl
  have g_units : mg "units" = some (.ref (ga K "units")) := glo_ok X G (fa_ok ca 8 (f := .glo "units") rfl)
  have b_units := F_units.binds (ps := ["prime", "exponent"]) fun _ _ _ _ _ _ us hl => match us, hl with | [_, _], _ => rfl
  obtain ⟨d_factors, F_factors⟩ := c.fun_ 9 (at_ := ("factors", none)) (name := "factors") (qual := "factors") (st := sFactors) rfl
  have g_factors : mg "factors" = some (.ref (ga K "factors")) := glo_ok X G (fa_ok ca 9 (f := .glo "factors") rfl)
  have b_factors := F_factors.binds (ps := ["value"]) fun _ _ _ _ _ _ us hl => match us, hl with | [_], _ => rfl
  obtain ⟨d_power, F_power⟩ := c.fun_ 10 (at_ := ("power", none)) (name := "power") (qual := "power") (st := sPower) rfl
  have g_power : mg "power" = some (.ref (ga K "power")) := glo_ok X G (fa_ok ca 10 (f := .glo "power") rfl)
  have b_power := F_power.binds (ps := ["base", "exponent", "modulus"]) fun _ _ _ _ _ _ us hl => match us, hl with | [_, _, _], _ => rfl
  obtain ⟨d__law_purse, F__law_purse⟩ := c.fun_ 11 (at_ := ("_law_purse", none)) (name := "_law_purse") (qual := "_law_purse") (st := sPurse) rfl
  have g__law_purse : mg "_law_purse" = some (.ref (ga K "_law_purse")) := glo_ok X G (fa_ok ca 11 (f := .glo "_law_purse") rfl)
  have b__law_purse := F__law_purse.binds (ps := ["_law_script", "_law_at"]) fun _ _ _ _ _ _ us hl => match us, hl with | [_, _], _ => rfl
  obtain ⟨d__law_mixed, F__law_mixed⟩ := c.fun_ 12 (at_ := ("_law_mixed", none)) (name := "_law_mixed") (qual := "_law_mixed") (st := sMixed) rfl
  have g__law_mixed : mg "_law_mixed" = some (.ref (ga K "_law_mixed")) := glo_ok X G (fa_ok ca 12 (f := .glo "_law_mixed") rfl)
  have b__law_mixed := F__law_mixed.binds (ps := ["_law_seed", "_law_step"]) fun _ _ _ _ _ _ us hl => match us, hl with | [_, _], _ => rfl
  obtain ⟨d__law_draw, F__law_draw⟩ := c.fun_ 13 (at_ := ("_law_draw", none)) (name := "_law_draw") (qual := "_law_draw") (st := sDraw) rfl
  have g__law_draw : mg "_law_draw" = some (.ref (ga K "_law_draw")) := glo_ok X G (fa_ok ca 13 (f := .glo "_law_draw") rfl)
  have b__law_draw := F__law_draw.binds (ps := ["_law_purse_here", "_law_many"]) fun _ _ _ _ _ _ us hl => match us, hl with | [_, _], _ => rfl
  obtain ⟨d__law_rings, F__law_rings⟩ := c.fun_ 14 (at_ := ("_law_rings", none)) (name := "_law_rings") (qual := "_law_rings") (st := sLRings) rfl
  have g__law_rings : mg "_law_rings" = some (.ref (ga K "_law_rings")) := glo_ok X G (fa_ok ca 14 (f := .glo "_law_rings") rfl)
  have b__law_rings := F__law_rings.binds (ps := ["_law_high", "_law_wide"]) fun _ _ _ _ _ _ us hl => match us, hl with | [_, _], _ => rfl
  obtain ⟨d__law_back, F__law_back⟩ := c.fun_ 15 (at_ := ("_law_back", none)) (name := "_law_back") (qual := "_law_back") (st := sBack) rfl
  have g__law_back : mg "_law_back" = some (.ref (ga K "_law_back")) := glo_ok X G (fa_ok ca 15 (f := .glo "_law_back") rfl)
  have b__law_back := F__law_back.binds (ps := ["_law_high", "_law_wide", "_law_times"]) fun _ _ _ _ _ _ us hl => match us, hl with | [_, _, _], _ => rfl
  obtain ⟨d__law_great_right, F__law_great_right⟩ := c.fun_ 16 (at_ := ("_law_great_right", none)) (name := "_law_great_right") (qual := "_law_great_right") (st := sGreat) rfl
  have g__law_great_right : mg "_law_great_right" = some (.ref (ga K "_law_great_right")) := glo_ok X G (fa_ok ca 16 (f := .glo "_law_great_right") rfl)
  have b__law_great_right := F__law_great_right.binds (ps := ["_law_purse_here", "_law_high", "_law_wide"]) fun _ _ _ _ _ _ us hl => match us, hl with | [_, _, _], _ => rfl
  obtain ⟨d_law, F_law⟩ := c.fun_ 17 (at_ := ("law", none)) (name := "law") (qual := "law") (st := sLaw) rfl
  have g_law : mg "law" = some (.ref (ga K "law")) := glo_ok X G (fa_ok ca 17 (f := .glo "law") rfl)
  have b_law := F_law.binds (ps := ["_law_script"]) fun _ _ _ _ _ _ us hl => match us, hl with | [_], _ => rfl
  have z_isinstance : mg "isinstance" = none := free_ok X G (fa_ok ca 18 (f := .free "isinstance") rfl)
  have z_int : mg "int" = none := free_ok X G (fa_ok ca 19 (f := .free "int") rfl)
  have z_bool : mg "bool" = none := free_ok X G (fa_ok ca 20 (f := .free "bool") rfl)
  have z_sorted : mg "sorted" = none := free_ok X G (fa_ok ca 21 (f := .free "sorted") rfl)
  have z_sum : mg "sum" = none := free_ok X G (fa_ok ca 22 (f := .free "sum") rfl)
  have z_max : mg "max" = none := free_ok X G (fa_ok ca 23 (f := .free "max") rfl)
  have z_range : mg "range" = none := free_ok X G (fa_ok ca 24 (f := .free "range") rfl)
  have z_len : mg "len" = none := free_ok X G (fa_ok ca 25 (f := .free "len") rfl)
  have z_set : mg "set" = none := free_ok X G (fa_ok ca 26 (f := .free "set") rfl)
  have z_repr : mg "repr" = none := free_ok X G (fa_ok ca 27 (f := .free "repr") rfl)
  have hgcd : mg "gcd" = some (.builtin "math.gcd") := bltB_ok X G (bool_ok cc 0 rfl)
  have hlcm : mg "lcm" = some (.builtin "math.lcm") := bltB_ok X G (bool_ok cc 1 rfl)
  have e := hfa.symm.trans g_law
  cases e
  refine ⟨d_law, fun s u => bindsA (ps := ["_law_script"]) F_law (fun _ _ _ _ _ _ us hl => match us, hl with | [_], _ => rfl) s [u] rfl, fun base _ _ => ?_⟩
  have B4 : Bt4 mg := ⟨z_sum, z_max, z_range, z_len⟩
  have B5 : Bt5 mg := ⟨z_isinstance, z_int, z_bool, z_sorted⟩
  have Wh : Cal P w K mg base 1 "is_whole" spWh1 [] := cal_of F_is_whole.kp g_is_whole b_is_whole (ok_whole1 F_is_whole B5)
  have Cn : Cal P w K mg base 2 "is_count" spCnt1 [] := cal_of F_is_count.kp g_is_count b_is_count (ok_count1 F_is_count Wh)
  have Cl : Cal P w K mg base 2 "check_lengths" spChkL [] := cal_of F_check_lengths.kp g_check_lengths b_check_lengths (ok_chkL F_check_lengths Wh)
  have Cp : Cal P w K mg base 3 "check_place" spChkP [] := cal_of F_check_place.kp g_check_place b_check_place (ok_chkP F_check_place Cl Cn)
  have Pw : Cal P w K mg base 1 "power" spPower [] := cal_of F_power.kp g_power b_power (ok_power F_power)
  have U : Cal P w K mg base 1 "units" spUnits [] := cal_of F_units.kp g_units b_units (ok_units F_units B4)
  have Fa : Cal P w K mg base 1 "factors" spFactors [] := cal_of F_factors.kp g_factors b_factors (ok_factors F_factors)
  have Or_ : Cal P w K mg base 2 "order" spOrder [] := cal_of F_order.kp g_order b_order (ok_order F_order U Fa Pw)
  have Rl : Cal P w K mg base 4 "ring_length" spRingM [] := cal_of F_ring_length.kp g_ring_length b_ring_length (ok_ringLen F_ring_length hgcd hlcm Cp Fa Or_)
  have Pl : Cal P w K mg base 3 "places_by_length" spPlaces [] := cal_of F_places_by_length.kp g_places_by_length b_places_by_length (ok_places F_places_by_length B4 hlcm U Fa Or_)
  have Rg : Cal P w K mg base 4 "rings" spRingsM [] := cal_of F_rings.kp g_rings b_rings (ok_rings F_rings B5 Cl Pl)
  have Pu : Cal P w K mg base 1 "_law_purse" (spPurse K) [] := cal_of F__law_purse.kp g__law_purse b__law_purse (ok_purse F__law_purse B4)
  have Mi : Cal P w K mg base 1 "_law_mixed" spMixed [] := cal_of F__law_mixed.kp g__law_mixed b__law_mixed (ok_mixed F__law_mixed)
  have D : Cal P w K mg base 2 "_law_draw" spDraw [] := cal_of F__law_draw.kp g__law_draw b__law_draw (ok_draw F__law_draw B4 Mi)
  have Lr : Cal P w K mg base 1 "_law_rings" spLRings [] := cal_of F__law_rings.kp g__law_rings b__law_rings (ok_lrings F__law_rings B4 B5)
  have Bk : Cal P w K mg base 1 "_law_back" spBack [] := cal_of F__law_back.kp g__law_back b__law_back (ok_back F__law_back B4)
  have Gr : Cal P w K mg base 5 "_law_great_right" spGreat [] := cal_of F__law_great_right.kp g__law_great_right b__law_great_right (ok_great F__law_great_right B4 B5 z_set Rg Rl Bk D)
  exact ok_law F_law B4 z_repr Pu D Rg Lr Gr
end E3

set_option Elab.async false
set_option linter.all false
set_option maxRecDepth 100000
set_option maxHeartbeats 0
/-! the head: the top's run, and the law -/
namespace E3
open PySem PySem.Spec PyProof.Rows L2 He
abbrev R : PySem.W.OpenRow := PySem.W.OpenLaw.row PySem.Challenge.rw_cellplaces_k72_whole_rings
abbrev hk : PySem.W.Hook := Hb.hookC 5 exR fnR
def ob (s : PySem.W.SharedT) : Hb.AlC := Hb.lookC 5 exR fnR (HandSHeadRun.getT s)
theorem ob_eq (s : PySem.W.SharedT) : ob s = hk.obs s.abs := Hb.lookC_eq (HandSHeadRun.getT_eq s)
def loose0 : List PySem.Str := ["CellError", "InvalidNumber", "is_whole", "is_count", "ring_length", "rings", "check_lengths", "check_place", "places_by_length", "order", "units", "factors"]
def loose1 : List PySem.Str := ["power", "_law_purse", "_law_mixed", "_law_draw", "_law_rings", "_law_back", "_law_great_right"]
def looseAll : List PySem.Str := loose0 ++ loose1
theorem run (w : World) : HandSHeadRun.RunEqI R (PySem.W.view R.prog [0, 24]) hk ob 6000 looseAll w := by
  unfold HandSHeadRun.RunEqI; kernel_rfl
end E3
open PySem PySem.W PySem.Calls PyProof.Rows
set_option maxRecDepth 100000 in
set_option maxHeartbeats 0 in
theorem PySem.Challenge.cw_cellplaces_k72_whole_rings_holds : PySem.Challenge.rw_cellplaces_k72_whole_rings.Holds := by
  w_on; o_law
  refine HandSHeadRun.head_imp (r := OpenLaw.row PySem.Challenge.rw_cellplaces_k72_whole_rings) (q := view (OpenLaw.row PySem.Challenge.rw_cellplaces_k72_whole_rings).prog [0, 24]) (H := E3.hk) (ob := E3.ob) (M := 6000) (loose := E3.looseAll) (d := HandSHeadRun.topDef (OpenLaw.row PySem.Challenge.rw_cellplaces_k72_whole_rings).prog 24) (kwd := []) E3.ob_eq
    E3.run (by kernel_rfl) (by kernel_rfl) (by kernel_rfl) (by rfl) (by first | assumption | decide +kernel) (by decide +kernel) ⟨rfl, rfl, rfl, rfl, rfl, by decide +kernel⟩ ?hw ?hc
  case hw => w_witness2
  case hc =>
    refine L2.walk_ofGE (l := PySem.Challenge.rw_cellplaces_k72_whole_rings) (n := 63) (k := 6) (x := "_law_script") rfl (by decide) (by kernel_rfl) ⟨rfl, by decide, by decide⟩ ?F
    intro w mg fa h Y G hmg0
    obtain ⟨K, KX, c⟩ := Y
    have hmg : mg ("law" : PySem.Str) = some (.ref fa) := by
      have e : (HandSHeadRun.topDef (OpenLaw.row PySem.Challenge.rw_cellplaces_k72_whole_rings).prog 24).name = ("law" : PySem.Str) := by kernel_rfl
      rw [← e]
      exact hmg0
    obtain ⟨fd, hb, hF⟩ := E3.facts (P := (PySem.Challenge.rw_cellplaces_k72_whole_rings).prog) (w := w) KX G hmg c
    exact ⟨K, fd, E3.spLaw K, KX, hb, fun H a ns hl hS => ⟨a, ns, rfl, hS, hl, fun _ => rfl⟩, hF⟩
