import PyProof.Rows.All
import Wide.All
import OpenK.AllK
import Wide.FinOn
import HandS.ForExc
import HandS.ExcInit
import HandS.ExcIs
import HandS.ExcField
import HandS.Defaults
import HandS.IsInst
import HandS.ExcValue
import HandS.ForMost
import KE.KOpsOwn
import HandS.Wide
import HandS.WideBits
import HandS.Conv
import HandS.Codes
import HandS.Walk
import HandS.Comp
import HandS.SetFor
import HandS.DictComp
import HandS.More
import HandS.Iter
import KE.KDictWalk
import KE.KDictDisplayH
import HandS.Gcd
import HandS.WordsDict
import HandS.Text
import HandS.StrMore
import HandS.Style
import HandS.Star
import HandS.TupAny
import HandS.List
import PyProof.TupleOfSeq
import PyProof.Rows.SortShellAny
import HandS.Lambda
import KE.SortKeyHeap
import KE.KLam
import HandS.DictEq
import PyProof.InstNe
import HandS.Flow
import KE.DatumOrd
import PyProof.SeqRoads2
import HandS.New
import HandS.Ends
import HandS.Words
import HandS.Head0
import HandS.Head1
import HandS.Head2
import HandS.HeadEnd
import HandS.HeadHook1
import HandS.SetBool
import HandS.HeadHook4
import KE.KStateDown
import HandS.Head3
import HandS.HeadWalk
import PySem.Challenge.RW_cellplaces_k05_forms_by_name
set_option Elab.async false
set_option linter.all false
set_option maxRecDepth 100000
set_option maxHeartbeats 4000000
/-! An own exception class called with one keyword: the maker takes it and lets it be, the own __init__ gets it. -/
namespace KwE
open PySem PySem.W PySem.Calls PyProof.Rows PySem.HandSPX
section
variable {prog : Program} {w : World} {A : Around} {E : Value → Shared → Prop} {R : Result → Shared → Prop} {hp : Heap} {gs : Array GenState} {dr : Drawn} {tk : Nat} {os : OsState}
variable {nm q : Str} {C N fI : Addr} {bs bm bmB : List Value} {hd : Bool} {sn : List Str} {sub : List Value} {ab : Bool} {col : Option Bool} {dd : Option Addr} {k0 k1 k2 k3 k5 : Option Value} {B new_ init_ : String} {us : List Value} {kn : Str} {kv : Value}
/-- what the class's line says of the base's names -/
structure Line (B : String) (C : Addr) (bm : List Value) : Prop where
  b : (Value.ref C :: bm).contains (.type B) = true
  a : (Value.ref C :: bm).contains (.type "AttributeError") = false
  n : (Value.ref C :: bm).contains (.type "NameError") = false
theorem Line.of (F : ExcBaseFacts B new_ init_ bmB) (same : ∀ X : String, bm.contains (.type X) = bmB.contains (.type X)) : Line B C bm := by
  constructor <;> rw [List.contains_cons, same]
  · rw [F.hasB, Bool.or_true]
  · rw [F.noAttr]; rfl
  · rw [F.noName]; rfl
/-- the maker's own check -/
theorem maker_ok {M : Model} {Q : Unit → Shared → Prop} (F : ExcBaseFacts B new_ init_ bmB) (L : Line B C bm) (at_ : hp.get? C = some (excClassObj nm q C N bs bm hd sn sub ab col dd k0 k1 k2 k3 k5 new_)) (h : Q () ⟨hp, gs, dr, tk, os⟩) :
    wpAny M A (checkBuiltinCall new_ ⟨.ref C :: us, [(kn, kv)]⟩) Q E ⟨hp, gs, dr, tk, os⟩ := by
  have star := F.noStar
  simp only [checkBuiltinCall, F.newKind, F.newSplit, F.newRow]
  repeat' first
    | refine wpAny_loadPart_at at_ ?_
    | (refine wpAny_isSubtype_exc at_ ?_
       rw [L.b])
    | refine wpAny_staticBase_exc at_ ?_
    | refine wpAny_madeBy_exc at_ ?_
    | simp only [bne_self_eq_false, Bool.false_eq_true, if_false]
    | wp_step
  exact h
/-- the maker: a tuple of the plain arguments, then the exception over it -/
theorem maker_does (F : ExcBaseFacts B new_ init_ bmB) (L : Line B C bm) (at_ : hp.get? C = some (excClassObj nm q C N bs bm hd sn sub ab col dd k0 k1 k2 k3 k5 new_)) (short : us.length ≤ sizeLine)
    (h : R (.ok (.ret (.ref (hp.objs.size + 1)))) ⟨(hp.push (kdv_tup us)).push (excO C hp.objs.size), gs, dr, tk, os⟩) : codeAny (model prog w) A (.builtin new_ ⟨.ref C :: us, [(kn, kv)]⟩) R ⟨hp, gs, dr, tk, os⟩ := by
  have ends := F.ends
  refine codeAny_builtinAt F.entry ?_
  unfold Builtin.«BaseException.__new__»
  refine PySem.wpAt_bind ?_
  show PySem.wpAt _ _ _ (stack >>= _) _ _ _
  refine PySem.wpAt_bind (PySem.wpAt_stack ?_)
  intro _ _
  refine PySem.wpAt_of_wpAny ?_
  wp_walk
  refine PySem.wpAt_of_wpAny ?_
  rw [F.owner]
  repeat' first
    | with_reducible refine wpAny_madeHere_exc F.canon at_ ?_
    | with_reducible refine wpAny_loadPart_at at_ ?_
    | (with_reducible refine wpAny_isSubtype_exc at_ ?_
       first
         | rw [L.b]
         | rw [L.a]
         | rw [L.n])
    | wp_step
  show R _ _
  rw [Heap.size_push]
  exact h
/-- type.__call__: the maker, then the own __init__ -/
theorem class_does {Q : PySem.Fin → Shared → Prop} (F : ExcBaseFacts B new_ init_ bmB) (L : Line B C bm) (at_ : hp.get? C = some (excClassObj nm q C N bs bm hd sn sub ab col dd k0 k1 k2 k3 k5 new_)) (short : us.length ≤ sizeLine)
    (ini : W.Looks (model prog w) hp (typeLookup (.ref C) "__init__") (some (.ref fI))) (bind : ∀ self, W.Looks (model prog w) hp (bindSpecial (.ref fI) self) (.ref fI, [self]))
    (h : codeAny (model prog w) A (.call (.ref fI) ⟨.ref (hp.objs.size + 1) :: us, [(kn, kv)]⟩)
      (fun r s' => match r with | .ok (.ret v) => v = .none ∧ Q (.done (.ret (.ref (hp.objs.size + 1)))) s' | .ok _ => False | .error e => E e s') ⟨(hp.push (kdv_tup us)).push (excO C hp.objs.size), gs, dr, tk, os⟩) :
    wpAny (model prog w) A (Builtin.«type.__call__» ⟨.ref C :: us, [(kn, kv)]⟩) Q E ⟨hp, gs, dr, tk, os⟩ := by
  have kept : ∀ b o, hp.get? b = some o → ((hp.push (kdv_tup us)).push (excO C hp.objs.size)).get? b = some o := fun _ _ z => Heap.get?_push_of_some _ (Heap.get?_push_of_some _ z)
  have there : ((hp.push (kdv_tup us)).push (excO C hp.objs.size)).get? (hp.objs.size + 1) = some (excO C hp.objs.size) := by heap_get
  have own_ : (Value.ref C :: bm).contains (.ref C) = true := by simp
  repeat' first
    | with_reducible refine wpAny_loadPart_at at_ ?_
    | with_reducible refine wpAny_madeBy_exc at_ ?_
    | wp_step
  refine codeAny_call_builtin_code (Code.quiet_builtin _ F.quiet) (maker_ok F L at_ (maker_does F L at_ short ?_))
  show wpAny _ _ _ _ _ _
  unfold isInstance
  repeat' first
    | with_reducible refine wpAny_loadPart_at there ?_
    | (with_reducible refine wpAny_isSubtype_exc (kept _ _ at_) ?_
       rw [own_])
    | wp_step
  show wpAny _ _ (typeLookup (.ref C) _) _ _ _
  refine (ini.keeps kept).at (wpAny_holding (wpAny_bind (((bind _).keeps kept).at (wpAny_bind (wpAny_call (codeAny_mono h ?_))))))
  intro r s' z
  match r, z with
  | .error _, z => exact z
  | .ok (.ret _), ⟨rfl, z⟩ =>
    first
      | exact wpAny_pure (wpAny_pure z)
      | (wp_walk; exact z)
/-- C(.., kn=kv) -/
theorem call_kw (F : ExcBaseFacts B new_ init_ bmB) (same : ∀ X : String, bm.contains (.type X) = bmB.contains (.type X)) (at_ : hp.get? C = some (excClassObj nm q C N bs bm hd sn sub ab col dd k0 k1 k2 k3 k5 new_)) (short : us.length ≤ sizeLine)
    (ini : W.Looks (model prog w) hp (typeLookup (.ref C) "__init__") (some (.ref fI))) (bind : ∀ self, W.Looks (model prog w) hp (bindSpecial (.ref fI) self) (.ref fI, [self]))
    (h : codeAny (model prog w) (A.under (.builtin "type.__call__" ⟨.ref C :: us, [(kn, kv)]⟩)) (.call (.ref fI) ⟨.ref (hp.objs.size + 1) :: us, [(kn, kv)]⟩) (InitBack (hp.objs.size + 1) R) ⟨(hp.push (kdv_tup us)).push (excO C hp.objs.size), gs, dr, tk, os⟩) :
    codeAny (model prog w) A (.call (.ref C) ⟨us, [(kn, kv)]⟩) R ⟨hp, gs, dr, tk, os⟩ := by
  have g1 := tc_lookup
  have g2 := tc_bind (.ref C)
  have g3 := tc_sub
  have ty : (⟨hp, gs, dr, tk, os⟩ : Shared).TypeIs (.ref C) "type" := ⟨_, at_, rfl⟩
  have chk : ∀ {A' : Around} {E' : Value → Shared → Prop} {Q : Unit → Shared → Prop}, Q () ⟨hp, gs, dr, tk, os⟩ → wpAny (model prog w) A' (checkBuiltinCall "type.__call__" ⟨.ref C :: us, [(kn, kv)]⟩) Q E' ⟨hp, gs, dr, tk, os⟩ := by
    intro A' E' Q z
    simp only [checkBuiltinCall, tc_kind, tc_split]
    repeat (any_goals (first | assumption | with_reducible refine wpAny_loadPart_at at_ ?_ | with_reducible refine wpAny_onRaise ?_ | with_reducible refine wpAny_map ?_ | wp_step))
  refine codeAny_of_tree ?_
  show wpAny _ _ (callAny (.ref C) _) _ _ _
  repeat (any_goals (first | assumption | with_reducible refine wpAny_loadPart_at at_ ?_ | wp_step))
  refine ⟨rfl, codeAny_call_builtin_at (Code.quiet_builtin _ (by decide +kernel)) entry_typeCall (chk (class_does F (.of F same) at_ short ini bind (codeAny_mono h ?_)))⟩
  intro r s' z
  rcases r with _ | (_ | _ | _ | _) <;> exact z
end
end KwE

set_option Elab.async false
set_option linter.all false
set_option maxRecDepth 100000
set_option maxHeartbeats 4000000
namespace PySem.W
open PySem PySem.Spec PySem.Calls PyProof.Rows
section
variable {prog : Program} {w : World} {A : Around} {E : Value → Shared → Prop} {s : Shared} {K : Frag} {x D : Addr} {ox : Obj} {od : Option Obj}
/-- a data descriptor of the class goes ahead of the object's own dict -/
theorem found_data {C : Addr} {name : Str} {at_ get : Value} (hc : (clsIn K C).isSome = true) (h1 : findIn K (.ref C) name = some (some at_)) (h2 : specialIn K at_ "__get__" = some (some get)) (h3 : takesIn K at_ = some true) : findObj K C od name = some (.bind get at_) := by
  cases z : clsIn K C with
  | none => rw [z] at hc; cases hc
  | some cd => simp [findObj, z, h1, h2, h3]
/-- x.__class__ of an exception of an own class, whatever attributes it has -/
theorem class_of_exc {Q : Option Value → Shared → Prop} (T : L2.ExcC K D) (X : K.In s.heap) (I : InstAt s.heap x ox D od) (h : Q (some (.ref D)) { s with toks := s.toks + 1 }) : wpAny (model prog w) A (getAttr? (.ref x) "__class__") Q E s := by
  have has : (clsIn K D).isSome = true := by
    obtain ⟨cd, z, _⟩ := any_some T.hd
    rw [z]
    rfl
  obtain ⟨hp, gs, dr, tk, os⟩ := s
  have kind := I.type (M := model prog w)
  have get_ := looks_findIn (M := model prog w) X T.hg
  have hook := looks_findIn (M := model prog w) X T.hk
  have find_ := looks_find (M := model prog w) X I (found_data (od := od) has T.ha T.hn T.ht)
  have base_ : Looks (model prog w) hp (isInstance (.ref x) (.type "BaseException")) true := kind.andThen (looks_subIn X T.hs)
  have other : (Value.builtin "BaseException.__getattribute__" == Value.builtin "object.__getattribute__") = false := by decide +kernel
  unfold getAttr? getAttrBy? getAttrBy
  refine wpAny_bind (wpAny_mkText (wpAny_bind (wpAny_attempt (wpAny_holding (wpAny_bind (kind.at (wpAny_bind (get_.at ?_))))))))
  show wpAny _ _ (if (onTheHeap (Value.ref D) && Value.builtin "BaseException.__getattribute__" == Value.builtin "object.__getattribute__") = true then _ else _) _ _ _
  rw [other, Bool.and_false, if_neg Bool.false_ne_true]
  unfold getAttrByItsOwn hookBefore
  rw [if_pos (show onTheHeap (Value.ref D) = true from rfl)]
  refine wpAny_bind (hook.at (wpAny_bind (wpAny_attempt (wpAny_holding ?_))))
  unfold callGetattribute
  rw [show (false && onTheHeap (Value.builtin "BaseException.__getattribute__")) = false from rfl, if_neg Bool.false_ne_true]
  unfold boundAndCalled
  rw [PySem.F.excAttr_ValueError.ga.bind (.ref x)]
  refine wpAny_bind (wpAny_pure ?_)
  show wpAny _ _ (call (.builtin "BaseException.__getattribute__") [.ref x, .str "__class__" tk]) _ _ _
  refine wpAny_call (codeAny_call_builtin PySem.F.excAttr_ValueError.ga.plain PySem.F.entry_bexc_ga (@check_slot (model prog w) _ _ ⟨hp, gs, dr, tk + 1, os⟩ "BaseException.__getattribute__" "BaseException" "__getattribute__" (.ref x) [.str "__class__" tk] [] _ (by decide +kernel) (by decide +kernel) base_ (PySem.F.args_bexc_ga (.ref x) (.str "__class__" tk)) ?_))
  unfold Builtin.«object.__getattribute__»
  refine wpAny_bind (wpAny_of_eq (a := ((Value.ref x : Value), [Value.str "__class__" tk])) (by first | rfl | (simp only [slotArgs]; rfl)) (wpAny_bind (wpAny_pure (wpAny_bind (kind.at (wpAny_bind (find_.at ?_)))))))
  show wpAny _ _ (holding [Value.builtin "object.__class__"] (call (.builtin "getset_descriptor.__get__") [.builtin "object.__class__", .ref x, .ref D]) >>= ret) _ _ _
  refine wpAny_bind (wpAny_holding (wpAny_call (class_get (s := ⟨hp, gs, dr, tk + 1, os⟩) (ox := ox) (od := od) X I T.hm (wpAny_pure ?_))))
  show wpAny _ _ (handedOut (.ref D)) _ _ _
  rw [handedOut_of (v := .ref D) rfl]
  first
    | exact wpAny_pure (wpAny_pure h)
    | exact wpAny_pure (wpAny_bind (wpAny_pure (wpAny_pure h)))
    | exact wpAny_pure h
/-- isinstance may ask such an exception -/
theorem kit_exc (T : L2.ExcC K D) : KitX K (.ref x) (.ref D) (fun h => InstAt h x ox D od) := by
  have written : ∃ o, K.lookup D = some o ∧ ∀ h : Heap, K.In h → h.get? D = some o := by
    obtain ⟨cd, z, _⟩ := any_some T.hd
    unfold clsIn at z
    split at z
    · exact ⟨_, by assumption, fun h X => X _ _ (by assumption)⟩
    · cases z
  have plain : ∀ {M : Model} {h : Heap}, K.In h → Looks M h (isType (.ref D)) true := by
    intro M h X A' Q' E' s' k q
    obtain ⟨cd, z, _⟩ := any_some T.hd
    unfold clsIn at z
    split at z
    · rename_i ho
      unfold isType loadHead
      exact wpAny_bind (wpAny_loadPart (k _ _ (X _ _ ho)) (wpAny_pure q))
    · cases z
  refine ⟨fun _ _ _ I => I.type, fun _ _ X _ => plain X, fun h tp dd its n sl X htp => ?_, fun X I k => class_of_exc T X I k⟩
  refine Bool.eq_false_iff.mpr fun q => ?_
  obtain rfl : D = tp := Value.ref.inj (beq_iff_eq.mp q)
  obtain ⟨cd, z, _⟩ := any_some T.hd
  unfold clsIn at z
  split at z
  · rename_i ho
    cases (X _ _ ho).symm.trans htp
  · cases z
end
end PySem.W
namespace L2
open PySem PySem.Spec PyProof.Rows
/-- an exception object of the own class at C: with its attributes, or bare -/
inductive ExT (H : Hp) (e C : Addr) : List (Str × V) → Prop where
  | own {d : Addr} {fs : List (Str × V)} (h1 : H e = some (exo e C (some d))) (h2 : H d = some (exd d fs)) : ExT H e C fs
  | bare (h : H e = some (ExO (.ref C) e)) : ExT H e C []
theorem ExT.same {H H' : Hp} {e C : Addr} {fs : List (Str × V)} (S : Same H H') : ExT H e C fs → ExT H' e C fs
  | .own h1 h2 => .own (S _ _ h1) (S _ _ h2)
  | .bare h => .bare (S _ _ h)
section
variable {X : Cx} {pins : List (Addr × Obj)} {σ : St} {H : Hp} {s : Shared} {e C : Addr} {fs : List (Str × V)}
theorem ExT.inst (I : Inv X pins σ H s) (h : ExT H e C fs) : ∃ ox od, PySem.W.InstAt s.heap e ox C od ∧ (∀ f v, fs.lookup f = some v → ∃ o u, od = some o ∧ PySem.W.lookIn f o = some (some u) ∧ RelV v u) := by
  cases h with
  | own h1 h2 =>
    obtain ⟨t1, ho⟩ := exo_at I.hok h1
    obtain ⟨mA, hns, rel⟩ := exd_at I.hok h2
    obtain ⟨od, hod, hl⟩ := lookIn_ns hns
    refine ⟨_, some od, ⟨ho, rfl, rfl, hod⟩, fun f v hf => ?_⟩
    obtain ⟨u, hu, ru⟩ := RelO.some_of (v := v) (o := mA f) (by rw [← hf]; exact rel f)
    exact ⟨od, u, rfl, by rw [hl, hu], ru⟩
  | bare h =>
    have z : ObjOk X.prog X.w H s.heap e (ExO (.ref C) e) := I.hok _ _ h
    obtain ⟨⟨oe, vs, ho, hz, hd, _, _, _⟩, _, _⟩ := z
    refine ⟨oe, none, ⟨ho, hz.1, by unfold PySem.W.notCls; rw [hd], by rw [hz.2]; trivial⟩, fun f v hf => by cases hf⟩
end
/-- isinstance(e, c) of an exception that is a value -/
def rIsX (K : PySem.W.Frag) : List V → Hp → VK → Prop := fun xs H Q => ∃ (e D : Addr) (fs : List (Str × V)) (c : V) (u : Value) (b : Bool), xs = [.ref e, c] ∧ ClsV c u ∧ ExT H e D fs ∧ ExcC K D ∧ PySem.W.kitOne K (.ref D) u = some b ∧ Q (.bl b) H
theorem call_isX {X : Cx} : CallR X (.builtin "isinstance") (rIsX X.K) := by
  intro pins s σ H xs us Q I r h
  obtain ⟨e, D, fs, c, u, b, rfl, k, ex, T, hk, q⟩ := h
  obtain ⟨u1, u2, rfl, r1, r2⟩ := vals2 r
  have e2 := k.eq r2
  subst e2
  obtain rfl : u1 = Value.ref e := r1
  obtain ⟨ox, od, J, _⟩ := ex.inst I
  exact PySem.W.kia_one (PySem.W.kit_exc T) I.kIn J hk (fun z => nomatch z) fun tk => ⟨.bl b, H, I.tok tk, rfl, q⟩
/-- e.f of an exception that is a value -/
def tFldE (K : PySem.W.Frag) (te : TE) (f : Str) : TE := fun σ H Q => te σ H fun x H1 => ∃ (e C : Addr) (fs : List (Str × V)) (v : V), x = .ref e ∧ ExT H1 e C fs ∧ ExcC K C ∧ PySem.W.findIn K (.ref C) f = some none ∧ fs.lookup f = some v ∧ Q v H1
theorem pe_fldE {X : Cx} {e : Expr} {te : TE} {pos : Pos} {n : Str} (he : PE X e te) (hb : attributeBase e n X.env (eval e X.env) = eval e X.env := by rfl) : PE X (.Attribute e n pos) (tFldE X.K te n) := by
  refine ⟨fun pins s σ H Q I h => ?_⟩
  refine attr_of hb (thn (he.run pins s σ H _ I h) fun u s1 hh => ?_)
  obtain ⟨x, H1, I1, rx, e, C, fs, v, rfl, ex, T, hno, l, q⟩ := hh
  obtain rfl : u = Value.ref e := rx
  obtain ⟨ox, od, J, lk⟩ := ex.inst I1
  obtain ⟨o, u, rfl, hu, ru⟩ := lk _ _ l
  exact HandSPX.exc_get I1.kIn J T.hg T.hk T.hs (PySem.W.findObj_own T.hd hno rfl hu) (handed_of ru) ⟨v, H1, I1.tok _, ru, q⟩
/-- __init__(self, f): self.f = f -/
def spExI (K : PySem.W.Frag) (f : Str) : Sp := fun vs H Q _ => ∃ (a C : Addr) (y : V), vs = [.ref a, y] ∧ OexC K C ∧ PySem.W.findIn K (.ref C) f = some none ∧ H a = some (exo a C none) ∧
  ∀ dx, H dx = none → dx ≠ a → Q .non (upd (upd H dx (exd dx [(f, y)])) a (exo a C (some dx)))
/-- C called, its __init__ as above: the new exception's one attribute is y -/
theorem run_mko {X : Cx} {C fI : Addr} {f : Str} {k : Nat} {fd : FuncData} {ps : List Str} {pins : List (Addr × Obj)} {σ : St} {H1 : Hp} {s1 : Shared} {Q : VK} {us : List Value} {kw : List (Str × Value)} {y : V} {u : Value} (T : OexC X.K C) (iC : PySem.W.findIn X.K (.ref C) "__init__" = some (some (.ref fI)))
    (tI : PySem.W.typeIn X.K (.ref fI) = some (.type "function")) (noF : PySem.W.findIn X.K (.ref C) f = some none) (F1 : FnOk X.prog X.w X.K X.mg X.base CX0 k fI fd ps (spExI X.K f)) (hr : Room (k + 1) X.A) (hkw : kw = [] ∨ ∃ q, kw = [q]) (hus : us.length ≤ sizeLine)
    (hb : ∀ (self : Value) (s' : Shared), X.K.In s'.heap → BindsTo s' fd ⟨self :: us, kw⟩ (ps.zip [self, u])) (ry : RelV y u) (I1 : Inv X pins σ H1 s1)
    (q : ∀ a H', Same H1 H' → H1 a = none → ExT H' a C [(f, y)] → Q (.ref a) H') : wpAny (model X.prog X.w) X.A (call (.ref C) us kw) (EP X pins σ Q) X.xe s1 := by
  obtain ⟨nm, qn, N, bs, bm, sn, sub, ab, col, dd, k0, k1, k2, k3, k5, hC, hbm⟩ := T.cls
  obtain ⟨hp, g, dr, tk, os⟩ := s1
  have hsz : hp.objs.size ≤ hp.objs.size + 1 := Nat.le_succ _
  have hn : H1 (hp.objs.size + 1) = none := I1.hok.fresh hsz
  have kk : ∀ b o, hp.get? b = some o → ((hp.push (PySem.W.kdv_tup us)).push (PySem.HandSPX.excO C hp.objs.size)).get? b = some o := fun b o e => Heap.get?_push_of_some _ (Heap.get?_push_of_some _ e)
  have hget : ((hp.push (PySem.W.kdv_tup us)).push (PySem.HandSPX.excO C hp.objs.size)).get? (hp.objs.size + 1) = some (PySem.HandSPX.excO C hp.objs.size) := by heap_get
  have I2 : Inv X pins σ (upd H1 (hp.objs.size + 1) (exo (hp.objs.size + 1) C none)) ⟨(hp.push (PySem.W.kdv_tup us)).push (PySem.HandSPX.excO C hp.objs.size), g, dr, tk, os⟩ :=
    I1.laid (t' := tk) (a := hp.objs.size + 1) (o := exo (hp.objs.size + 1) C none) (h' := (hp.push (PySem.W.kdv_tup us)).push (PySem.HandSPX.excO C hp.objs.size)) kk hsz (exo_ok hget)
  have hq : spExI X.K f [V.ref (hp.objs.size + 1), y] (upd H1 (hp.objs.size + 1) (exo (hp.objs.size + 1) C none)) (fun v H2 => v = .non ∧ Q (.ref (hp.objs.size + 1)) H2) E0 := by
    refine ⟨_, C, y, rfl, T, noF, upd_same, fun dx hd ne => ⟨rfl, q _ _ (fun b o e => ?_) hn (.own upd_same (by rw [upd_ne ne, upd_same]))⟩⟩
    have hb1 : b ≠ hp.objs.size + 1 := ne_of_none e hn
    have hd1 : H1 dx = none := by
      rw [upd_ne ne] at hd
      exact hd
    rw [upd_ne hb1, upd_ne (ne_of_none e hd1), upd_ne hb1]
    exact e
  have r2 : Vals [V.ref (hp.objs.size + 1), y] [Value.ref (hp.objs.size + 1), u] := .cons rfl (.cons ry .nil)
  have fin : ∀ (r : Result) (s' : Shared), CR CX0 X.stack X.prog X.w (upd H1 (hp.objs.size + 1) (exo (hp.objs.size + 1) C none)) ⟨(hp.push (PySem.W.kdv_tup us)).push (PySem.HandSPX.excO C hp.objs.size), g, dr, tk, os⟩ (fun v H2 => v = .non ∧ Q (.ref (hp.objs.size + 1)) H2) E0 r s' →
      PySem.W.InitBack (hp.objs.size + 1) (fun r s' => match r with | .ok (.ret v) => EP X pins σ Q v s' | .ok _ => False | .error er => X.xe er s') r s' := fun r s' hq' => by
    cases r with
    | error er => exact False.elim hq'
    | ok fl =>
      cases fl with
      | ret uu =>
        obtain ⟨v, H', I3, rv, ev, q3⟩ := I2.after hq'
        subst ev
        exact ⟨rv, ⟨V.ref (hp.objs.size + 1), H', I3, rfl, q3⟩⟩
      | next => exact False.elim hq'
      | brk => exact False.elim hq'
      | cont => exact False.elim hq'
  rcases hkw with rfl | ⟨⟨kn, kv⟩, rfl⟩
  · refine wpAny_call (codeAny_mono (PySem.HandSPX.call_own F.excBase_ValueError (fun Y => PySem.HandSPX.refsVE_contains Y bm hbm) (I1.kIn _ _ hC) (PySem.W.looks_findIn I1.kIn iC) (fun self => PySem.W.bind_fn I1.kIn self tI) hus
      (codeAny_mono (F1.run _ X.stack _ _ ⟨Value.ref (hp.objs.size + 1) :: us, []⟩ [Value.ref (hp.objs.size + 1), u] _ _ E0 (hr.make C us []) (I2.env0.make C us []) (hb _ _ I2.kIn) r2 hq) fin)) fun r s' z => ?_)
    rcases r with e | (v | _ | _ | _) <;> exact z
  · refine wpAny_call (codeAny_mono (KwE.call_kw F.excBase_ValueError (fun Y => PySem.HandSPX.refsVE_contains Y bm hbm) (I1.kIn _ _ hC) hus (PySem.W.looks_findIn I1.kIn iC) (fun self => PySem.W.bind_fn I1.kIn self tI)
      (codeAny_mono (F1.run _ X.stack _ _ ⟨Value.ref (hp.objs.size + 1) :: us, [(kn, kv)]⟩ [Value.ref (hp.objs.size + 1), u] _ _ E0 (hr.make C us [(kn, kv)]) (I2.env0.make C us [(kn, kv)]) (hb _ _ I2.kIn) r2 hq) fin)) fun r s' z => ?_)
    rcases r with e | (v | _ | _ | _) <;> exact z
end L2

set_option Elab.async false
set_option linter.all false
set_option maxRecDepth 100000
set_option maxHeartbeats 4000000
namespace L2
open PySem PySem.Spec PyProof.Rows
/-- an own exception class at C, called x, whose __init__ sets the one attribute f (None where it is not given) -/
structure ExM (P : Program) (w : World) (K : PySem.W.Frag) (mg : Str → Option Value) (base : Heap) (x : Str) (C : Addr) (f : Str) : Prop where
  mgC : mg x = some (.ref C)
  oex : OexC K C
  xc : ExcC K C
  noF : PySem.W.findIn K (.ref C) f = some none
  hmk : ∃ (fI : Addr) (fd : FuncData) (ps : List Str), PySem.W.findIn K (.ref C) "__init__" = some (some (.ref fI)) ∧ PySem.W.typeIn K (.ref fI) = some (.type "function") ∧ FnOk P w K mg base CX0 1 fI fd ps (spExI K f) ∧
    (∀ (self u : Value) (s' : Shared), K.In s'.heap → BindsTo s' fd ⟨[self, u], []⟩ (ps.zip [self, u])) ∧ (∀ (self u : Value) (s' : Shared), K.In s'.heap → BindsTo s' fd ⟨[self], [(f, u)]⟩ (ps.zip [self, u])) ∧
    (∀ (self : Value) (s' : Shared), K.In s'.heap → BindsTo s' fd ⟨[self], []⟩ (ps.zip [self, .none]))
/-- an own exception class at C, called x, without an __init__ of its own -/
structure ExB (K : PySem.W.Frag) (mg : Str → Option Value) (x : Str) (C : Addr) : Prop where
  mgC : mg x = some (.ref C)
  xc : ExcC K C
  kC : PySem.W.keepIn K (.ref C) = true
  is : ∃ bmB, ExcBaseFacts "ValueError" "ValueError.__new__" "ValueError.__init__" bmB ∧ PySem.W.excIn K C bmB "ValueError.__new__" = true
/-- the new exception's one attribute -/
def tMk1 (C : Addr) (f : Str) (te : TE) : TE := fun σ H Q => te σ H fun y H1 => ∀ a H', Same H1 H' → H1 a = none → ExT H' a C [(f, y)] → Q (.ref a) H'
def tMk0 (C : Addr) : TE := fun _ H Q => ∀ a H', Same H H' → H a = none → ExT H' a C [] → Q (.ref a) H'
theorem one_line : (1 : Nat) ≤ sizeLine := by rw [sizeLine_eq]; omega
section
variable {X : Cx} {x f : Str} {C : Addr} {e : Expr} {te : TE} {p pos kpos : Pos}
theorem pe_ex1 (T : ExM X.prog X.w X.K X.mg X.base x C f) (hr : Room 2 X.A) (hg : Gl X x) (he : PE X e te) (hdb : (x == ("__debug__" : Str)) = false := by decide) (hs : starEach [e] X.env = (false, eval e X.env) :: starEach [] X.env := by rfl)
    (hpl : (backTo pos (starEach [] X.env)).any (·.1) = false := by rfl) : PE X (.Call (.Name x p) [e] [] pos) (tMk1 C f te) := by
  obtain ⟨fI, fd, ps, iC, tI, F1, b2, bK, b1⟩ := T.hmk
  refine ⟨fun pins s σ H Q I h => ?_⟩
  refine wpAny_Call_Name_kw (ld_glob I hg T.mgC ?_ hdb)
  refine PySem.W.callWith_K (h₀ := X.base) I.ok.mod.kin T.oex.kC ?_ hs hpl
  rw [hs]
  show wpAny _ _ (spliced ((false, eval e X.env) :: backTo pos (starEach [] X.env))) _ _ s
  refine Calls.spliced_cons (thn (he.run pins s σ H _ I h) fun u s1 hh => ?_)
  obtain ⟨y, H1, I1, ry, q⟩ := hh
  refine Calls.spliced_nil ⟨I1.kIn, ?_⟩
  show wpAny _ _ (call (.ref C) [u]) _ _ _
  exact run_mko T.oex iC tI T.noF F1 hr (.inl rfl) one_line (fun self s' X' => b2 self u s' X') ry I1 q
theorem pe_exK (T : ExM X.prog X.w X.K X.mg X.base x C f) (hr : Room 2 X.A) (hg : Gl X x) (he : PE X e te) (hdb : (x == ("__debug__" : Str)) = false := by decide)
    (hall : (backToKw pos (keywordEach [⟨some f, e, kpos⟩] X.env)).all (·.1.isSome) = true := by rfl) (hks : (backToKw pos (keywordEach [⟨some f, e, kpos⟩] X.env)).filterMap (·.1) = [f] := by rfl)
    (hpl : ((backTo pos (starEach [] X.env)).any (·.1) || (backToKw pos (keywordEach [⟨some f, e, kpos⟩] X.env)).any (·.1.isNone)) = false := by rfl) : PE X (.Call (.Name x p) [] [⟨some f, e, kpos⟩] pos) (tMk1 C f te) := by
  obtain ⟨fI, fd, ps, iC, tI, F1, b2, bK, b1⟩ := T.hmk
  refine ⟨fun pins s σ H Q I h => ?_⟩
  refine wpAny_Call_Name_kw (ld_glob I hg T.mgC ?_ hdb)
  refine PySem.W.callWith_KW0 (h₀ := X.base) I.ok.mod.kin T.oex.kC hall ?_ hpl
  show wpAny _ _ (evalAll ((do let v ← eval e X.env; standAt pos; pure v) :: [])) _ _ s
  refine wpAny_evalAll_cons (wpAny_bind (thn (he.run pins s σ H _ I h) fun u s1 hh => wpAny_bind (wpAny_standAt (wpAny_pure ?_))))
  obtain ⟨y, H1, I1, ry, q⟩ := hh
  refine wpAny_evalAll_nil ⟨I1.kIn, ?_⟩
  rw [hks]
  show wpAny _ _ (call (.ref C) [] [(f, u)]) _ _ _
  exact run_mko (us := []) T.oex iC tI T.noF F1 hr (.inr ⟨_, rfl⟩) (Nat.zero_le _) (fun self s' X' => bK self u s' X') ry I1 q
theorem pe_ex0 (T : ExM X.prog X.w X.K X.mg X.base x C f) (hr : Room 2 X.A) (hg : Gl X x) (hdb : (x == ("__debug__" : Str)) = false := by decide) : PE X (.Call (.Name x p) [] [] pos) (tMk1 C f (tC .non)) := by
  obtain ⟨fI, fd, ps, iC, tI, F1, b2, bK, b1⟩ := T.hmk
  refine ⟨fun pins s σ H Q I h => ?_⟩
  refine wpAny_Call_Name_kw (ld_glob I hg T.mgC ?_ hdb)
  exact PySem.W.callWith_K0 I.kIn T.oex.kC (run_mko (us := []) (y := .non) (u := .none) T.oex iC tI T.noF F1 hr (.inl rfl) (Nat.zero_le _) (fun self s' X' => b1 self s' X') rfl I h)
theorem pe_exB (T : ExB X.K X.mg x C) (hg : Gl X x) (hdb : (x == ("__debug__" : Str)) = false := by decide) : PE X (.Call (.Name x p) [] [] pos) (tMk0 C) := by
  obtain ⟨bmB, F, q⟩ := T.is
  refine ⟨fun pins s σ H Q I h => ?_⟩
  refine wpAny_Call_Name_kw (ld_glob I hg T.mgC ?_ hdb)
  refine PySem.W.callWith_K0 I.kIn T.kC ?_
  show wpAny _ _ (call (.ref C) []) _ _ _
  obtain ⟨bm, N, nm, qn, bs, hdct, sn, sub, ab, col, dd, k0, k1, k2, k3, k5, mN, hC, hN, hni, T'⟩ := exc_obj I.kIn q
  refine wpAny_call_exc_subT F T' hC hN hni (fun h' a hm => ?_) (Nat.zero_le _)
  have hn : H a = none := I.hok.gone hm.new
  obtain ⟨t, ht, _, _⟩ := hm.there
  exact ⟨.ref a, upd H a (ExO (.ref C) a), I.laidN hm.keeps hm.new hn (exO_ok ht ⟨rfl, rfl⟩ rfl rfl rfl (show 4 < 6 by decide)), rfl, h a _ (fun b o q => by rw [upd_ne (ne_of_none q hn)]; exact q) hn (.bare upd_same)⟩
end

end L2

set_option Elab.async false
set_option linter.all false
set_option maxRecDepth 100000
set_option maxHeartbeats 400000
namespace L2
open PySem PySem.Spec PyProof.Rows
def exArgs (f : Str) (p1 p2 p3 : Pos) : Arguments := { posonlyargs := [], args := [{ arg := "self", annotation := none, pos := p1 }, { arg := f, annotation := none, pos := p2 }], vararg := none, kwonlyargs := [], kw_defaults := [], kwarg := none, defaults := [.Constant .none 0 p3] }
def exBody (f : Str) (q1 q2 q3 q4 : Pos) : List Stmt := [.Assign [.Attribute (.Name "self" q1) f q2] (.Name f q3) q4]
def exScope (f : Str) : Scope := { kind := .function, names := [(PySem.Str.ofString "self", .local), (f, .local)], isGenerator := false, isCoroutine := false, more := [] }
section
variable {P : Program} {w : World} {K : PySem.W.Frag} {mg : Str → Option Value} {base : Heap} {x qual : Str} {C fI : Addr} {fd : FuncData} {p1 p2 p3 q1 q2 q3 q4 : Pos}
theorem one_none {its : List Value} (h : Vals [.non] its) : its = [.none] := by
  cases h with
  | cons r n =>
    cases n
    cases r
    rfl

theorem scEx_value : FnScope ["self", "value"] ["self", "value"] (exScope "value") := ⟨rfl, rfl, rfl, by decide +kernel, rfl, by decide +kernel, by decide +kernel⟩
theorem okEx_value (F : FunD K "__init__" qual (exArgs "value" p1 p2 p3) (exBody "value" q1 q2 q3 q4) (exScope "value") [.non] [] fI fd) : FnOk P w K mg base CX0 1 fI fd ["self", "value"] (spExI K "value") := by
  refine F.ok scEx_value (fun vs H Q E h => ?_) (fun cdv A outer s H vs Q E hr h => ?_)
  · obtain ⟨a, C, y, rfl, _⟩ := h
    rfl
  · obtain ⟨a, C, y, rfl, T, noF, ha, k⟩ := h
    exact ⟨_, pss_one (ps_ost (pv 0) (pv 1)), ⟨_, rfl, _, rfl, a, C, rfl, T, noF, .inl ⟨ha, k⟩⟩⟩
theorem bindEx_value (F : FunD K "__init__" qual (exArgs "value" p1 p2 p3) (exBody "value" q1 q2 q3 q4) (exScope "value") [.non] [] fI fd) :
    (∀ (self u : Value) (s' : Shared), K.In s'.heap → BindsTo s' fd ⟨[self, u], []⟩ ((["self", "value"] : List Str).zip [self, u])) ∧ (∀ (self u : Value) (s' : Shared), K.In s'.heap → BindsTo s' fd ⟨[self], [("value", u)]⟩ ((["self", "value"] : List Str).zip [self, u])) ∧
    (∀ (self : Value) (s' : Shared), K.In s'.heap → BindsTo s' fd ⟨[self], []⟩ ((["self", "value"] : List Str).zip [self, .none])) := by
  obtain ⟨oc, od, dV, kV, doc, pm, an, cdv, ct, osl, rfl, lk, hcd, hD, hK⟩ := F.ex
  rcases hD with ⟨e, _⟩ | ⟨_, T, o, its, m, rfl, lT, oT, rT⟩
  · cases e
  · obtain rfl := one_none rT
    refine ⟨fun self u s' X => BindsTo.of_looks fun M => ?_, fun self u s' X => BindsTo.of_looks fun M => ?_, fun self s' X => BindsTo.of_looks fun M => ?_⟩
    · have e : ∃ k, bindArgs (PySem.W.fnOf "__init__" qual (exArgs "value" p1 p2 p3) (exBody "value" q1 q2 q3 q4) (exScope "value") (.ref T) kV doc pm an cdv ct) ⟨[self, u], []⟩ = seqItems? (.ref T) >>= k ∧ k (some [Value.none].toArray) = pure ((["self", "value"] : List Str).zip [self, u]) := ⟨_, rfl, rfl⟩
      obtain ⟨k, e1, e2⟩ := e
      rw [e1]
      exact looks_items X lT oT (.of_pure e2)
    · have e : ∃ k, bindArgs (PySem.W.fnOf "__init__" qual (exArgs "value" p1 p2 p3) (exBody "value" q1 q2 q3 q4) (exScope "value") (.ref T) kV doc pm an cdv ct) ⟨[self], [("value", u)]⟩ = seqItems? (.ref T) >>= k ∧ k (some [Value.none].toArray) = pure ((["self", "value"] : List Str).zip [self, u]) := ⟨_, rfl, rfl⟩
      obtain ⟨k, e1, e2⟩ := e
      rw [e1]
      exact looks_items X lT oT (.of_pure e2)
    · have e : ∃ k, bindArgs (PySem.W.fnOf "__init__" qual (exArgs "value" p1 p2 p3) (exBody "value" q1 q2 q3 q4) (exScope "value") (.ref T) kV doc pm an cdv ct) ⟨[self], []⟩ = seqItems? (.ref T) >>= k ∧ k (some [Value.none].toArray) = pure ((["self", "value"] : List Str).zip [self, .none]) := ⟨_, rfl, rfl⟩
      obtain ⟨k, e1, e2⟩ := e
      rw [e1]
      exact looks_items X lT oT (.of_pure e2)
theorem exm_value (gC : mg x = some (.ref C)) (oex : OexC K C) (xc : ExcC K C) (noF : PySem.W.findIn K (.ref C) "value" = some none) (iC : PySem.W.findIn K (.ref C) "__init__" = some (some (.ref fI))) (tI : PySem.W.typeIn K (.ref fI) = some (.type "function"))
    (F : FunD K "__init__" qual (exArgs "value" p1 p2 p3) (exBody "value" q1 q2 q3 q4) (exScope "value") [.non] [] fI fd) : ExM P w K mg base x C "value" :=
  ⟨gC, oex, xc, noF, fI, fd, _, iC, tI, okEx_value F, bindEx_value F⟩

theorem scEx_name : FnScope ["self", "name"] ["self", "name"] (exScope "name") := ⟨rfl, rfl, rfl, by decide +kernel, rfl, by decide +kernel, by decide +kernel⟩
theorem okEx_name (F : FunD K "__init__" qual (exArgs "name" p1 p2 p3) (exBody "name" q1 q2 q3 q4) (exScope "name") [.non] [] fI fd) : FnOk P w K mg base CX0 1 fI fd ["self", "name"] (spExI K "name") := by
  refine F.ok scEx_name (fun vs H Q E h => ?_) (fun cdv A outer s H vs Q E hr h => ?_)
  · obtain ⟨a, C, y, rfl, _⟩ := h
    rfl
  · obtain ⟨a, C, y, rfl, T, noF, ha, k⟩ := h
    exact ⟨_, pss_one (ps_ost (pv 0) (pv 1)), ⟨_, rfl, _, rfl, a, C, rfl, T, noF, .inl ⟨ha, k⟩⟩⟩
theorem bindEx_name (F : FunD K "__init__" qual (exArgs "name" p1 p2 p3) (exBody "name" q1 q2 q3 q4) (exScope "name") [.non] [] fI fd) :
    (∀ (self u : Value) (s' : Shared), K.In s'.heap → BindsTo s' fd ⟨[self, u], []⟩ ((["self", "name"] : List Str).zip [self, u])) ∧ (∀ (self u : Value) (s' : Shared), K.In s'.heap → BindsTo s' fd ⟨[self], [("name", u)]⟩ ((["self", "name"] : List Str).zip [self, u])) ∧
    (∀ (self : Value) (s' : Shared), K.In s'.heap → BindsTo s' fd ⟨[self], []⟩ ((["self", "name"] : List Str).zip [self, .none])) := by
  obtain ⟨oc, od, dV, kV, doc, pm, an, cdv, ct, osl, rfl, lk, hcd, hD, hK⟩ := F.ex
  rcases hD with ⟨e, _⟩ | ⟨_, T, o, its, m, rfl, lT, oT, rT⟩
  · cases e
  · obtain rfl := one_none rT
    refine ⟨fun self u s' X => BindsTo.of_looks fun M => ?_, fun self u s' X => BindsTo.of_looks fun M => ?_, fun self s' X => BindsTo.of_looks fun M => ?_⟩
    · have e : ∃ k, bindArgs (PySem.W.fnOf "__init__" qual (exArgs "name" p1 p2 p3) (exBody "name" q1 q2 q3 q4) (exScope "name") (.ref T) kV doc pm an cdv ct) ⟨[self, u], []⟩ = seqItems? (.ref T) >>= k ∧ k (some [Value.none].toArray) = pure ((["self", "name"] : List Str).zip [self, u]) := ⟨_, rfl, rfl⟩
      obtain ⟨k, e1, e2⟩ := e
      rw [e1]
      exact looks_items X lT oT (.of_pure e2)
    · have e : ∃ k, bindArgs (PySem.W.fnOf "__init__" qual (exArgs "name" p1 p2 p3) (exBody "name" q1 q2 q3 q4) (exScope "name") (.ref T) kV doc pm an cdv ct) ⟨[self], [("name", u)]⟩ = seqItems? (.ref T) >>= k ∧ k (some [Value.none].toArray) = pure ((["self", "name"] : List Str).zip [self, u]) := ⟨_, rfl, rfl⟩
      obtain ⟨k, e1, e2⟩ := e
      rw [e1]
      exact looks_items X lT oT (.of_pure e2)
    · have e : ∃ k, bindArgs (PySem.W.fnOf "__init__" qual (exArgs "name" p1 p2 p3) (exBody "name" q1 q2 q3 q4) (exScope "name") (.ref T) kV doc pm an cdv ct) ⟨[self], []⟩ = seqItems? (.ref T) >>= k ∧ k (some [Value.none].toArray) = pure ((["self", "name"] : List Str).zip [self, .none]) := ⟨_, rfl, rfl⟩
      obtain ⟨k, e1, e2⟩ := e
      rw [e1]
      exact looks_items X lT oT (.of_pure e2)
theorem exm_name (gC : mg x = some (.ref C)) (oex : OexC K C) (xc : ExcC K C) (noF : PySem.W.findIn K (.ref C) "name" = some none) (iC : PySem.W.findIn K (.ref C) "__init__" = some (some (.ref fI))) (tI : PySem.W.typeIn K (.ref fI) = some (.type "function"))
    (F : FunD K "__init__" qual (exArgs "name" p1 p2 p3) (exBody "name" q1 q2 q3 q4) (exScope "name") [.non] [] fI fd) : ExM P w K mg base x C "name" :=
  ⟨gC, oex, xc, noF, fI, fd, _, iC, tI, okEx_name F, bindEx_name F⟩

theorem scEx_place : FnScope ["self", "place"] ["self", "place"] (exScope "place") := ⟨rfl, rfl, rfl, by decide +kernel, rfl, by decide +kernel, by decide +kernel⟩
theorem okEx_place (F : FunD K "__init__" qual (exArgs "place" p1 p2 p3) (exBody "place" q1 q2 q3 q4) (exScope "place") [.non] [] fI fd) : FnOk P w K mg base CX0 1 fI fd ["self", "place"] (spExI K "place") := by
  refine F.ok scEx_place (fun vs H Q E h => ?_) (fun cdv A outer s H vs Q E hr h => ?_)
  · obtain ⟨a, C, y, rfl, _⟩ := h
    rfl
  · obtain ⟨a, C, y, rfl, T, noF, ha, k⟩ := h
    exact ⟨_, pss_one (ps_ost (pv 0) (pv 1)), ⟨_, rfl, _, rfl, a, C, rfl, T, noF, .inl ⟨ha, k⟩⟩⟩
theorem bindEx_place (F : FunD K "__init__" qual (exArgs "place" p1 p2 p3) (exBody "place" q1 q2 q3 q4) (exScope "place") [.non] [] fI fd) :
    (∀ (self u : Value) (s' : Shared), K.In s'.heap → BindsTo s' fd ⟨[self, u], []⟩ ((["self", "place"] : List Str).zip [self, u])) ∧ (∀ (self u : Value) (s' : Shared), K.In s'.heap → BindsTo s' fd ⟨[self], [("place", u)]⟩ ((["self", "place"] : List Str).zip [self, u])) ∧
    (∀ (self : Value) (s' : Shared), K.In s'.heap → BindsTo s' fd ⟨[self], []⟩ ((["self", "place"] : List Str).zip [self, .none])) := by
  obtain ⟨oc, od, dV, kV, doc, pm, an, cdv, ct, osl, rfl, lk, hcd, hD, hK⟩ := F.ex
  rcases hD with ⟨e, _⟩ | ⟨_, T, o, its, m, rfl, lT, oT, rT⟩
  · cases e
  · obtain rfl := one_none rT
    refine ⟨fun self u s' X => BindsTo.of_looks fun M => ?_, fun self u s' X => BindsTo.of_looks fun M => ?_, fun self s' X => BindsTo.of_looks fun M => ?_⟩
    · have e : ∃ k, bindArgs (PySem.W.fnOf "__init__" qual (exArgs "place" p1 p2 p3) (exBody "place" q1 q2 q3 q4) (exScope "place") (.ref T) kV doc pm an cdv ct) ⟨[self, u], []⟩ = seqItems? (.ref T) >>= k ∧ k (some [Value.none].toArray) = pure ((["self", "place"] : List Str).zip [self, u]) := ⟨_, rfl, rfl⟩
      obtain ⟨k, e1, e2⟩ := e
      rw [e1]
      exact looks_items X lT oT (.of_pure e2)
    · have e : ∃ k, bindArgs (PySem.W.fnOf "__init__" qual (exArgs "place" p1 p2 p3) (exBody "place" q1 q2 q3 q4) (exScope "place") (.ref T) kV doc pm an cdv ct) ⟨[self], [("place", u)]⟩ = seqItems? (.ref T) >>= k ∧ k (some [Value.none].toArray) = pure ((["self", "place"] : List Str).zip [self, u]) := ⟨_, rfl, rfl⟩
      obtain ⟨k, e1, e2⟩ := e
      rw [e1]
      exact looks_items X lT oT (.of_pure e2)
    · have e : ∃ k, bindArgs (PySem.W.fnOf "__init__" qual (exArgs "place" p1 p2 p3) (exBody "place" q1 q2 q3 q4) (exScope "place") (.ref T) kV doc pm an cdv ct) ⟨[self], []⟩ = seqItems? (.ref T) >>= k ∧ k (some [Value.none].toArray) = pure ((["self", "place"] : List Str).zip [self, .none]) := ⟨_, rfl, rfl⟩
      obtain ⟨k, e1, e2⟩ := e
      rw [e1]
      exact looks_items X lT oT (.of_pure e2)
theorem exm_place (gC : mg x = some (.ref C)) (oex : OexC K C) (xc : ExcC K C) (noF : PySem.W.findIn K (.ref C) "place" = some none) (iC : PySem.W.findIn K (.ref C) "__init__" = some (some (.ref fI))) (tI : PySem.W.typeIn K (.ref fI) = some (.type "function"))
    (F : FunD K "__init__" qual (exArgs "place" p1 p2 p3) (exBody "place" q1 q2 q3 q4) (exScope "place") [.non] [] fI fd) : ExM P w K mg base x C "place" :=
  ⟨gC, oex, xc, noF, fI, fd, _, iC, tI, okEx_place F, bindEx_place F⟩
end
end L2

set_option Elab.async false
set_option linter.all false
set_option maxRecDepth 100000
set_option maxHeartbeats 1000000
namespace L2
open PySem PySem.Spec PyProof.Rows
/-- a def's promise where no repr is under way around it -/
structure FnG (P : Program) (w : World) (K : PySem.W.Frag) (mg : Str → Option Value) (base : Heap) (k : Nat) (f : Addr) (fd : FuncData) (ps : List Str) (sp : Sp) : Prop where
  len : ∀ vs H Q E, sp vs H Q E → vs.length = ps.length
  go : ∀ (A : Around) (outer : List Env) (s : Shared) (H : Hp) (args : Args) (us : List Value) (vs : List V) (Q : VK) (E : XK), A.guards = some [] → Room k A → Env0 P w K mg base A outer s H → BindsTo s fd args (ps.zip us) → Vals vs us →
    sp vs H Q E → codeAny (model P w) A (.call (.ref f) args) (CR CX0 outer P w H s Q E) s
theorem FnOk.toG {P : Program} {w : World} {K : PySem.W.Frag} {mg : Str → Option Value} {base : Heap} {k : Nat} {f : Addr} {fd : FuncData} {ps : List Str} {sp : Sp} (F : FnOk P w K mg base CX0 k f fd ps sp) : FnG P w K mg base k f fd ps sp :=
  ⟨F.len, fun A outer s H args us vs Q E _ => F.run A outer s H args us vs Q E⟩
section
variable {P : Program} {w : World} {K : PySem.W.Frag} {mg : Str → Option Value} {base : Heap}
theorem Fun.okG {x qual : Str} {st : Stmt} {f : Addr} {fd : FuncData} {N ps : List Str} {k : Nat} {sp : Sp} (F : Fun K x qual st f fd) (S : FnScope N ps (defScope st)) (len : ∀ vs H Q E, sp vs H Q E → vs.length = ps.length)
    (body : ∀ (cdv : Value) (A : Around) (outer : List Env) (s : Shared) (H : Hp) (vs : List V) (Q : VK) (E : XK), A.guards = some [] → Room k (A.deeper (envOfC qual (defScope st) s.heap.objs.size f cdv)) → sp vs H Q E →
      ∃ t, PSs (cxOf CX0 P w K mg base N qual (defScope st) f cdv A outer s H E).nox (defBody st) t ∧ t { nx := fun _ H' => Q .non H', rt := Q } (start N vs) H) : FnG P w K mg base (k + 1) f fd ps sp := by
  obtain ⟨oc, od, kV, doc, pm, an, cdv, ct, osl, rfl, lk, hcd⟩ := F.ex
  refine ⟨len, fun A outer s H args us vs Q E gA hr e0 hb r hsp => ?_⟩
  have kept : ∀ b o, base.get? b = some o → s.heap.get? b = some o := fun b o e => (e0.bs b o e).1
  have kinds : ∀ y ∈ ps.zip us, (defScope st).names.lookup y.1 = some .local ∨ ((defScope st).names.lookup y.1 = some .cell ∧ ((cellsFrom (s.heap.objs.size + 1) (defScope st).names []).lookup y.1).isSome = true) := by
    rintro ⟨n, v⟩ hy
    exact (S.par n (List.of_mem_zip hy).1).imp id fun q => ⟨q, PySem.W.cellsFrom_some _ _ _ (.inl q)⟩
  obtain ⟨t, ht, hq⟩ := body cdv A outer s H vs Q E gA (hr.deeper _) hsp
  refine codeAny_call_function hr.depth (e0.mod.kin.keeps kept _ _ lk) rfl S.co S.gen rfl (PySem.W.codeRec_of (e0.mod.kin.keeps kept) hcd) (hb _ _ _ _ (wpAny_newFunctionEnv_cells S.kind kinds ?_))
  intro env he s1 x
  subst he
  refine ⟨(e0.mod.nolimit.keeps kept).keeps x.toInCall.keep, codeAny_func (wpAny_mono (ht.nox.run [] s1 (start N vs) H _ (inv_start S hr.hd e0 (len _ _ _ _ hsp) r x) hq) (fun fl s' hs => ?_) fun _ _ z => z)⟩
  have done : ∀ {σ' : St} {H' : Hp} {v : V} {u : Value}, Inv (cxOf CX0 P w K mg base N qual (defScope st) f cdv A outer s H E) [] σ' H' s' → RelV v u → Q v H' → CE outer P w H s Q u s' :=
    fun {σ' H' v u} J rv q => ⟨v, H', J.os, J.bare, J.base, J.hok, rv, q⟩
  match fl, hs with
  | .ret _, ⟨_, _, _, J, rv, q⟩ => exact done J rv q
  | .next, ⟨_, _, J, q⟩ => exact done (v := V.non) (u := Value.none) J rfl q
  | .brk, ⟨_, _, _, q⟩ => exact q.elim
  | .cont, ⟨_, _, _, q⟩ => exact q.elim
end
/-- the script alone may be tracked, as a thing known to the object; then the law's call -/
theorem call_lawG {P : Program} {w : World} {K : PySem.W.Frag} {mg mb : Str → Option Value} {k : Nat} {fa a : Addr} {fd : FuncData} {x : Str} {sp : Sp} {s₁ : Shared} {vs : List Value} {ns : List Int}
    (KX : K.In s₁.heap) (hns : s₁.heap.Ns mainGlobals mg) (hb : s₁.heap.Ns builtinsNs mb) (hbb : ∀ x : Str, x ≠ "__name__" → mb x = bootBuiltins x) (hlim : s₁.heap.NoLimit) (hg : s₁.gens = #[])
    (ha : s₁.heap.get? a = some { cls := .type "list", data := .seq vs.toArray }) (hi : IntsAre vs ns) (hl : ns.length ≤ sizeLine) (hr : Room k callerA)
    (F : ∀ base : Heap, K.In base → base.Ns mainGlobals mg → FnG P w K mg base k fa fd [x] sp) (hbind : ∀ (s : Shared) (u : Value), BindsTo s fd ⟨[u], []⟩ [(x, u)])
    (hsp : ∀ H : Hp, SqL K H a (ns.map V.int) → (∀ b u, H b = some u → ∃ o xs, u = .frz o (.lst xs)) → sp [.ref a] H (fun v _ => v = .bl true) fun _ _ _ => False) :
    codeAny (model P w) callerA (.call (.ref fa) ⟨[.ref a], []⟩) (fun r s' => r = .ok (.ret (.bool true)) ∧ OldK s₁.heap s'.heap ∧ s'.os = s₁.os ∧ AllBare s'.gens) s₁ := by
  have rv := vals_ints hi
  have from_ : ∀ H : Hp, SqL K H a (ns.map V.int) → HOk P w H s₁.heap → (∀ b u, H b = some u → b = a ∧ K.lookup a = none ∧ ∃ o xs, u = .frz o (.lst xs)) →
      codeAny (model P w) callerA (.call (.ref fa) ⟨[.ref a], []⟩) (fun r s' => r = .ok (.ret (.bool true)) ∧ OldK s₁.heap s'.heap ∧ s'.os = s₁.os ∧ AllBare s'.gens) s₁ := by
    intro H hS hok only
    have un_ : ∀ {b : Addr}, b ≠ a → H b = none := fun {b} n => by
      rcases q : H b with _ | u
      · rfl
      · exact absurd (only b u q).1 n
    have nsK : ∀ {b : Addr} {m : Str → Option Value}, s₁.heap.Ns b m → (hidT s₁.heap H).Ns b m := fun {b m} hn => by
      obtain ⟨o, es, ep, e, d, r⟩ := hn
      refine ⟨o, es, ep, hidT_get e (un_ fun z => ?_), d, r⟩
      rw [z, ha] at e
      obtain rfl := Option.some.inj e
      cases d
    have hKb : K.In (hidT s₁.heap H) := fun b o e => hidT_get (KX b o e) (by
      rcases q : H b with _ | u
      · rfl
      · obtain ⟨z, n, _⟩ := only b u q
        rw [z, n] at e
        cases e)
    obtain ⟨mc, c1, c2⟩ := hlim
    have e0 : Env0 P w K mg (hidT s₁.heap H) callerA [] s₁ H :=
      ⟨rfl, ⟨hKb, nsK hns, ⟨mb, nsK hb, hbb⟩, ⟨mc, nsK c1, c2⟩⟩, fun b o e => of_hidT e, Nat.le_of_eq (hidT_size _ _), trivial, fun b z => (List.not_mem_nil z).elim, hok, .of_eq hg⟩
    refine codeAny_mono ((F _ hKb (nsK hns)).go callerA [] s₁ H ⟨[.ref a], []⟩ [.ref a] [.ref a] _ _ rfl hr e0 (hbind s₁ (.ref a)) (.cons rfl .nil) (hsp H hS fun b u q => (only b u q).2.2)) fun r s' h => ?_
    match r, h with
    | .ok (.ret u), ⟨v, H', os, bare, un, hok', r', q⟩ =>
      obtain rfl : v = .bl true := q
      obtain rfl : u = Value.bool true := r'
      refine ⟨rfl, OldK.of_keep fun b o e => ?_, os, bare⟩
      rcases z : H b with _ | u
      · exact un.keep b o e z (fun y => List.not_mem_nil y) (fun y => List.not_mem_nil y)
      · obtain ⟨_, _, ob, xs, rfl⟩ := only b u z
        have e1 := (hok b _ z).1
        rw [e] at e1
        obtain rfl := Option.some.inj e1
        exact (hok' b _ (un.frzs b o _ z)).1
  rcases hk : K.lookup a with _ | o
  · refine from_ (fun b => if b = a then some (.frz { cls := .type "list", data := .seq vs.toArray } (.lst (ns.map V.int))) else none) (.inl (.inr ⟨_, if_pos rfl⟩)) (fun b u z => ?_) fun b u z => ?_
    all_goals
      (try dsimp only at z)
      by_cases n : b = a
      · rw [if_pos n] at z
        obtain rfl := Option.some.inj z
        first
          | exact ⟨n, hk, _, _, rfl⟩
          | (subst n; exact ⟨ha, by rw [List.length_map]; exact hl, vs, _, rv, ha⟩)
      · rw [if_neg n] at z
        cases z
  · have e := KX a o hk
    rw [ha] at e
    obtain rfl := Option.some.inj e
    exact from_ (fun _ => none) (.inr ⟨_, vs.toArray, _, hk, rfl, rfl, rfl, by rw [List.size_toArray, hi.length]; exact hl, by simpa using rv⟩) (fun b u z => by cases (show (none : Option HO) = some u from z)) fun b u z => by cases z
/-- the goal that the head leaves, from the law's promise -/
theorem walk_ofG {l : PySem.W.OpenLaw} {n k : Nat} {q : Program} {loose : List Str} {XP : (Str → Option Value) → Heap → Prop} {YP : World → Heap → Prop} {d : DefRec} {K : Params → PySem.W.Frag} {sp : World → Sp} {x : Str}
    (hn : l.most = some n) (hn2 : n ≤ sizeLine) (hdf : d.params.defaults = []) (hr : Room k callerA) (hY : ∀ (w : World) (h : Heap), YP w h → (K w.params).In h)
    (F : ∀ (w : World) (mg : Str → Option Value) (fa : Addr) (h : Heap), (K w.params).In h → h.Ns mainGlobals mg → mg d.name = some (.ref fa) →
      ∃ fd : FuncData, (∀ (s : Shared) (u : Value), BindsTo s fd ⟨[u], []⟩ [(x, u)]) ∧ ∀ base : Heap, (K w.params).In base → base.Ns mainGlobals mg → FnG l.prog w (K w.params) mg base k fa fd [x] (sp w))
    (hsp : ∀ (w : World) (H : Hp) (a : Addr) (ns : List Int), ns.length ≤ n → SqL (K w.params) H a (ns.map V.int) → (∀ b u, H b = some u → ∃ o xs, u = .frz o (.lst xs)) → sp w [.ref a] H (fun v _ => v = .bl true) fun _ _ _ => False) :
    PySem.W.WalkO q loose XP YP l.row.toRowW d [] (fun f vs => PySem.call f vs) := by
  refine Att.attach_call hn hdf ?_
  intro w s₀ s₁ mg mb fa o pm cd doc a vs ns G Y ho hd hcd hmg hobj hints hlen hg
  obtain ⟨fd, hb, hF⟩ := F w mg fa _ (hY w _ Y) G.T.g hmg
  exact call_lawG (hY w _ Y) G.T.g G.T.b G.T.builtins G.T.nolimit hg hobj hints (Nat.le_trans hlen hn2) hr hF hb fun H hS o => hsp w H a ns hlen hS o
end L2

set_option Elab.async false
set_option linter.all false
set_option maxRecDepth 100000
set_option maxHeartbeats 1000000
namespace L2
open PySem PySem.Spec PyProof.Rows
/-- the looks that ExcC and OexC want, as one Bool each -/
def xcB (K : PySem.W.Frag) (D : Addr) : Bool :=
  decide (PySem.W.findIn K (.ref D) "__getattribute__" = some (some (.builtin "BaseException.__getattribute__"))) && decide (PySem.W.findIn K (.ref D) "__getattr__" = some none) && decide (PySem.W.subIn K (.ref D) (.type "BaseException") = some true) && PySem.W.hasDictIn K D &&
  decide (PySem.W.findIn K (.ref D) "__class__" = some (some (.builtin "object.__class__"))) && decide (PySem.W.specialIn K (.builtin "object.__class__") "__get__" = some (some (.builtin "getset_descriptor.__get__"))) && decide (PySem.W.takesIn K (.builtin "object.__class__") = some true) && decide (PySem.W.mroIn K D (.type "object") = some true)
theorem xc_of {K : PySem.W.Frag} {D : Addr} (h : xcB K D = true) : ExcC K D := by
  simp only [xcB, Bool.and_eq_true, decide_eq_true_eq] at h
  obtain ⟨⟨⟨⟨⟨⟨⟨h1, h2⟩, h3⟩, h4⟩, h5⟩, h6⟩, h7⟩, h8⟩ := h
  exact ⟨h1, h2, h3, h4, h5, h6, h7, h8⟩
def oexB (K : PySem.W.Frag) (C : Addr) : Bool :=
  (match K.lookup C with
  | some ⟨.type "type", _, .cls cd, sl⟩ => (match cd.mro, sl.toList with
    | .ref C' :: bm, [_, _, _, _, some (.builtin n), _] => C' == C && n == "ValueError.__new__" && cd.hasDict && !cd.hasDel && PySem.HandSPX.refsVE bm
    | _, _ => false)
  | _ => false) && decide (PySem.W.findIn K (.ref C) "__setattr__" = some (some (.builtin "object.__setattr__"))) && decide (PySem.W.subIn K (.ref C) (.type "BaseException") = some true) && decide (PySem.W.typeIn K (.ref C) = some (.type "type")) && PySem.W.keepIn K (.ref C)
theorem oex_of {K : PySem.W.Frag} {C : Addr} (h : oexB K C = true) : OexC K C := by
  simp only [oexB, Bool.and_eq_true, decide_eq_true_eq] at h
  obtain ⟨⟨⟨⟨q, h2⟩, h3⟩, h4⟩, h5⟩ := h
  refine ⟨?_, h2, h3, h4, h5⟩
  split at q
  · rename_i dd cd sl ho
    split at q
    · rename_i C' bm k0 k1 k2 k3 n k5 hm hs
      simp only [Bool.and_eq_true, beq_iff_eq, Bool.not_eq_true'] at q
      obtain ⟨⟨⟨⟨rfl, rfl⟩, hd⟩, hdel⟩, ht⟩ := q
      obtain ⟨nm, bs, mro, ns, qn, hD, sn, sub, ab, col, del⟩ := cd
      obtain ⟨l⟩ := sl
      dsimp only at hm hdel hd hs
      subst hm hdel hd hs
      exact ⟨nm, qn, ns, bs, bm, sn, sub, ab, col, dd, k0, k1, k2, k3, k5, ho, ht⟩
    · cases q
  · cases q
/-- isinstance between own classes at cs: each is of itself alone -/
def apartB (K : PySem.W.Frag) (cs : List Addr) : Bool :=
  (List.range cs.length).all fun i => (List.range cs.length).all fun j => match cs[i]?, cs[j]? with
    | some c, some d => decide (PySem.W.kitOne K (.ref c) (.ref d) = some (decide (j = i)))
    | _, _ => false
theorem apart_of {K : PySem.W.Frag} {cs : List Addr} (h : apartB K cs = true) {i j : Nat} {c d : Addr} (hi : cs[i]? = some c) (hj : cs[j]? = some d) : PySem.W.kitOne K (.ref c) (.ref d) = some (decide (j = i)) := by
  have li := (List.getElem?_eq_some_iff.mp hi).1
  have lj := (List.getElem?_eq_some_iff.mp hj).1
  have h1 := List.all_eq_true.mp (List.all_eq_true.mp h i (List.mem_range.mpr li)) j (List.mem_range.mpr lj)
  rw [hi, hj] at h1
  exact of_decide_eq_true h1
def allB (cs : List Addr) (f : Addr → Bool) : Bool := cs.all f
theorem allB_of {cs : List Addr} {f : Addr → Bool} (h : allB cs f = true) {i : Nat} {c : Addr} (hi : cs[i]? = some c) : f c = true := List.all_eq_true.mp h c (List.mem_of_getElem? hi)
theorem Same.upd {H : Hp} {p : Addr} {o : HO} (h : H p = none) : Same H (L2.upd H p o) := fun b u q => by
  rw [upd_ne (ne_of_none q h)]
  exact q
/-- isinstance(x, C), x a name that holds an exception, C an own class or a built-in type -/
def tIsi (K : PySem.W.Frag) (i : Nat) (u : Value) : TE := fun σ H Q => ∃ e D fs b, σ[i]? = some (some (V.ref e)) ∧ ExT H e D fs ∧ ExcC K D ∧ PySem.W.kitOne K (.ref D) u = some b ∧ Q (.bl b) H
section
variable {X : Cx} {x y : Str} {C : Addr} {p q r pos : Pos} {i : Nat}
theorem pe_isi (hm : X.mg "isinstance" = none) (gC : X.mg y = some (.ref C)) (hN : X.N[i]? = some x := by rfl) (hv : Vis X.env.scope x := by first | exact Or.inl rfl | exact Or.inr (Or.inl rfl) | exact Or.inr (Or.inr rfl)) (hg : Gl X "isinstance" := by rfl) (hy : Gl X y := by rfl)
    (hd : (x == ("__debug__" : Str)) = false := by decide) (hcd : (x == ("__classdict__" : Str)) = false := by decide) (hd2 : (y == ("__debug__" : Str)) = false := by decide)
    (he : starEach (Expr.Name x q :: [Expr.Name y r]) X.env = (false, eval (Expr.Name x q) X.env) :: starEach [Expr.Name y r] X.env := by rfl) (hpl : (backTo pos (starEach [Expr.Name y r] X.env)).any (·.1) = false := by rfl)
    (he2 : starEach [Expr.Name y r] X.env = (false, eval (Expr.Name y r) X.env) :: starEach [] X.env := by rfl) :
    PE X (.Call (.Name "isinstance" p) [.Name x q, .Name y r] [] pos) (tIsi X.K i (.ref C)) := by
  refine ⟨fun pins s σ H Q I h => ?_⟩
  obtain ⟨e, D, fs, b, hs, ex, T, hk, hq⟩ := h
  exact (pe_callB (t := tCons (tVar i) (tCons (tC (.ref C)) tNil)) call_isX hg hm (by decide +kernel) (pa_cons (pv i hN hv hd hcd) (pa_cons (pe_glob hy gC rfl hd2) pa_nil) )).run pins s σ H Q I ⟨_, hs, e, D, fs, _, _, b, rfl, .own C, ex, T, hk, hq⟩
theorem pe_isiT {n : String} (hm : X.mg "isinstance" = none) (hmy : X.mg y = none) (hvy : bootBuiltins y = some (.type n)) (hN : X.N[i]? = some x := by rfl) (hv : Vis X.env.scope x := by first | exact Or.inl rfl | exact Or.inr (Or.inl rfl) | exact Or.inr (Or.inr rfl)) (hg : Gl X "isinstance" := by rfl) (hy : Gl X y := by rfl)
    (hd : (x == ("__debug__" : Str)) = false := by decide) (hcd : (x == ("__classdict__" : Str)) = false := by decide) (hn2 : y ≠ "__name__" := by decide) (hd2 : (y == ("__debug__" : Str)) = false := by decide)
    (he : starEach (Expr.Name x q :: [Expr.Name y r]) X.env = (false, eval (Expr.Name x q) X.env) :: starEach [Expr.Name y r] X.env := by rfl) (hpl : (backTo pos (starEach [Expr.Name y r] X.env)).any (·.1) = false := by rfl)
    (he2 : starEach [Expr.Name y r] X.env = (false, eval (Expr.Name y r) X.env) :: starEach [] X.env := by rfl) :
    PE X (.Call (.Name "isinstance" p) [.Name x q, .Name y r] [] pos) (tIsi X.K i (.type n)) := by
  refine ⟨fun pins s σ H Q I h => ?_⟩
  obtain ⟨e, D, fs, b, hs, ex, T, hk, hq⟩ := h
  exact (pe_callB (t := tCons (tVar i) (tCons (tC (.ty n)) tNil)) call_isX hg hm (by decide +kernel) (pa_cons (pv i hN hv hd hcd) (pa_cons (pe_bltn hy hmy hvy rfl hn2 hd2) pa_nil) )).run pins s σ H Q I ⟨_, hs, e, D, fs, _, _, b, rfl, .ty n, ex, T, hk, hq⟩
end
end L2

set_option Elab.async false
set_option linter.all false
set_option maxRecDepth 100000
set_option maxHeartbeats 1000000
namespace L2
open PySem PySem.Spec PyProof.Rows
/-- v shows as the data d: data without dicts, or a flat dict -/
inductive Shw (K : PySem.W.Frag) (H : Hp) : V → PyData → Prop where
  | dp {v : V} {d : PyData} (h : Dp K H v d) (n : d.hasDict = false) : Shw K H v d
  | d0 {q : Addr} (h : H q = some (.dK [])) : Shw K H (.ref q) (.dict [])
  | d1 {q : Addr} {x : Str} {i : Int} (h : H q = some (.dK [(.inr x, .int i)])) : Shw K H (.ref q) (.dict [(.str x, .int i)])
section
variable {X : Cx} {pins : List (Addr × Obj)} {σ : St} {H : Hp} {s : Shared}
theorem Shw.reads (I : Inv X pins σ H s) {v : V} {d : PyData} {u : Value} (h : Shw X.K H v d) (r : RelV v u) : ∃ as, Reads s.heap u d as ∧ (d.hasDict = true → sysModules ∉ as) := by
  cases h with
  | dp h n =>
    obtain ⟨as, q⟩ := Dp.reads I d v u h r
    exact ⟨as, q, fun z => by rw [n] at z; cases z⟩
  | @d0 q h =>
    obtain rfl : u = Value.ref q := r
    obtain ⟨_, ne, vs, kv, o, es, ep, ho, ex, hd, _, ps, _⟩ := dk_of I.hok h
    cases kv
    have e0 : es.toList = [] := by
      cases hl : es.toList with
      | nil => rfl
      | cons a l => rw [hl] at ps; cases ps
    refine ⟨_, Reads.dict (kvs := []) ho ex.1 hd (by rw [e0]; exact .nil) (by rw [e0]; exact .nil), fun _ hm => ?_⟩
    have hm' : sysModules ∈ [q] := by simpa using hm
    have e : sysModules = q := by simpa using hm'
    rw [← e] at ne
    exact absurd ne (by decide)
  | @d1 q x i h =>
    obtain rfl : u = Value.ref q := r
    obtain ⟨_, ne, vs, kv, o, es, ep, ho, ex, hd, _, ps, _⟩ := dk_of I.hok h
    cases kv with
    | @cons _ kw _ vs' hk kt =>
      cases kt
      obtain ⟨k, w'⟩ := kw
      obtain ⟨ek, ri⟩ := hk
      dsimp only at ek ri
      subst ek
      obtain ⟨t', rfl⟩ := (show ∃ t, w' = Value.int i t from ri)
      generalize hl : es.toList = l at ps
      cases ps with
      | @cons a _ l' _ k1 k2 pl =>
        cases pl
        rcases keyIs_shape (show keyIs (.inr x) a.key = true from k1) with ⟨_, _, z, _⟩ | ⟨y, ty, z, e2⟩
        · cases z
        · cases z
          refine ⟨_, Reads.dict (kvs := [(.str x, .int i)]) ho ex.1 hd (by rw [hl]; exact .cons (by show Reads s.heap a.key (.str x) _; rw [e2]; exact .str x ty) .nil) (by rw [hl]; exact .cons (by show Reads s.heap a.val (.int i) _; rw [k2]; exact .int i t') .nil), fun _ hm => ?_⟩
          have e : sysModules = q := by simpa using hm
          rw [← e] at ne
          exact absurd ne (by decide)
theorem Shw.readsAll (I : Inv X pins σ H s) {v : V} {d : PyData} (h : Shw X.K H v d) : ∀ (n : Nat) {us : List Value}, Vals (List.replicate n v) us → ∃ as, ReadsAll s.heap us (List.replicate n d) as ∧ (d.hasDict = true → sysModules ∉ as)
  | 0, _, .nil => ⟨_, .nil, fun _ hm => by cases hm⟩
  | n + 1, _, .cons r rs => by
    obtain ⟨as, q1, n1⟩ := Shw.reads I h r
    obtain ⟨bs, q2, n2⟩ := Shw.readsAll I h n rs
    exact ⟨_, .cons q1 q2, fun z hm => (List.mem_append.mp hm).elim (n1 z) (n2 z)⟩
end
theorem hasDict_rep (d : PyData) : ∀ n : Nat, PyData.hasDictAll (List.replicate n d) = true → d.hasDict = true
  | 0, h => by cases h
  | n + 1, h => by
    have h' : (d.hasDict || PyData.hasDictAll (List.replicate n d)) = true := h
    rcases Bool.or_eq_true_iff.mp h' with q | q
    · exact q
    · exact hasDict_rep d n q
theorem showable_rep {d : PyData} (h : d.showable = true) : ∀ n : Nat, PyData.showableAll (List.replicate n d) = true
  | 0 => rfl
  | n + 1 => by
    show (d.showable && PyData.showableAll (List.replicate n d)) = true
    rw [h, showable_rep h n]
    rfl
theorem depth_rep {d : PyData} : ∀ n : Nat, PyData.depthAll (List.replicate n d) ≤ d.depth
  | 0 => Nat.zero_le _
  | n + 1 => Nat.max_le.mpr ⟨Nat.le_refl _, depth_rep n⟩
/-- repr(xs), xs a list of one thing again and again -/
def rReprR (K : PySem.W.Frag) : List V → Hp → VK → Prop := fun xs H Q => ∃ (p : Addr) (n : Nat) (v : V) (d : PyData), xs = [.ref p] ∧ H p = some (.lst (List.replicate (n + 1) v)) ∧ Shw K H v d ∧ d.showable = true ∧ d.depth ≤ 20 ∧ (PyData.list (List.replicate (n + 1) d)).shown.length ≤ sizeLine ∧
  Q (.str (PyData.list (List.replicate (n + 1) d)).shown) H
theorem call_reprR {X : Cx} (hg : X.A.guards = some []) (hu : X.A.units + 64 < cLine) : CallR X (.builtin "repr") (rReprR X.K) := by
  intro pins s σ H xs us Q I r h
  obtain ⟨p, n, v, d, rfl, hp, hv, hs, hd, hz, q⟩ := h
  match us, r with
  | [_], .cons rp .nil =>
    obtain rfl := rp
    obtain ⟨_, its, m, rv, _, he⟩ := I.lstM hp
    obtain ⟨as, ra, na⟩ := Shw.readsAll I hv (n + 1) rv
    have hz' : (listText (PyData.shownAll (List.replicate (n + 1) d))).length ≤ sizeLine := by simpa only [PyData.shown] using hz
    obtain ⟨bs, hb, hk⟩ := ReprAllK.of_readsAll (prog := X.prog) (w := X.w) ra (showable_rep hs (n + 1)) (fun z => na (hasDict_rep d _ z)) (fun t ht => Nat.le_trans (listText_mem_le ht) hz')
    have out : Reads s.heap (.ref p) (.list (List.replicate (n + 1) d)) _ := .list he rfl rfl ra
    have dle : PyData.depthAll (List.replicate (n + 1) d) ≤ 20 := Nat.le_trans (depth_rep _) hd
    have hna : p ∉ bs := not_mem_of_deeper out (by simp only [PyData.depth]; omega) hb
    match its, rv, he, hk with
    | x :: l, _, he, hk =>
      refine call_repr_slot (T := "list") (idr := "list.__repr__") (by omega) ⟨_, he, rfl⟩ PySem.F.slot_list_repr.toG ?_
      refine call_list_reprK he rfl rfl hna (by simpa using hk.length_eq) (fun i y e => hk.item i y (by simpa using e)) hg (fun b _ => Clear.nil b) (by show X.A.units + 1 + _ < cLine; omega) (fun _ _ e => e) (fun h' u tk k => ?_) hz'
      exact ⟨_, _, rfl, .str (PyData.list (List.replicate (n + 1) d)).shown, H, I.kept (t' := tk) k, ⟨u, by simp only [PyData.shown]⟩, q⟩
/-- a text n times -/
def mulS (z : Str) (n : Int) : Str := if n < 1 then Str.empty else if (n == 1 || z.length == 0) = true then z else ⟨(List.replicate n.toNat z.cps).foldl (· ++ ·) #[]⟩
theorem op_mul_str {X : Cx} : OpR X (binaryOp .Mult) (fun x y H Q => ∃ (z : Str) (n : Int), x = .str z ∧ y = .int n ∧ 0 ≤ n ∧ n < 64 ∧ z.length ≤ 1000 ∧ (mulS z n).length ≤ sizeLine ∧ Q (.str (mulS z n)) H) := by
  intro pins s σ H x y v u Q I rx ry h
  obtain ⟨z, n, rfl, rfl, h0, h1, hz, hs, q⟩ := h
  obtain ⟨t, rfl⟩ := rx
  obtain ⟨t', rfl⟩ := ry
  refine PySem.P.mul_str (by rw [decide_eq_false (by omega), decide_eq_false (by omega)]; rfl) (fun h2 _ h3 => ?_) (fun h2 _ => ?_) ?_
  · have h4 : (2 ^ 63 - 1) / 64 ≤ ((2 ^ 63 - 1) / n : Int) := Int.le_ediv_of_mul_le (by omega) (by omega)
    omega
  · have h5 : z.length * n.toNat ≤ 1000 * 64 := Nat.mul_le_mul hz (by omega)
    unfold Builtin.Str.tooLong
    rw [sizeLine_eq]
    exact decide_eq_false (by omega)
  · unfold mulS at q hs
    by_cases c1 : n < 1
    · rw [if_pos c1] at q ⊢
      exact ⟨by decide, .str Str.empty, H, I.tok _, ⟨_, rfl⟩, q⟩
    · rw [if_neg c1] at q hs ⊢
      by_cases c2 : (n == 1 || z.length == 0) = true
      · rw [if_pos c2] at q ⊢
        exact ⟨.str z, H, I, ⟨_, rfl⟩, q⟩
      · rw [if_neg c2] at q hs ⊢
        exact ⟨hs, .str _, H, I.tok _, ⟨_, rfl⟩, q⟩
end L2

set_option Elab.async false
set_option linter.all false
set_option maxRecDepth 100000
set_option maxHeartbeats 1000000
namespace L2
open PySem PySem.Spec PyProof.Rows
/-- a new object at p, all else as it was: what is wanted of it -/
def NewQ (H : Hp) (o : HO) (Q : VK) : Prop := ∀ p H', Same H H' → H p = none → H' p = some o → Q (.ref p) H'
theorem NewQ.at {H : Hp} {o : HO} {Q : VK} (h : NewQ H o Q) {p : Addr} (n : H p = none) : Q (.ref p) (L2.upd H p o) := h p _ (Same.upd n) n upd_same
def tLstS (t : TA) : TE := fun σ H Q => t σ H fun xs H1 => xs.length ≤ sizeLine ∧ NewQ H1 (.lst xs) Q
def tTupS (t : TA) : TE := fun σ H Q => t σ H fun xs H1 => xs.length ≤ sizeLine ∧ NewQ H1 (.tup xs) Q
def rCatS : R2 := fun x y H Q => ∃ l b xs zs, x = .ref l ∧ y = .ref b ∧ H l = some (.lst xs) ∧ H b = some (.lst zs) ∧ xs.length + zs.length ≤ sizeLine ∧ NewQ H (.lst (xs ++ zs)) Q
def rRepS : R2 := fun x y H Q => ∃ l k xs, x = .ref l ∧ y = .int k ∧ H l = some (.lst xs) ∧ -(2 ^ 63) ≤ k ∧ k < 2 ^ 63 ∧ xs.length * k.toNat ≤ sizeLine ∧ NewQ H (.lst (List.replicate k.toNat xs).flatten) Q
def rSlW (K : PySem.W.Frag) : V → Option Int → Option Int → Hp → VK → Prop := fun x lo hi H Q => ∃ a xs, x = .ref a ∧ SqL K H a xs ∧ NewQ H (.lst (cutV xs lo hi)) Q
section
variable {X : Cx} {es : List Expr} {t : TA} {pos : Pos}
theorem pe_lstS (h : PA X es t) : PE X (.List es pos) (tLstS t) :=
  ⟨fun pins s σ H Q I hq => wpAny_List_spliced (thn (h.run pos pins s σ H _ I hq) fun us s1 ⟨xs, H1, I1, r, z, q⟩ => ⟨by rw [← r.length]; exact z,
    .ref s1.heap.objs.size, _, I1.laid (t' := s1.toks) (o := .lst xs) (fun _ _ e => Heap.get?_push_of_some _ e) (Nat.le_refl _) ⟨z, us, 0, r, Heap.get?_push_size _ rfl⟩, rfl, q.at I1.fresh⟩)⟩
theorem pe_tupS {x1} (h : PA X es t) : PE X (.Tuple es x1 pos) (tTupS t) :=
  ⟨fun pins s σ H Q I hq => wpAny_Tuple_spliced (thn (h.run pos pins s σ H _ I hq) fun us s1 ⟨xs, H1, I1, r, z, q⟩ => ⟨by rw [← r.length]; exact z,
    .ref s1.heap.objs.size, _, I1.laid (t' := s1.toks) (o := .tup xs) (fun _ _ e => Heap.get?_push_of_some _ e) (Nat.le_refl _) ⟨z, us, r, ⟨_, Heap.get?_push_size _ rfl, rfl, _, rfl⟩⟩, rfl, q.at I1.fresh⟩)⟩
theorem op_catS : OpR X (binaryOp .Add) rCatS := fun pins s σ H x y v u Q I rx ry ⟨l, b, xs, zs, e1, e2, h1, h2, hz, q⟩ => op_cat pins s σ H x y v u Q I rx ry ⟨l, b, xs, zs, e1, e2, h1, h2, hz, fun _ n => q.at n⟩
theorem op_repS : OpR X (binaryOp .Mult) rRepS := fun pins s σ H x y v u Q I rx ry ⟨l, k, xs, e1, e2, h1, h2, h3, hz, q⟩ => op_rep pins s σ H x y v u Q I rx ry ⟨l, k, xs, e1, e2, h1, h2, h3, hz, fun _ n => q.at n⟩
theorem sl_listS : SlR X (rSlW X.K) := fun pins s σ H x v vl vu lo hi sl Q I rx hs hl hh ⟨a, xs, e, h, q⟩ => sl_list pins s σ H x v vl vu lo hi sl Q I rx hs hl hh ⟨a, xs, e, h, fun _ n => q.at n⟩
/-- {} with text or int keys -/
theorem pe_dnewS : PE X (.Dict [] [] pos) (fun _ H Q => NewQ H (.dK []) Q) := ⟨fun pins s σ H Q I h => pe_dnewK.run pins s σ H Q I fun _ n => NewQ.at h n⟩
end
theorem Same.lst {H H' : Hp} {a : Addr} {o : HO} (S : Same H H') (h : H a = some o) : H' a = some o := S _ _ h
end L2

set_option Elab.async false
set_option linter.all false
set_option maxRecDepth 100000
set_option maxHeartbeats 1000000
/-! a + b, a * b, -a where a is an instance of an own class that says what they are. -/
namespace L2
open PySem PySem.Spec PyProof.Rows
theorem back_of {X : Cx} {pins : List (Addr × Obj)} {σ : St} {Q : VK} {u : Value} {s : Shared} (h : EP X pins σ Q u s) : PySem.W.CmpBack (EP X pins σ Q) u s := by
  obtain ⟨v, H, I, r, q⟩ := h
  have h : EP X pins σ Q u s := ⟨v, H, I, r, q⟩
  cases v with
  | non => obtain rfl := (show u = Value.none from r); exact h
  | bl b => obtain rfl := (show u = Value.bool b from r); exact h
  | int i => obtain ⟨t, rfl⟩ := (show ∃ t, u = Value.int i t from r); exact h
  | str i => obtain ⟨t, rfl⟩ := (show ∃ t, u = Value.str i t from r); exact h
  | byt i => obtain ⟨t, rfl⟩ := (show ∃ t, u = Value.bytes i t from r); exact h
  | flt i => obtain ⟨t, rfl⟩ := (show ∃ t, u = Value.float i t from r); exact h
  | ref a => obtain rfl := (show u = Value.ref a from r); exact h
  | ty n => obtain rfl := (show u = Value.type n from r); exact h
/-- what the class says of an operator's method -/
structure OwnOp (K : PySem.W.Frag) (C : Addr) (name : Str) (f : Addr) : Prop where
  first : PySem.W.selfFirst K C = true
  has : PySem.W.findIn K (.ref C) name = some (some (.ref f))
  fn : PySem.W.isFn K (.ref f) = true
/-- the same where the right side is a whole number: int's own slots, and no reflected method of the class's -/
structure OwnOpI (K : PySem.W.Frag) (C : Addr) (name : String) (f : Addr) : Prop where
  one : OwnOp K C (PySem.dunder name) f
  refl : ∃ rc, PySem.W.findIn K (.ref C) (dunderR name) = some rc ∧ (rc = none ∨ ∃ g : Addr, rc = some (.ref g))
  i1 : ∃ fo, PySem.W.findIn K (.type "int") (PySem.dunder name) = some fo
  i2 : ∃ ro, PySem.W.findIn K (.type "int") (dunderR name) = some ro
  sub : PySem.W.subIn K (.type "int") (.ref C) = some false
def rOwn (C : Addr) (sp : Sp) : R2 := fun x y H Q => ∃ p q dx fs dy gs, x = .ref p ∧ y = .ref q ∧ H p = some (.ins C dx fs) ∧ H q = some (.ins C dy gs) ∧ sp [x, y] H Q E0
def rOwnI (C : Addr) (sp : Sp) : R2 := fun x y H Q => ∃ p n dx fs, x = .ref p ∧ y = .int n ∧ H p = some (.ins C dx fs) ∧ sp [x, y] H Q E0
def rOwnN (C : Addr) (sp : Sp) : V → Hp → VK → Prop := fun x H Q => ∃ p dx fs, x = .ref p ∧ H p = some (.ins C dx fs) ∧ sp [x] H Q E0
section
variable {X : Cx} {op : Operator} {C f : Addr} {fd : FuncData} {ps : List Str} {sp : Sp} {k : Nat}
theorem inst_of {pins : List (Addr × Obj)} {σ : St} {H : Hp} {s : Shared} {p dx : Addr} {fs : List (Str × V)} (I : Inv X pins σ H s) (e : H p = some (.ins C dx fs)) : ∃ ox od, PySem.W.InstAt s.heap p ox C od := by
  obtain ⟨mA, O, _⟩ := ins_get I.hok e
  obtain ⟨od, J, _⟩ := O.look
  exact ⟨_, _, J⟩
theorem op_own (O : OwnOp X.K C (PySem.dunder op.info.2) f) (F : FnOk X.prog X.w X.K X.mg X.base CX0 k f fd ps sp) (hr : Room k X.A) (hb : Binds X.K fd ps []) : OpR X (binaryOp op) (rOwn C sp) := by
  intro pins s σ H x y v u Q I rx ry h
  obtain ⟨p, q, dx, fs, dy, gs, rfl, rfl, ep, eq, hq⟩ := h
  have run := run_fn (dvs := []) (E := E0) F hr hb .nil pass0 I (.cons rx (.cons ry .nil)) hq
  obtain rfl : v = Value.ref p := rx
  obtain rfl : u = Value.ref q := ry
  obtain ⟨ox, od, J⟩ := inst_of I ep
  obtain ⟨oy, oe, J2⟩ := inst_of I eq
  obtain ⟨m, fr⟩ := I.fr
  exact PySem.W.binop_K fr I.ok.mod.kin J J2.type O.first O.has O.fn (thn run fun _ _ z => back_of z)
theorem op_ownI (O : OwnOpI X.K C op.info.2 f) (F : FnOk X.prog X.w X.K X.mg X.base CX0 k f fd ps sp) (hr : Room k X.A) (hb : Binds X.K fd ps []) : OpR X (binaryOp op) (rOwnI C sp) := by
  intro pins s σ H x y v u Q I rx ry h
  obtain ⟨p, n, dx, fs, rfl, rfl, ep, hq⟩ := h
  have run := run_fn (dvs := []) (E := E0) F hr hb .nil pass0 I (.cons rx (.cons ry .nil)) hq
  obtain rfl : v = Value.ref p := rx
  obtain ⟨t, rfl⟩ := ry
  obtain ⟨ox, od, J⟩ := inst_of I ep
  obtain ⟨m, fr⟩ := I.fr
  obtain ⟨rc, r1, r2⟩ := O.refl
  obtain ⟨fo, i1⟩ := O.i1
  obtain ⟨ro, i2⟩ := O.i2
  exact PySem.W.ksp_binT fr I.ok.mod.kin J (T := "int") rfl O.one.first O.one.has O.one.fn r1 r2 i1 i2 O.sub (thn run fun _ _ z => back_of z)
theorem un_own (O : OwnOp X.K C "__neg__" f) (F : FnOk X.prog X.w X.K X.mg X.base CX0 k f fd ps sp) (hr : Room k X.A) (hb : Binds X.K fd ps []) : UnR X (unaryOp .USub) (rOwnN C sp) := by
  intro pins s σ H x v Q I rx h
  obtain ⟨p, dx, fs, rfl, ep, hq⟩ := h
  have run := run_fn (dvs := []) (E := E0) F hr hb .nil pass0 I (.cons rx .nil) hq
  obtain rfl : v = Value.ref p := rx
  obtain ⟨ox, od, J⟩ := inst_of I ep
  obtain ⟨m, fr⟩ := I.fr
  exact PySem.W.ksp_neg fr I.ok.mod.kin J O.has O.fn run
end
end L2

set_option Elab.async false
set_option linter.all false
set_option maxRecDepth 100000
set_option maxHeartbeats 1000000
/-! rows without forms: what is said of heaps, tests, powers -/
namespace L2
open PySem PySem.Spec PyProof.Rows
theorem iteD {p : Prop} [Decidable p] {A B : Prop} (h1 : p → A) (h2 : ¬ p → B) : if decide p = true then A else B := by
  by_cases h : p
  · rw [if_pos (decide_eq_true h)]; exact h1 h
  · rw [if_neg (by simpa using h)]; exact h2 h
theorem ifT {b : Bool} {A B : Prop} (h : b = true) (x : A) : if b = true then A else B := by rw [if_pos h]; exact x
theorem ifF {b : Bool} {A B : Prop} (h : b = false) (x : B) : if b = true then A else B := by rw [if_neg (by rw [h]; exact Bool.false_ne_true)]; exact x
def CPowX (i j : Int) : Prop := 0 ≤ j ∧ (Builtin.Int.intBits i : Int) * j ≤ 2 ^ 27
theorem op_powX {X : Cx} : OpR X (binaryOp .Pow) (rI CPowX fun i j => .int (i ^ j.toNat)) := opI fun _ _ _ _ _ _ _ hc q => pow_int hc.1 hc.2 q
/-- all but D as it was -/
def SameB (D : Addr) (H H' : Hp) : Prop := ∀ b o, b ≠ D → H b = some o → H' b = some o
theorem SameB.refl (D : Addr) (H : Hp) : SameB D H H := fun _ _ _ h => h
theorem SameB.to {D : Addr} {H H1 H2 : Hp} (S : SameB D H H1) (T : Same H1 H2) : SameB D H H2 := fun b o n h => T b o (S b o n h)
theorem SameB.trans {D : Addr} {H H1 H2 : Hp} (S : SameB D H H1) (T : SameB D H1 H2) : SameB D H H2 := fun b o n h => T b o n (S b o n h)
theorem SameB.upd {D : Addr} {H H1 : Hp} {o : HO} (S : SameB D H H1) : SameB D H (L2.upd H1 D o) := fun b u n h => by rw [upd_ne n]; exact S b u n h
theorem SqL.same {K : PySem.W.Frag} {H H' : Hp} {a : Addr} {xs : List V} (h : SqL K H a xs) (S : Same H H') : SqL K H' a xs := by
  rcases h with (h | ⟨o, h⟩) | h
  · exact .inl (.inl (S _ _ h))
  · exact .inl (.inr ⟨o, S _ _ h⟩)
  · exact .inr h
theorem SqL.sameB {K : PySem.W.Frag} {D : Addr} {H H' : Hp} {a : Addr} {xs : List V} (h : SqL K H a xs) (S : SameB D H H') (n : a ≠ D) : SqL K H' a xs := by
  rcases h with (h | ⟨o, h⟩) | h
  · exact .inl (.inl (S _ _ n h))
  · exact .inl (.inr ⟨o, S _ _ n h⟩)
  · exact .inr h
theorem seq_asg {te : TE} {i : Nat} {u : TS} {D : Ends} {σ : St} {H : Hp} (h : te σ H fun x H1 => u D (σ.set i (some x)) H1) : tSeq (tAsg te (gName i)) u D σ H := h
theorem te_mid {t : TE} {σ : St} {H : Hp} {Q : VK} (G : V → Hp → Prop) (h : ∀ R : VK, (∀ x H', G x H' → R x H') → t σ H R) (k : ∀ x H', G x H' → Q x H') : t σ H Q := h Q k
theorem ts_mid {t u : TS} {D : Ends} {σ : St} {H : Hp} (G : St → Hp → Prop) (h : ∀ N : St → Hp → Prop, (∀ σ' H', G σ' H' → N σ' H') → t { D with nx := N } σ H) (k : ∀ σ' H', G σ' H' → u D σ' H') : tSeq t u D σ H := h _ k
theorem cut_ints (ns : List Int) (lo hi : Option Int) : ∃ ms : List Int, cutV (ns.map V.int) lo hi = ms.map V.int :=
  ⟨(ns.drop (HT.sIx (ns.map V.int).length 0 lo)).take (HT.sIx (ns.map V.int).length (ns.map V.int).length hi - HT.sIx (ns.map V.int).length 0 lo), by unfold cutV; rw [← List.map_drop, ← List.map_take]⟩
end L2

set_option Elab.async false
set_option linter.all false
set_option maxRecDepth 100000
set_option maxHeartbeats 1000000
/-! tuples whose object is known to have no dict: made, and called by their methods -/
namespace L2
open PySem PySem.Spec PyProof.Rows
/-- a tuple that this program made: its object bears no dict -/
def TupN (H : Hp) (q : Addr) (xs : List V) : Prop := ∃ o : Obj, H q = some (.frz o (.tup xs)) ∧ o.dict = none
theorem TupN.sq {K : PySem.W.Frag} {H : Hp} {q : Addr} {xs : List V} (h : TupN H q xs) : SqT K H q xs := let ⟨o, h1, _⟩ := h; .inl (.inr ⟨o, h1⟩)
theorem TupN.same {H H' : Hp} {q : Addr} {xs : List V} (h : TupN H q xs) (S : Same H H') : TupN H' q xs := let ⟨o, h1, h2⟩ := h; ⟨o, S _ _ h1, h2⟩
theorem TupN.sameB {D : Addr} {H H' : Hp} {q : Addr} {xs : List V} (h : TupN H q xs) (S : SameB D H H') (n : q ≠ D) : TupN H' q xs := let ⟨o, h1, h2⟩ := h; ⟨o, S _ _ n h1, h2⟩
/-- a new one, all else as it was -/
def NewN (H : Hp) (xs : List V) (Q : VK) : Prop := ∀ p H', Same H H' → H p = none → TupN H' p xs → Q (.ref p) H'
theorem tupN_laid {X : Cx} {pins : List (Addr × Obj)} {σ : St} {H : Hp} {s : Shared} {xs : List V} {its : List Value} (I : Inv X pins σ H s) (rv : Vals xs its) (hz : xs.length ≤ sizeLine) : 
    Inv X pins σ (upd H s.heap.objs.size (.frz { cls := .type "tuple", data := .seq its.toArray } (.tup xs))) { s with heap := s.heap.push { cls := .type "tuple", data := .seq its.toArray } } :=
  I.laid (t' := s.toks) (fun _ _ e => Heap.get?_push_of_some _ e) (Nat.le_refl _) ⟨Heap.get?_push_size _ rfl, hz, its, rv, IsTup.new _ _⟩
/-- tuple(xs), xs a list -/
def rTupN (K : PySem.W.Frag) : List V → Hp → VK → Prop := fun vs H Q => ∃ p ys, vs = [.ref p] ∧ SqL K H p ys ∧ NewN H ys Q
theorem cr_tupN {X : Cx} : CallR X (.type "tuple") (rTupN X.K) := by
  intro pins s σ H vs us Q I r h
  obtain ⟨p, ys, rfl, hs, q⟩ := h
  rw [Vals.ref1 r]
  obtain ⟨its, rv, pl, hz⟩ := I.list hs
  have ln := rv.length
  refine call_tuple_list pl.isList (fun h' kp => ?_) (by rw [List.size_toArray]; omega)
  have I1 : Inv X pins σ H { s with heap := h' } := I.kept (t' := s.toks) kp
  have n1 : H h'.objs.size = none := I1.hok.fresh (Nat.le_refl _)
  exact ⟨.ref h'.objs.size, _, tupN_laid I1 rv hz, rfl, q _ _ (Same.upd n1) n1 ⟨_, upd_same, rfl⟩⟩
/-- o.m(e, ..), o such a tuple -/
def tTM (r : V → List V → Hp → VK → Prop) (to : TE) (t : TA) : TE := fun σ H Q => to σ H fun x H1 => ∃ q xs, x = .ref q ∧ TupN H1 q xs ∧ t σ H1 fun vs H2 => r x vs H2 Q
section
variable {X : Cx} {o e : Expr} {es : List Expr} {to : TE} {t : TA} {name : Str} {apos cpos : Pos} {id : String} {r : V → List V → Hp → VK → Prop}
theorem pe_tm (pa : PlainAttrs "tuple") (slot : Slot "tuple" name id) (hty : typeOf (.builtin id) = pure (.type "method_descriptor")) (hm : MtM X id r) (ho : PE X o to) (ha : PA X (e :: es) t)
    (hbase : attributeBase o name X.env (eval o X.env) = eval o X.env := by rfl) (hfew : ((backTo cpos (starEach (e :: es) X.env)).all (fun x => !x.1) && (backToKw cpos (keywordEach [] X.env)).all (fun x => x.1.isSome) && decide ((e :: es).length + ([] : List Keyword).length + (if ([] : List Keyword).isEmpty then 0 else 1) < 30)) = true := by rfl)
    (hline : (apos.endLine == cpos.line) = true := by rfl) (hs : starEach (e :: es) X.env = (false, eval e X.env) :: starEach es X.env := by rfl)
    (hplain : (backTo cpos (starEach es X.env)).any (·.1) = false := by rfl) :
    PE X (.Call (.Attribute o name apos) (e :: es) [] cpos) (tTM r to t) := by
  refine ⟨fun pins s σ H Q I h => wpAny_Call_method_late hbase hfew hline rfl (thn (ho.run pins s σ H _ I h) fun v s1 hh => ?_)⟩
  obtain ⟨x, H1, I1, r1, q, xs, rfl, ⟨ob, hq, hd⟩, q1⟩ := hh
  obtain rfl : v = Value.ref q := r1
  have okq := I1.hok q _ hq
  have hget : s1.heap.get? q = some ob := okq.1
  obtain ⟨its, _, tp, _⟩ := I1.tuple (TupN.sq (K := X.K) ⟨ob, hq, hd⟩)
  have hcls : ob.cls = .type "tuple" := by
    obtain ⟨o2, h2, c2, _⟩ := tp
    rw [hget] at h2
    rw [Option.some.inj h2]
    exact c2
  refine ⟨"tuple", id, pa, slot, hty, ⟨ob, hget, hcls⟩, fun a ea => ?_, ?_⟩
  · cases ea
    exact ⟨ob, hget, hd⟩
  · have hA := ha.run cpos pins s1 σ H1 _ I1 q1
    rw [hs] at hA ⊢
    have e0 : (false || (backTo cpos (starEach es X.env)).any (·.1)) = false := by rw [hplain]; rfl
    refine Calls.callWith_builtin e0 (Calls.evalArgs_plain (thn hA fun us s2 h2 => ?_))
    obtain ⟨vs, H2, I2, r2, q2⟩ := h2
    exact hm pins s2 σ H2 (.ref q) vs _ us Q I2 rfl r2 q2
end
end L2

set_option Elab.async false
set_option linter.all false
set_option maxRecDepth 100000
set_option maxHeartbeats 1000000
/-! dicts whose keys are such tuples: found, stored, made -/
namespace L2
open PySem PySem.Spec PyProof.Rows
abbrev KAV := List (List Key × Addr × Value)
def DnR (P : Program) (w : World) (h : Heap) (d : Addr) (xs : KAV) : Prop := xs.length ≤ sizeLine ∧ (d == sysModules) = false ∧ (xs.map (·.1)).Nodup ∧
  ∃ o es ep, h.get? d = some o ∧ o.ExactDict ∧ o.data = .dict es ep ∧ es.toList = xs.map (entryOfKey (tupleKind (mixKind P w)))
/-- such a dict at d -/
def DnO (P : Program) (w : World) (d : Addr) (xs : KAV) : HO := .ext fun h => DnR P w h d xs
theorem DnR.at {P : Program} {w : World} {h h' : Heap} {d : Addr} {xs : KAV} (R : DnR P w h d xs) (k : ∀ o, h.get? d = some o → h'.get? d = some o) : DnR P w h' d xs :=
  let ⟨a, b, c, o, es, ep, e1, e2⟩ := R
  ⟨a, b, c, o, es, ep, k _ e1, e2⟩
theorem dn_ok {P : Program} {w : World} {H : Hp} {h : Heap} {d : Addr} {xs : KAV} (R : DnR P w h d xs) : ObjOk P w H h d (DnO P w d xs) :=
  ⟨R, let ⟨_, _, _, o, _, _, e, _⟩ := R; ⟨o, e⟩, fun _ _ r k => r.at k⟩
/-- the keys stand as tuples without a dict of their own -/
def KeysN (H : Hp) (xs : KAV) : Prop := ∀ x ∈ xs, TupN H x.2.1 (x.1.map kV)
theorem KeysN.same {H H' : Hp} {xs : KAV} (h : KeysN H xs) (S : Same H H') : KeysN H' xs := fun x hx => (h x hx).same S
section
variable {X : Cx} {pins : List (Addr × Obj)} {σ : St} {H : Hp} {s : Shared} {d b : Addr} {xs : KAV} {k : List Key}
theorem dn_get (I : Inv X pins σ H s) (e : Rd H d (DnO X.prog X.w d xs)) : DnR X.prog X.w s.heap d xs := by
  rcases e with e | ⟨o, e⟩
  · exact (I.hok d _ e).1
  · exact (I.hok d _ e).2.1
theorem key_N (I : Inv X pins σ H s) (h : SqT X.K H b (k.map kV)) : (tupleKind (mixKind X.prog X.w)).is s.heap k b := by
  obtain ⟨its, rv, ⟨o, h1, h2, n, h3⟩, _⟩ := I.tuple h
  exact ⟨o, its.toArray, n, h1, h2, h3, by simpa using items_are rv⟩
theorem dn_of (I : Inv X pins σ H s) (e : Rd H d (DnO X.prog X.w d xs)) (ks : KeysN H xs) : s.heap.DictOfH (tupleKind (mixKind X.prog X.w)) d xs := by
  obtain ⟨_, _, nd, o, es, ep, h1, h2, h3, h4⟩ := dn_get I e
  exact ⟨o, es, ep, h1, h2, h3, h4, fun x hx => key_N I (ks x hx).sq, nd⟩
end
section
variable {X : Cx}
def rDnGet (X : Cx) : R2 := fun x y H Q => ∃ (d : Addr) (xs : KAV) (b : Addr) (k : List Key) (p : Addr × Value) (v : V), x = .ref d ∧ y = .ref b ∧ Rd H d (DnO X.prog X.w d xs) ∧ KeysN H xs ∧ SqT X.K H b (k.map kV) ∧ atKey xs k = some p ∧ RelV v p.2 ∧ Q v H
theorem ix_dn (hu : X.A.units + 1 < cLine) : IxR X (rDnGet X) := by
  intro value slice pins s σ H x y v u Q I rx ry h hs
  obtain ⟨d, xs, b, k, p, z, rfl, rfl, e, ks, sb, hp, rz, q⟩ := h
  obtain rfl : v = Value.ref d := rx
  obtain rfl : u = Value.ref b := ry
  have dd := dn_of I e ks
  exact tail_any dd.typeIs slot_dict_getitem.lookup (wpAny_getItem_heap (tupleKind_room_in1 hu) (key_N I sb) dd hp ⟨z, H, I.tok _, rz, q⟩) hs
def rDnPut (X : Cx) : TSet := fun o i v H Q => ∃ (d : Addr) (xs : KAV) (b a : Addr) (k : List Key), o = .ref d ∧ i = .ref b ∧ v = .ref a ∧ H d = some (DnO X.prog X.w d xs) ∧ KeysN H xs ∧ SqT X.K H b (k.map kV) ∧ xs.length < sizeLine ∧ Q (upd H d (DnO X.prog X.w d (storedH xs k b (.ref a))))
theorem set_dn (hu : X.A.units + 1 < cLine) : PSet X (rDnPut X) := by
  intro pins s σ H o i v ov iv u Q I ro ri rv h
  obtain ⟨d, xs, b, a, k, rfl, rfl, rfl, e, ks, sb, hl, q⟩ := h
  obtain rfl : ov = Value.ref d := ro
  obtain rfl : iv = Value.ref b := ri
  obtain rfl : u = Value.ref a := rv
  have dd := dn_of I (.inl e) ks
  obtain ⟨hz, hm, _⟩ := dn_get I (.inl e)
  refine wpAny_setItem_heap (hsz := hz) (tupleKind_room_in1 hu) (key_N I sb) dd fun h' dd' hs => ⟨_, ?_, q⟩
  obtain ⟨o', es, ep, h1, h2, h3, h4, _, h5⟩ := dd'
  have ln : (storedH xs k b (Value.ref a)).length ≤ sizeLine := by
    unfold storedH
    split
    · rw [List.length_map]; exact hz
    · rw [List.length_append]; exact hl
  exact d_write I (by rw [e]; exact True.intro) hs ⟨o', h1⟩ (dn_ok ⟨ln, hm, h5, o', es, ep, h1, h2, h3, h4⟩)
def tDNewN (X : Cx) : TE := fun _ H Q => ∀ p, H p = none → Q (.ref p) (upd H p (DnO X.prog X.w p []))
theorem pe_dnewN {pos : Pos} : PE X (.Dict [] [] pos) (tDNewN X) := ⟨fun pins s σ H Q I h => by
  have R : DnR X.prog X.w (s.heap.push { cls := .type "dict", data := .dict #[] }) s.heap.objs.size [] :=
    ⟨Nat.zero_le _, beq_eq_false_iff_ne.mpr (Ne.symm (Nat.ne_of_lt I.big)), List.nodup_nil, _, #[], 0, Heap.get?_push_size _ rfl, ⟨rfl, rfl, rfl⟩, rfl, rfl⟩
  exact wpAny_Dict_empty ⟨.ref s.heap.objs.size, _, I.laid (t' := s.toks) (fun _ _ z => Heap.get?_push_of_some _ z) (Nat.le_refl _) (dn_ok R), rfl, h _ (I.hok.fresh (Nat.le_refl _))⟩⟩
end
end L2

set_option Elab.async false
set_option linter.all false
set_option maxRecDepth 100000
set_option maxHeartbeats 2000000
/-! for .. in d, d.values(), d.items(): d a dict whose keys are tuples without a dict of their own -/
namespace L2
open PySem PySem.Spec PyProof.Rows
/-- keys, their places, the places of the values -/
abbrev NAV := List (List Key × Addr × Addr)
def toV (x : List Key × Addr × Addr) : List Key × Addr × Value := (x.1, x.2.1, Value.ref x.2.2)
def DfO (P : Program) (w : World) (d : Addr) (l : NAV) : HO := DnO P w d (l.map toV)
section
variable {X : Cx} {pins : List (Addr × Obj)} {σ : St} {H : Hp} {s : Shared} {d : Addr} {o : Obj} {l : NAV}
theorem Inv.frzN (I : Inv X pins σ H s) (h : H d = some (.frz o (DfO X.prog X.w d l))) :
    (d == sysModules) = false ∧ s.heap.get? d = some o ∧ o.ExactDict ∧ ∃ (es : Array DictEntry) (ep : Nat), o.data = .dict es ep ∧ s.heap.DictRaw d es ep ∧ es.size = l.length ∧
      ∀ (i : Nat) (k : List Key) (q a : Addr) (hi : i < es.size), l[i]? = some (k, q, a) → es[i].key = .ref q ∧ es[i].val = .ref a := by
  obtain ⟨hd, ⟨_, hs, _, o', es, ep, ho, hx, hdt, he⟩, _⟩ := I.hok d _ h
  rw [hd] at ho
  cases ho
  have l1 := size_of_entries he
  rw [List.length_map] at l1
  refine ⟨hs, hd, hx, es, ep, hdt, ⟨o, hd, hx, hdt⟩, l1, fun i k q a hi e => ?_⟩
  have z := entry_at he i
  rw [List.getElem?_map, e, Array.getElem?_eq_getElem hi] at z
  have z2 := Option.some.inj z
  rw [z2]
  exact ⟨rfl, rfl⟩
end
def ItkN (P : Program) (w : World) (d : Addr) (o : Obj) (l : NAV) : It :=
  ⟨fun i H => H d = some (.frz o (DfO P w d l)) ∧ i < l.length, fun i H x H' => H' = H ∧ ∃ k q a, l[i]? = some (k, q, a) ∧ x = .ref q, fun i H => H d = some (.frz o (DfO P w d l)) ∧ l.length ≤ i⟩
def ItdN (P : Program) (w : World) (d : Addr) (o : Obj) (l : NAV) : It :=
  ⟨fun i H => H d = some (.frz o (DfO P w d l)) ∧ i < l.length, fun i H x H' => H' = H ∧ ∃ k q a, l[i]? = some (k, q, a) ∧ x = .ref a, fun i H => H d = some (.frz o (DfO P w d l)) ∧ l.length ≤ i⟩
def ItiN (P : Program) (w : World) (d : Addr) (o : Obj) (l : NAV) : It :=
  ⟨fun i H => H d = some (.frz o (DfO P w d l)) ∧ i < l.length, fun i H x H' => ∃ T k q a, l[i]? = some (k, q, a) ∧ x = .ref T ∧ H T = none ∧ H' = upd H T (.tup [.ref q, .ref a]), fun i H => H d = some (.frz o (DfO P w d l)) ∧ l.length ≤ i⟩
section
variable {P : Program} {w : World} {K : PySem.W.Frag} {tg : Expr} {d : Addr} {o : Obj} {es : Array DictEntry} {ep : Nat} {l : NAV}
theorem turn_keysN (it : Addr) (hod : o.data = .dict es ep) : Turn P w K tg (ItkN P w d o l) [it] it (fun i h => h.IsKeyIter it d i l.length ep) where
  mem := by simp
  obj := fun i h st b hb => by
    obtain rfl : b = it := by simpa using hb
    obtain ⟨oi, e, c, dd⟩ := st
    exact ⟨oi, e, fun v z => by rw [dd] at z; cases z⟩
  keep := fun i h h' st k => st.at fun oi e => k it (by simp) oi e
  item := by
    intro X hP hw hK hc i pins s σ H E I hf st hg
    subst hP hw hK
    obtain ⟨hd, hi⟩ := hg
    obtain ⟨f0, f1, f2, f3, f4, f5⟩ := hf it (by simp)
    obtain ⟨hs, hgd, hx, es', ep', hdt, raw, hsz, ent⟩ := I.frzN hd
    obtain ⟨rfl, rfl⟩ := dict_ep hod hdt
    obtain ⟨⟨k, q, a⟩, hkv⟩ : ∃ p, l[i]? = some p := ⟨l[i], List.getElem?_eq_getElem hi⟩
    have hi' : i < es'.size := by omega
    obtain ⟨ek, ev⟩ := ent i k q a hi' hkv
    refine next_key_item st hgd hdt hsz (Array.getElem?_eq_getElem hi') fun h' st' sb => ?_
    have I1 : Inv X pins σ H { s with heap := h' } := I.turned (t' := s.toks) (fun b ob hb e => (sb.2 b hb).trans e) f0 f1 f3 f4 f5
    obtain ⟨oi, e, c, dd⟩ := id st'
    exact ⟨es'[i].key, rfl, go_of (s := { s with heap := h' }) e c dd (by decide) ⟨.ref q, H, I1, ek, ⟨rfl, k, q, a, hkv, rfl⟩, st', fun b hb => (hf b hb).1⟩⟩
  done := by
    intro X hP hw hK hc i pins s σ H E I hf st hg
    subst hP hw hK
    obtain ⟨hd, hi⟩ := hg
    obtain ⟨f0, f1, f2, f3, f4, f5⟩ := hf it (by simp)
    obtain ⟨hs, hgd, hx, es', ep', hdt, raw, hsz, ent⟩ := I.frzN hd
    obtain ⟨rfl, rfl⟩ := dict_ep hod hdt
    exact next_key_end (I.ok.hd hc) st hgd hdt hsz hi fun h' eb => ⟨rfl, I.turned (t' := s.toks) (fun b ob hb e => eb b ob hb e) f0 f1 f3 f4 f5⟩
  self := fun A i s Q E st h => by
    refine wpAny_pyIter_slot st.typeIs F.slot_dict_keyiterator_iter (wpAny_call_entry F.slot_dict_keyiterator_iter st.typeIs F.entry_dict_keyiterator_iter ?_ (F.args_dict_keyiterator_iter_1 _))
    exact wpAny_pure ⟨_, rfl, "dict_keyiterator", _, st.typeIs, F.slot_dict_keyiterator_next.lookup, h⟩
theorem turn_valsN (it : Addr) (hod : o.data = .dict es ep) : Turn P w K tg (ItdN P w d o l) [it] it (fun i h => h.IsValIter it d i l.length ep) where
  mem := by simp
  obj := fun i h st b hb => by
    obtain rfl : b = it := by simpa using hb
    obtain ⟨oi, e, c, dd⟩ := st
    exact ⟨oi, e, fun v z => by rw [dd] at z; cases z⟩
  keep := fun i h h' st k => st.at fun oi e => k it (by simp) oi e
  item := by
    intro X hP hw hK hc i pins s σ H E I hf st hg
    subst hP hw hK
    obtain ⟨hd, hi⟩ := hg
    obtain ⟨f0, f1, f2, f3, f4, f5⟩ := hf it (by simp)
    obtain ⟨hs, hgd, hx, es', ep', hdt, raw, hsz, ent⟩ := I.frzN hd
    obtain ⟨rfl, rfl⟩ := dict_ep hod hdt
    obtain ⟨⟨k, q, a⟩, hkv⟩ : ∃ p, l[i]? = some p := ⟨l[i], List.getElem?_eq_getElem hi⟩
    have hi' : i < es'.size := by omega
    obtain ⟨ek, ev⟩ := ent i k q a hi' hkv
    rw [← hsz] at st
    refine wpAny_pyNext_values_item_raw st raw hi' fun h' st' sb => ?_
    have I1 : Inv X pins σ H { s with heap := h' } := I.turned (t' := s.toks) (fun b ob hb e => (sb.2 b hb).trans e) f0 f1 f3 f4 f5
    obtain ⟨oi, e, c, dd⟩ := id st'
    refine ⟨_, rfl, go_of (s := { s with heap := h' }) e c dd (by decide) ⟨.ref a, H, I1, ev, ⟨rfl, k, q, a, hkv, rfl⟩, ?_, fun b hb => (hf b hb).1⟩⟩
    show h'.IsValIter it d (i + 1) l.length _
    rw [← hsz]
    exact st'
  done := by
    intro X hP hw hK hc i pins s σ H E I hf st hg
    subst hP hw hK
    obtain ⟨hd, hi⟩ := hg
    obtain ⟨f0, f1, f2, f3, f4, f5⟩ := hf it (by simp)
    obtain ⟨hs, hgd, hx, es', ep', hdt, raw, hsz, ent⟩ := I.frzN hd
    obtain ⟨rfl, rfl⟩ := dict_ep hod hdt
    rw [← hsz] at st hi
    exact wpAny_pyNext_values_end_raw (I.ok.hd hc) st raw hi fun h' eb => ⟨rfl, I.turned (t' := s.toks) (fun b ob hb e => eb b ob hb e) f0 f1 f3 f4 f5⟩
  self := fun A i s Q E st h => wpAny_pyIter_valiter st h
theorem turn_itemsN {elts : List Expr} {kk : Nat} {tpos : Pos} (it : Addr) (hod : o.data = .dict es ep) :
    Turn P w K (.Tuple elts kk tpos) (ItiN P w d o l) [it] it (fun i h => ∃ ok ov, IsItemIter h it d i l.length ep ok ov) where
  mem := by simp
  obj := fun i h st b hb => by
    obtain rfl : b = it := by simpa using hb
    obtain ⟨ok, ov, e⟩ := st
    exact ⟨_, e, fun v z => nomatch z⟩
  keep := fun i h h' st k => let ⟨ok, ov, e⟩ := st; ⟨ok, ov, k it (by simp) _ e⟩
  item := by
    intro X hP hw hK hc i pins s σ H E I hf st hg
    subst hP hw hK
    obtain ⟨hd, hi⟩ := hg
    obtain ⟨hs, hgd, hx, es', ep', hdt, raw, hsz, ent⟩ := I.frzN hd
    obtain ⟨rfl, rfl⟩ := dict_ep hod hdt
    obtain ⟨⟨k, q, a⟩, hkv⟩ : ∃ p, l[i]? = some p := ⟨l[i], List.getElem?_eq_getElem hi⟩
    have hi' : i < es'.size := by omega
    obtain ⟨ek, ev⟩ := ent i k q a hi' hkv
    obtain ⟨ok, ov, he⟩ := st
    rw [← hsz] at he
    have hlt : it < s.heap.objs.size := Heap.lt_size he
    refine wpAny_pyNext_items_item_raw he raw hi' fun h' ho hT hz hk => ?_
    refine ⟨_, rfl, wpAny_letOwnedTupleGo_items (s := { s with heap := h' }) ho fun h'' he' sb => ?_⟩
    have hT2 : h''.get? s.heap.objs.size = some { cls := .type "tuple", data := .seq #[.ref q, .ref a] } := by rw [← ek, ← ev]; exact (sb.2 _ (Nat.ne_of_gt hlt)).trans hT
    have new : ObjOk X.prog X.w (upd H s.heap.objs.size (.tup [.ref q, .ref a])) h'' s.heap.objs.size (.tup [.ref q, .ref a]) :=
      ⟨by show 2 ≤ sizeLine; decide, [.ref q, .ref a], .cons rfl (.cons rfl .nil), ⟨_, hT2, rfl, _, rfl⟩⟩
    have I1 : Inv X pins σ (upd H s.heap.objs.size (.tup [.ref q, .ref a])) { s with heap := h'' } :=
      I.turnedNew (t' := s.toks) (ch := [it]) (fun b ob hb e => (sb.2 b (by simpa using hb)).trans (hk b ob (by simpa using hb) e)) hf (Nat.le_refl _) new
    refine ⟨.ref s.heap.objs.size, _, I1, rfl, ⟨_, k, q, a, hkv, rfl, I.hok.fresh (Nat.le_refl _), rfl⟩, ⟨es'[i].key, es'[i].val, ?_⟩, fun b hb => ?_⟩
    · rw [← hsz]; exact he'
    · have e : b = it := by simpa using hb
      rw [e, upd_ne (Nat.ne_of_lt hlt)]
      exact (hf it (by simp)).1
  done := by
    intro X hP hw hK hc i pins s σ H E I hf st hg
    subst hP hw hK
    obtain ⟨hd, hi⟩ := hg
    obtain ⟨f0, f1, f2, f3, f4, f5⟩ := hf it (by simp)
    obtain ⟨hs, hgd, hx, es', ep', hdt, raw, hsz, ent⟩ := I.frzN hd
    obtain ⟨rfl, rfl⟩ := dict_ep hod hdt
    obtain ⟨ok, ov, he⟩ := st
    rw [← hsz] at he hi
    exact wpAny_pyNext_items_end_raw (I.ok.hd hc) he raw hi fun h' eb => ⟨rfl, I.turned (t' := s.toks) (fun b ob hb e => eb b ob hb e) f0 f1 f3 f4 f5⟩
  self := fun A i s Q E st h => let ⟨_, _, e⟩ := st; PySem.W.kcp_self e h
end
def iKeysN (P : Program) (w : World) (td : TE) : TI := fun σ H R => td σ H fun x H1 => ∃ d o l, x = .ref d ∧ H1 d = some (.frz o (DfO P w d l)) ∧ R (ItkN P w d o l) H1
def iValsN (P : Program) (w : World) (td : TE) : TI := fun σ H R => td σ H fun x H1 => ∃ d o l, x = .ref d ∧ H1 d = some (.frz o (DfO P w d l)) ∧ R (ItdN P w d o l) H1
def iItemsN (P : Program) (w : World) (td : TE) : TI := fun σ H R => td σ H fun x H1 => ∃ d o l, x = .ref d ∧ H1 d = some (.frz o (DfO P w d l)) ∧ R (ItiN P w d o l) H1
section
variable {X : Cx} {tg e : Expr} {td : TE} {apos cpos : Pos}
theorem noDict_raw {s : Shared} {d : Addr} {es : Array DictEntry} {ep : Nat} (x : s.heap.DictRaw d es ep) : ∀ a : Addr, Value.ref d = Value.ref a → ∃ ob, s.heap.get? a = some ob ∧ ob.dict = none := by
  obtain ⟨o, h, c, _⟩ := x
  intro a e
  cases e
  exact ⟨o, h, c.2.1⟩
theorem pi_keysN (he : PE X e td) : PI X tg e (iKeysN X.prog X.w td) := by
  refine ⟨fun pins s σ H R I h => thn (he.run pins s σ H _ I h) fun u s1 hh => ?_⟩
  obtain ⟨x, H1, I1, rx, d, o, l, rfl, hd, q⟩ := hh
  obtain rfl : u = Value.ref d := rx
  obtain ⟨hs, hgd, hx, es, ep, hdt, raw, hsz, ent⟩ := I1.frzN hd
  refine iter_keys hs hgd hx hdt (pi_one (tk := s1.toks) I1 _ (turn_keysN _ hdt) ⟨_, Heap.get?_push_size _ rfl, rfl, ?_⟩ q)
  rw [hsz] <;> rfl
theorem pi_valuesN (he : PE X e td) (hbase : attributeBase e "values" X.env (eval e X.env) = eval e X.env := by rfl) (hline : (apos.endLine == cpos.line) = true := by rfl) : PI X tg (.Call (.Attribute e "values" apos) [] [] cpos) (iValsN X.prog X.w td) := by
  refine ⟨fun pins s σ H R I h => wpAny_Call_method (T := "dict") (id := "dict.values") hbase rfl hline F.plainAttrs_dict F.slot_dict_values F.type_dict_values (thn (he.run pins s σ H _ I h) fun u s1 hh => ?_)⟩
  obtain ⟨x, H1, I1, rx, d, o, l, rfl, hd, q⟩ := hh
  obtain rfl : u = Value.ref d := rx
  obtain ⟨hs, hgd, hx, es, ep, hdt, raw, hsz, ent⟩ := I1.frzN hd
  refine ⟨raw.typeIs, noDict_raw raw, ?_⟩
  have I2 : Inv X pins σ H1 { s1 with heap := s1.heap.push { cls := .type "dict_values", data := .fields #[.ref d] } } := I1.kept (t' := s1.toks) fun b ob q => Heap.get?_push_of_some _ q
  have fin : wpAny (model X.prog X.w) X.A (pyIter (.ref s1.heap.objs.size)) (PIE X pins σ tg R) X.xe { s1 with heap := s1.heap.push { cls := .type "dict_values", data := .fields #[.ref d] } } := by
    refine wpAny_pyIter_values_raw (d := d) ⟨_, Heap.get?_push_size _ rfl, rfl, rfl⟩ (raw.at fun _ e => Heap.get?_push_of_some _ e) (pi_one (tk := s1.toks) I2 _ (turn_valsN _ hdt) ⟨_, Heap.get?_push_size _ rfl, rfl, ?_⟩ q)
    rw [hsz] <;> rfl
  show wpAny _ _ (callWith cpos (.builtin "dict.values") [.ref d] [] []) _ X.xe s1
  exact method_meetsIn F.slot_dict_values F.entry_dict_values rfl (PySem.evalArgs_none ⟨rfl, raw.typeIs, F.args_dict_values_1 _, _, meets_dict_values_raw d hs, ⟨es, ep, raw⟩, fin⟩)
theorem pi_itemsN {elts : List Expr} {kk : Nat} {tpos : Pos} (he : PE X e td) (hbase : attributeBase e "items" X.env (eval e X.env) = eval e X.env := by rfl) (hline : (apos.endLine == cpos.line) = true := by rfl) :
    PI X (.Tuple elts kk tpos) (.Call (.Attribute e "items" apos) [] [] cpos) (iItemsN X.prog X.w td) := by
  refine ⟨fun pins s σ H R I h => wpAny_Call_method (T := "dict") (id := "dict.items") hbase rfl hline F.plainAttrs_dict F.slot_dict_items F.type_dict_items (thn (he.run pins s σ H _ I h) fun u s1 hh => ?_)⟩
  obtain ⟨x, H1, I1, rx, d, o, l, rfl, hd, q⟩ := hh
  obtain rfl : u = Value.ref d := rx
  obtain ⟨hs, hgd, hx, es, ep, hdt, raw, hsz, ent⟩ := I1.frzN hd
  refine ⟨raw.typeIs, noDict_raw raw, ?_⟩
  have I2 : Inv X pins σ H1 { s1 with heap := s1.heap.push { cls := .type "dict_items", data := .fields #[.ref d] } } := I1.kept (t' := s1.toks) fun b ob q => Heap.get?_push_of_some _ q
  have fin : wpAny (model X.prog X.w) X.A (pyIter (.ref s1.heap.objs.size)) (PIE X pins σ (.Tuple elts kk tpos) R) X.xe { s1 with heap := s1.heap.push { cls := .type "dict_items", data := .fields #[.ref d] } } := by
    refine wpAny_pyIter_items_raw (d := d) ⟨_, Heap.get?_push_size _ rfl, rfl, rfl⟩ (raw.at fun _ e => Heap.get?_push_of_some _ e) (pi_one (tk := s1.toks) I2 _ (turn_itemsN _ hdt) ⟨.none, .none, ?_⟩ q)
    rw [← hsz]
    exact Heap.get?_push_size _ rfl
  show wpAny _ _ (callWith cpos (.builtin "dict.items") [.ref d] [] []) _ X.xe s1
  exact method_meetsIn F.slot_dict_items F.entry_dict_items rfl (PySem.evalArgs_none ⟨rfl, raw.typeIs, F.args_dict_items_1 _, _, meets_dict_items_raw d hs, ⟨es, ep, raw⟩, fin⟩)
end
section
variable {P : Program} {w : World} {d : Addr} {o : Obj} {l : NAV}
theorem walk_keysN : Walk (ItkN P w d o l) l.length (fun H => H d = some (.frz o (DfO P w d l))) (fun i H x H' => H' = H ∧ ∃ k q a, l[i]? = some (k, q, a) ∧ x = .ref q) :=
  ⟨fun _ _ hi q => ⟨q, hi⟩, fun _ q => ⟨q, Nat.le_refl _⟩, fun _ _ _ _ _ _ y => y⟩
theorem walk_valuesN : Walk (ItdN P w d o l) l.length (fun H => H d = some (.frz o (DfO P w d l))) (fun i H x H' => H' = H ∧ ∃ k q a, l[i]? = some (k, q, a) ∧ x = .ref a) :=
  ⟨fun _ _ hi q => ⟨q, hi⟩, fun _ q => ⟨q, Nat.le_refl _⟩, fun _ _ _ _ _ _ y => y⟩
theorem walk_itemsN : Walk (ItiN P w d o l) l.length (fun H => H d = some (.frz o (DfO P w d l)))
    (fun i H x H' => ∃ T k q a, l[i]? = some (k, q, a) ∧ x = .ref T ∧ H T = none ∧ H' = upd H T (.tup [.ref q, .ref a])) :=
  ⟨fun _ _ hi q => ⟨q, hi⟩, fun _ q => ⟨q, Nat.le_refl _⟩, fun _ _ _ _ _ _ y => y⟩
end
end L2

set_option Elab.async false
set_option linter.all false
set_option maxRecDepth 100000
set_option maxHeartbeats 1000000
/-! such dicts: d[k], d.get(k, x), d[k] = v, {} -/
namespace L2
open PySem PySem.Spec PyProof.Rows
def findN (l : NAV) (k : List Key) : Option (Addr × Addr) := (l.find? fun x => decide (x.1 = k)).map (·.2)
def putN (l : NAV) (k : List Key) (b a : Addr) : NAV := if (findN l k).isSome = true then l.map (fun x => if x.1 = k then (x.1, x.2.1, a) else x) else l ++ [(k, b, a)]
theorem atKey_toV (l : NAV) (k : List Key) : atKey (l.map toV) k = (findN l k).map fun p => (p.1, Value.ref p.2) := by
  unfold atKey findN
  induction l with
  | nil => rfl
  | cons x r ih =>
    rw [List.map_cons, List.find?_cons, List.find?_cons]
    by_cases c : x.1 = k
    · rw [decide_eq_true c, decide_eq_true (show (toV x).1 = k from c)]
      rfl
    · rw [decide_eq_false c, decide_eq_false (show ¬ (toV x).1 = k from c)]
      exact ih
theorem storedH_toV (l : NAV) (k : List Key) (b a : Addr) : storedH (l.map toV) k b (.ref a) = (putN l k b a).map toV := by
  unfold storedH putN
  rw [atKey_toV, Option.isSome_map]
  by_cases c : (findN l k).isSome = true
  · rw [if_pos c, if_pos c, List.map_map, List.map_map]
    refine List.map_congr_left fun x _ => ?_
    show putAt k (Value.ref a) (toV x) = toV (if x.1 = k then (x.1, x.2.1, a) else x)
    unfold putAt
    by_cases e : x.1 = k
    · rw [if_pos e, if_pos (show (toV x).1 = k from e)]
      rfl
    · rw [if_neg e, if_neg (show ¬ (toV x).1 = k from e)]
  · rw [if_neg c, if_neg c, List.map_append]
    rfl
/-- the keys stand -/
def KeysD (H : Hp) (l : NAV) : Prop := ∀ x ∈ l, TupN H x.2.1 (x.1.map kV)
theorem KeysD.same {H H' : Hp} {l : NAV} (h : KeysD H l) (S : Same H H') : KeysD H' l := fun x hx => (h x hx).same S
theorem KeysD.sameB {D : Addr} {H H' : Hp} {l : NAV} {P : Program} {w : World} {m : KAV} (h : KeysD H l) (S : SameB D H H') (hD : H D = some (DnO P w D m)) : KeysD H' l := fun x hx => (h x hx).sameB S fun e => by
  obtain ⟨o, h1, _⟩ := h x hx
  rw [e, hD] at h1
  cases h1
theorem KeysD.toN {H : Hp} {l : NAV} (h : KeysD H l) : KeysN H (l.map toV) := fun x hx => by
  obtain ⟨y, hy, rfl⟩ := List.mem_map.mp hx
  exact h y hy
theorem KeysD.put {H : Hp} {l : NAV} {k : List Key} {b a : Addr} (h : KeysD H l) (hb : TupN H b (k.map kV)) : KeysD H (putN l k b a) := by
  unfold putN
  split
  · intro x hx
    obtain ⟨y, hy, rfl⟩ := List.mem_map.mp hx
    by_cases e : y.1 = k
    · rw [if_pos e]; exact h y hy
    · rw [if_neg e]; exact h y hy
  · intro x hx
    rcases List.mem_append.mp hx with hx | hx
    · exact h x hx
    · rw [List.mem_singleton.mp hx]; exact hb
/-- what the dict at d holds at y -/
def GetN (P : Program) (w : World) (K : PySem.W.Frag) (H : Hp) (d : Addr) (y : V) (r : Option Addr) : Prop := ∃ (l : NAV) (b : Addr) (k : List Key), Rd H d (DfO P w d l) ∧ KeysD H l ∧ y = .ref b ∧ SqT K H b (k.map kV) ∧ r = (findN l k).map (·.2)
def orV (r : Option Addr) (z : V) : V := match r with
  | some a => .ref a
  | none => z
def rDf (P : Program) (w : World) (K : PySem.W.Frag) : R2 := fun x y H Q => ∃ (d a : Addr), x = .ref d ∧ GetN P w K H d y (some a) ∧ Q (.ref a) H
def rDfPut (X : Cx) : TSet := fun o i v H Q => ∃ (d b a : Addr) (l : NAV) (k : List Key), o = .ref d ∧ i = .ref b ∧ v = .ref a ∧ H d = some (DfO X.prog X.w d l) ∧ KeysD H l ∧ SqT X.K H b (k.map kV) ∧ l.length < sizeLine ∧ Q (upd H d (DfO X.prog X.w d (putN l k b a)))
def tGet2N (X : Cx) (td ty tx : TE) : TE := fun σ H Q => td σ H fun x H1 => ∃ (d : Addr) (m : NAV), x = .ref d ∧ Rd H1 d (DfO X.prog X.w d m) ∧ ty σ H1 fun y H2 => tx σ H2 fun z H3 => ∃ r, GetN X.prog X.w X.K H3 d y r ∧ Q (orV r z) H3
def tNewD (X : Cx) : TE := fun _ H Q => ∀ p, H p = none → Q (.ref p) (upd H p (DfO X.prog X.w p []))
section
variable {X : Cx} {o e f : Expr} {apos cpos pos : Pos} {td ty tx : TE}
theorem ix_df (hu : X.A.units + 1 < cLine) : IxR X (rDf X.prog X.w X.K) := by
  intro value slice pins s σ H x y v u Q I rx ry h hs
  obtain ⟨d, a, rfl, ⟨l, b, k, hd, ks, rfl, sb, hr⟩, q⟩ := h
  obtain ⟨p, hp, rfl⟩ := Option.map_eq_some_iff.mp hr.symm
  exact ix_dn hu value slice pins s σ H _ _ v u Q I rx ry ⟨d, l.map toV, b, k, (p.1, .ref p.2), .ref p.2, rfl, rfl, hd, ks.toN, sb, by rw [atKey_toV, hp]; rfl, rfl, q⟩ hs
theorem set_df (hu : X.A.units + 1 < cLine) : PSet X (rDfPut X) := by
  intro pins s σ H o i v ov iv u Q I ro ri rv h
  obtain ⟨d, b, a, l, k, e1, e2, e3, hd, ks, sb, hl, q⟩ := h
  refine set_dn hu pins s σ H o i v ov iv u Q I ro ri rv ⟨d, l.map toV, b, a, k, e1, e2, e3, hd, ks.toN, sb, by rw [List.length_map]; exact hl, ?_⟩
  rw [storedH_toV]
  exact q
theorem pe_newD : PE X (.Dict [] [] pos) (tNewD X) := pe_dnewN
theorem dfo_is {pins : List (Addr × Obj)} {σ : St} {H : Hp} {s : Shared} {d : Addr} {l : NAV} (I : Inv X pins σ H s) (h : Rd H d (DfO X.prog X.w d l)) : s.TypeIs (.ref d) "dict" ∧ ∀ a : Addr, Value.ref d = .ref a → ∃ ob, s.heap.get? a = some ob ∧ ob.dict = none := by
  obtain ⟨_, _, _, ob, es, ep, h1, h2, _⟩ := dn_get I h
  refine ⟨⟨ob, h1, h2.1⟩, fun a ea => ?_⟩
  cases ea
  exact ⟨ob, h1, h2.2.1⟩
theorem pe_get2N (hu : X.A.units + 1 < cLine) (ho : PE X o td) (he : PE X e ty) (hf : PE X f tx) (m : M2 X o "get" apos e f cpos) : PE X (.Call (.Attribute o "get" apos) [e, f] [] cpos) (tGet2N X td ty tx) := by
  refine ⟨fun pins s σ H Q I h => wpAny_Call_method m.base m.few m.line PySem.F.plainAttrs_dict PySem.F.slot_dict_get PySem.F.type_dict_get (thn (ho.run pins s σ H _ I h) fun u s1 hh => ?_)⟩
  obtain ⟨x, H1, I1, rx, d, m', rfl, hd1, q1⟩ := hh
  obtain rfl : u = Value.ref d := rx
  obtain ⟨t1, t2⟩ := dfo_is I1 hd1
  refine ⟨t1, t2, ?_⟩
  rw [m.trees]
  refine Calls.callWith_builtin rfl (Calls.evalArgs_plain (Calls.spliced_cons (thn (he.run pins s1 σ H1 _ I1 q1) fun iv s2 h2 => ?_)))
  obtain ⟨y, H2, I2, ry, q2⟩ := h2
  refine Calls.spliced_cons (thn (hf.run pins s2 σ H2 _ I2 q2) fun fv s3 h3 => Calls.spliced_nil ?_)
  obtain ⟨z, H3, I3, rz, r, ⟨l, b, k, hd, ks, rfl, sb, hr⟩, q3⟩ := h3
  obtain rfl : iv = Value.ref b := ry
  have dd := dn_of I3 hd ks.toN
  obtain ⟨_, hm, _⟩ := dn_get I3 hd
  refine call_meetsIn PySem.F.slot_dict_get dd.typeIs PySem.F.entry_dict_get (PySem.F.args_dict_get_3 _ _ _) (meetsH_dict_get_default (tupleKind (mixKind X.prog X.w)) d b hm fv) ⟨tupleKind_room_in1 hu, k, l.map toV, key_N I3 sb, dd, orV r z, H3, I3.tok _, ?_, q3⟩
  rw [atKey_toV, hr]
  cases findN l k with
  | none => exact rz
  | some p => rfl
end
end L2

set_option Elab.async false
set_option linter.all false
set_option maxRecDepth 100000
set_option maxHeartbeats 2000000
/-! {k: v for target in iter if ..} whose keys are tuples; items() of such a dict. -/
namespace L2
open PySem PySem.Spec PyProof.Rows
theorem dn_empty {P : Program} {w : World} {H : Hp} (h : Heap) (hb : sysModules < h.objs.size) : ObjOk P w H (h.push { cls := .type "dict", data := .dict #[] }) h.objs.size (DfO P w h.objs.size []) :=
  dn_ok ⟨Nat.zero_le _, beq_eq_false_iff_ne.mpr (Ne.symm (Nat.ne_of_lt hb)), List.nodup_nil, _, #[], 0, Heap.get?_push_size _ rfl, ⟨rfl, rfl, rfl⟩, rfl, rfl⟩
/-- d[y] = z by a comprehension -/
theorem dN_set {X : Cx} {pins : List (Addr × Obj)} {σ : St} {H : Hp} {s : Shared} {D b a : Addr} {l : NAV} {k : List Key} {u r : Value} {Q : Unit → Shared → Prop} {E : Value → Shared → Prop} (hu : X.A.units < cLine) (I : Inv X pins σ H s) (hD : H D = some (DfO X.prog X.w D l)) (ks : KeysD H l) (hb : SqT X.K H b (k.map kV))
    (hz : l.length < sizeLine) (ry : RelV (.ref b) u) (rv : RelV (.ref a) r) (h : ∀ s', Inv X pins σ (upd H D (DfO X.prog X.w D (putN l k b a))) s' → Q () s') : wpAny (model X.prog X.w) X.A (dictSet D u r) Q E s := by
  obtain rfl : u = Value.ref b := ry
  obtain rfl : r = Value.ref a := rv
  have dd := dn_of I (.inl hD) ks.toN
  obtain ⟨z0, hm, _⟩ := dn_get I (.inl hD)
  refine wpAny_dictSet_heap (hsz := z0) hu (key_N I hb) dd fun h' dd' hs => h _ ?_
  rw [storedH_toV] at dd'
  obtain ⟨o, es, ep, ho, h2, h3, h4, _, h5⟩ := dd'
  have ln : ((putN l k b a).map toV).length ≤ sizeLine := by
    rw [List.length_map]
    unfold putN
    split
    · rw [List.length_map]; omega
    · rw [List.length_append]; exact hz
  exact d_write I (by rw [hD]; exact True.intro) hs ⟨o, ho⟩ (dn_ok ⟨ln, hm, h5, o, es, ep, ho, h2, h3, h4⟩)
/-- what a turn of such a comprehension leaves -/
def TurnN (P : Program) (w : World) (K : PySem.W.Frag) (D : Addr) (Nx : Hp → Prop) (y z : V) (H : Hp) : Prop := ∃ l k b a, y = .ref b ∧ z = .ref a ∧ SqT K H b (k.map kV) ∧ H D = some (DfO P w D l) ∧ KeysD H l ∧ l.length < sizeLine ∧ Nx (upd H D (DfO P w D (putN l k b a)))
/-- its reading: D the new dict -/
def tDcN (P : Program) (w : World) (K : PySem.W.Frag) (wi : TI) (g : TG) (tt : TT) (tk tv : TE) (vs : List Nat) : TE := fun σ H Q => wi σ H fun J H1 => ∀ D, H1 D = none → ∃ W : Nat → Nat → Hp → Prop, (∃ m, W 0 m (upd H1 D (DfO P w D []))) ∧ ∀ i m H, W i m H →
  (J.stop i H ∧ Q (.ref D) H) ∨ (J.go i H ∧ ∃ Nx : Hp → Prop, (∀ H', Nx H' → ∃ m', m' < m ∧ W (i + 1) m' H') ∧ ∀ x H', J.yld i H x H' → g x (wipe σ vs) H' fun σ2 H2 => wipe σ2 vs = wipe σ vs ∧ tt σ2 H2 fun b H3 =>
    if b = true then tk σ2 H3 fun y H4 => tv σ2 H4 fun z H5 => TurnN P w K D Nx y z H5 else Nx H3)
section
variable {X : Cx} {kx vx tg iter : Expr} {ifs : List Expr} {scope : Scope} {own : List (Str × Nat)} {pos : Pos} {wi : TI} {g : TG} {tt : TT} {tk tv : TE}
/-- a comprehension's block may be read in any state of the block's own context -/
structure BlkRN (X : Cx) (tg kx vx : Expr) (ifs : List Expr) (scope : Scope) (g : TG) (tt : TT) (tk tv : TE) : Prop where
  tg : ∀ (s : Shared) (H : Hp) (C : Addr) (cl : List (Str × Addr)) (fp : List Addr), PG (X.blk s H scope (compEnvC scope cl C X.env) fp) tg g
  ifs : ∀ (s : Shared) (H : Hp) (C : Addr) (cl : List (Str × Addr)) (fp : List Addr), PTs (X.blk s H scope (compEnvC scope cl C X.env) fp) ifs tt
  key : ∀ (s : Shared) (H : Hp) (C : Addr) (cl : List (Str × Addr)) (fp : List Addr), PE (X.blk s H scope (compEnvC scope cl C X.env) fp) kx tk
  val : ∀ (s : Shared) (H : Hp) (C : Addr) (cl : List (Str × Addr)) (fp : List Addr), PE (X.blk s H scope (compEnvC scope cl C X.env) fp) vx tv
theorem dcN_core {pins : List (Addr × Obj)} {s : Shared} {σ : St} {H : Hp} {Q : VK} {pos' : Pos} {use : Option (Value → Sem Unit)} {Qf : Value → Shared → Prop} (hu : X.A.units < cLine) (hc : X.calm = true) (hN : X.N.Nodup) (I : Inv X pins σ H s) (hi : PI X tg iter wi) (ok : BlkOk X.N X.env.scope scope own) (B : BlkRN X tg kx vx ifs scope g tt tk tv) (hs : ∀ x, foldedSetIterable iter X.env x = pure x)
    (h : tDcN X.prog X.w X.K wi g tt tk tv (own.map (·.2)) σ H Q)
    (fin : ∀ D C s' m H', Inv X pins σ H' s' → Q (.ref D) H' → s'.heap.Ns C m → FpOk X pins H' C → compPost (model X.prog X.w) X.A X.xe use Qf (.ref D) C (.ok .next) s') :
    wpAny (model X.prog X.w) X.A (comprehension (.DictComp kx vx [⟨tg, iter, ifs, 0⟩] scope pos) scope X.env pos' newDict false (eval iter X.env) use) Qf X.xe s := by
  have cells : ∀ y ∈ scope.names, y.2 = .free → ∃ c, X.env.cells.lookup y.1 = some c := fun y hy e => I.ok.has _ (ok.free y hy e)
  refine wpAny_comprehension_free (use := use) rfl hs (closure_ok cells) ok.kind (fun y hy e => by rw [ok.uniq y hy, e]) (thn (hi.run pins s σ H _ I h) fun xv s1 hx => thn hx fun itv s2 h2 => ?_)
  obtain ⟨it, fp, tn, J, H2, rfl, I2, T, st2, f2, q⟩ := h2
  refine wpAny_newObj_type (newEnv_comp ?_)
  -- the new dict, at D
  generalize hD : s2.heap.objs.size = D
  have Dn : H2 D = none := I2.hok.fresh (Nat.le_of_eq hD)
  obtain ⟨W, ⟨m0, w0⟩, turn⟩ := q D Dn
  generalize hs3 : ({ s2 with heap := s2.heap.push { cls := .type "dict", data := .dict #[] } } : Shared) = s3
  have h3 : s3.heap = s2.heap.push { cls := .type "dict", data := .dict #[] } := by rw [← hs3]
  have I3 : Inv X pins σ (upd H2 D (DfO X.prog X.w D [])) s3 := by
    subst hs3 hD
    exact I2.laid (t' := s2.toks) (fun _ _ e => Heap.get?_push_of_some _ e) (Nat.le_refl _) (dn_empty s2.heap I2.big)
  have below : ∀ b ∈ fp, b < s2.heap.objs.size := fun b hb => let ⟨o, e, _⟩ := T.obj _ _ st2 b hb; Heap.lt_size e
  have f3 : ∀ b ∈ fp, FpOk X pins (upd H2 D (DfO X.prog X.w D [])) b ∧ b < s3.heap.objs.size := fun b hb =>
    ⟨⟨by rw [upd_ne (by rw [← hD]; exact Nat.ne_of_lt (below b hb))]; exact (f2 b hb).1, (f2 b hb).2⟩, by rw [h3, Heap.size_push]; exact Nat.lt_succ_of_lt (below b hb)⟩
  have st3 : tn 0 s3.heap := T.keep _ _ _ st2 fun b _ o e => by rw [h3]; exact Heap.get?_push_of_some _ e
  have I4 := block_start I3 ok hN f3
  show codeAny _ _ (.compStart (.DictComp kx vx [⟨tg, iter, ifs, 0⟩] scope pos) 0 (.ref it) (.ref D) (compEnvC scope (cellsFrom (s3.heap.objs.size + 1) scope.names (cloFrom X.env.cells scope.names [])) s3.heap.objs.size X.env)) (compPost (model X.prog X.w) X.A X.xe use Qf (.ref D) s3.heap.objs.size) { s3 with heap := pushCells (s3.heap.push { cls := .type "dict", data := .dict #[] }) scope.names }
  have B1 := B.tg s3 (upd H2 D (DfO X.prog X.w D [])) s3.heap.objs.size (cellsFrom (s3.heap.objs.size + 1) scope.names (cloFrom X.env.cells scope.names [])) fp
  have B2 := B.ifs s3 (upd H2 D (DfO X.prog X.w D [])) s3.heap.objs.size (cellsFrom (s3.heap.objs.size + 1) scope.names (cloFrom X.env.cells scope.names [])) fp
  have B3 := B.key s3 (upd H2 D (DfO X.prog X.w D [])) s3.heap.objs.size (cellsFrom (s3.heap.objs.size + 1) scope.names (cloFrom X.env.cells scope.names [])) fp
  have B4 := B.val s3 (upd H2 D (DfO X.prog X.w D [])) s3.heap.objs.size (cellsFrom (s3.heap.objs.size + 1) scope.names (cloFrom X.env.cells scope.names [])) fp
  generalize hce : compEnvC scope (cellsFrom (s3.heap.objs.size + 1) scope.names (cloFrom X.env.cells scope.names [])) s3.heap.objs.size X.env = ce at I4 B1 B2 B3 B4 ⊢
  have cL : ce.locals = s3.heap.objs.size := by subst hce; rfl
  generalize hH3 : upd H2 D (DfO X.prog X.w D []) = H3 at I3 I4 B1 B2 B3 B4 w0 f3
  generalize hs4 : ({ s3 with heap := pushCells (s3.heap.push { cls := .type "dict", data := .dict #[] }) scope.names } : Shared) = s4 at I4 ⊢
  have st4 : tn 0 s4.heap := T.keep _ _ _ st3 fun b _ o e => by rw [← hs4]; exact pushCells_keeps _ _ _ _ (Heap.get?_push_of_some _ e)
  -- the iterator's objects are nobody's else
  have mine : ∀ {σ' : St} {H' : Hp} {s' : Shared}, Inv (X.blk s3 H3 scope ce fp) [] σ' H' s' → (∀ b ∈ fp, H' b = none) → ∀ b ∈ fp, FpOk (X.blk s3 H3 scope ce fp) [] H' b := fun {σ' H' s'} I' hn b hb =>
    ⟨hn b hb, (I'.ok.exf b hb).1, I'.ok.exfs b hb, .inl hb, fun x c e => (I'.ok.exf b hb).2 x c e, fun p hp => (List.not_mem_nil (show p ∈ ([] : List (Addr × Obj)) from hp)).elim⟩
  refine codeAny_compStart_dict ?loop (T.self X.A 0 _ _ _ st4 ?loop)
  refine compLoop_anyD (fun n s' => ∃ i H', Inv (X.blk s3 H3 scope ce fp) [] (wipe σ (own.map (·.2))) H' s' ∧ tn i s'.heap ∧ (∀ b ∈ fp, H' b = none) ∧ W i n H') ?_ m0 ⟨0, H3, I4, st4, fun b hb => (f3 b hb).1.1, w0⟩
  rintro n s5 ⟨i, H5, I5, st5, n5, w5⟩
  rcases turn i n H5 w5 with ⟨stop, fq⟩ | ⟨go, Nx, next, step⟩
  · -- no item is left: back to the def
    refine thnF (T.done (X.blk s3 H3 scope ce fp) rfl rfl rfl hc i [] s5 _ H5 (fun _ _ => False) I5 (mine I5 n5) st5 stop) fun r s6 hr => ?_
    obtain ⟨rfl, I6⟩ := hr
    have I7 : Inv X pins σ H5 s6 := I3.call' (ch := fp) I6.os I6.base I6.hok I6.bare fun b hb => ⟨(f3 b hb).1.2.2.2.1, (f3 b hb).1.2.1, (f3 b hb).1.2.2.2.2.1, (f3 b hb).1.2.2.2.2.2⟩
    obtain ⟨m, hn, _⟩ := I6.loc
    have nC : H5 s3.heap.objs.size = none := cL ▸ (show H5 ce.locals = none from I6.free)
    have hn' : s6.heap.Ns s3.heap.objs.size m := cL ▸ (show s6.heap.Ns ce.locals m from hn)
    exact fin D s3.heap.objs.size s6 m H5 I7 fq hn' (I3.fpOk (Nat.le_refl _) nC)
  · -- a turn
    refine thnF (T.item (X.blk s3 H3 scope ce fp) rfl rfl rfl hc i [] s5 _ H5 (fun _ _ => False) I5 (mine I5 n5) st5 go) fun r s6 hr => ?_
    obtain ⟨u, rfl, h6⟩ := hr
    refine thnF h6 fun _ s7 hh => ?_
    obtain ⟨x, H7, I7, r7, y7, st7, n7⟩ := hh
    have P7 := I7.pinned (mine I7 n7) (T.obj _ _ st7)
    refine thnF (B1.run _ s7 _ H7 x u _ P7 r7 (step x H7 y7)) fun _ s8 hh => ?_
    obtain ⟨σ8, H8, I8, hw8, q8⟩ := hh
    refine thnF (B2.run _ s8 σ8 H8 _ I8 q8) fun b s9 hh => ?_
    obtain ⟨H9, I9, q9⟩ := hh
    have close : ∀ {s' : Shared} {H' : Hp}, Inv (X.blk s3 H3 scope ce fp) ([] ++ pinsAt fp s7.heap) σ8 H' s' → Nx H' → ∃ m, m < n ∧ ∃ i H', Inv (X.blk s3 H3 scope ce fp) [] (wipe σ (own.map (·.2))) H' s' ∧ tn i s'.heap ∧ (∀ b ∈ fp, H' b = none) ∧ W i m H' := by
      intro s' H' I' nx
      obtain ⟨m', hm, w'⟩ := next H' nx
      have pin' : ∀ b ∈ fp, ∀ o, s7.heap.get? b = some o → s'.heap.get? b = some o ∧ H' b = none := fun b hb o e =>
        let z := I'.pin (b, o) (List.mem_append_right _ (List.mem_append_right _ (mem_pinsAt hb e)))
        ⟨z.1, z.2.1⟩
      refine ⟨m', hm, i + 1, H', (I'.unpinned (pins := [])).weak (by rw [← hw8, wipe_length]) (fun j v e => (wipe_some (hw8 ▸ e)).1), T.keep _ _ _ st7 fun b hb o e => (pin' b hb o e).1, fun b hb => ?_, w'⟩
      obtain ⟨o, e, _⟩ := T.obj _ _ st7 b hb
      exact (pin' b hb o e).2
    cases b with
    | false => exact close I9 (by simpa using q9)
    | true =>
      have q9' : tk σ8 H9 fun y H4 => tv σ8 H4 fun z H5 => TurnN X.prog X.w X.K D Nx y z H5 := by simpa using q9
      show wpAny _ _ (eval kx ce) _ _ _
      refine thnF (B3.run _ s9 σ8 H9 _ I9 q9') fun kv s10 hh => ?_
      obtain ⟨y, H10, I10, r10, q10⟩ := hh
      refine thnF (B4.run _ s10 σ8 H10 _ I10 q10) fun vv s11 hh => ?_
      obtain ⟨z, H11, I11, r11, l, k, b, a, rfl, rfl, hb, hD11, ksd, hz, nx⟩ := hh
      exact dN_set (X := X.blk s3 H3 scope ce fp) hu I11 hD11 ksd hb hz r10 r11 fun s12 I12 => close I12 nx
/-- as a value -/
theorem pe_dcN (hu : X.A.units < cLine) (hc : X.calm = true) (hN : X.N.Nodup) (hi : PI X tg iter wi) (ok : BlkOk X.N X.env.scope scope own) (B : BlkRN X tg kx vx ifs scope g tt tk tv) (hs : ∀ x, foldedSetIterable iter X.env x = pure x := by intro _; rfl) :
    PE X (.DictComp kx vx [⟨tg, iter, ifs, 0⟩] scope pos) (tDcN X.prog X.w X.K wi g tt tk tv (own.map (·.2))) := by
  refine ⟨fun pins s σ H Q I h => ?_⟩
  rw [arm_eval_DictComp]
  exact dcN_core hu hc hN I hi ok B hs h fun D C s' m H' I' q hn f => ⟨m, hn, fun h'' sb => ⟨.ref D, H', I'.turned (t' := s'.toks) (fun b o hb e => (sb.2 b hb).trans e) f.1 f.2.1 f.2.2.2.1 f.2.2.2.2.1 f.2.2.2.2.2, rfl, q⟩⟩
/-- name = {..} on one line, the name a local of the def's own -/
theorem ps_dcN {i : Nat} {y : Str} {py spos : Pos} (hsw : swapsWith (.DictComp kx vx [⟨tg, iter, ifs, 0⟩] scope pos) (some (.Name y py)) spos.line X.env = pure true) (hu : X.A.units < cLine) (hc : X.calm = true) (hN : X.N.Nodup) (hy : X.N[i]? = some y) (hyl : X.env.scope.names.lookup y = some .local)
    (hi : PI X tg iter wi) (ok : BlkOk X.N X.env.scope scope own) (B : BlkRN X tg kx vx ifs scope g tt tk tv) (hs : ∀ x, foldedSetIterable iter X.env x = pure x := by intro _; rfl) :
    PS X (.Assign [.Name y py] (.DictComp kx vx [⟨tg, iter, ifs, 0⟩] scope pos) spos) (tAsg (tDcN X.prog X.w X.K wi g tt tk tv (own.map (·.2))) (gName i)) := by
  refine ⟨fun pins s σ H D I h => ?_⟩
  rw [exec_Assign_Name_used _ _ _ _ hsw]
  refine wpAny_bind (wpAny_standAt (wpAny_bind ?_))
  show wpAny _ X.A (do let _ ← comprehension (.DictComp kx vx [⟨tg, iter, ifs, 0⟩] scope pos) scope X.env (firstIterPos [⟨tg, iter, ifs, 0⟩] pos) newDict false (eval iter X.env) (some (assign (.Name y py) X.env))) _ _ s
  refine wpAny_bind (thn (dcN_core (Q := fun x H1 => gName i x σ H1 D.nx) (Qf := fun _ s' => SP X pins D .next s') hu hc hN I hi ok B hs h fun L C s' m H' I' q hn f => ?_) fun _ s' hq => wpAny_pure (wpAny_pure hq))
  refine wpAny_assign_Name (store_ok2 (v := V.ref L) I' hN hy (.inl hyl) rfl (fun s2 I2 ⟨a, sb, ha⟩ => ?_) (.inr hyl))
  have ne : C ≠ a := by
    rcases ha with z | z
    · rw [z]; exact f.2.1
    · exact fun e => f.2.2.2.2.1 y a z e.symm
  exact ⟨m, hn.sameBut sb ne, fun h3 sb3 => ⟨_, H', I2.turned (t' := s2.toks) (fun b o hb e => (sb3.2 b hb).trans e) f.1 f.2.1 f.2.2.2.1 f.2.2.2.2.1 f.2.2.2.2.2, q⟩⟩
theorem swD_true {y : Str} {gs : List Comprehension} {py : Pos} {l : Nat} {env : Env} (hk : env.scope.kind = .function) (hy : env.scope.names.lookup y = some .local) (hl : (py.line == pos.line) = true)
    (ha : (scope.names.any fun (n, k) => n == y && (k == .local || k == .cell)) = false) : swapsWith (.DictComp kx vx gs scope pos) (some (.Name y py)) l env = pure true := by
  have ky : env.kindOf y = some .local := hy
  have hb : env.blockKind = .function := by unfold Env.blockKind; rw [hk]; rfl
  unfold swapsWith
  simp only [hb, ky, ha, Expr.pos, hl]
  rfl
end
end L2

set_option Elab.async false
set_option linter.all false
set_option maxRecDepth 100000
set_option maxHeartbeats 1000000
/-! {k: v}, k a tuple without a dict of its own; (a, b) as such a tuple -/
namespace L2
open PySem PySem.Spec PyProof.Rows
def tTupN (t : TA) : TE := fun σ H Q => t σ H fun xs H1 => xs.length ≤ sizeLine ∧ NewN H1 xs Q
theorem pe_tupN {X : Cx} {es : List Expr} {t : TA} {pos : Pos} {x1} (h : PA X es t) : PE X (.Tuple es x1 pos) (tTupN t) := by
  refine ⟨fun pins s σ H Q I hq => wpAny_Tuple_spliced (thn (h.run pos pins s σ H _ I hq) fun us s1 hh => ?_)⟩
  obtain ⟨xs, H1, I1, r, z, q⟩ := hh
  have n1 : H1 s1.heap.objs.size = none := I1.hok.fresh (Nat.le_refl _)
  exact ⟨by rw [← r.length]; exact z, .ref s1.heap.objs.size, _, tupN_laid I1 r z, rfl, q _ _ (Same.upd n1) n1 ⟨_, upd_same, rfl⟩⟩
def tDispN (X : Cx) (tk tv : TE) : TE := fun σ H Q => ∀ p, H p = none → tk σ (upd H p (DfO X.prog X.w p [])) fun x H1 => tv σ H1 fun y H2 => H2 p = some (DfO X.prog X.w p []) ∧ ∃ k b a, x = .ref b ∧ y = .ref a ∧ SqT X.K H2 b (k.map kV) ∧ Q (.ref p) (upd H2 p (DfO X.prog X.w p [(k, b, a)]))
section
variable {X : Cx} {k v : Expr} {tk tv : TE} {pos : Pos}
theorem pe_dispN (hu : X.A.units < cLine) (hk : PE X k tk) (hv : PE X v tv) : PE X (.Dict [some k] [v] pos) (tDispN X tk tv) := by
  refine ⟨fun pins s σ H Q I q => ?_⟩
  have hn := I.hok.fresh (Nat.le_refl s.heap.objs.size)
  generalize hp : s.heap.objs.size = p at hn
  have I1 : Inv X pins σ (upd H p (DfO X.prog X.w p [])) { s with heap := s.heap.push { cls := .type "dict", data := .dict #[] } } := by
    subst hp
    exact I.laid (t' := s.toks) (fun _ _ e => Heap.get?_push_of_some _ e) (Nat.le_refl _) (dn_empty s.heap I.big)
  have one : (pairTrees [some k] [v] X.env pos).length = 1 := rfl
  rw [arm_eval_Dict, zip_pairTrees [some k] [v] X.env pos rfl rfl, dictDisplay_pairs _ (by intro e; rw [e] at one; cases one) (by rw [one]; decide)]
  refine wpAny_bind (wpAny_standAt (wpAny_bind (wpAny_subDictH (knd := tupleKind (mixKind X.prog X.w)) (Q := fun d s' => wpAny (model X.prog X.w) X.A (pure (Value.ref d)) (EP X pins σ Q) X.xe s') hu (by rw [one]; decide) ?_)))
  refine thn ((pps_cons (pos := pos) hk hv pps_nil).run pins _ σ _ (fun ps H2 => match ps with
    | [(x, y)] => H2 p = some (DfO X.prog X.w p []) ∧ ∃ k b a, x = .ref b ∧ y = .ref a ∧ SqT X.K H2 b (k.map kV) ∧ Q (.ref p) (upd H2 p (DfO X.prog X.w p [(k, b, a)]))
    | _ => False) I1 (q p hn)) fun ws s2 hh => ?_
  obtain ⟨ps, H2, I2, rel, hh⟩ := hh
  match ps, hh with
  | [(x, y)], ⟨hD, kk, b, a, ex, ey, hb, hq⟩ =>
    subst ex ey
    unfold VV at rel
    cases rel with
    | @cons _ w1 _ _ h t =>
    cases t
    obtain ⟨w1a, w1b⟩ := w1
    obtain ⟨rx, ry⟩ := h
    obtain rfl : w1a = Value.ref b := rx
    obtain rfl : w1b = Value.ref a := ry
    have dd := dn_of I2 (.inl hD) (fun x hx => absurd hx List.not_mem_nil)
    rw [hp]
    refine ⟨[(kk, b, .ref a)], ⟨rfl, rfl, key_N I2 hb, trivial⟩, dd, fun h' tk dd' hs => wpAny_pure ⟨.ref p, _, ?_, rfl, hq⟩⟩
    obtain ⟨_, hm, _⟩ := dn_get I2 (.inl hD)
    obtain ⟨o, es, ep, ho, h2, h3, h4, _, h5⟩ := dd'
    exact d_write I2 (by rw [hD]; exact True.intro) hs ⟨o, ho⟩ (dn_ok ⟨by show 1 ≤ sizeLine; decide, hm, List.nodup_cons.mpr ⟨List.not_mem_nil, List.nodup_nil⟩, o, es, ep, ho, h2, h3, h4⟩)
end
end L2

set_option Elab.async false
set_option linter.all false
set_option maxRecDepth 100000
/-! Forms as lists of (letters, coefficient): the mathematics. -/
namespace L2
open PySem PySem.Spec PyProof.Rows
/-- the pair that lowest makes -/
def loq (a b : Int) : Int × Int :=
  let g : Int := ((Nat.gcd a.natAbs b.natAbs : Nat) : Int)
  let s := if b > 0 then g else -g
  (a.fdiv s, b.fdiv s)
theorem fdiv_dvd {a s : Int} (hs : s ≠ 0) (h : s ∣ a) : a.fdiv s = a / s := by
  obtain ⟨k, rfl⟩ := h
  rw [Int.mul_fdiv_cancel_left _ hs, Int.mul_ediv_cancel_left _ hs]
theorem loq_eq {a b : Int} (hb : b ≠ 0) : loq a b = ((Rat.divInt a b).num, ((Rat.divInt a b).den : Int)) := by
  have gp : 0 < Nat.gcd a.natAbs b.natAbs := Nat.gcd_pos_of_pos_right _ (by omega)
  have d1 : ((Nat.gcd a.natAbs b.natAbs : Nat) : Int) ∣ a := PySem.W.mg_dvd_left a b
  have d2 : ((Nat.gcd a.natAbs b.natAbs : Nat) : Int) ∣ b := PySem.W.mg_dvd_right a b
  unfold loq
  rw [Rat.num_divInt, Rat.den_divInt, if_neg hb]
  have gc : b.gcd a = Nat.gcd a.natAbs b.natAbs := by unfold Int.gcd; exact Nat.gcd_comm _ _
  rw [gc]
  generalize Nat.gcd a.natAbs b.natAbs = g at gp d1 d2
  have hg : (g : Int) ≠ 0 := by omega
  rcases Int.lt_or_gt_of_ne hb with h | h
  · have s1 : b.sign = -1 := Int.sign_eq_neg_one_of_neg h
    have e1 : a.fdiv (-(g : Int)) = b.sign * a / (g : Int) := by
      rw [fdiv_dvd (by omega) (Int.neg_dvd.mpr d1), s1]
      rw [Int.ediv_neg, show (-1 : Int) * a = -a by omega, Int.neg_ediv_of_dvd d1]
    have e2 : b.fdiv (-(g : Int)) = ((b.natAbs / g : Nat) : Int) := by
      rw [fdiv_dvd (by omega) (Int.neg_dvd.mpr d2), Int.ediv_neg, ← Int.neg_ediv_of_dvd d2]
      rw [Int.natCast_ediv]
      congr 1
      omega
    simp only [show ¬ (b > 0) by omega, if_false]
    rw [e1, e2]
  · have s1 : b.sign = 1 := Int.sign_eq_one_of_pos h
    have e1 : a.fdiv (g : Int) = b.sign * a / (g : Int) := by
      rw [fdiv_dvd hg d1, s1, Int.one_mul]
    have e2 : b.fdiv (g : Int) = ((b.natAbs / g : Nat) : Int) := by
      rw [fdiv_dvd hg d2, Int.natCast_ediv]
      congr 1
      omega
    simp only [show b > 0 from h, if_true]
    rw [e1, e2]
theorem loq_add (p q : Rat) : loq (p.num * (q.den : Int) + q.num * (p.den : Int)) ((p.den : Int) * (q.den : Int)) = ((p + q).num, ((p + q).den : Int)) := by
  have hp : (p.den : Int) ≠ 0 := by have := p.den_nz; omega
  have hq : (q.den : Int) ≠ 0 := by have := q.den_nz; omega
  rw [loq_eq (by intro e; rcases Int.mul_eq_zero.mp e with h | h <;> contradiction)]
  have e : Rat.divInt (p.num * (q.den : Int) + q.num * (p.den : Int)) ((p.den : Int) * (q.den : Int)) = p + q := by
    rw [← Rat.divInt_add_divInt _ _ hp hq, Rat.num_divInt_den, Rat.num_divInt_den]
  rw [e]
theorem loq_mul (p q : Rat) : loq (p.num * q.num) ((p.den : Int) * (q.den : Int)) = ((p * q).num, ((p * q).den : Int)) := by
  have hp : (p.den : Int) ≠ 0 := by have := p.den_nz; omega
  have hq : (q.den : Int) ≠ 0 := by have := q.den_nz; omega
  rw [loq_eq (by intro e; rcases Int.mul_eq_zero.mp e with h | h <;> contradiction)]
  have e : Rat.divInt (p.num * q.num) ((p.den : Int) * (q.den : Int)) = p * q := by
    rw [← Rat.divInt_mul_divInt, Rat.num_divInt_den, Rat.num_divInt_den]
  rw [e]
theorem rat_num (q : Rat) : (q.num : Rat) = q * (q.den : Rat) := by
  have h := Rat.num_divInt_den q
  rw [Rat.divInt_eq_div] at h
  have hd : ((q.den : Int) : Rat) ≠ 0 := by
    intro e
    have := Rat.intCast_inj.mp (e.trans (by rfl : (0 : Rat) = ((0 : Int) : Rat)))
    have := q.den_nz
    omega
  rw [Rat.intCast_natCast] at h hd
  grind
/-- a fraction's tuple -/
def frac (x : Rat) : List V := [.int x.num, .int x.den]
/-- q is z over D, z no more than M -/
def Bq (D M : Nat) (q : Rat) : Prop := ∃ z : Int, q * (D : Rat) = (z : Rat) ∧ z.natAbs ≤ M
theorem Bq.den {D M : Nat} {q : Rat} (h : Bq D M q) : q.den ∣ D := by
  obtain ⟨z, e, _⟩ := h
  have h1 : q.num * (D : Int) = z * (q.den : Int) := by
    have e1 : (q.num : Rat) = q * (q.den : Rat) := rat_num q
    have : ((q.num * (D : Int) : Int) : Rat) = ((z * (q.den : Int) : Int) : Rat) := by
      rw [Rat.intCast_mul, Rat.intCast_mul, e1, Rat.intCast_natCast, Rat.intCast_natCast, ← e]
      grind
    exact Rat.intCast_inj.mp this
  have h2 : q.den ∣ q.num.natAbs * D := by
    have h3 : (q.den : Int) ∣ q.num * (D : Int) := ⟨z, by rw [h1, Int.mul_comm]⟩
    have h4 := Int.natAbs_dvd_natAbs.mpr h3
    rwa [Int.natAbs_mul, Int.natAbs_natCast, Int.natAbs_natCast] at h4
  exact Nat.Coprime.dvd_of_dvd_mul_left (Nat.Coprime.symm q.reduced) h2
theorem Bq.den_le {D M : Nat} {q : Rat} (h : Bq D M q) (hD : 0 < D) : q.den ≤ D := Nat.le_of_dvd hD h.den
theorem Bq.num_le {D M : Nat} {q : Rat} (h : Bq D M q) (hD : 0 < D) : q.num.natAbs ≤ M := by
  obtain ⟨k, hk⟩ := h.den
  obtain ⟨z, e, hz⟩ := h
  have hk0 : 0 < k := by
    rcases Nat.eq_zero_or_pos k with r | r
    · rw [r, Nat.mul_zero] at hk; omega
    · exact r
  have h1 : q.num * (k : Int) = z := by
    have e1 : (q.num : Rat) = q * (q.den : Rat) := rat_num q
    have : ((q.num * (k : Int) : Int) : Rat) = (z : Rat) := by
      rw [Rat.intCast_mul, e1, Rat.intCast_natCast, ← e, hk, Rat.natCast_mul]
      grind
    exact Rat.intCast_inj.mp this
  have h2 : z.natAbs = q.num.natAbs * k := by rw [← h1, Int.natAbs_mul, Int.natAbs_natCast]
  rw [h2] at hz
  exact Nat.le_trans (Nat.le_mul_of_pos_right _ hk0) hz
theorem Bq.mono {D M M' : Nat} {q : Rat} (h : Bq D M q) (hM : M ≤ M') : Bq D M' q := let ⟨z, e, l⟩ := h; ⟨z, e, Nat.le_trans l hM⟩
theorem Bq.scale {D M k : Nat} {q : Rat} (h : Bq D M q) : Bq (D * k) (M * k) q := by
  obtain ⟨z, e, l⟩ := h
  refine ⟨z * k, ?_, ?_⟩
  · rw [Rat.natCast_mul, Rat.intCast_mul, Rat.intCast_natCast, ← e]; grind
  · rw [Int.natAbs_mul, Int.natAbs_natCast]; exact Nat.mul_le_mul_right _ l
theorem Bq.add {D M N : Nat} {p q : Rat} (h : Bq D M p) (k : Bq D N q) : Bq D (M + N) (p + q) := by
  obtain ⟨z, e, l⟩ := h
  obtain ⟨y, f, m⟩ := k
  refine ⟨z + y, ?_, ?_⟩
  · rw [Rat.intCast_add, ← e, ← f]; grind
  · have := Int.natAbs_add_le z y; omega
theorem Bq.mul {D E M N : Nat} {p q : Rat} (h : Bq D M p) (k : Bq E N q) : Bq (D * E) (M * N) (p * q) := by
  obtain ⟨z, e, l⟩ := h
  obtain ⟨y, f, m⟩ := k
  refine ⟨z * y, ?_, ?_⟩
  · rw [Rat.intCast_mul, Rat.natCast_mul, ← e, ← f]; grind
  · rw [Int.natAbs_mul]; exact Nat.mul_le_mul l m
theorem Bq.neg {D M : Nat} {q : Rat} (h : Bq D M q) : Bq D M (-q) := by
  obtain ⟨z, e, l⟩ := h
  refine ⟨-z, ?_, ?_⟩
  · rw [Rat.intCast_neg, ← e]; grind
  · omega
theorem Bq.zero {D : Nat} : Bq D 0 0 := ⟨0, by rw [Rat.zero_mul]; rfl, Nat.le_refl _⟩
theorem Bq.int {n : Int} : Bq 1 n.natAbs (n : Rat) := ⟨n, by grind, Nat.le_refl _⟩
end L2

set_option Elab.async false
set_option linter.all false
set_option maxRecDepth 100000
set_option maxHeartbeats 1000000
/-! the row's statements, and what stands where -/
namespace L2
open PySem PySem.Spec PyProof.Rows
/-- // by any number but 0 -/
def CDivX (_ j : Int) : Prop := j ≠ 0 ∧ j.natAbs.log2 < 9000
section
variable {X : Cx}
theorem op_fdivX : OpR X (binaryOp .FloorDiv) (rI CDivX fun i j => .int (i.fdiv j)) := opI fun i j _ _ _ _ _ hc q => floordiv_int hc.1 q (.inl (PyProof.noPylong_of_log2 hc.2))
end
end L2
namespace E2
open PySem L2
def top (i : Nat) : Stmt := PySem.Challenge.pw_cellplaces_k05_forms_by_name.main.body.getD i (.Pass ⟨0, 0, 0, 0⟩)
abbrev sIsWhole : Stmt := top 10
abbrev sIsLetter : Stmt := top 11
abbrev sIsValues : Stmt := top 12
abbrev sForm : Stmt := top 14
abbrev sLetter : Stmt := top 15
abbrev sNumber : Stmt := top 16
abbrev sRightSide : Stmt := top 17
abbrev sWithout : Stmt := top 18
abbrev sProductAt : Stmt := top 19
abbrev sLowest : Stmt := top 20
abbrev sFracSum : Stmt := top 21
abbrev sFracProd : Stmt := top 22
/-- a def of the module's, by its name -/
structure DefOk (P : Program) (w : World) (K : PySem.W.Frag) (mg : Str → Option Value) (base : Heap) (k : Nat) (x : Str) (ps : List Str) (sp : Sp) : Prop where
  ex : ∃ (f : Addr) (fd : FuncData), mg x = some (.ref f) ∧ PySem.W.keepIn K (.ref f) = true ∧ FnOk P w K mg base CX0 k f fd ps sp ∧ Binds K fd ps []
end E2

set_option Elab.async false
set_option linter.all false
set_option maxRecDepth 100000
set_option maxHeartbeats 1000000
/-! the law's own draws: _law_purse, _law_mixed, _law_draw -/
namespace L2
open PySem PySem.Spec PyProof.Rows
end L2
namespace E2
open PySem PySem.Spec PyProof.Rows L2
open C8 (Cal Mak Met InsC pe_c pe_mt pe_mt0 call_isC clsBody)
abbrev sPurse : Stmt := top 40
abbrev sMixed : Stmt := top 41
abbrev sDraw : Stmt := top 42
abbrev sPurses : Stmt := top 43
abbrev sOneOf : Stmt := top 43
structure Bt4 (mg : Str → Option Value) : Prop where
  sum_ : mg "sum" = none
  max_ : mg "max" = none
  min_ : mg "min" = none
  rng_ : mg "range" = none
  len_ : mg "len" = none
theorem cut_ints (ns : List Int) (lo hi : Option Int) : ∃ ms : List Int, cutV (ns.map V.int) lo hi = ms.map V.int :=
  ⟨(ns.drop (HT.sIx (ns.map V.int).length 0 lo)).take (HT.sIx (ns.map V.int).length (ns.map V.int).length hi - HT.sIx (ns.map V.int).length 0 lo), by unfold cutV; rw [← List.map_drop, ← List.map_take]⟩
/-- a purse, with so many draws left -/
def PurseAt (H : Hp) (a : Addr) (n : Nat) : Prop := ∃ p0 p1 p2 p3 : Int, H a = some (.lst [.int p0, .int p1, .int p2, .int p3]) ∧ 0 ≤ p0 ∧ p0 < 10 ^ 480 ∧ 0 ≤ p1 ∧ p1 < 2 ^ 31 ∧ 0 ≤ p2 ∧ p2 + n ≤ 2 ^ 60 ∧ 0 ≤ p3 ∧ p3 < 100
def spPurse (K : PySem.W.Frag) : Sp := fun vs H Q _ => ∃ (sc : Addr) (i : Int) (ns : List Int), vs = [.ref sc, .int i] ∧ SqL K H sc (ns.map V.int) ∧ 0 ≤ i ∧ i < 100 ∧ ∀ H' p, Same H H' → H p = none → PurseAt H' p (2 ^ 60) → Q (.ref p) H'
section
variable {P : Program} {w : World} {K : PySem.W.Frag} {mg : Str → Option Value} {base : Heap}
theorem scPurse : FnScope ["_law_script", "_law_at", "_law_seed"] ["_law_script", "_law_at"] (defScope sPurse) := ⟨rfl, rfl, rfl, by decide +kernel, rfl, by decide +kernel, by decide +kernel⟩
theorem ok_purse {f : Addr} {fd : FuncData} (F : Fun K "_law_purse" "_law_purse" sPurse f fd) (B : Bt4 mg) : FnOk P w K mg base CX0 1 f fd ["_law_script", "_law_at"] (spPurse K) := by
  refine F.ok scPurse (fun vs H Q E h => ?_) (fun cdv A outer s H vs Q E hr h => ?_)
  · obtain ⟨sc, i, ns, rfl, _⟩ := h
    rfl
  · obtain ⟨sc, i, ns, rfl, hs, i0, i1, k⟩ := h
    refine ⟨_, pss_cons (ps_set (i := 2) scPurse.nd rfl (Or.inl rfl) (pe_callB (cr_sum rfl) (by rfl) B.sum_ (by decide +kernel) (pa_cons (pe_slice sl_listS (pv 0) (po_some (pv 1)) (po_some (pe_op op_add (pv 1) pe_int))) pa_nil)))
      (pss_one (ps_ret (pe_lstS (pa_cons (pe_op op_mod (pe_callB (call_max2 rfl) (by rfl) B.max_ (by decide +kernel) (pa_cons (pe_op op_sub (pv 2) (pe_op op_pow pe_int pe_int)) (pa_cons pe_int pa_nil))) (pe_op op_powX (pe_op op_pow pe_int pe_int) pe_int))
        (pa_cons (pe_op op_mod (pv 2) pe_int) (pa_cons pe_int (pa_cons (pv 1) pa_nil))))))), ?_⟩
    obtain ⟨ms, hms⟩ := cut_ints ns (some i) (some (i + 1))
    refine ⟨_, rfl, _, rfl, i, rfl, _, rfl, i, 1, rfl, rfl, i + 1, rfl, sc, _, rfl, hs, fun pc H1 S1 n1 h1 => ?_⟩
    rw [hms] at h1
    refine ⟨pc, ms, rfl, SqL.of h1, ?_⟩
    have c1 : CPow 10 18 := ⟨by decide, by decide, by decide⟩
    have c2 : CPow 10 60 := ⟨by decide, by decide, by decide⟩
    have c3 : CPowX ((10 : Int) ^ (60 : Int).toNat) 8 := ⟨by decide, by decide +kernel⟩
    refine ⟨_, rfl, 10, 18, rfl, rfl, c1, _, _, rfl, rfl, _, _, rfl, ?_⟩
    refine ⟨10, 60, rfl, rfl, c2, _, 8, rfl, rfl, c3, _, _, rfl, rfl, (show (0 : Int) < ((10 : Int) ^ (60 : Int).toNat) ^ (8 : Int).toNat by decide +kernel), ?_⟩
    refine ⟨_, rfl, _, _, rfl, rfl, (show (0 : Int) < 2147483629 by decide), _, rfl, (by show 4 ≤ sizeLine; decide), fun p H2 S2 np hp => ?_⟩
    refine k H2 p (S1.trans S2) (S1.free np) ⟨_, _, _, _, hp, Int.emod_nonneg _ (by decide +kernel), ?_, Int.emod_nonneg _ (by decide), ?_, by decide, by decide, i0, i1⟩
    · have e : ((10 : Int) ^ (60 : Int).toNat) ^ (8 : Int).toNat = 10 ^ 480 := by decide +kernel
      rw [e]
      exact Int.emod_lt_of_pos _ (by decide +kernel)
    · exact Int.lt_trans (Int.emod_lt_of_pos _ (by decide)) (by decide)
def spMixed : Sp := fun vs H Q _ => ∃ a b c : Int, vs = [.int a, .int b, .int c] ∧ 0 ≤ a ∧ a < 2 ^ 31 ∧ 0 ≤ b ∧ b < 2 ^ 61 ∧ 0 ≤ c ∧ c < 100 ∧ ∀ r : Int, 0 ≤ r → r < 2147483587 → Q (.int r) H
theorem scMixed : FnScope ["_law_seed", "_law_turn", "_law_at", "_law_mixed_here"] ["_law_seed", "_law_turn", "_law_at"] (defScope sMixed) := ⟨rfl, rfl, rfl, by decide +kernel, rfl, by decide +kernel, by decide +kernel⟩
theorem ok_mixed {f : Addr} {fd : FuncData} (F : Fun K "_law_mixed" "_law_mixed" sMixed f fd) : FnOk P w K mg base CX0 1 f fd ["_law_seed", "_law_turn", "_law_at"] spMixed := by
  refine F.ok scMixed (fun vs H Q E h => ?_) (fun cdv A outer s H vs Q E hr h => ?_)
  · obtain ⟨a, b, c, rfl, _⟩ := h
    rfl
  · obtain ⟨a, b, c, rfl, a0, a1, b0, b1, c0, c1, k⟩ := h
    refine ⟨_, pss_cons (ps_set (i := 3) scMixed.nd rfl (Or.inl rfl) (pe_op op_add (pe_op op_mul (pv 0) pe_int) (pe_op op_mul (pe_op op_mul pe_int (pv 1)) (pv 1))))
      (pss_cons (ps_set (i := 3) scMixed.nd rfl (Or.inl rfl) (pe_op op_mod (pe_op op_add (pe_op op_add (pv 3) (pe_op op_mul pe_int (pv 2))) (pv 1)) pe_int))
      (pss_cons (ps_set (i := 3) scMixed.nd rfl (Or.inl rfl) (pe_op op_mod (pe_op op_add (pe_op op_mul (pv 3) (pv 3)) pe_int) pe_int))
      (pss_one (ps_ret (pe_op op_mod (pe_op op_mul (pv 3) pe_int) pe_int))))), ?_⟩
    refine ⟨_, rfl, _, _, rfl, rfl, .inr (by constructor <;> decide), _, rfl, _, _, rfl, rfl, .inl (by constructor <;> decide), _, rfl, _, _, rfl, rfl, .inr ⟨by omega, by omega⟩, _, _, rfl, rfl, ?_⟩
    refine ⟨_, rfl, _, rfl, _, _, rfl, rfl, .inl (by constructor <;> decide), _, _, rfl, rfl, _, rfl, _, _, rfl, rfl, _, _, rfl, rfl, (show (0 : Int) < 2147483647 by decide), ?_⟩
    generalize hm : (a * 69069 + 104729 * b * b + 7919 * c + b) % 2147483647 = m
    have m0 : 0 ≤ m := hm ▸ Int.emod_nonneg _ (by decide)
    have m1 : m < 2147483647 := hm ▸ Int.emod_lt_of_pos _ (by decide)
    refine ⟨_, rfl, _, rfl, _, _, rfl, rfl, .inr ⟨by omega, by omega⟩, _, _, rfl, rfl, _, _, rfl, rfl, (show (0 : Int) < 2147483629 by decide), ?_⟩
    refine ⟨_, rfl, _, _, rfl, rfl, .inr (by constructor <;> decide), _, _, rfl, rfl, (show (0 : Int) < 2147483587 by decide), ?_⟩
    exact k _ (Int.emod_nonneg _ (by decide)) (Int.emod_lt_of_pos _ (by decide))
end
end E2

set_option Elab.async false
set_option linter.all false
set_option maxRecDepth 100000
set_option maxHeartbeats 1000000
/-! A form's dict: keys and fractions. -/
namespace L2
open PySem PySem.Spec PyProof.Rows
abbrev Mon := List Str
abbrev Fm := List (Mon × Rat)
def kS (m : Mon) : List Key := m.map Sum.inr
theorem kS_inj {m n : Mon} (h : kS m = kS n) : m = n := by
  unfold kS at h
  exact (List.map_inj_right (fun a b e => Sum.inr.inj e)).mp h
theorem kS_kV (m : Mon) : (kS m).map kV = m.map V.str := by
  unfold kS
  rw [List.map_map]
  rfl
/-- what holds of tuples in H holds in H' -/
structure Mv (K : PySem.W.Frag) (H H' : Hp) : Prop where
  sq : ∀ a xs, SqT K H a xs → SqT K H' a xs
  tn : ∀ q xs, TupN H q xs → TupN H' q xs
/-- the dict's items are the form's terms -/
def FmKv (K : PySem.W.Frag) (H : Hp) (l : NAV) (fm : Fm) : Prop := Paired (fun e mq => e.1 = kS mq.1 ∧ TupN H e.2.1 (e.1.map kV) ∧ SqT K H e.2.2 (frac mq.2)) l fm
def valM (fm : Fm) (m : Mon) : Option Rat := (fm.find? fun x => decide (x.1 = m)).map (·.2)
def putM (fm : Fm) (m : Mon) (q : Rat) : Fm := if (fm.any fun x => decide (x.1 = m)) = true then fm.map (fun x => if x.1 = m then (x.1, q) else x) else fm ++ [(m, q)]
theorem SqT.same {K : PySem.W.Frag} {H H' : Hp} {a : Addr} {xs : List V} (h : SqT K H a xs) (S : Same H H') : SqT K H' a xs := by
  rcases h with (h | ⟨o, h⟩) | h
  · exact .inl (.inl (S _ _ h))
  · exact .inl (.inr ⟨o, S _ _ h⟩)
  · exact .inr h
theorem SqT.off {K : PySem.W.Frag} {H : Hp} {a d : Addr} {xs : List V} {u v : HO} (h : SqT K H a xs) (hd : H d = some u) (n1 : u ≠ .tup xs) (n2 : ∀ o, u ≠ .frz o (.tup xs)) : SqT K (upd H d v) a xs := by
  rcases h with (h | ⟨o, h⟩) | h
  · refine .inl (.inl ?_)
    rw [upd_ne]
    · exact h
    · rintro rfl
      rw [hd] at h
      exact n1 (Option.some.inj h)
  · refine .inl (.inr ⟨o, ?_⟩)
    rw [upd_ne]
    · exact h
    · rintro rfl
      rw [hd] at h
      exact n2 o (Option.some.inj h)
  · exact .inr h
theorem TupN.off {H : Hp} {q d : Addr} {xs : List V} {u v : HO} (h : TupN H q xs) (hd : H d = some u) (n2 : ∀ o, u ≠ .frz o (.tup xs)) : TupN (upd H d v) q xs := by
  obtain ⟨o, h1, h2⟩ := h
  refine ⟨o, ?_, h2⟩
  rw [upd_ne]
  · exact h1
  · rintro rfl
    rw [hd] at h1
    exact n2 o (Option.some.inj h1)
/-- no tuple, locked or not -/
def NoTup (u : HO) : Prop := (∀ xs, u ≠ .tup xs) ∧ ∀ o xs, u ≠ .frz o (.tup xs)
theorem noTup_df {P : Program} {w : World} {d : Addr} {l : NAV} : NoTup (DfO P w d l) := ⟨fun _ z => (nomatch (show HO.ext _ = _ from z)), fun _ _ z => (nomatch (show HO.ext _ = _ from z))⟩
theorem noTup_fz {P : Program} {w : World} {d : Addr} {o : Obj} {l : NAV} : NoTup (.frz o (DfO P w d l)) := ⟨fun _ z => (nomatch z), fun _ _ z => by
  injection z with _ e
  exact (nomatch (show HO.ext _ = _ from e))⟩
theorem Mv.refl {K : PySem.W.Frag} (H : Hp) : Mv K H H := ⟨fun _ _ h => h, fun _ _ h => h⟩
theorem Mv.trans {K : PySem.W.Frag} {H H' H'' : Hp} (a : Mv K H H') (b : Mv K H' H'') : Mv K H H'' := ⟨fun x y h => b.sq x y (a.sq x y h), fun x y h => b.tn x y (a.tn x y h)⟩
theorem Mv.same {K : PySem.W.Frag} {H H' : Hp} (S : Same H H') : Mv K H H' := ⟨fun _ _ h => h.same S, fun _ _ h => h.same S⟩
theorem Mv.off {K : PySem.W.Frag} {H : Hp} {d : Addr} {u v : HO} (hd : H d = some u) (n : NoTup u) : Mv K H (upd H d v) := ⟨fun _ xs h => h.off hd (n.1 xs) fun o => n.2 o xs, fun _ xs h => h.off hd fun o => n.2 o xs⟩
theorem Mv.sameB {K : PySem.W.Frag} {D : Addr} {H H' : Hp} {u : HO} (S : SameB D H H') (hD : H D = some u) (n : NoTup u) : Mv K H H' := ⟨fun a xs h => by
  rcases h with (h | ⟨o, h⟩) | h
  · exact .inl (.inl (S _ _ (fun e => by rw [e, hD] at h; exact n.1 xs (Option.some.inj h)) h))
  · exact .inl (.inr ⟨o, S _ _ (fun e => by rw [e, hD] at h; exact n.2 o xs (Option.some.inj h)) h⟩)
  · exact .inr h, fun q xs h => by
  obtain ⟨o, h1, h2⟩ := h
  exact ⟨o, S _ _ (fun e => by rw [e, hD] at h1; exact n.2 o xs (Option.some.inj h1)) h1, h2⟩⟩
theorem Mv.agree {K : PySem.W.Frag} {H H' : Hp} {d : Addr} {u : HO} (hd : H d = some u) (n : NoTup u) (A : ∀ b, b ≠ d → H' b = H b) : Mv K H H' := ⟨fun a xs h => by
  rcases h with (h | ⟨o, h⟩) | h
  · exact .inl (.inl (by rw [A a fun e => by rw [e, hd] at h; exact n.1 xs (Option.some.inj h)]; exact h))
  · exact .inl (.inr ⟨o, by rw [A a fun e => by rw [e, hd] at h; exact n.2 o xs (Option.some.inj h)]; exact h⟩)
  · exact .inr h, fun q xs h => by
  obtain ⟨o, h1, h2⟩ := h
  exact ⟨o, by rw [A q fun e => by rw [e, hd] at h1; exact n.2 o xs (Option.some.inj h1)]; exact h1, h2⟩⟩
section
variable {K : PySem.W.Frag} {H H' : Hp} {l : NAV} {fm : Fm}
theorem FmKv.imp (h : FmKv K H l fm) (f : Mv K H H') : FmKv K H' l fm := Paired.mapP h fun _ _ z => ⟨z.1, f.tn _ _ z.2.1, f.sq _ _ z.2.2⟩
theorem FmKv.same (h : FmKv K H l fm) (S : Same H H') : FmKv K H' l fm := h.imp (.same S)
theorem FmKv.length (h : FmKv K H l fm) : l.length = fm.length := Paired.length h
theorem FmKv.keys (h : FmKv K H l fm) : KeysD H l := by
  unfold FmKv at h
  induction h with
  | nil => intro x hx; exact absurd hx List.not_mem_nil
  | cons r t ih =>
    intro x hx
    rcases List.mem_cons.mp hx with rfl | hx
    · exact r.2.1
    · exact ih x hx
theorem findN_hit {x : List Key × Addr × Addr} {r : NAV} {k : List Key} (e : x.1 = k) : findN (x :: r) k = some x.2 := by simp [findN, List.find?_cons, e]
theorem findN_miss {x : List Key × Addr × Addr} {r : NAV} {k : List Key} (e : ¬ x.1 = k) : findN (x :: r) k = findN r k := by simp [findN, List.find?_cons, e]
theorem FmKv.val (h : FmKv K H l fm) (m : Mon) : (findN l (kS m) = none ∧ valM fm m = none) ∨ ∃ b a q, findN l (kS m) = some (b, a) ∧ valM fm m = some q ∧ SqT K H a (frac q) := by
  unfold FmKv at h
  induction h with
  | nil => exact .inl ⟨rfl, rfl⟩
  | @cons p x ps xs r t ih =>
    obtain ⟨e, _, sa⟩ := r
    by_cases c : x.1 = m
    · exact .inr ⟨p.2.1, p.2.2, x.2, findN_hit (by rw [e, c]), by simp [valM, List.find?_cons, c], sa⟩
    · rw [findN_miss fun z => c (kS_inj (e.symm.trans z)), show valM (x :: xs) m = valM xs m by simp [valM, List.find?_cons, c]]
      exact ih
theorem FmKv.any (h : FmKv K H l fm) (m : Mon) : (findN l (kS m)).isSome = (fm.any fun x => decide (x.1 = m)) := by
  unfold FmKv at h
  induction h with
  | nil => rfl
  | @cons p x ps xs r t ih =>
    rw [List.any_cons]
    by_cases c : x.1 = m
    · rw [findN_hit (by rw [r.1, c]), decide_eq_true c]
      rfl
    · rw [findN_miss fun z => c (kS_inj (r.1.symm.trans z)), ih, decide_eq_false c, Bool.false_or]
theorem FmKv.put (h : FmKv K H l fm) (m : Mon) {q : Rat} {b a : Addr} (hb : TupN H b ((kS m).map kV)) (sa : SqT K H a (frac q)) : FmKv K H (putN l (kS m) b a) (putM fm m q) := by
  unfold putN putM
  rw [h.any m]
  split
  · have e : ∀ {l : NAV} {n : Fm}, FmKv K H l n → FmKv K H (l.map fun x => if x.1 = kS m then (x.1, x.2.1, a) else x) (n.map fun x => if x.1 = m then (x.1, q) else x) := by
      intro l n g
      unfold FmKv at g ⊢
      induction g with
      | nil => exact .nil
      | @cons p x ps xs r t ih =>
        rw [List.map_cons, List.map_cons]
        refine .cons ?_ ih
        by_cases c : x.1 = m
        · rw [if_pos c, if_pos (by rw [r.1, c])]
          exact ⟨r.1, r.2.1, sa⟩
        · rw [if_neg c, if_neg fun z => c (kS_inj (r.1.symm.trans z))]
          exact r
    exact e h
  · exact Paired.snoc h ⟨rfl, hb, sa⟩
theorem FmKv.get (h : FmKv K H l fm) {i : Nat} {e : List Key × Addr × Addr} (g : l[i]? = some e) : ∃ m q b a, fm[i]? = some (m, q) ∧ e = (kS m, b, a) ∧ TupN H b ((kS m).map kV) ∧ SqT K H a (frac q) := by
  obtain ⟨b, hb, e1, e2, sa⟩ := paired_get h g
  exact ⟨b.1, b.2, e.2.1, e.2.2, hb, Prod.ext e1 rfl, by rw [← e1]; exact e2, sa⟩
end
theorem putM_new {fm : Fm} {m : Mon} (q : Rat) (h : m ∉ fm.map (·.1)) : putM fm m q = fm ++ [(m, q)] := by
  unfold putM
  rw [if_neg]
  intro z
  obtain ⟨x, hx, e⟩ := List.any_eq_true.mp z
  exact h (List.mem_map.mpr ⟨x, hx, of_decide_eq_true e⟩)
theorem same_back {H H' : Hp} {d : Addr} {u z : HO} (hd : H d = some u) (S : Same (upd H d z) H') : Same H (upd H' d u) := by
  intro b o e
  by_cases c : b = d
  · subst c
    rw [upd_same]
    rw [hd] at e
    exact e
  · rw [upd_ne c]
    exact S b o (by rw [upd_ne c]; exact e)
end L2

set_option Elab.async false
set_option linter.all false
set_option maxRecDepth 100000
set_option maxHeartbeats 1000000
/-! {names: .. for .. in a form's dict} -/
namespace L2
open PySem PySem.Spec PyProof.Rows
/-- a comprehension over n turns: Pv by the turn and the heap (the new dict at D within) -/
theorem dcN_it {P : Program} {w : World} {K : PySem.W.Frag} {J : It} {n : Nat} {G : Hp → Prop} {Y : Nat → Hp → V → Hp → Prop} (wk : Walk J n G Y) {g : TG} {tt : TT} {tk tv : TE} {vs : List Nat} {σ : St} {H1 : Hp} {D : Addr} {Qd : Hp → Prop} (Pv : Nat → Hp → Prop) (h0 : Pv 0 (upd H1 D (DfO P w D [])))
    (hG : ∀ i H, i ≤ n → Pv i H → G H) (hs : ∀ i x H H', i < n → Pv i H → Y i H x H' → g x (wipe σ vs) H' fun σ2 H2 => wipe σ2 vs = wipe σ vs ∧ tt σ2 H2 fun b H3 =>
      if b = true then tk σ2 H3 fun y H4 => tv σ2 H4 fun z H5 => TurnN P w K D (Pv (i + 1)) y z H5 else Pv (i + 1) H3) (hd : ∀ H, Pv n H → Qd H) :
    ∃ W : Nat → Nat → Hp → Prop, (∃ m, W 0 m (upd H1 D (DfO P w D []))) ∧ ∀ i m H, W i m H →
      (J.stop i H ∧ Qd H) ∨ (J.go i H ∧ ∃ Nx : Hp → Prop, (∀ H', Nx H' → ∃ m', m' < m ∧ W (i + 1) m' H') ∧ ∀ x H', J.yld i H x H' → g x (wipe σ vs) H' fun σ2 H2 => wipe σ2 vs = wipe σ vs ∧ tt σ2 H2 fun b H3 =>
        if b = true then tk σ2 H3 fun y H4 => tv σ2 H4 fun z H5 => TurnN P w K D Nx y z H5 else Nx H3) := by
  refine ⟨fun i m H => m + i = n ∧ Pv i H, ⟨n, rfl, h0⟩, fun i m H hw => ?_⟩
  obtain ⟨hm, p⟩ := hw
  have q := hG i H (by omega) p
  cases m with
  | zero =>
    have hi : i = n := by omega
    subst hi
    exact .inl ⟨wk.stops H q, hd H p⟩
  | succ k => exact .inr ⟨wk.goes i H (by omega) q, Pv (i + 1), fun H' p' => ⟨k, Nat.lt_succ_self k, by omega, p'⟩, fun x H' y => hs i x H H' (by omega) p (wk.yields i H x H' (by omega) q y)⟩
/-- the terms that p keeps, their coefficients by f -/
def mapM (p : Rat → Bool) (f : Rat → Rat) (fm : Fm) : Fm := (fm.filter fun x => p x.2).map fun x => (x.1, f x.2)
theorem mapM_keys {p : Rat → Bool} {f : Rat → Rat} {fm : Fm} {m : Mon} (h : m ∈ (mapM p f fm).map (·.1)) : m ∈ fm.map (·.1) := by
  unfold mapM at h
  rw [List.map_map] at h
  obtain ⟨x, hx, e⟩ := List.mem_map.mp h
  exact List.mem_map.mpr ⟨x, (List.mem_filter.mp hx).1, e⟩
theorem mapM_snoc {p : Rat → Bool} {f : Rat → Rat} {fm : Fm} {m : Mon} {q : Rat} : mapM p f (fm ++ [(m, q)]) = if p q = true then mapM p f fm ++ [(m, f q)] else mapM p f fm := by
  unfold mapM
  rw [List.filter_append]
  by_cases c : p q = true
  · rw [if_pos c, List.filter_cons, if_pos c, List.filter_nil, List.map_append]
    rfl
  · rw [if_neg c, List.filter_cons, if_neg c, List.filter_nil, List.append_nil]
theorem mapM_nodup {p : Rat → Bool} {f : Rat → Rat} {fm : Fm} (h : (fm.map (·.1)).Nodup) : ((mapM p f fm).map (·.1)).Nodup := by
  unfold mapM
  rw [List.map_map]
  exact List.Nodup.sublist ((List.filter_sublist).map _) h
theorem take_snoc {α : Type} {l : List α} {i : Nat} {x : α} (h : l[i]? = some x) : l.take (i + 1) = l.take i ++ [x] := by
  rw [List.take_succ, h]
  rfl
theorem nodup_new {fm : Fm} (h : (fm.map (·.1)).Nodup) {i : Nat} {m : Mon} {q : Rat} (e : fm[i]? = some (m, q)) : m ∉ (fm.take i).map (·.1) := by
  intro z
  rw [List.map_take] at z
  obtain ⟨j, hj⟩ := List.getElem?_of_mem z
  have hji : j < i := by
    rcases Nat.lt_or_ge j i with c | c
    · exact c
    · rw [List.getElem?_eq_none (by rw [List.length_take]; omega)] at hj
      cases hj
  rw [List.getElem?_take_of_lt hji] at hj
  have e' : (fm.map (·.1))[i]? = some m := by rw [List.getElem?_map, e]; rfl
  obtain ⟨li, ei⟩ := List.getElem?_eq_some_iff.mp e'
  obtain ⟨lj, ej⟩ := List.getElem?_eq_some_iff.mp hj
  have := (List.getElem_inj (xs := fm.map (·.1)) h).mp (ej.trans ei.symm)
  omega
/-- over d.items(): what a turn does with a term -/
theorem dcN_fm {P : Program} {w : World} {K : PySem.W.Frag} {H1 : Hp} {d D : Addr} {o : Obj} {l : NAV} {fm : Fm} {p : Rat → Bool} {f : Rat → Rat} {g : TG} {tt : TT} {tk tv : TE} {vs : List Nat} {σ : St} {Qd : Hp → Prop}
    (hd : H1 d = some (.frz o (DfO P w d l))) (hD : H1 D = none) (hf : FmKv K H1 l fm) (hn : (fm.map (·.1)).Nodup) (hz : fm.length ≤ sizeLine)
    (hs : ∀ (i : Nat) (m : Mon) (q : Rat) (H' : Hp) (T b a : Addr) (put : V → V → Hp → Prop) (skip : Hp → Prop), fm[i]? = some (m, q) → Same H1 H' → H' T = some (.tup [.ref b, .ref a]) → TupN H' b ((kS m).map kV) → SqT K H' a (frac q) →
      (p q = true → ∀ H5 (b' a' : Addr), Same H' H5 → TupN H5 b' ((kS m).map kV) → SqT K H5 a' (frac (f q)) → put (.ref b') (.ref a') H5) → (p q = false → ∀ H5, Same H' H5 → skip H5) →
      g (.ref T) (wipe σ vs) H' fun σ2 H2 => wipe σ2 vs = wipe σ vs ∧ tt σ2 H2 fun c H3 => if c = true then tk σ2 H3 fun y H4 => tv σ2 H4 fun z H5 => put y z H5 else skip H3)
    (hq : ∀ H' l', Same H1 H' → H' D = some (DfO P w D l') → FmKv K H' l' (mapM p f fm) → Qd H') :
    ∃ W : Nat → Nat → Hp → Prop, (∃ m, W 0 m (upd H1 D (DfO P w D []))) ∧ ∀ i m H, W i m H →
      ((ItiN P w d o l).stop i H ∧ Qd H) ∨ ((ItiN P w d o l).go i H ∧ ∃ Nx : Hp → Prop, (∀ H', Nx H' → ∃ m', m' < m ∧ W (i + 1) m' H') ∧ ∀ x H', (ItiN P w d o l).yld i H x H' → g x (wipe σ vs) H' fun σ2 H2 => wipe σ2 vs = wipe σ vs ∧ tt σ2 H2 fun b H3 =>
        if b = true then tk σ2 H3 fun y H4 => tv σ2 H4 fun z H5 => TurnN P w K D Nx y z H5 else Nx H3) := by
  refine dcN_it walk_itemsN (fun i H' => Same H1 H' ∧ ∃ l', H' D = some (DfO P w D l') ∧ FmKv K H' l' (mapM p f (fm.take i))) ⟨Same.upd hD, [], upd_same, .nil⟩ (fun i H _ q => q.1 _ _ hd) ?_ ?_
  · rintro i x H H' hi ⟨S, l', hD', kv'⟩ ⟨T, k, qb, av, hkv, rfl, nT, rfl⟩
    obtain ⟨m, q, b, a, hm, e, tb, sa⟩ := hf.get hkv
    obtain ⟨rfl, e2⟩ := Prod.mk.inj e
    obtain ⟨rfl, rfl⟩ := Prod.mk.inj e2
    have S2 : Same H (upd H T (.tup [.ref qb, .ref av])) := Same.upd nT
    have hD2 := S2 _ _ hD'
    have tk1 := take_snoc hm
    have ml : (mapM p f (fm.take i)).length ≤ i := by
      unfold mapM
      rw [List.length_map]
      exact Nat.le_trans (List.length_filter_le _ _) (by rw [List.length_take]; exact Nat.min_le_left _ _)
    have hil : i < fm.length := by rw [← hf.length]; exact hi
    refine hs i m q _ T qb av _ _ hm (S.trans S2) upd_same ((tb.same S).same S2) ((sa.same S).same S2) (fun pq H5 b' a' S5 hb' sa' => ?_) (fun pq H5 S5 => ?_)
    · have k5 : FmKv K H5 l' (mapM p f (fm.take i)) := (kv'.same S2).same S5
      refine ⟨l', kS m, b', a', rfl, rfl, hb'.sq, S5 _ _ hD2, k5.keys, ?_, ?_, ?_⟩
      · rw [kv'.length]
        omega
      · intro c u e
        rw [upd_ne (ne_of_none e hD)]
        exact S5 _ _ (S2 _ _ (S _ _ e))
      · refine ⟨_, upd_same, ?_⟩
        rw [tk1, mapM_snoc, if_pos pq]
        have n5 : m ∉ (mapM p f (fm.take i)).map (·.1) := fun z => nodup_new hn hm (mapM_keys z)
        have k6 := k5.put m hb' sa'
        rw [putM_new _ n5] at k6
        exact k6.imp (.off (S5 _ _ hD2) noTup_df)
    · refine ⟨(S.trans S2).trans S5, l', S5 _ _ hD2, ?_⟩
      rw [tk1, mapM_snoc, if_neg (by rw [pq]; exact Bool.false_ne_true)]
      exact (kv'.same S2).same S5
  · rintro H ⟨S, l', hD', kv'⟩
    rw [hf.length, List.take_length] at kv'
    exact hq H l' S hD' kv'
/-- the dict locked, its items walked by a dict comprehension, the dict open again -/
theorem lock_items {P : Program} {w : World} {K : PySem.W.Frag} {H : Hp} {d : Addr} {l : NAV} {fm : Fm} {p : Rat → Bool} {f : Rat → Rat} {td : TE} {g : TG} {tt : TT} {tk tv : TE} {vs : List Nat} {σ : St} {Q : VK}
    (hd : H d = some (DfO P w d l)) (hf : FmKv K H l fm) (hn : (fm.map (·.1)).Nodup) (hz : fm.length ≤ sizeLine)
    (hte : ∀ (od : Obj) (R : VK), R (.ref d) (upd H d (.frz od (DfO P w d l))) → td σ (upd H d (.frz od (DfO P w d l))) R)
    (hs : ∀ (H1 : Hp), Mv K H H1 → ∀ (i : Nat) (m : Mon) (q : Rat) (H' : Hp) (T b a : Addr) (put : V → V → Hp → Prop) (skip : Hp → Prop), fm[i]? = some (m, q) → Same H1 H' → H' T = some (.tup [.ref b, .ref a]) → TupN H' b ((kS m).map kV) → SqT K H' a (frac q) →
      (p q = true → ∀ H5 (b' a' : Addr), Same H' H5 → TupN H5 b' ((kS m).map kV) → SqT K H5 a' (frac (f q)) → put (.ref b') (.ref a') H5) → (p q = false → ∀ H5, Same H' H5 → skip H5) →
      g (.ref T) (wipe σ vs) H' fun σ2 H2 => wipe σ2 vs = wipe σ vs ∧ tt σ2 H2 fun c H3 => if c = true then tk σ2 H3 fun y H4 => tv σ2 H4 fun z H5 => put y z H5 else skip H3)
    (hq : ∀ H' D l', Same H H' → H D = none → H' D = some (DfO P w D l') → FmKv K H' l' (mapM p f fm) → Q (.ref D) H') :
    tLockE (tDcN P w K (iItemsN P w td) g tt tk tv vs) σ H Q := by
  refine ⟨d, DfO P w d l, hd, trivial, fun od => ?_⟩
  have M1 : Mv K H (upd H d (.frz od (DfO P w d l))) := .off hd noTup_df
  refine hte od _ ⟨d, od, l, rfl, upd_same, fun D nD => ?_⟩
  have neD : D ≠ d := by
    rintro rfl
    rw [upd_same] at nD
    cases nD
  have nD' : H D = none := by rwa [upd_ne neD] at nD
  refine dcN_fm (p := p) (f := f) upd_same nD (hf.imp M1) hn hz (hs _ M1) fun H' l' S hD kv => ⟨S _ _ upd_same, ?_⟩
  exact hq _ D l' (same_back hd S) nD' (by rw [upd_ne neD]; exact hD) (kv.imp (.off (S _ _ upd_same) noTup_fz))
end L2

set_option Elab.async false
set_option linter.all false
set_option maxRecDepth 100000
set_option maxHeartbeats 1000000
/-! lowest, fraction_sum, fraction_product -/
namespace E2
open PySem PySem.Spec PyProof.Rows L2
open C8 (Cal Mak Met InsC pe_c pe_mt pe_mt0 call_isC clsBody)
theorem log2_mono {a b : Nat} (h : a ≤ b) : a.log2 ≤ b.log2 := by
  rcases Nat.eq_zero_or_pos a with r | r
  · rw [r]; exact Nat.zero_le _
  · rw [Nat.le_log2 (by omega)]
    exact Nat.le_trans (Nat.log2_self_le (by omega)) h
def spLowest : Sp := fun vs H Q _ => ∃ a b : Int, vs = [.int a, .int b] ∧ b ≠ 0 ∧ b.natAbs.log2 < 9000 ∧ NewQ H (.tup [.int (loq a b).1, .int (loq a b).2]) Q
section
variable {P : Program} {w : World} {K : PySem.W.Frag} {mg : Str → Option Value} {base : Heap}
theorem scLowest : FnScope ["top", "bottom", "shared"] ["top", "bottom"] (defScope sLowest) := ⟨rfl, rfl, rfl, by decide +kernel, rfl, by decide +kernel, by decide +kernel⟩
theorem ok_lowest {f : Addr} {fd : FuncData} (F : Fun K "lowest" "lowest" sLowest f fd) (hgcd : mg "gcd" = some (.builtin "math.gcd")) : FnOk P w K mg base CX0 1 f fd ["top", "bottom"] spLowest := by
  refine F.ok scLowest (fun vs H Q E h => ?_) (fun cdv A outer s H vs Q E hr h => ?_)
  · obtain ⟨a, b, rfl, _⟩ := h
    rfl
  · obtain ⟨a, b, rfl, hb, hl, k⟩ := h
    refine ⟨_, pss_cons (ps_set (i := 2) scLowest.nd rfl (Or.inl rfl) (pe_ifExp (pt_cmpR op_gt (pv 1) pe_int (by rfl))
        (pe_callBfun cr_gcd rfl hgcd (pa_cons (pv 0) (pa_cons (pv 1) pa_nil))) (pe_un un_neg (pe_callBfun cr_gcd rfl hgcd (pa_cons (pv 0) (pa_cons (pv 1) pa_nil))))))
      (pss_one (ps_ret (pe_tupS (pa_cons (pe_op op_fdivX (pv 0) (pv 2)) (pa_cons (pe_op op_fdivX (pv 1) (pv 2)) pa_nil))))), ?_⟩
    have gp : 0 < Nat.gcd a.natAbs b.natAbs := Nat.gcd_pos_of_pos_right _ (by omega)
    have gl : (Nat.gcd a.natAbs b.natAbs).log2 < 9000 := Nat.lt_of_le_of_lt (log2_mono (Nat.gcd_le_right _ (by omega))) hl
    refine ⟨_, rfl, b, 0, rfl, rfl, _, rfl, ?_⟩
    refine iteD (fun h => ?_) (fun h => ?_)
    · refine ⟨_, rfl, _, rfl, a, b, rfl, ?_⟩
      have c : CDivX a ((Nat.gcd a.natAbs b.natAbs : Nat) : Int) := ⟨by omega, by simpa using gl⟩
      refine ⟨_, rfl, _, rfl, _, _, rfl, rfl, c, _, rfl, _, rfl, _, _, rfl, rfl, c, (by show 2 ≤ sizeLine; decide), ?_⟩
      have e : loq a b = (a.fdiv ((Nat.gcd a.natAbs b.natAbs : Nat) : Int), b.fdiv ((Nat.gcd a.natAbs b.natAbs : Nat) : Int)) := by
        unfold loq
        simp only [show b > 0 from h, if_true]
      rw [e] at k
      exact k
    · refine ⟨_, rfl, _, rfl, a, b, rfl, _, rfl, ?_⟩
      have c : CDivX a (-((Nat.gcd a.natAbs b.natAbs : Nat) : Int)) := ⟨by omega, by simpa using gl⟩
      refine ⟨_, rfl, _, rfl, _, _, rfl, rfl, c, _, rfl, _, rfl, _, _, rfl, rfl, c, (by show 2 ≤ sizeLine; decide), ?_⟩
      have e : loq a b = (a.fdiv (-((Nat.gcd a.natAbs b.natAbs : Nat) : Int)), b.fdiv (-((Nat.gcd a.natAbs b.natAbs : Nat) : Int))) := by
        unfold loq
        simp only [show ¬ (b > 0) from h, if_false]
      rw [e] at k
      exact k

/-- two fractions, each a tuple; the third, a new one -/
def spFrac (K : PySem.W.Frag) (g : Rat → Rat → Rat) : Sp := fun vs H Q _ => ∃ (p q : Addr) (x y : Rat), vs = [.ref p, .ref q] ∧ SqT K H p (frac x) ∧ SqT K H q (frac y) ∧ x.num.natAbs < 2 ^ 400000 ∧ y.num.natAbs < 2 ^ 400000 ∧ x.den < 2 ^ 4000 ∧ y.den < 2 ^ 4000 ∧ NewQ H (.tup (frac (g x y))) Q
theorem cmw {i j : Int} {a b : Nat} (ha : i.natAbs < 2 ^ a) (hb : j.natAbs < 2 ^ b) (h0 : 0 < a) (h1 : 0 < b) (h : a + b ≤ 1000000) : CMulW i j := wide_mul ha hb h0 h1 h
theorem den_log {a b : Nat} (ha : a < 2 ^ 4000) (hb : b < 2 ^ 4000) : ((a : Int) * (b : Int)).natAbs.log2 < 9000 := by
  have e : ((a : Int) * (b : Int)).natAbs < 2 ^ (4000 + 4000) := wide_lt (a := 4000) (b := 4000) (by rw [Int.natAbs_natCast]; exact ha) (by rw [Int.natAbs_natCast]; exact hb)
  exact Nat.lt_of_lt_of_le (PySem.Flt.log2_lt_of (by decide) e) (by decide)
theorem den_ne {x y : Rat} : (x.den : Int) * (y.den : Int) ≠ 0 := by
  have h1 := x.den_nz
  have h2 := y.den_nz
  intro e
  rcases Int.mul_eq_zero.mp e with h | h <;> omega
theorem scFracSum : FnScope ["one", "other"] ["one", "other"] (defScope sFracSum) := ⟨rfl, rfl, rfl, by decide +kernel, rfl, by decide +kernel, by decide +kernel⟩
theorem ok_fracSum {f : Addr} {fd : FuncData} (F : Fun K "fraction_sum" "fraction_sum" sFracSum f fd) (L : Cal P w K mg base 1 "lowest" spLowest []) : FnOk P w K mg base CX0 2 f fd ["one", "other"] (spFrac K (· + ·)) := by
  refine F.ok scFracSum (fun vs H Q E h => ?_) (fun cdv A outer s H vs Q E hr h => ?_)
  · obtain ⟨p, q, x, y, rfl, _⟩ := h
    rfl
  · obtain ⟨p, q, x, y, rfl, hp, hq, nx, ny, dx, dy, k⟩ := h
    refine ⟨_, pss_one (ps_ret (pe_c L hr (by decide) rfl (pa_cons (pe_op op_add (pe_op op_mulW (pe_ix ix_tup (pv 0) pe_int (fun _ _ => rfl)) (pe_ix ix_tup (pv 1) pe_int (fun _ _ => rfl))) (pe_op op_mulW (pe_ix ix_tup (pv 1) pe_int (fun _ _ => rfl)) (pe_ix ix_tup (pv 0) pe_int (fun _ _ => rfl))))
      (pa_cons (pe_op op_mulW (pe_ix ix_tup (pv 0) pe_int (fun _ _ => rfl)) (pe_ix ix_tup (pv 1) pe_int (fun _ _ => rfl))) pa_nil)))), ?_⟩
    have cx : (x.den : Int).natAbs < 2 ^ 4000 := by rw [Int.natAbs_natCast]; exact dx
    have cy : (y.den : Int).natAbs < 2 ^ 4000 := by rw [Int.natAbs_natCast]; exact dy
    refine ⟨_, rfl, p, _, 0, _, rfl, rfl, hp, rfl, _, rfl, q, _, 1, _, rfl, rfl, hq, rfl, _, _, rfl, rfl, cmw nx cy (by decide) (by decide) (by decide), ?_⟩
    refine ⟨_, rfl, q, _, 0, _, rfl, rfl, hq, rfl, _, rfl, p, _, 1, _, rfl, rfl, hp, rfl, _, _, rfl, rfl, cmw ny cx (by decide) (by decide) (by decide), ?_⟩
    refine ⟨_, _, rfl, rfl, ?_⟩
    refine ⟨_, rfl, p, _, 1, _, rfl, rfl, hp, rfl, _, rfl, q, _, 1, _, rfl, rfl, hq, rfl, _, _, rfl, rfl, cmw cx cy (by decide) (by decide) (by decide), ?_⟩
    refine ⟨_, _, rfl, den_ne, den_log dx dy, ?_⟩
    rw [loq_add]
    exact k
theorem scFracProd : FnScope ["one", "other"] ["one", "other"] (defScope sFracProd) := ⟨rfl, rfl, rfl, by decide +kernel, rfl, by decide +kernel, by decide +kernel⟩
theorem ok_fracProd {f : Addr} {fd : FuncData} (F : Fun K "fraction_product" "fraction_product" sFracProd f fd) (L : Cal P w K mg base 1 "lowest" spLowest []) : FnOk P w K mg base CX0 2 f fd ["one", "other"] (spFrac K (· * ·)) := by
  refine F.ok scFracProd (fun vs H Q E h => ?_) (fun cdv A outer s H vs Q E hr h => ?_)
  · obtain ⟨p, q, x, y, rfl, _⟩ := h
    rfl
  · obtain ⟨p, q, x, y, rfl, hp, hq, nx, ny, dx, dy, k⟩ := h
    refine ⟨_, pss_one (ps_ret (pe_c L hr (by decide) rfl (pa_cons (pe_op op_mulW (pe_ix ix_tup (pv 0) pe_int (fun _ _ => rfl)) (pe_ix ix_tup (pv 1) pe_int (fun _ _ => rfl)))
      (pa_cons (pe_op op_mulW (pe_ix ix_tup (pv 0) pe_int (fun _ _ => rfl)) (pe_ix ix_tup (pv 1) pe_int (fun _ _ => rfl))) pa_nil)))), ?_⟩
    have cx : (x.den : Int).natAbs < 2 ^ 4000 := by rw [Int.natAbs_natCast]; exact dx
    have cy : (y.den : Int).natAbs < 2 ^ 4000 := by rw [Int.natAbs_natCast]; exact dy
    refine ⟨_, rfl, p, _, 0, _, rfl, rfl, hp, rfl, _, rfl, q, _, 0, _, rfl, rfl, hq, rfl, _, _, rfl, rfl, cmw nx ny (by decide) (by decide) (by decide), ?_⟩
    refine ⟨_, rfl, p, _, 1, _, rfl, rfl, hp, rfl, _, rfl, q, _, 1, _, rfl, rfl, hq, rfl, _, _, rfl, rfl, cmw cx cy (by decide) (by decide) (by decide), ?_⟩
    refine ⟨_, _, rfl, den_ne, den_log dx dy, ?_⟩
    rw [loq_mul]
    exact k
end
end E2

set_option Elab.async false
set_option linter.all false
set_option maxRecDepth 100000
set_option maxHeartbeats 1000000
/-! Forms as objects: Form(..), -a, a.over(n), a + b, .. -/
namespace L2
open PySem PySem.Spec PyProof.Rows
open C8 (Cal Mak Met InsC)
/-- the form at a -/
def FmAt (P : Program) (w : World) (K : PySem.W.Frag) (C : Addr) (H : Hp) (a : Addr) (fm : Fm) : Prop := ∃ dx d kvs, H a = some (.ins C dx [("_parts", .ref d)]) ∧ H d = some (DfO P w d kvs) ∧ FmKv K H kvs fm
theorem FmAt.same {P : Program} {w : World} {K : PySem.W.Frag} {C : Addr} {H H' : Hp} {a : Addr} {fm : Fm} (h : FmAt P w K C H a fm) (S : Same H H') : FmAt P w K C H' a fm :=
  let ⟨dx, d, kvs, h1, h2, h3⟩ := h; ⟨dx, d, kvs, S _ _ h1, S _ _ h2, h3.same S⟩
def spInit (C : Addr) : Sp := fun vs H Q _ => ∃ a dx v, vs = [.ref a, v] ∧ H a = some (.ins C dx []) ∧ Q .non (upd H a (.ins C dx [("_parts", v)]))
def tMkF (C : Addr) (te : TE) : TE := fun σ H Q => te σ H fun v H1 => ∀ a dx H', Same H1 H' → H1 a = none → H' a = some (.ins C dx [("_parts", v)]) → Q (.ref a) H'
theorem seq_lockasg {te : TE} {i : Nat} {u : TS} {D : Ends} {σ : St} {H : Hp} (h : tLockE te σ H fun x H1 => u D (σ.set i (some x)) H1) : tSeq (tLock (tAsg te (gName i))) u D σ H :=
  let ⟨d, v, hd, mu, h⟩ := h; ⟨d, v, hd, mu, fun od => h od⟩
theorem call_one {sp : Sp} {E : XK} {i : Nat} {v : V} {σ : St} {H : Hp} {Q : VK} (hs : σ[i]? = some (some v)) (h : sp [v] H Q E) : tCall sp [] E (tCons (tVar i) tNil) σ H Q := ⟨v, hs, h⟩
/-- for .. in d.items(), d locked meanwhile -/
theorem seq_for_items {P : Program} {w : World} {K : PySem.W.Frag} {H : Hp} {d : Addr} {l : NAV} {fm : Fm} {td : TE} {g : TG} {tb u : TS} {D : Ends} {σ : St} (hd : H d = some (DfO P w d l)) (hf : FmKv K H l fm)
    (hte : ∀ (od : Obj) (R : VK), R (.ref d) (upd H d (.frz od (DfO P w d l))) → td σ (upd H d (.frz od (DfO P w d l))) R) (Pv : Obj → Nat → St → Hp → Prop) (h0 : ∀ od, Pv od 0 σ (upd H d (.frz od (DfO P w d l))))
    (hl : ∀ od i σ' H', Pv od i σ' H' → H' d = some (.frz od (DfO P w d l)) ∧ Mv K (upd H d (.frz od (DfO P w d l))) H')
    (hs : ∀ (od : Obj) (i : Nat) (m : Mon) (q : Rat) (σ' : St) (H' : Hp) (T b a : Addr) (rt : VK) (bk : St → Hp → Prop), fm[i]? = some (m, q) → Pv od i σ' H' → H' T = none → TupN H' b ((kS m).map kV) → SqT K H' a (frac q) →
      g (.ref T) σ' (upd H' T (.tup [.ref b, .ref a])) fun σ2 H2 => tb { nx := Pv od (i + 1), rt := rt, bk := bk, ct := Pv od (i + 1) } σ2 H2)
    (he : ∀ od σ' H', Pv od fm.length σ' H' → u D σ' (upd H' d (DfO P w d l))) : tSeq (tLock (tFor (iItemsN P w td) g tb)) u D σ H := by
  refine ⟨d, DfO P w d l, hd, trivial, fun od => ?_⟩
  have hf0 : FmKv K (upd H d (.frz od (DfO P w d l))) l fm := hf.imp (.off hd noTup_df)
  refine hte od _ ⟨d, od, l, rfl, upd_same, for_it walk_itemsN (Pv od) (h0 od) (fun i σ' H' _ p => (hl od i σ' H' p).1) ?_ ?_⟩
  · rintro i x σ' H' H'' hi p ⟨T, k, qb, av, hkv, rfl, nT, rfl⟩
    obtain ⟨m, q, b, a, hm, e, tb, sa⟩ := hf0.get hkv
    obtain ⟨rfl, e2⟩ := Prod.mk.inj e
    obtain ⟨rfl, rfl⟩ := Prod.mk.inj e2
    exact hs od i m q σ' H' T qb av _ _ hm p nT ((hl od i σ' H' p).2.tn _ _ tb) ((hl od i σ' H' p).2.sq _ _ sa)
  · intro σ' H' p
    rw [hf.length] at p
    exact ⟨(hl od _ σ' H' p).1, he od σ' H' p⟩
theorem ret_of {te : TE} {D : Ends} {σ : St} {H : Hp} (h : te σ H D.rt) : tRet te D σ H := h
theorem ret_mkF {C : Addr} {te : TE} {D : Ends} {σ : St} {H : Hp} (h : te σ H fun v H1 => ∀ a dx H', Same H1 H' → H1 a = none → H' a = some (.ins C dx [("_parts", v)]) → D.rt (.ref a) H') : tRet (tMkF C te) D σ H := h
section
variable {X : Cx} {C : Addr} {x : Str} {e : Expr} {te : TE} {p pos : Pos} {j : Nat}
theorem pe_mkF (c : Mak X.prog X.w X.K X.mg X.base 1 x C (spInit C) []) (hr : Room j X.A) (hk : 2 ≤ j) (hg : Gl X x) (he : PE X e te)
    (hdb : (x == ("__debug__" : Str)) = false := by decide) (hs : starEach [e] X.env = (false, eval e X.env) :: starEach [] X.env := by rfl) (hpl : (backTo pos (starEach [] X.env)).any (·.1) = false := by rfl) :
    PE X (.Call (.Name x p) [e] [] pos) (tMkF C te) := by
  obtain ⟨f, fd, ps, ds, M, F, hm, b, d⟩ := c.ex
  refine ⟨fun pins s σ H Q I h => ?_⟩
  refine wpAny_Call_Name_kw (ld_glob I hg hm ?_ hdb)
  refine PySem.W.callWith_K (h₀ := X.base) I.ok.mod.kin M.kp ?_ hs hpl
  rw [hs]
  show wpAny _ _ (spliced ((false, eval e X.env) :: backTo pos (starEach [] X.env))) _ _ s
  refine Calls.spliced_cons (thn (he.run pins s σ H _ I h) fun u s1 hh => ?_)
  obtain ⟨v, H1, I1, rv, q⟩ := hh
  refine Calls.spliced_nil ⟨I1.kIn, ?_⟩
  refine run_make (E := E0) M F (hr.mono hk) b d pass0 I1 (.cons rv .nil) fun y dx hy hdx ne => ?_
  refine ⟨y, dx, v, rfl, upd_same, rfl, ?_⟩
  refine q y dx _ ?_ hy upd_same
  intro c o e
  have n1 : c ≠ y := ne_of_none e hy
  have n2 : c ≠ dx := ne_of_none e hdx
  rw [upd_ne n1, upd_ne n1, upd_ne n2]
  exact e
end
end L2
namespace E2
open PySem PySem.Spec PyProof.Rows L2
open C8 (Cal Mak Met InsC pe_c pe_mt pe_mt0 call_isC clsBody)
def meth (i : Nat) : Stmt := (clsBody sForm).getD i (.Pass ⟨0, 0, 0, 0⟩)
abbrev sInit : Stmt := meth 0
abbrev sAdd : Stmt := meth 1
abbrev sSub : Stmt := meth 2
abbrev sMul : Stmt := meth 3
abbrev sNeg : Stmt := meth 4
abbrev sOver : Stmt := meth 6
abbrev sLetters : Stmt := meth 8
abbrev sAt : Stmt := meth 10
/-- the class Form, as the top left it -/
structure Fx (P : Program) (w : World) (K : PySem.W.Frag) (mg : Str → Option Value) (base : Heap) (C : Addr) : Prop where
  cl : Cls K C
  na : NoAttr K C "_parts"
  maks : Mak P w K mg base 1 "Form" C (spInit C) []
def spNeg (P : Program) (w : World) (K : PySem.W.Frag) (C : Addr) (f : Rat → Rat) : Sp := fun vs H Q _ => ∃ a fm, vs = [.ref a] ∧ FmAt P w K C H a fm ∧ (fm.map (·.1)).Nodup ∧ fm.length ≤ sizeLine ∧ ∀ H' b, Same H H' → H b = none → FmAt P w K C H' b (mapM (fun _ => true) f fm) → Q (.ref b) H'
section
variable {P : Program} {w : World} {K : PySem.W.Frag} {mg : Str → Option Value} {base : Heap} {C : Addr}
theorem scInit : FnScope ["self", "parts"] ["self", "parts"] (defScope sInit) := ⟨rfl, rfl, rfl, by decide +kernel, rfl, by decide +kernel, by decide +kernel⟩
theorem ok_init {f : Addr} {fd : FuncData} (F : Fun K "__init__" "Form.__init__" sInit f fd) (c : Cls K C) (n : NoAttr K C "_parts") : FnOk P w K mg base CX0 1 f fd ["self", "parts"] (spInit C) := by
  refine F.ok scInit (fun vs H Q E h => ?_) (fun cdv A outer s H vs Q E hr h => ?_)
  · obtain ⟨a, dx, v, rfl, _⟩ := h
    rfl
  · obtain ⟨a, dx, v, rfl, ha, k⟩ := h
    refine ⟨_, pss_one (ps_fld (pv 0) (pv 1) rfl), ?_⟩
    exact ⟨_, rfl, _, rfl, a, C, dx, [], rfl, ha, c, n, by decide, k⟩
theorem scNeg : FnScope ["self", "names", "top", "bottom"] ["self"] (defScope sNeg) := ⟨rfl, rfl, rfl, by decide +kernel, rfl, by decide +kernel, by decide +kernel⟩
theorem ok_neg {f : Addr} {fd : FuncData} (F : Fun K "__neg__" "Form.__neg__" sNeg f fd) (T : Fx P w K mg base C) : FnOk P w K mg base CX0 3 f fd ["self"] (spNeg P w K C (fun q => -q)) := by
  refine F.ok scNeg (fun vs H Q E h => ?_) (fun cdv A outer s H vs Q E hr h => ?_)
  · obtain ⟨a, fm, rfl, _⟩ := h
    rfl
  · obtain ⟨a, fm, rfl, ⟨dx, d, kvs, ha, hd, hf⟩, hn, hz, k⟩ := h
    refine ⟨_, pss_one (ps_ret (pe_mkF T.maks hr (by decide) rfl (pe_lock (pe_dcN (own := [("names", 1), ("top", 2), ("bottom", 3)]) (g := gTup K 2 (gCons (gName 1) (gCons (gTup K 2 (gCons (gName 2) (gCons (gName 3) gNil))) gNil))) (tt := tYes) (tk := tVar 1) (tv := tTupS (tCons (tUn (rU fun i => V.int (-i)) (tVar 2)) (tCons (tVar 3) tNil))) (Nat.lt_of_le_of_lt (Nat.le_add_right _ 64) hr.units) rfl scNeg.nd (pi_itemsN (pe_fld (pv 0) rfl))
      (blkOk_by (own := [("names", 1), ("top", 2), ("bottom", 3)]) (N := ["self", "names", "top", "bottom"]) (sc := defScope sNeg) (by decide +kernel))
      ⟨fun _ _ _ _ _ => pg_tup rfl (pgs_cons (pg_name (i := 1) scNeg.nd rfl (Or.inl rfl)) (pgs_cons (pg_tup rfl (pgs_cons (pg_name (i := 2) scNeg.nd rfl (Or.inl rfl)) (pgs_cons (pg_name (i := 3) scNeg.nd rfl (Or.inl rfl)) pgs_nil))) pgs_nil)),
       fun _ _ _ _ _ => pts_nil, fun _ _ _ _ _ => pv 1, fun _ _ _ _ _ => by exact pe_tupS (pa_cons (pe_un un_neg (pv 2)) (pa_cons (pv 3) pa_nil))⟩)))), ?_⟩
    refine ret_mkF (lock_items (p := fun _ => true) (f := fun q => -q) hd hf hn hz (fun od R h => ⟨_, rfl, a, C, dx, _, _, rfl, by rw [upd_ne (ne_of ha hd (by intro z; cases z))]; exact ha, T.cl, T.na, rfl, h⟩) ?_ ?_)
    · intro H1 lk i m q H' T b a put skip hm S hT hb sa hput hskip
      refine ⟨T, _, rfl, SqT.of hT, rfl, _, _, rfl, _, _, rfl, ⟨a, _, rfl, sa, rfl, _, _, rfl, _, _, rfl, rfl, rfl, rfl, ?_⟩⟩
      refine iteT (B := skip H') ?_
      exact ⟨_, rfl, _, rfl, _, rfl, _, rfl, (by show 2 ≤ sizeLine; decide), fun p2 H5 S5 n5 h5 => hput rfl H5 b p2 S5 (hb.same S5) (SqT.of h5)⟩
    · intro H' D kvs' S nD hD kv b dx' H2 S2 nb hb
      exact k _ _ (S.trans S2) (S.free nb) ⟨dx', D, kvs', hb, S2 _ _ hD, kv.same S2⟩
end
end E2

set_option Elab.async false
set_option linter.all false
set_option maxRecDepth 100000
set_option maxHeartbeats 1000000
/-! is_whole, right_side, number, without_noughts, over -/
namespace E2
open PySem PySem.Spec PyProof.Rows L2
open C8 (Cal Mak Met InsC pe_c pe_mt pe_mt0 call_isC clsBody)
/-- builtin names that the module leaves alone, and the class for isinstance -/
structure Bt (K : PySem.W.Frag) (mg : Str → Option Value) (C : Addr) : Prop where
  isi : mg "isinstance" = none
  int_ : mg "int" = none
  bool_ : mg "bool" = none
  ins : InsC K C
  ki : PySem.W.kitOne K (.ref C) (.type "int") = some false
  mgF : mg "Form" = some (.ref C)
def spWhole (C : Addr) : Sp := fun vs H Q _ => ∃ v, vs = [v] ∧ ((∃ i : Int, v = .int i ∧ Q (.bl true) H) ∨ ∃ a dx fs, v = .ref a ∧ H a = some (.ins C dx fs) ∧ Q (.bl false) H)
section
variable {P : Program} {w : World} {K : PySem.W.Frag} {mg : Str → Option Value} {base : Heap} {C : Addr}
theorem kit_ii : PySem.W.kitOne K (.type "int") (.type "int") = some true := by kernel_rfl
theorem kit_ib : PySem.W.kitOne K (.type "int") (.type "bool") = some false := by kernel_rfl
theorem scWhole : FnScope ["value"] ["value"] (defScope sIsWhole) := ⟨rfl, rfl, rfl, by decide +kernel, rfl, by decide +kernel, by decide +kernel⟩
theorem ok_whole {f : Addr} {fd : FuncData} (F : Fun K "is_whole" "is_whole" sIsWhole f fd) (B : Bt K mg C) : FnOk P w K mg base CX0 1 f fd ["value"] (spWhole C) := by
  refine F.ok scWhole (fun vs H Q E h => ?_) (fun cdv A outer s H vs Q E hr h => ?_)
  · obtain ⟨v, rfl, _⟩ := h
    rfl
  · obtain ⟨v, rfl, k⟩ := h
    refine ⟨_, pss_one (ps_ret (pe_and (pe_callB call_isi (by rfl) B.isi (by decide +kernel) (pa_cons (pv 0) (pa_cons (pe_bltn (v := .ty "int") (by rfl) B.int_ (by decide +kernel) rfl) pa_nil)))
      (pe_one (pe_not (pe_callB call_isi (by rfl) B.isi (by decide +kernel) (pa_cons (pv 0) (pa_cons (pe_bltn (v := .ty "bool") (by rfl) B.bool_ (by decide +kernel) rfl) pa_nil))))))), ?_⟩
    rcases k with ⟨i, rfl, q⟩ | ⟨a, dx, fs, rfl, ha, q⟩
    · refine ⟨_, rfl, _, _, _, _, true, rfl, .ty "int", .base (.int i), kit_ii, true, rfl, iteT (B := False) ?_⟩
      exact ⟨_, rfl, _, _, _, _, false, rfl, .ty "bool", .base (.int i), kit_ib, false, rfl, q⟩
    · refine ⟨_, rfl, _, _, _, _, false, rfl, .ty "int", .base (.ins ha B.ins.cl B.ins.ha B.ins.hn B.ins.htk B.ins.hm), B.ki, false, rfl, iteF ?_⟩
      exact q
def spWithout (P : Program) (w : World) (K : PySem.W.Frag) : Sp := fun vs H Q _ => ∃ d kvs fm, vs = [.ref d] ∧ H d = some (DfO P w d kvs) ∧ FmKv K H kvs fm ∧ (fm.map (·.1)).Nodup ∧ fm.length ≤ sizeLine ∧ ∀ H' D kvs', Same H H' → H D = none → H' D = some (DfO P w D kvs') → FmKv K H' kvs' (mapM (fun q => !decide (q = 0)) id fm) → Q (.ref D) H'
theorem scWithout : FnScope ["parts", "names", "worth"] ["parts"] (defScope sWithout) := ⟨rfl, rfl, rfl, by decide +kernel, rfl, by decide +kernel, by decide +kernel⟩
theorem ok_without {f : Addr} {fd : FuncData} (F : Fun K "without_noughts" "without_noughts" sWithout f fd) : FnOk P w K mg base CX0 1 f fd ["parts"] (spWithout P w K) := by
  refine F.ok scWithout (fun vs H Q E h => ?_) (fun cdv A outer s H vs Q E hr h => ?_)
  · obtain ⟨d, kvs, fm, rfl, _⟩ := h
    rfl
  · obtain ⟨d, kvs, fm, rfl, hd, hf, hn, hz, k⟩ := h
    refine ⟨_, pss_one (ps_ret (pe_lock (pe_dcN (own := [("names", 1), ("worth", 2)]) (g := gTup K 2 (gCons (gName 1) (gCons (gName 2) gNil))) (tt := tTest (tOp rNe (tOp (rIxT K) (tVar 2) (tC (.int 0))) (tC (.int 0)))) (tk := tVar 1) (tv := tVar 2) (Nat.lt_of_le_of_lt (Nat.le_add_right _ 64) hr.units) rfl scWithout.nd (pi_itemsN (pv 0))
      (blkOk_by (own := [("names", 1), ("worth", 2)]) (N := ["parts", "names", "worth"]) (sc := defScope sWithout) (by decide +kernel))
      ⟨fun _ _ _ _ _ => pg_tup rfl (pgs_cons (pg_name (i := 1) scWithout.nd rfl (Or.inl rfl)) (pgs_cons (pg_name (i := 2) scWithout.nd rfl (Or.inl rfl)) pgs_nil)),
       fun _ _ _ _ _ => pts_one (by exact pt_cmpR op_ne (pe_ix ix_tup (pv 2) pe_int (fun _ _ => rfl)) pe_int (nomark _)), fun _ _ _ _ _ => pv 1, fun _ _ _ _ _ => pv 2⟩))), ?_⟩
    refine ret_of (lock_items (p := fun q => !decide (q = 0)) (f := id) hd hf hn hz (fun od R h => ⟨_, rfl, h⟩) ?_ fun H' D kvs' S nD hD kv => k H' D kvs' S nD hD kv)
    intro H1 lk i m q H' T b a put skip hm S hT hb sa hput hskip
    refine ⟨T, _, rfl, SqT.of hT, rfl, _, _, rfl, _, _, rfl, rfl, rfl, ?_⟩
    have e : (!decide (V.int q.num = V.int 0)) = (!decide (q = 0)) := by
      rw [dec_int]
      congr 1
      by_cases h : q = 0
      · rw [decide_eq_true h]
        exact beq_iff_eq.mpr (Rat.num_eq_zero.mpr h)
      · rw [decide_eq_false h]
        exact beq_eq_false_iff_ne.mpr fun z => h (Rat.num_eq_zero.mp z)
    refine ⟨_, rfl, a, _, 0, _, rfl, rfl, sa, rfl, rfl, !decide (q = 0), congrArg V.bl e, ?_⟩
    cases hc : (!decide (q = 0)) with
    | true => exact iteT (B := skip H') ⟨_, rfl, _, rfl, hput hc H' b a (Same.refl H') hb sa⟩
    | false => exact iteF (hskip hc H' (Same.refl H'))
theorem pow1 (n : Nat) : 1 < 2 ^ (n + 1) := Nat.one_lt_two_pow (Nat.succ_ne_zero n)

/-- the coefficients that the fractions' arithmetic takes -/
def Sm (fm : Fm) : Prop := ∀ x ∈ fm, x.2.num.natAbs < 2 ^ 400000 ∧ x.2.den < 2 ^ 4000
theorem inv_bq {n : Int} (h : n ≠ 0) : Bq n.natAbs 1 (Rat.divInt 1 n) := by
  have hn : (n : Rat) ≠ 0 := fun e => h (Rat.intCast_inj.mp (e.trans (by rfl : (0 : Rat) = ((0 : Int) : Rat))))
  rcases Int.lt_or_gt_of_ne h with c | c
  · refine ⟨-1, ?_, by decide⟩
    have e : ((n.natAbs : Nat) : Rat) = -(n : Rat) := by
      rw [← Rat.intCast_natCast, ← Rat.intCast_neg]
      congr 1
      omega
    rw [e, Rat.divInt_eq_div]
    have e1 : ((1 : Int) : Rat) = 1 := rfl
    have e2 : ((-1 : Int) : Rat) = -1 := rfl
    rw [e1, e2]
    grind
  · refine ⟨1, ?_, by decide⟩
    have e : ((n.natAbs : Nat) : Rat) = (n : Rat) := by
      rw [← Rat.intCast_natCast]
      congr 1
      omega
    rw [e, Rat.divInt_eq_div]
    have e1 : ((1 : Int) : Rat) = 1 := rfl
    rw [e1]
    grind
def spOver (P : Program) (w : World) (K : PySem.W.Frag) (C : Addr) : Sp := fun vs H Q _ => ∃ a n fm, vs = [.ref a, .int n] ∧ n ≠ 0 ∧ n.natAbs < 2 ^ 2000 ∧ FmAt P w K C H a fm ∧ (fm.map (·.1)).Nodup ∧ fm.length ≤ sizeLine ∧ Sm fm ∧ ∀ H' b, Same H H' → H b = none → FmAt P w K C H' b (mapM (fun _ => true) (fun q => q * Rat.divInt 1 n) fm) → Q (.ref b) H'
theorem scOver : FnScope ["self", "divisor", "factor", "names", "worth"] ["self", "divisor"] (defScope sOver) := ⟨rfl, rfl, rfl, by decide +kernel, rfl, by decide +kernel, by decide +kernel⟩
theorem ok_over {f : Addr} {fd : FuncData} (F : Fun K "over" "Form.over" sOver f fd) (T : Fx P w K mg base C) (L : Cal P w K mg base 1 "lowest" spLowest []) (M : Cal P w K mg base 2 "fraction_product" (spFrac K (· * ·)) []) (Wh : Cal P w K mg base 1 "is_whole" (spWhole C) []) : FnOk P w K mg base CX0 4 f fd ["self", "divisor"] (spOver P w K C) := by
  refine F.ok scOver (fun vs H Q E h => ?_) (fun cdv A outer s H vs Q E hr h => ?_)
  · obtain ⟨a, n, fm, rfl, _⟩ := h
    rfl
  · obtain ⟨a, n, fm, rfl, n0, nz, ⟨dx, d, kvs, ha, hd, hf⟩, hn, hz, sm, k⟩ := h
    refine ⟨_, pss_cons (ps_if (PW.pt (pw_or (pt_not (pt_val (pe_c Wh hr (by decide) rfl (pa_cons (pv 1) pa_nil)))) (pw_or1 (pt_cmpR op_eq (pv 1) pe_int (nomark _))))) (pss_one ps_never) pss_nil)
      (pss_cons (ps_set (i := 2) scOver.nd rfl (Or.inr rfl) (pe_c L hr (by decide) rfl (pa_cons pe_int (pa_cons (pv 1) pa_nil))))
      (pss_one (ps_ret (pe_mkF T.maks hr (by decide) rfl (pe_lock (pe_dcN (own := [("names", 3), ("worth", 4)]) (g := gTup K 2 (gCons (gName 3) (gCons (gName 4) gNil))) (tt := tYes) (tk := tVar 3) (tv := tCall (spFrac K (· * ·)) [] E0 (tCons (tVar 4) (tCons (tVar 2) tNil))) (Nat.lt_of_le_of_lt (Nat.le_add_right _ 64) hr.units) rfl scOver.nd (pi_itemsN (pe_fld (pv 0) rfl))
      (blkOk_by (own := [("names", 3), ("worth", 4)]) (N := ["self", "divisor", "factor", "names", "worth"]) (sc := defScope sOver) (by decide +kernel))
      ⟨fun _ _ _ _ _ => pg_tup rfl (pgs_cons (pg_name (i := 3) scOver.nd rfl (Or.inl rfl)) (pgs_cons (pg_name (i := 4) scOver.nd rfl (Or.inl rfl)) pgs_nil)),
       fun _ _ _ _ _ => pts_nil, fun _ _ _ _ _ => pv 3, fun _ _ _ _ _ => by exact pe_c M hr (by decide) rfl (pa_cons (pv 4) (pa_cons (pv 2) pa_nil))⟩)))))), ?_⟩
    have bq := inv_bq n0
    have np : 0 < n.natAbs := by omega
    refine ⟨_, rfl, _, rfl, .inl ⟨n, rfl, true, rfl, ?_⟩⟩
    refine iteF ⟨_, rfl, rfl, _, rfl, iteD (fun h => ?_) (fun _ => ?_)⟩
    · injection h with h
      exact (n0 h).elim
    refine ⟨_, rfl, 1, n, rfl, n0, Nat.lt_of_lt_of_le (PySem.Flt.log2_lt_of (by decide) nz) (by decide), fun p1 H0 S0 n1 h1 => ?_⟩
    rw [loq_eq n0] at h1
    have h1 : SqT K H0 p1 (frac (Rat.divInt 1 n)) := SqT.of h1
    have hf0 := hf.same S0
    have hd0 : H0 d = some (DfO P w d kvs) := S0 _ _ hd
    dsimp only [gName]
    refine ret_mkF ?_
    refine lock_items (p := fun _ => true) (f := fun q => q * Rat.divInt 1 n) hd0 hf0 hn hz (fun od R h => ⟨_, rfl, a, C, dx, _, _, rfl, by rw [upd_ne (ne_of ha hd (by intro z; cases z))]; exact S0 _ _ ha, T.cl, T.na, rfl, h⟩) ?_ ?_
    · intro H1 lk i m q H' T b a put skip hm S hT hb sa hput hskip
      have hq := sm _ (List.mem_of_getElem? hm)
      have hs1 : SqT K H' p1 (frac (Rat.divInt 1 n)) := SqT.same (lk.sq p1 (frac (Rat.divInt 1 n)) h1) S
      have hsa : SqT K H' a (frac q) := sa
      have bn := bq.num_le np
      have bd := bq.den_le np
      refine ⟨T, _, rfl, SqT.of hT, rfl, _, _, rfl, _, _, rfl, rfl, rfl, ?_⟩
      refine iteT (B := skip H') ?_
      exact ⟨_, rfl, _, rfl, _, rfl, a, p1, q, Rat.divInt 1 n, rfl, hsa, hs1, hq.1, Nat.lt_of_le_of_lt bn (pow1 _), hq.2, Nat.lt_of_le_of_lt bd (Nat.lt_of_lt_of_le nz (Nat.pow_le_pow_right (by decide) (by decide))), fun p2 H5 S5 n5 h5 => hput rfl H5 b p2 S5 (hb.same S5) (SqT.of h5)⟩
    · intro H' D kvs' S nD hD kv b dx' H2 S2 nb hb
      exact k _ _ ((S0.trans S).trans S2) ((S0.trans S).free nb) ⟨dx', D, kvs', hb, S2 _ _ hD, kv.same S2⟩
end
end E2

set_option Elab.async false
set_option linter.all false
set_option maxRecDepth 100000
set_option maxHeartbeats 1000000
/-! is_letter, letter, number, right_side -/
namespace E2
open PySem PySem.Spec PyProof.Rows L2
open C8 (Cal Mak Met InsC pe_c pe_mt pe_mt0 call_isC clsBody)
theorem iteP {p : Prop} [Decidable p] {A B : Prop} (hp : p) (h : B) : if (!decide p) = true then A else B := by
  rw [decide_eq_true hp]
  exact h
theorem iteN {p : Prop} [Decidable p] {A B : Prop} (hp : ¬ p) (h : A) : if (!decide p) = true then A else B := by
  rw [decide_eq_false hp]
  exact h
/-- a letter -/
def LetOk (z : Str) : Prop := 1 ≤ z.length ∧ z.length ≤ 10 ∧ ∀ c ∈ z.cps.toList, 97 ≤ c ∧ c ≤ 122
/-- more names that the module leaves alone -/
structure Bt2 (mg : Str → Option Value) : Prop where
  str_ : mg "str" = none
  len_ : mg "len" = none
  all_ : mg "all" = none
def spIsLet : Sp := fun vs H Q _ => ∃ z : Str, vs = [.str z] ∧ LetOk z ∧ ∀ H', Same H H' → Q (.bl true) H'
section
variable {P : Program} {w : World} {K : PySem.W.Frag} {mg : Str → Option Value} {base : Heap} {C : Addr}
theorem kit_ss : PySem.W.kitOne K (.type "str") (.type "str") = some true := by kernel_rfl
theorem scIsLet : FnScope ["name", "sign"] ["name"] (defScope sIsLetter) := ⟨rfl, rfl, rfl, by decide +kernel, rfl, by decide +kernel, by decide +kernel⟩
abbrev rLeS : R2 := fun x y H Q => ∃ i j, x = .str i ∧ y = .str j ∧ Q (.bl (!decide (j.cps.toList < i.cps.toList))) H
theorem ok_isLet {f : Addr} {fd : FuncData} (F : Fun K "is_letter" "is_letter" sIsLetter f fd) (B : Bt K mg C) (B2 : Bt2 mg) : FnOk P w K mg base CX0 1 f fd ["name"] spIsLet := by
  refine F.ok scIsLet (fun vs H Q E h => ?_) (fun cdv A outer s H vs Q E hr h => ?_)
  · obtain ⟨z, rfl, _⟩ := h
    rfl
  · obtain ⟨z, rfl, ⟨l1, l2, hc⟩, k⟩ := h
    refine ⟨_, pss_cons (ps_if (PW.pt (pw_or (pt_not (pt_val (pe_callB call_isi (by rfl) B.isi (by decide +kernel) (pa_cons (pv 0) (pa_cons (pe_bltn (v := .ty "str") (by rfl) B2.str_ (by decide +kernel) rfl) pa_nil)))))
        (pw_or1 (pt_not (pt_chain op_le op_le pe_int (pe_callB call_len_str (by rfl) B2.len_ PySem.boot_len (pa_cons (pv 0) pa_nil)) pe_int))))) (pss_one (ps_ret pe_bl)) pss_nil)
      (pss_one (ps_ret (pe_callB (cr_all rfl) (by rfl) B2.all_ (by decide +kernel) (pa_cons (pe_lc (own := [("sign", 1)]) (g := gName 1) (tt := tYes) (te := tChain rLeS rLeS (tC (.str "a")) (tVar 1) (tC (.str "z"))) rfl scIsLet.nd (pi_str (pv 0))
        (blkOk_by (own := [("sign", 1)]) (N := ["name", "sign"]) (sc := defScope sIsLetter) (by decide +kernel))
        (fun _ _ _ _ _ => pg_name (i := 1) scIsLet.nd rfl (Or.inl rfl)) (fun _ _ _ _ _ => pts_nil) (fun _ _ _ _ _ => by exact pe_chain op_le_str op_le_str pe_str (pv 1) pe_str)) pa_nil)))), ?_⟩
    have hz : z.length ≤ sizeLine := by rw [sizeLine_eq]; omega
    refine ⟨_, rfl, _, _, _, _, true, rfl, .ty "str", .base (.str z), kit_ss, true, rfl, iteF ?_⟩
    refine ⟨_, rfl, z, rfl, hz, _, _, rfl, rfl, _, rfl, iteD (fun _ => ?_) (fun h => absurd (by omega) h)⟩
    refine ⟨_, _, rfl, rfl, _, rfl, iteP (by omega) ?_⟩
    refine ⟨_, rfl, z, rfl, fun D nD => lc_it walk_str (fun i H' => Same H H' ∧ H' D = some (.lst (List.replicate i (V.bl true)))) ⟨Same.upd nD, upd_same⟩ (fun _ _ _ _ => trivial) ?_ ?_⟩
    · rintro i x H1 H1' hi ⟨S, hD⟩ ⟨rfl, c, hcz, rfl⟩
      have hm : c ∈ z.cps.toList := by
        rw [← Array.getElem?_toList] at hcz
        exact List.mem_of_getElem? hcz
      obtain ⟨c1, c2⟩ := hc c hm
      have n1 : ¬ ((⟨#[c]⟩ : Str).cps.toList < ("a" : Str).cps.toList) := by
        show ¬ ([c] < [97])
        rw [List.cons_lt_cons_iff]
        rintro (h | ⟨_, h⟩)
        · omega
        · exact absurd h (by decide)
      have n2 : ¬ (("z" : Str).cps.toList < (⟨#[c]⟩ : Str).cps.toList) := by
        show ¬ ([122] < [c])
        rw [List.cons_lt_cons_iff]
        rintro (h | ⟨_, h⟩)
        · omega
        · exact absurd h (by decide)
      refine ⟨rfl, iteT (B := False) ⟨_, rfl, _, _, rfl, rfl, _, rfl, iteN n1 ⟨_, _, rfl, rfl, _, hD, ?_, ?_, ?_⟩⟩⟩
      · rw [List.length_replicate]
        have : i < z.length := hi
        omega
      · intro b o hb
        rw [upd_ne (ne_of_none hb nD)]
        exact S _ _ hb
      · rw [upd_same, decide_eq_false n2, List.replicate_succ']
        rfl
    · rintro H1 ⟨S, hD⟩
      refine ⟨D, List.replicate z.cps.size true, rfl, SqL.of ?_, ?_⟩
      · rw [List.map_replicate]
        exact hD
      · rw [show (List.replicate z.cps.size true).all id = true by simp]
        exact k H1 S
def spLetter (P : Program) (w : World) (K : PySem.W.Frag) (C : Addr) : Sp := fun vs H Q _ => ∃ z : Str, vs = [.str z] ∧ LetOk z ∧ ∀ H' b, Same H H' → H b = none → FmAt P w K C H' b [([z], 1)] → Q (.ref b) H'
theorem scLetter : FnScope ["name"] ["name"] (defScope sLetter) := ⟨rfl, rfl, rfl, by decide +kernel, rfl, by decide +kernel, by decide +kernel⟩
theorem ok_letter {f : Addr} {fd : FuncData} (F : Fun K "letter" "letter" sLetter f fd) (T : Fx P w K mg base C) (L : Cal P w K mg base 1 "is_letter" spIsLet []) : FnOk P w K mg base CX0 3 f fd ["name"] (spLetter P w K C) := by
  refine F.ok scLetter (fun vs H Q E h => ?_) (fun cdv A outer s H vs Q E hr h => ?_)
  · obtain ⟨z, rfl, _⟩ := h
    rfl
  · obtain ⟨z, rfl, hz, k⟩ := h
    refine ⟨_, pss_cons (ps_if (pt_not (pt_val (pe_c L hr (by decide) rfl (pa_cons (pv 0) pa_nil)))) (pss_one ps_never) pss_nil)
      (pss_one (ps_ret (pe_mkF T.maks hr (by decide) rfl (pe_dispN (Nat.lt_of_le_of_lt (Nat.le_add_right _ 64) hr.units) (pe_tupN (pa_cons (pv 0) pa_nil)) (pe_tupS (pa_cons pe_int (pa_cons pe_int pa_nil))))))), ?_⟩
    refine ⟨_, rfl, z, rfl, hz, fun H0 S0 => ⟨true, rfl, iteF ?_⟩⟩
    refine fun p np => ⟨_, rfl, (by show 1 ≤ sizeLine; decide), fun t H1 S1 n1 h1 => ⟨(by show 2 ≤ sizeLine; decide), fun u H2 S2 n2 h2 => ?_⟩⟩
    have hp := S2 _ _ (S1 _ _ (upd_same (H := H0) (a := p) (o := DfO P w p [])))
    refine ⟨hp, [Sum.inr z], t, u, rfl, rfl, (h1.same S2).sq, fun a dx H3 S3 na ha => ?_⟩
    have SA : Same H0 (upd H2 p (DfO P w p [([Sum.inr z], t, u)])) := by
      intro b o hb
      rw [upd_ne (ne_of_none hb np)]
      exact S2 _ _ (S1 _ _ (Same.upd np _ _ hb))
    refine k H3 a ((S0.trans SA).trans S3) ((S0.trans SA).free na) ⟨dx, p, _, ha, S3 _ _ upd_same, .cons ⟨rfl, ((h1.same S2).off hp fun o => noTup_df.2 o _).same S3, ?_⟩ .nil⟩
    exact (SqT.off (SqT.of h2) hp (noTup_df.1 _) (fun o => noTup_df.2 o _)).same S3
def spNumber (P : Program) (w : World) (K : PySem.W.Frag) (C : Addr) : Sp := fun vs H Q _ => ∃ n : Int, vs = [.int n] ∧ ∀ H' b, Same H H' → H b = none → FmAt P w K C H' b (if n = 0 then [] else [([], (n : Rat))]) → Q (.ref b) H'
theorem scNumber : FnScope ["value"] ["value"] (defScope sNumber) := ⟨rfl, rfl, rfl, by decide +kernel, rfl, by decide +kernel, by decide +kernel⟩
theorem ok_number {f : Addr} {fd : FuncData} (F : Fun K "number" "number" sNumber f fd) (T : Fx P w K mg base C) (Wh : Cal P w K mg base 1 "is_whole" (spWhole C) []) (Wo : Cal P w K mg base 1 "without_noughts" (spWithout P w K) []) : FnOk P w K mg base CX0 3 f fd ["value"] (spNumber P w K C) := by
  refine F.ok scNumber (fun vs H Q E h => ?_) (fun cdv A outer s H vs Q E hr h => ?_)
  · obtain ⟨n, rfl, _⟩ := h
    rfl
  · obtain ⟨n, rfl, k⟩ := h
    refine ⟨_, pss_cons (ps_if (pt_not (pt_val (pe_c Wh hr (by decide) rfl (pa_cons (pv 0) pa_nil)))) (pss_one ps_never) pss_nil)
      (pss_one (ps_ret (pe_mkF T.maks hr (by decide) rfl (pe_c Wo hr (by decide) rfl (pa_cons (pe_dispN (Nat.lt_of_le_of_lt (Nat.le_add_right _ 64) hr.units) (pe_tupN pa_nil) (pe_tupS (pa_cons (pv 0) (pa_cons pe_int pa_nil)))) pa_nil))))), ?_⟩
    refine ⟨_, rfl, _, rfl, .inl ⟨n, rfl, true, rfl, iteF ?_⟩⟩
    refine fun p np => ⟨(by show 0 ≤ sizeLine; decide), fun t H1 S1 n1 h1 => ⟨_, rfl, (by show 2 ≤ sizeLine; decide), fun u H2 S2 n2 h2 => ?_⟩⟩
    have hp := S2 _ _ (S1 _ _ (upd_same (H := H) (a := p) (o := DfO P w p [])))
    refine ⟨hp, [], t, u, rfl, rfl, (h1.same S2).sq, ?_⟩
    have SA : Same H (upd H2 p (DfO P w p [([], t, u)])) := by
      intro b o hb
      rw [upd_ne (ne_of_none hb np)]
      exact S2 _ _ (S1 _ _ (Same.upd np _ _ hb))
    refine ⟨p, _, [([], (n : Rat))], rfl, upd_same, .cons ⟨rfl, (h1.same S2).off hp (fun o => noTup_df.2 o _), SqT.off (SqT.of h2) hp (noTup_df.1 _) (fun o => noTup_df.2 o _)⟩ .nil, ?_, by show 1 ≤ sizeLine; decide, fun H3 D kvs' S3 nD hD kv a dx H4 S4 na ha => ?_⟩
    · exact List.nodup_cons.mpr ⟨List.not_mem_nil, List.nodup_nil⟩
    · refine k H4 a ((SA.trans S3).trans S4) ((SA.trans S3).free na) ⟨dx, D, kvs', ha, S4 _ _ hD, ?_⟩
      have e : mapM (fun q => !decide (q = 0)) id [([], (n : Rat))] = if n = 0 then [] else [([], (n : Rat))] := by
        by_cases h : n = 0
        · subst h
          rfl
        · have h2 : ¬ ((n : Rat) = 0) := fun e => h (Rat.intCast_inj.mp (e.trans (by rfl : (0 : Rat) = ((0 : Int) : Rat))))
          rw [if_neg h]
          unfold mapM
          rw [List.filter_cons, if_pos (by show (!decide ((n : Rat) = 0)) = true; rw [decide_eq_false h2]; rfl)]
          rfl
      rw [e] at kv
      exact kv.same S4
/-- the terms of a whole number -/
def numM (n : Int) : Fm := if n = 0 then [] else [([], (n : Rat))]
def spRight (P : Program) (w : World) (K : PySem.W.Frag) (C : Addr) : Sp := fun vs H Q _ => ∃ v, vs = [v] ∧ ((∃ n : Int, v = .int n ∧ ∀ H' b, Same H H' → H b = none → FmAt P w K C H' b (numM n) → Q (.ref b) H') ∨ ∃ a dx fs, v = .ref a ∧ H a = some (.ins C dx fs) ∧ Q (.ref a) H)
theorem scRight : FnScope ["other"] ["other"] (defScope sRightSide) := ⟨rfl, rfl, rfl, by decide +kernel, rfl, by decide +kernel, by decide +kernel⟩
theorem ok_right {f : Addr} {fd : FuncData} (F : Fun K "right_side" "right_side" sRightSide f fd) (B : Bt K mg C) (Wh : Cal P w K mg base 1 "is_whole" (spWhole C) []) (Nu : Cal P w K mg base 3 "number" (spNumber P w K C) []) : FnOk P w K mg base CX0 4 f fd ["other"] (spRight P w K C) := by
  refine F.ok scRight (fun vs H Q E h => ?_) (fun cdv A outer s H vs Q E hr h => ?_)
  · obtain ⟨v, rfl, _⟩ := h
    rfl
  · obtain ⟨v, rfl, k⟩ := h
    refine ⟨_, pss_cons (ps_if (pt_val (pe_c Wh hr (by decide) rfl (pa_cons (pv 0) pa_nil))) (pss_one (ps_ret (pe_c Nu hr (by decide) rfl (pa_cons (pv 0) pa_nil)))) pss_nil)
      (pss_cons (ps_if (pt_not (pt_val (pe_callB (call_isC B.ins) (by rfl) B.isi (by decide +kernel) (pa_cons (pv 0) (pa_cons (pe_glob (v := .ref C) (by rfl) B.mgF rfl) pa_nil))))) (pss_one ps_never) pss_nil)
      (pss_one (ps_ret (pv 0)))), ?_⟩
    rcases k with ⟨n, rfl, q⟩ | ⟨a, dx, fs, rfl, ha, q⟩
    · exact ⟨_, rfl, _, rfl, .inl ⟨n, rfl, true, rfl, iteT (B := False) ⟨_, rfl, n, rfl, q⟩⟩⟩
    · exact ⟨_, rfl, _, rfl, .inr ⟨a, dx, fs, rfl, ha, false, rfl, iteF ⟨_, rfl, a, dx, fs, rfl, ha, true, rfl, iteF ⟨_, rfl, q⟩⟩⟩⟩
end
end E2

set_option Elab.async false
set_option linter.all false
set_option maxRecDepth 100000
set_option maxHeartbeats 1000000
/-! texts: the row's statements, signs and words -/
namespace E2
open PySem PySem.Spec PyProof.Rows L2
open C8 (Cal Mak Met InsC pe_c pe_mt pe_mt0 call_isC clsBody)
abbrev sRead : Stmt := top 26
abbrev sWrite : Stmt := top 27
abbrev sTermText : Stmt := top 28
abbrev sSplitWords : Stmt := top 29
abbrev sWordEnd : Stmt := top 30
abbrev sIsDigit : Stmt := top 31
abbrev sIsSmall : Stmt := top 32
abbrev sKindOf : Stmt := top 33
abbrev sIsExpression : Stmt := top 34
abbrev sWorkOut : Stmt := top 35
abbrev sFactorOf : Stmt := top 36
abbrev sNumberOf : Stmt := top 37
abbrev sDigitsOf : Stmt := top 38
/-- a ≤ b, as Python has it -/
def leS (a b : Str) : Bool := !decide (b.cps.toList < a.cps.toList)
def digS (s : Str) : Bool := leS "0" s && leS s "9"
def smlS (s : Str) : Bool := leS "a" s && leS s "z"
def digN (c : Nat) : Bool := digS ⟨#[c]⟩
def smlN (c : Nat) : Bool := smlS ⟨#[c]⟩
theorem ifT {b : Bool} {A B : Prop} (h : b = true) (x : A) : if b = true then A else B := by rw [if_pos h]; exact x
theorem ifF {b : Bool} {A B : Prop} (h : b = false) (x : B) : if b = true then A else B := by rw [if_neg (by rw [h]; exact Bool.false_ne_true)]; exact x
def spIs (g : Str → Bool) : Sp := fun vs H Q _ => ∃ s, vs = [.str s] ∧ Q (.bl (g s)) H
section
variable {P : Program} {w : World} {K : PySem.W.Frag} {mg : Str → Option Value} {base : Heap}
theorem scIsDigit : FnScope ["sign"] ["sign"] (defScope sIsDigit) := ⟨rfl, rfl, rfl, by decide +kernel, rfl, by decide +kernel, by decide +kernel⟩
theorem ok_isDigit {f : Addr} {fd : FuncData} (F : Fun K "is_digit" "is_digit" sIsDigit f fd) : FnOk P w K mg base CX0 1 f fd ["sign"] (spIs digS) := by
  refine F.ok scIsDigit (fun vs H Q E h => ?_) (fun cdv A outer s H vs Q E hr h => ?_)
  · obtain ⟨s, rfl, _⟩ := h
    rfl
  · obtain ⟨s, rfl, k⟩ := h
    refine ⟨_, pss_one (ps_ret (pe_chain op_le_str op_le_str pe_str (pv 0) pe_str)), ?_⟩
    refine ⟨_, rfl, _, _, rfl, rfl, _, rfl, ?_⟩
    unfold digS at k
    by_cases c : leS "0" s = true
    · rw [c, Bool.true_and] at k
      exact ifT c ⟨_, _, rfl, rfl, k⟩
    · rw [Bool.eq_false_iff.mpr c, Bool.false_and] at k
      exact ifF (Bool.eq_false_iff.mpr c) k
theorem scIsSmall : FnScope ["sign"] ["sign"] (defScope sIsSmall) := ⟨rfl, rfl, rfl, by decide +kernel, rfl, by decide +kernel, by decide +kernel⟩
theorem ok_isSmall {f : Addr} {fd : FuncData} (F : Fun K "is_small" "is_small" sIsSmall f fd) : FnOk P w K mg base CX0 1 f fd ["sign"] (spIs smlS) := by
  refine F.ok scIsSmall (fun vs H Q E h => ?_) (fun cdv A outer s H vs Q E hr h => ?_)
  · obtain ⟨s, rfl, _⟩ := h
    rfl
  · obtain ⟨s, rfl, k⟩ := h
    refine ⟨_, pss_one (ps_ret (pe_chain op_le_str op_le_str pe_str (pv 0) pe_str)), ?_⟩
    refine ⟨_, rfl, _, _, rfl, rfl, _, rfl, ?_⟩
    unfold smlS at k
    by_cases c : leS "a" s = true
    · rw [c, Bool.true_and] at k
      exact ifT c ⟨_, _, rfl, rfl, k⟩
    · rw [Bool.eq_false_iff.mpr c, Bool.false_and] at k
      exact ifF (Bool.eq_false_iff.mpr c) k
end
end E2

set_option Elab.async false
set_option linter.all false
set_option maxRecDepth 100000
set_option maxHeartbeats 1000000
/-! is_letter of any text, word_end, kind_of -/
namespace E2
open PySem PySem.Spec PyProof.Rows L2
open C8 (Cal Mak Met InsC pe_c pe_mt pe_mt0 call_isC clsBody)
def letB (z : Str) : Bool := decide (1 ≤ z.length) && decide (z.length ≤ 10) && z.cps.toList.all smlN
def spLetB : Sp := fun vs H Q _ => ∃ z : Str, vs = [.str z] ∧ z.length ≤ 100000 ∧ ∀ H', Same H H' → Q (.bl (letB z)) H'
theorem chn {a b c : Str} {σ : L2.St} {H : Hp} {Q : VK} {i : Nat} (hs : σ[i]? = some (some (.str b))) (h : Q (.bl (leS a b && leS b c)) H) : tChain rLeS rLeS (tC (.str a)) (tVar i) (tC (.str c)) σ H Q := by
  refine ⟨_, hs, _, _, rfl, rfl, _, rfl, ?_⟩
  by_cases e : leS a b = true
  · rw [e, Bool.true_and] at h
    exact ifT e ⟨_, _, rfl, rfl, h⟩
  · rw [Bool.eq_false_iff.mpr e, Bool.false_and] at h
    exact ifF (Bool.eq_false_iff.mpr e) h
/-- where the run of such signs ends -/
def runE (p : Nat → Bool) : List Nat → Nat → Nat
  | [], e => e
  | c :: r, e => if p c then runE p r (e + 1) else e
theorem runE_ge (p : Nat → Bool) : ∀ l e, e ≤ runE p l e
  | [], e => Nat.le_refl e
  | c :: r, e => by
    unfold runE
    split
    · exact Nat.le_trans (Nat.le_succ e) (runE_ge p r (e + 1))
    · exact Nat.le_refl e
theorem runE_le (p : Nat → Bool) : ∀ l e, runE p l e ≤ e + l.length
  | [], e => Nat.le_refl e
  | c :: r, e => by
    unfold runE
    split
    · have := runE_le p r (e + 1)
      rw [List.length_cons]
      omega
    · exact Nat.le_add_right _ _
def wEnd (l : List Nat) (i : Nat) : Nat :=
  match l.drop i with
  | [] => i + 1
  | c :: r => if digN c then runE digN r (i + 1) else if smlN c then runE smlN r (i + 1) else i + 1
def spWEnd : Sp := fun vs H Q _ => ∃ (t : Str) (i : Nat), vs = [.str t, .int i] ∧ i < t.length ∧ t.length ≤ 100000 ∧ Q (.int (wEnd t.cps.toList i : Nat)) H
section
variable {P : Program} {w : World} {K : PySem.W.Frag} {mg : Str → Option Value} {base : Heap} {C : Addr}
theorem ok_isLetB {f : Addr} {fd : FuncData} (F : Fun K "is_letter" "is_letter" sIsLetter f fd) (B : Bt K mg C) (B2 : Bt2 mg) : FnOk P w K mg base CX0 1 f fd ["name"] spLetB := by
  refine F.ok scIsLet (fun vs H Q E h => ?_) (fun cdv A outer s H vs Q E hr h => ?_)
  · obtain ⟨z, rfl, _⟩ := h
    rfl
  · obtain ⟨z, rfl, l2, k⟩ := h
    refine ⟨_, pss_cons (ps_if (PW.pt (pw_or (pt_not (pt_val (pe_callB call_isi (by rfl) B.isi (by decide +kernel) (pa_cons (pv 0) (pa_cons (pe_bltn (v := .ty "str") (by rfl) B2.str_ (by decide +kernel) rfl) pa_nil)))))
        (pw_or1 (pt_not (pt_chain op_le op_le pe_int (pe_callB call_len_str (by rfl) B2.len_ PySem.boot_len (pa_cons (pv 0) pa_nil)) pe_int))))) (pss_one (ps_ret pe_bl)) pss_nil)
      (pss_one (ps_ret (pe_callB (cr_all rfl) (by rfl) B2.all_ (by decide +kernel) (pa_cons (pe_lc (own := [("sign", 1)]) (g := gName 1) (tt := tYes) (te := tChain rLeS rLeS (tC (.str "a")) (tVar 1) (tC (.str "z"))) rfl scIsLet.nd (pi_str (pv 0))
        (blkOk_by (own := [("sign", 1)]) (N := ["name", "sign"]) (sc := defScope sIsLetter) (by decide +kernel))
        (fun _ _ _ _ _ => pg_name (i := 1) scIsLet.nd rfl (Or.inl rfl)) (fun _ _ _ _ _ => pts_nil) (fun _ _ _ _ _ => by exact pe_chain op_le_str op_le_str pe_str (pv 1) pe_str)) pa_nil)))), ?_⟩
    have hz : z.length ≤ sizeLine := by rw [sizeLine_eq]; omega
    refine ⟨_, rfl, _, _, _, _, true, rfl, .ty "str", .base (.str z), kit_ss, true, rfl, iteF ?_⟩
    refine ⟨_, rfl, z, rfl, hz, _, _, rfl, rfl, _, rfl, iteD (fun h1 => ?_) (fun h1 => ?_)⟩
    · refine ⟨_, _, rfl, rfl, _, rfl, ?_⟩
      by_cases h2 : ((z.length : Nat) : Int) ≤ 10
      · refine iteP h2 ?_
        refine ⟨_, rfl, z, rfl, fun D nD => lc_it walk_str (fun i H' => Same H H' ∧ H' D = some (.lst (((z.cps.toList.take i).map smlN).map V.bl))) ⟨Same.upd nD, upd_same⟩ (fun _ _ _ _ => trivial) ?_ ?_⟩
        · rintro i x H1 H1' hi ⟨S, hD⟩ ⟨rfl, c, hcz, rfl⟩
          rw [← Array.getElem?_toList] at hcz
          refine ⟨rfl, iteT (B := False) (chn rfl ⟨_, hD, ?_, fun b o e => ?_, ?_⟩)⟩
          · rw [List.length_map, List.length_map, List.length_take]
            have e1 : z.cps.toList.length = z.length := rfl
            have e2 : i < z.length := hi
            rw [e1]
            omega
          · rw [upd_ne (ne_of_none e nD)]
            exact S _ _ e
          · rw [upd_same, take_snoc hcz, List.map_append, List.map_append]
            rfl
        · rintro H1 ⟨S, hD⟩
          refine ⟨D, _, rfl, SqL.of hD, ?_⟩
          rw [← Array.length_toList, List.take_length, List.all_map]
          have e : letB z = z.cps.toList.all (id ∘ smlN) := by
            unfold letB
            rw [decide_eq_true (by omega), decide_eq_true (by omega)]
            rfl
          rw [← e]
          exact k H1 S
      · refine iteN h2 ?_
        have e : letB z = false := by
          unfold letB
          rw [decide_eq_false (p := z.length ≤ 10) (by omega), Bool.and_false, Bool.false_and]
        rw [e] at k
        exact k H (Same.refl H)
    · have e : letB z = false := by
        unfold letB
        rw [decide_eq_false (p := 1 ≤ z.length) (by omega), Bool.false_and, Bool.false_and]
      rw [e] at k
      exact ⟨_, rfl, iteT (k H (Same.refl H))⟩
theorem scWEnd : FnScope ["text", "start", "end"] ["text", "start"] (defScope sWordEnd) := ⟨rfl, rfl, rfl, by decide +kernel, rfl, by decide +kernel, by decide +kernel⟩
/-- while end < len(text) and p(text[end]): end += 1 -/
abbrev rLenS : List V → Hp → VK → Prop := fun xs H Q => ∃ z, xs = [V.str z] ∧ z.length ≤ sizeLine ∧ Q (V.int (z.length : Nat)) H
def eOf (σ : L2.St) : Nat := match (σ : List (Option V))[2]? with
  | some (some (V.int k)) => k.toNat
  | _ => 0
theorem run_loop {g : Str → Bool} {t : Str} {i e0 : Nat} {D : Ends} {H : Hp} (hz : t.length ≤ 100000) (he : e0 ≤ t.length) (fin : D.nx [some (.str t), some (.int i), some (.int (runE (fun c => g ⟨#[c]⟩) (t.cps.toList.drop e0) e0 : Nat))] H) :
    tWhile (tAnd (tTest (tOp (rI0 fun i j => V.bl (decide (i < j))) (tVar 2) (tCB rLenS (tCons (tVar 0) tNil)))) (tB (tCall (spIs g) [] C8.E0 (tCons (tOp rIxS (tVar 0) (tVar 2)) tNil)))) (tAug 2 (tC (.int 1)) (ipI fun i j => i + j)) D [some (.str t), some (.int i), some (.int (e0 : Nat))] H := by
  have hz2 : t.length ≤ sizeLine := by rw [sizeLine_eq]; omega
  have hl : t.cps.toList.length = t.length := rfl
  refine while_by (fun σ H' => H' = H ∧ ∃ e : Nat, σ = [some (.str t), some (.int i), some (.int (e : Nat))] ∧ e ≤ t.length ∧ runE (fun c => g ⟨#[c]⟩) (t.cps.toList.drop e) e = runE (fun c => g ⟨#[c]⟩) (t.cps.toList.drop e0) e0) (fun σ _ => t.length - eOf σ) ⟨rfl, e0, rfl, he, rfl⟩ ?_ ?_
  · rintro σ _ ⟨rfl, e, rfl, he, hr⟩
    refine ⟨_, rfl, _, rfl, t, rfl, hz2, _, _, rfl, rfl, _, rfl, ?_⟩
    by_cases c : e < t.length
    · refine ifT (decide_eq_true (by omega)) ?_
      obtain ⟨a, ha⟩ : ∃ a, t.cps.toList[e]? = some a := ⟨_, List.getElem?_eq_getElem (by rw [hl]; exact c)⟩
      refine ⟨_, rfl, _, rfl, t, _, a, rfl, rfl, hz2, atI_nat ha, _, rfl, _, rfl, ?_⟩
      have hd : t.cps.toList.drop e = a :: t.cps.toList.drop (e + 1) := (List.drop_eq_getElem_cons (by rw [hl]; exact c)).trans (by rw [(List.getElem?_eq_some_iff.mp ha).2])
      rw [hd] at hr
      by_cases q : g ⟨#[a]⟩ = true
      · refine ifT q ?_
        refine ⟨_, rfl, _, _, rfl, rfl, ⟨rfl, e + 1, rfl, c, ?_⟩, ?_⟩
        · rw [← hr]
          conv => rhs; unfold runE
          exact (if_pos q).symm
        · show t.length - (e + 1 : Int).toNat < t.length - ((e : Nat) : Int).toNat
          omega
      · refine ifF (Bool.eq_false_iff.mpr q) ?_
        have e1 : runE (fun c => g ⟨#[c]⟩) (a :: t.cps.toList.drop (e + 1)) e = e := by
          unfold runE
          exact if_neg q
        rw [e1] at hr
        rw [← hr] at fin
        exact fin
    · refine ifF (decide_eq_false (by omega)) ?_
      refine ifF rfl ?_
      have e1 : t.cps.toList.drop e = [] := List.drop_eq_nil_of_le (by omega)
      rw [e1] at hr
      have e2 : runE (fun c => g ⟨#[c]⟩) [] e = e := rfl
      rw [e2] at hr
      rw [← hr] at fin
      exact fin
  · rintro σ H1 Q Q' hq ⟨x, hx, y, hy, z, hz, l, a, b, ha, hb, k, hk, h⟩
    refine ⟨x, hx, y, hy, z, hz, l, a, b, ha, hb, k, hk, ?_⟩
    cases k with
    | false => exact hq _ _ h
    | true =>
      obtain ⟨x1, hx1, y1, hy1, z1, i1, c1, e1, e2, l1, a1, s1, hs1, k1, hk1, h1⟩ := h
      exact ⟨x1, hx1, y1, hy1, z1, i1, c1, e1, e2, l1, a1, s1, hs1, k1, hk1, hq _ _ h1⟩
theorem ok_wordEnd {f : Addr} {fd : FuncData} (F : Fun K "word_end" "word_end" sWordEnd f fd) (B2 : Bt2 mg) (Dg : Cal P w K mg base 1 "is_digit" (spIs digS) []) (Sm : Cal P w K mg base 1 "is_small" (spIs smlS) []) : FnOk P w K mg base CX0 2 f fd ["text", "start"] spWEnd := by
  refine F.ok scWEnd (fun vs H Q E h => ?_) (fun cdv A outer s H vs Q E hr h => ?_)
  · obtain ⟨t, i, rfl, _⟩ := h
    rfl
  · obtain ⟨t, i, rfl, hi, hz, k⟩ := h
    refine ⟨_, pss_cons (ps_set (i := 2) scWEnd.nd rfl (Or.inl rfl) (pe_op op_add (pv 1) pe_int))
      (pss_cons (ps_if (pt_val (pe_c Dg hr (by decide) rfl (pa_cons (pe_ix ix_str (pv 0) (pv 1) (fun _ _ => rfl)) pa_nil)))
        (pss_one (ps_while PassesOwn.never (PW.pt (pw_and (pt_cmpR op_lt (pv 2) (pe_callB call_len_str (by rfl) B2.len_ PySem.boot_len (pa_cons (pv 0) pa_nil)) (nomark _)) (pw_and1 (pt_val (pe_c Dg hr (by decide) rfl (pa_cons (pe_ix ix_str (pv 0) (pv 2) (fun _ _ => rfl)) pa_nil))))))
          (pss_one (ps_aug (i := 2) scWEnd.nd rfl (.inl rfl) pe_int ip_add))))
        (pss_one (ps_if (pt_val (pe_c Sm hr (by decide) rfl (pa_cons (pe_ix ix_str (pv 0) (pv 1) (fun _ _ => rfl)) pa_nil)))
          (pss_one (ps_while PassesOwn.never (PW.pt (pw_and (pt_cmpR op_lt (pv 2) (pe_callB call_len_str (by rfl) B2.len_ PySem.boot_len (pa_cons (pv 0) pa_nil)) (nomark _)) (pw_and1 (pt_val (pe_c Sm hr (by decide) rfl (pa_cons (pe_ix ix_str (pv 0) (pv 2) (fun _ _ => rfl)) pa_nil))))))
            (pss_one (ps_aug (i := 2) scWEnd.nd rfl (.inl rfl) pe_int ip_add))))
          pss_nil)))
      (pss_one (ps_ret (pv 2)))), ?_⟩
    have hz2 : t.length ≤ sizeLine := by rw [sizeLine_eq]; omega
    have hl : t.cps.toList.length = t.length := rfl
    obtain ⟨a, ha⟩ : ∃ a, t.cps.toList[i]? = some a := ⟨_, List.getElem?_eq_getElem (by rw [hl]; exact hi)⟩
    have hd : t.cps.toList.drop i = a :: t.cps.toList.drop (i + 1) := (List.drop_eq_getElem_cons (by rw [hl]; exact hi)).trans (by rw [(List.getElem?_eq_some_iff.mp ha).2])
    unfold wEnd at k
    rw [hd] at k
    refine ⟨_, rfl, _, _, rfl, rfl, ?_⟩
    refine ⟨_, rfl, _, rfl, t, _, a, rfl, rfl, hz2, atI_nat ha, _, rfl, _, rfl, ?_⟩
    by_cases q : digN a = true
    · refine ifT q ?_
      simp only [q, if_true] at k
      exact run_loop (g := digS) hz hi ⟨_, rfl, k⟩
    · refine ifF (Bool.eq_false_iff.mpr q) ?_
      simp only [q, if_false] at k
      refine ⟨_, rfl, _, rfl, t, _, a, rfl, rfl, hz2, atI_nat ha, _, rfl, _, rfl, ?_⟩
      by_cases q2 : smlN a = true
      · refine ifT q2 ?_
        simp only [q2, if_true] at k
        exact run_loop (g := smlS) hz hi ⟨_, rfl, k⟩
      · refine ifF (Bool.eq_false_iff.mpr q2) ?_
        simp only [q2, if_false] at k
        exact ⟨_, rfl, k⟩
end
end E2

set_option Elab.async false
set_option linter.all false
set_option maxRecDepth 100000
set_option maxHeartbeats 1000000
/-! kind_of, is_expression -/
namespace E2
open PySem PySem.Spec PyProof.Rows L2
open C8 (Cal Mak Met InsC pe_c pe_mt pe_mt0 call_isC clsBody)
/-- the first sign as a text -/
def fst1 (s : Str) : Str := ⟨#[s.cps.toList.headD 0]⟩
def kindS (s : Str) : Str := if digS (fst1 s) then "number" else if letB s then "letter" else s
def spKind : Sp := fun vs H Q _ => ∃ s : Str, vs = [.str s] ∧ 0 < s.length ∧ s.length ≤ 100000 ∧ ∀ H', Same H H' → Q (.str (kindS s)) H'
section
variable {P : Program} {w : World} {K : PySem.W.Frag} {mg : Str → Option Value} {base : Heap} {C : Addr}
theorem scKind : FnScope ["word"] ["word"] (defScope sKindOf) := ⟨rfl, rfl, rfl, by decide +kernel, rfl, by decide +kernel, by decide +kernel⟩
theorem fst_at {s : Str} (h : 0 < s.length) : s.cps.toList[0]? = some (s.cps.toList.headD 0) := by
  have h' : 0 < s.cps.toList.length := h
  cases e : s.cps.toList with
  | nil => rw [e] at h'; exact absurd h' (Nat.lt_irrefl 0)
  | cons a r => rfl
theorem ok_kind {f : Addr} {fd : FuncData} (F : Fun K "kind_of" "kind_of" sKindOf f fd) (Dg : Cal P w K mg base 1 "is_digit" (spIs digS) []) (Le : Cal P w K mg base 1 "is_letter" spLetB []) : FnOk P w K mg base CX0 2 f fd ["word"] spKind := by
  refine F.ok scKind (fun vs H Q E h => ?_) (fun cdv A outer s H vs Q E hr h => ?_)
  · obtain ⟨t, rfl, _⟩ := h
    rfl
  · obtain ⟨t, rfl, h0, hz, k⟩ := h
    refine ⟨_, pss_cons (ps_if (pt_val (pe_c Dg hr (by decide) rfl (pa_cons (pe_ix ix_str (pv 0) pe_int (fun _ _ => rfl)) pa_nil))) (pss_one (ps_ret pe_str)) pss_nil)
      (pss_one (ps_ret (pe_ifExp (pt_val (pe_c Le hr (by decide) rfl (pa_cons (pv 0) pa_nil))) pe_str (pv 0)))), ?_⟩
    have hz2 : t.length ≤ sizeLine := by rw [sizeLine_eq]; omega
    unfold kindS at k
    refine ⟨_, rfl, t, _, _, rfl, rfl, hz2, atI_nat (j := 0) (fst_at h0), _, rfl, _, rfl, ?_⟩
    by_cases q : digS (fst1 t) = true
    · rw [if_pos q] at k
      exact ifT q (k H (Same.refl H))
    · rw [if_neg q] at k
      refine ifF (Bool.eq_false_iff.mpr q) ?_
      refine ⟨_, rfl, t, rfl, hz, fun H1 S1 => ⟨_, rfl, ?_⟩⟩
      by_cases q2 : letB t = true
      · rw [if_pos q2] at k
        exact ifT q2 (k H1 S1)
      · rw [if_neg q2] at k
        exact ifF (Bool.eq_false_iff.mpr q2) ⟨_, rfl, k H1 S1⟩
end
end E2

set_option Elab.async false
set_option linter.all false
set_option maxRecDepth 100000
set_option maxHeartbeats 1000000
/-! number_of, digits_of, term_text: of fewer than 64 digits -/
namespace E2
open PySem PySem.Spec PyProof.Rows L2
open C8 (Cal Mak Met InsC pe_c pe_mt pe_mt0 call_isC clsBody)
open StX (tStar pa_star)
structure Bt5 (mg : Str → Option Value) : Prop where
  int_ : mg "int" = none
  str_ : mg "str" = none
  len_ : mg "len" = none
  rng_ : mg "range" = none
  dvm_ : mg "divmod" = none
  abs_ : mg "abs" = none
def spNumOf : Sp := fun vs H Q _ => ∃ (s : Str) (n : Int), vs = [.str s] ∧ s.length < 64 ∧ intText? (("0" : Str) ++ cutS s none (some (s.length : Int))) = some n ∧ ((("0" : Str) ++ cutS s none (some (s.length : Int))).length ≤ 640) ∧ (cutS s none (some (s.length : Int))).length ≤ 640 ∧ Q (.int n) H
/-- the digits of a count below 10 ** 64 -/
def dgS (v : Int) : Str := Txt.join "" [Str.ofString (toString v)]
def spDigits : Sp := fun vs H Q _ => ∃ v : Int, vs = [.int v] ∧ 0 ≤ v ∧ v < 10 ^ 64 ∧ (Str.ofString (toString v)).length ≤ 100 ∧ ∀ H', Same H H' → Q (.str (dgS v)) H'
theorem rgC_none (n : Nat) (h : n < 64) : RgC (n : Int) n 64 0 := by
  have e : Builtin.Range.rangeSize (n : Int) n 64 = 0 := by
    unfold Builtin.Range.rangeSize
    simp
  have f : Builtin.Range.rangeFitsLong (n : Int) = true := by
    unfold Builtin.Range.rangeFitsLong
    simp only [Bool.and_eq_true, decide_eq_true_eq]
    omega
  refine ⟨by decide, by decide, ?_, e⟩
  unfold Builtin.Range.small
  rw [e, f]
  rfl
section
variable {P : Program} {w : World} {K : PySem.W.Frag} {mg : Str → Option Value} {base : Heap} {C : Addr}
theorem scNumOf : FnScope ["digits", "first", "value", "start"] ["digits"] (defScope sNumberOf) := ⟨rfl, rfl, rfl, by decide +kernel, rfl, by decide +kernel, by decide +kernel⟩
theorem ok_numOf {f : Addr} {fd : FuncData} (F : Fun K "number_of" "number_of" sNumberOf f fd) (B : Bt5 mg) : FnOk P w K mg base CX0 1 f fd ["digits"] spNumOf := by
  refine F.ok scNumOf (fun vs H Q E h => ?_) (fun cdv A outer s H vs Q E hr h => ?_)
  · obtain ⟨t, n, rfl, _⟩ := h
    rfl
  · obtain ⟨t, n, rfl, h1, h2, h3, h4, k⟩ := h
    refine ⟨_, pss_cons (ps_set (i := 1) scNumOf.nd rfl (Or.inl rfl) (pe_op op_mod (pe_callB call_len_str (by rfl) B.len_ PySem.boot_len (pa_cons (pv 0) pa_nil)) pe_int))
      (pss_cons (ps_set (i := 2) scNumOf.nd rfl (Or.inl rfl) (pe_callTy call_int_str (by rfl) B.int_ (by decide +kernel) (pa_cons (pe_op op_add_str pe_str (pe_slice sl_str (pv 0) po_none (po_some (pv 1)))) pa_nil)))
      (pss_cons (ps_for PassesOwn.never rfl (pi_range3 rfl B.rng_ (pa_cons (pv 1) (pa_cons (pe_callB call_len_str (by rfl) B.len_ PySem.boot_len (pa_cons (pv 0) pa_nil)) (pa_cons pe_int pa_nil)))) (pg_name (i := 3) scNumOf.nd rfl (Or.inl rfl))
        (pss_one (ps_set (i := 2) scNumOf.nd rfl (Or.inl rfl) (pe_op op_add (pe_op op_mulW (pv 2) (pe_op op_powX pe_int pe_int)) (pe_callTy call_int_str (by rfl) B.int_ (by decide +kernel) (pa_cons (pe_slice sl_str (pv 0) (po_some (pv 3)) (po_some (pe_op op_add (pv 3) pe_int))) pa_nil))))))
      (pss_one (ps_ret (pv 2))))), ?_⟩
    have hz2 : t.length ≤ sizeLine := by rw [sizeLine_eq]; omega
    have hm : ((t.length : Nat) : Int) % 64 = (t.length : Nat) := by omega
    refine ⟨_, rfl, t, rfl, hz2, _, _, rfl, rfl, (by show (0 : Int) < 64; decide), ?_⟩
    dsimp only
    rw [hm]
    refine ⟨_, rfl, _, rfl, _, rfl, t, rfl, hz2, _, _, rfl, rfl, ?_, _, n, rfl, h2, h3, ?_⟩
    · have z1 : (("0" : Str)).length = 1 := rfl
      rw [z1, sizeLine_eq]
      omega
    refine ⟨_, rfl, _, rfl, t, rfl, hz2, _, _, 64, 0, rfl, ?_, for_rangeC (fun i σ H' => i = 0 ∧ H' = H ∧ σ = [some (.str t), some (.int (t.length : Nat)), some (.int n), none]) ⟨rfl, rfl, rfl⟩ (fun i σ H' hi _ => absurd hi (Nat.not_lt_zero i)) ?_⟩
    · exact rgC_none _ h1
    · rintro σ _ ⟨_, rfl, rfl⟩
      exact ⟨_, rfl, k⟩
theorem scDigits : FnScope ["value", "pieces", "piece"] ["value"] (defScope sDigitsOf) := ⟨rfl, rfl, rfl, by decide +kernel, rfl, by decide +kernel, by decide +kernel⟩
theorem ok_digits {f : Addr} {fd : FuncData} (F : Fun K "digits_of" "digits_of" sDigitsOf f fd) (B : Bt5 mg) : FnOk P w K mg base CX0 1 f fd ["value"] spDigits := by
  refine F.ok scDigits (fun vs H Q E h => ?_) (fun cdv A outer s H vs Q E hr h => ?_)
  · obtain ⟨v, rfl, _⟩ := h
    rfl
  · obtain ⟨v, rfl, h0, h1, h2, k⟩ := h
    refine ⟨_, pss_cons (ps_set (i := 1) scDigits.nd rfl (Or.inl rfl) (pe_lst pa_nil))
      (pss_cons (ps_while PassesOwn.never (pt_cmpR op_ge (pv 0) (pe_op op_powX pe_int pe_int) (nomark _))
        (pss_cons (ps_asg (pe_callB call_divmodW (by rfl) B.dvm_ (by decide +kernel) (pa_cons (pv 0) (pa_cons (pe_op op_powX pe_int pe_int) pa_nil))) (pg_tup (by rfl) (pgs_cons (pg_name (i := 0) scDigits.nd rfl (Or.inl rfl)) (pgs_cons (pg_name (i := 2) scDigits.nd rfl (Or.inl rfl)) pgs_nil))))
        (pss_one (ps_expr (pe_bm PySem.F.plainAttrs_list PySem.F.slot_list_append PySem.F.type_list_append mt_append (pv 1) (pa_cons (pe_bm PySem.F.plainAttrs_str PySem.F.slot_str_zfill PySem.F.type_str_zfill mt_zfill (pe_callTy call_str_int (by rfl) B.str_ (by decide +kernel) (pa_cons (pv 2) pa_nil)) (pa_cons pe_int pa_nil)) pa_nil))))))
      (pss_cons (ps_expr (pe_bm PySem.F.plainAttrs_list PySem.F.slot_list_append PySem.F.type_list_append mt_append (pv 1) (pa_cons (pe_callTy call_str_int (by rfl) B.str_ (by decide +kernel) (pa_cons (pv 0) pa_nil)) pa_nil)))
      (pss_one (ps_ret (pe_join pe_str (pe_revL (pv 1))))))), ?_⟩
    have c1 : CPowX 10 64 := ⟨by decide, by decide +kernel⟩
    have lg : v.natAbs.log2 < 1920 := Nat.lt_of_lt_of_le (PySem.Flt.log2_lt_of (k := 213) (by decide) (by omega)) (by decide)
    refine ⟨by decide, fun D nD => ?_⟩
    show tSeq (tWhile _ _) _ _ [some (.int v), some (.ref D), none] (upd H D (.lst []))
    refine while_by (fun σ H' => σ = [some (.int v), some (.ref D), none] ∧ H' = upd H D (.lst [])) (fun _ _ => 0) ⟨rfl, rfl⟩ ?_ ?_
    · rintro σ _ ⟨rfl, rfl⟩
      refine ⟨_, rfl, 10, 64, rfl, rfl, c1, _, _, rfl, rfl, _, rfl, ifF (decide_eq_false (by show ¬ (v ≥ 10 ^ (64 : Int).toNat); exact Int.not_le.mpr h1)) ?_⟩
      refine ⟨_, rfl, .inl ⟨rfl, _, SqL.of upd_same⟩, _, rfl, v, rfl, lg, D, _, _, rfl, rfl, upd_same, by decide, ?_⟩
      refine ⟨⟨_, rfl⟩, _, rfl, D, _, rfl, SqL.of upd_same, fun p np => ?_⟩
      refine ⟨"", p, [Str.ofString (toString v)], rfl, rfl, .inl (SqL.of upd_same), ?_, k _ ?_⟩
      · simp only [List.map_cons, List.map_nil, List.sum_cons, List.sum_nil]
        have z0 : ((""  : Str)).length = 0 := rfl
        rw [z0]
        omega
      · intro b o e
        have n1 : b ≠ D := ne_of_none e nD
        have n2 : b ≠ p := by
          rintro rfl
          rw [upd_upd, upd_ne n1, e] at np
          cases np
        rw [upd_ne n2, upd_upd, upd_ne n1]
        exact e
    · rintro σ H1 Q Q' hq ⟨x, hx, a, b, ha, hb, c, z, y, hz, hy, k, hk, h⟩
      exact ⟨x, hx, a, b, ha, hb, c, z, y, hz, hy, k, hk, hq _ _ h⟩
end
end E2

set_option Elab.async false
set_option linter.all false
set_option maxRecDepth 100000
set_option maxHeartbeats 1000000
/-! Sums of forms: the mathematics; {names: d[names] for names in d}. -/
namespace L2
open PySem PySem.Spec PyProof.Rows
def prodI : List Int → Int
  | [] => 1
  | x :: r => x * prodI r
theorem prodI_append : ∀ (l r : List Int), prodI (l ++ r) = prodI l * prodI r
  | [], r => by show prodI r = 1 * prodI r; omega
  | x :: l, r => by
    show x * prodI (l ++ r) = x * prodI l * prodI r
    rw [prodI_append l r, Int.mul_assoc]
theorem prodI_perm {l r : List Int} (h : l.Perm r) : prodI l = prodI r := by
  induction h with
  | nil => rfl
  | cons x _ ih => show x * _ = x * _; rw [ih]
  | swap x y l => show y * (x * prodI l) = x * (y * prodI l); rw [Int.mul_left_comm]
  | trans _ _ h1 h2 => rw [h1, h2]
def evM (σ : Str → Int) (m : Mon) : Int := prodI (m.map σ)
def ev (σ : Str → Int) : Fm → Rat
  | [] => 0
  | x :: r => x.2 * (evM σ x.1 : Rat) + ev σ r
theorem ev_append (σ : Str → Int) : ∀ (a b : Fm), ev σ (a ++ b) = ev σ a + ev σ b
  | [], b => by show ev σ b = 0 + ev σ b; grind
  | x :: a, b => by
    show x.2 * _ + ev σ (a ++ b) = x.2 * _ + ev σ a + ev σ b
    rw [ev_append σ a b]
    grind
theorem ev_mapM (σ : Str → Int) {p : Rat → Bool} (hp : ∀ q, p q = false → q = 0) : ∀ fm : Fm, ev σ (mapM p id fm) = ev σ fm
  | [] => rfl
  | x :: r => by
    have ih := ev_mapM σ hp r
    unfold mapM at ih ⊢
    rw [List.filter_cons]
    by_cases c : p x.2 = true
    · rw [if_pos c]
      show x.2 * _ + ev σ _ = x.2 * _ + ev σ r
      rw [ih]
    · rw [if_neg c, ih]
      show ev σ r = x.2 * _ + ev σ r
      rw [hp x.2 (by simpa using c)]
      grind
theorem ev_scale (σ : Str → Int) (c : Rat) : ∀ fm : Fm, ev σ (mapM (fun _ => true) (fun q => q * c) fm) = ev σ fm * c
  | [] => by show (0 : Rat) = 0 * c; grind
  | x :: r => by
    have ih := ev_scale σ c r
    unfold mapM at ih ⊢
    rw [List.filter_cons, if_pos rfl]
    show x.2 * c * _ + ev σ _ = (x.2 * _ + ev σ r) * c
    rw [ih]
    grind
theorem ev_neg (σ : Str → Int) : ∀ fm : Fm, ev σ (mapM (fun _ => true) (fun q => -q) fm) = -ev σ fm
  | [] => by show (0 : Rat) = -0; grind
  | x :: r => by
    have ih := ev_neg σ r
    unfold mapM at ih ⊢
    rw [List.filter_cons, if_pos rfl]
    show -x.2 * _ + ev σ _ = -(x.2 * _ + ev σ r)
    rw [ih]
    grind
theorem putM_hit {x : Mon × Rat} {r : Fm} {m : Mon} {q : Rat} (e : x.1 = m) (h : m ∉ r.map (·.1)) : putM (x :: r) m q = (m, q) :: r := by
  unfold putM
  rw [if_pos (by simp [e]), List.map_cons, if_pos e, e]
  congr 1
  have : ∀ l : Fm, m ∉ l.map (·.1) → l.map (fun y => if y.1 = m then (y.1, q) else y) = l := by
    intro l
    induction l with
    | nil => intro _; rfl
    | cons y l ih =>
      intro hl
      rw [List.map_cons] at hl
      rw [List.map_cons, if_neg fun z => hl (List.mem_cons.mpr (.inl z.symm)), ih fun z => hl (List.mem_cons.mpr (.inr z))]
  exact this r h
theorem putM_miss {x : Mon × Rat} {r : Fm} {m : Mon} {q : Rat} (e : ¬ x.1 = m) : putM (x :: r) m q = x :: putM r m q := by
  unfold putM
  rw [List.any_cons, decide_eq_false e, Bool.false_or]
  split
  · rw [List.map_cons, if_neg e]
  · rfl
theorem valM_hit {x : Mon × Rat} {r : Fm} {m : Mon} (e : x.1 = m) : valM (x :: r) m = some x.2 := by simp [valM, List.find?_cons, e]
theorem valM_miss {x : Mon × Rat} {r : Fm} {m : Mon} (e : ¬ x.1 = m) : valM (x :: r) m = valM r m := by simp [valM, List.find?_cons, e]
theorem keys_putM (m : Mon) (q : Rat) : ∀ fm : Fm, ∀ n ∈ (putM fm m q).map (·.1), n ∈ fm.map (·.1) ∨ n = m := by
  intro fm n hn
  unfold putM at hn
  split at hn
  · left
    rw [List.map_map] at hn
    obtain ⟨x, hx, e⟩ := List.mem_map.mp hn
    refine List.mem_map.mpr ⟨x, hx, ?_⟩
    by_cases c : x.1 = m
    · simpa [Function.comp, c] using e
    · simpa [Function.comp, c] using e
  · rw [List.map_append] at hn
    rcases List.mem_append.mp hn with h | h
    · exact .inl h
    · exact .inr (by simpa using h)
theorem nodup_putM (m : Mon) (q : Rat) : ∀ fm : Fm, (fm.map (·.1)).Nodup → ((putM fm m q).map (·.1)).Nodup
  | [], _ => by simp [putM]
  | x :: r, h => by
    rw [List.map_cons] at h
    obtain ⟨h1, h2⟩ := List.nodup_cons.mp h
    by_cases c : x.1 = m
    · rw [putM_hit c (by rw [← c]; exact h1), List.map_cons, ← c]
      exact List.nodup_cons.mpr ⟨h1, h2⟩
    · rw [putM_miss c, List.map_cons]
      refine List.nodup_cons.mpr ⟨fun z => ?_, nodup_putM m q r h2⟩
      rcases keys_putM m q r _ z with z | z
      · exact h1 z
      · exact c z
theorem mem_putM {m : Mon} {q : Rat} {fm : Fm} {x : Mon × Rat} (h : x ∈ putM fm m q) : x ∈ fm ∨ x = (m, q) := by
  unfold putM at h
  split at h
  · obtain ⟨y, hy, e⟩ := List.mem_map.mp h
    by_cases c : y.1 = m
    · rw [if_pos c] at e
      exact .inr (by rw [← e, c])
    · rw [if_neg c] at e
      exact .inl (e ▸ hy)
  · rcases List.mem_append.mp h with h | h
    · exact .inl h
    · exact .inr (by simpa using h)
theorem length_putM (m : Mon) (q : Rat) (fm : Fm) : (putM fm m q).length ≤ fm.length + 1 := by
  unfold putM
  split
  · rw [List.length_map]; omega
  · rw [List.length_append]; exact Nat.le_refl _
theorem mem_valM {m : Mon} {fm : Fm} {q : Rat} (h : valM fm m = some q) : (m, q) ∈ fm := by
  unfold valM at h
  obtain ⟨x, hx, e⟩ := Option.map_eq_some_iff.mp h
  have h1 := List.find?_some hx
  have h2 := List.mem_of_find?_eq_some hx
  have h3 : x = (m, q) := Prod.ext (of_decide_eq_true h1) e
  rwa [← h3]
/-- a term more -/
def add1 (acc : Fm) (x : Mon × Rat) : Fm := putM acc x.1 ((valM acc x.1).getD 0 + x.2)
def addTo (acc l : Fm) : Fm := l.foldl add1 acc
theorem addTo_snoc (acc l : Fm) (x : Mon × Rat) : addTo acc (l ++ [x]) = add1 (addTo acc l) x := by
  unfold addTo
  rw [List.foldl_append]
  rfl
theorem nodup_addTo : ∀ (l acc : Fm), (acc.map (·.1)).Nodup → ((addTo acc l).map (·.1)).Nodup
  | [], _, h => h
  | x :: l, acc, h => nodup_addTo l (add1 acc x) (nodup_putM _ _ _ h)
theorem length_addTo : ∀ (l acc : Fm), (addTo acc l).length ≤ acc.length + l.length
  | [], _ => Nat.le_refl _
  | x :: l, acc => by
    have h1 := length_addTo l (add1 acc x)
    have h2 : (add1 acc x).length ≤ acc.length + 1 := length_putM _ _ _
    rw [List.length_cons]
    show (addTo (add1 acc x) l).length ≤ _
    omega
theorem bq_add1 {D M N : Nat} {acc : Fm} {x : Mon × Rat} (h : ∀ y ∈ acc, Bq D M y.2) (hx : Bq D N x.2) : ∀ y ∈ add1 acc x, Bq D (M + N) y.2 := by
  intro y hy
  rcases mem_putM hy with hy | rfl
  · exact (h y hy).mono (Nat.le_add_right _ _)
  · rcases hv : valM acc x.1 with _ | q
    · refine Bq.mono (M := 0 + N) ?_ (by omega)
      rw [Option.getD_none]
      exact Bq.zero.add hx
    · rw [Option.getD_some]
      exact (h _ (mem_valM hv)).add hx
theorem bq_addTo {D N : Nat} : ∀ (l acc : Fm) (M : Nat), (∀ y ∈ acc, Bq D M y.2) → (∀ y ∈ l, Bq D N y.2) → ∀ y ∈ addTo acc l, Bq D (M + l.length * N) y.2
  | [], acc, M, h, _ => fun y hy => (h y hy).mono (Nat.le_add_right _ _)
  | x :: l, acc, M, h, hl => fun y hy => by
    have z := bq_addTo l (add1 acc x) (M + N) (bq_add1 h (hl x (List.mem_cons.mpr (.inl rfl)))) (fun y hy => hl y (List.mem_cons.mpr (.inr hy))) y hy
    refine z.mono ?_
    rw [List.length_cons, Nat.add_mul]
    omega
theorem ev_putM (σ : Str → Int) (m : Mon) (c : Rat) : ∀ fm : Fm, (fm.map (·.1)).Nodup → ev σ (putM fm m ((valM fm m).getD 0 + c)) = ev σ fm + c * (evM σ m : Rat)
  | [], _ => by
    show (0 + c) * _ + 0 = 0 + c * _
    grind
  | x :: r, h => by
    rw [List.map_cons] at h
    obtain ⟨h1, h2⟩ := List.nodup_cons.mp h
    by_cases e : x.1 = m
    · rw [valM_hit e, putM_hit e (by rw [← e]; exact h1), Option.getD_some]
      show (x.2 + c) * _ + ev σ r = x.2 * (evM σ x.1 : Rat) + ev σ r + c * _
      rw [e]
      grind
    · rw [valM_miss e, putM_miss e]
      show x.2 * _ + ev σ _ = x.2 * _ + ev σ r + c * _
      rw [ev_putM σ m c r h2]
      grind
theorem ev_addTo (σ : Str → Int) : ∀ (l acc : Fm), (acc.map (·.1)).Nodup → ev σ (addTo acc l) = ev σ acc + ev σ l
  | [], acc, _ => by show ev σ acc = ev σ acc + 0; grind
  | x :: l, acc, h => by
    show ev σ (addTo (add1 acc x) l) = ev σ acc + (x.2 * _ + ev σ l)
    rw [ev_addTo σ l (add1 acc x) (nodup_putM _ _ _ h)]
    unfold add1
    rw [ev_putM σ x.1 x.2 acc h]
    grind
theorem keys_addTo : ∀ (l acc : Fm) (n : Mon), n ∈ (addTo acc l).map (·.1) → n ∈ acc.map (·.1) ∨ n ∈ l.map (·.1)
  | [], _, _, h => .inl h
  | x :: l, acc, n, h => by
    rcases keys_addTo l (add1 acc x) n h with h | h
    · rcases keys_putM _ _ _ _ h with h | h
      · exact .inl h
      · exact .inr (List.mem_cons.mpr (.inl h))
    · exact .inr (List.mem_cons.mpr (.inr h))
theorem take_addTo {acc l : Fm} {i : Nat} {x : Mon × Rat} (h : l[i]? = some x) : addTo acc (l.take (i + 1)) = add1 (addTo acc (l.take i)) x := by
  rw [take_snoc h, addTo_snoc]
end L2

set_option Elab.async false
set_option linter.all false
set_option maxRecDepth 100000
set_option maxHeartbeats 1000000
/-! {names: d[names] for names in d}: the copy of a form's dict -/
namespace L2
open PySem PySem.Spec PyProof.Rows
theorem mapM_id (fm : Fm) : mapM (fun _ => true) id fm = fm := by
  unfold mapM
  rw [List.filter_eq_self.mpr fun _ _ => rfl]
  exact List.map_id' fm
theorem findN_at : ∀ {l : NAV} {i : Nat} {x : List Key × Addr × Addr}, (l.map (·.1)).Nodup → l[i]? = some x → findN l x.1 = some x.2
  | [], _, _, _, h => by cases h
  | y :: r, 0, x, _, h => by
    obtain rfl : y = x := Option.some.inj h
    exact findN_hit rfl
  | y :: r, i + 1, x, hn, h => by
    rw [List.map_cons] at hn
    obtain ⟨h1, h2⟩ := List.nodup_cons.mp hn
    have h' : r[i]? = some x := by simpa using h
    rw [findN_miss fun e => h1 (by rw [e]; exact List.mem_map.mpr ⟨x, List.mem_of_getElem? h', rfl⟩)]
    exact findN_at h2 h'
theorem FmKv.nodup {K : PySem.W.Frag} {H : Hp} {l : NAV} {fm : Fm} (h : FmKv K H l fm) (hn : (fm.map (·.1)).Nodup) : (l.map (·.1)).Nodup := by
  have e : l.map (·.1) = (fm.map (·.1)).map kS := by
    unfold FmKv at h
    clear hn
    induction h with
    | nil => rfl
    | cons r t ih => rw [List.map_cons, List.map_cons, List.map_cons, ih, r.1]
  rw [e]
  exact List.Pairwise.map kS (fun a b n z => n (kS_inj z)) hn
/-- the dict locked, its keys walked by a dict comprehension, the dict open again -/
theorem lock_keys {P : Program} {w : World} {K : PySem.W.Frag} {H : Hp} {d : Addr} {l : NAV} {fm : Fm} {td : TE} {g : TG} {tk tv : TE} {vs : List Nat} {σ : St} {Q : VK}
    (hd : H d = some (DfO P w d l)) (hf : FmKv K H l fm) (hn : (fm.map (·.1)).Nodup) (hz : fm.length ≤ sizeLine)
    (hte : ∀ (od : Obj) (R : VK), R (.ref d) (upd H d (.frz od (DfO P w d l))) → td σ (upd H d (.frz od (DfO P w d l))) R)
    (hs : ∀ (od : Obj) (H1 : Hp), H1 = upd H d (.frz od (DfO P w d l)) → ∀ (i : Nat) (m : Mon) (q : Rat) (H' : Hp) (b a : Addr) (put : V → V → Hp → Prop) (skip : Hp → Prop), fm[i]? = some (m, q) → Same H1 H' → TupN H' b ((kS m).map kV) → GetN P w K H' d (.ref b) (some a) → SqT K H' a (frac q) →
      (∀ H5 (b' a' : Addr), Same H' H5 → TupN H5 b' ((kS m).map kV) → SqT K H5 a' (frac q) → put (.ref b') (.ref a') H5) →
      g (.ref b) (wipe σ vs) H' fun σ2 H2 => wipe σ2 vs = wipe σ vs ∧ tYes σ2 H2 fun c H3 => if c = true then tk σ2 H3 fun y H4 => tv σ2 H4 fun z H5 => put y z H5 else skip H3)
    (hq : ∀ H' D l', Same H H' → H D = none → H' D = some (DfO P w D l') → FmKv K H' l' fm → Q (.ref D) H') :
    tLockE (tDcN P w K (iKeysN P w td) g tYes tk tv vs) σ H Q := by
  refine ⟨d, DfO P w d l, hd, trivial, fun od => ?_⟩
  have hf0 : FmKv K (upd H d (.frz od (DfO P w d l))) l fm := hf.imp (.off hd noTup_df)
  refine hte od _ ⟨d, od, l, rfl, upd_same, fun D nD => ?_⟩
  have neD : D ≠ d := by
    rintro rfl
    rw [upd_same] at nD
    cases nD
  have nD' : H D = none := by rwa [upd_ne neD] at nD
  have h1 : (upd H d (.frz od (DfO P w d l))) d = some (.frz od (DfO P w d l)) := upd_same
  generalize hH1 : upd H d (.frz od (DfO P w d l)) = H1 at hf0 nD h1 ⊢
  refine dcN_it walk_keysN (fun i H' => Same H1 H' ∧ ∃ l', H' D = some (DfO P w D l') ∧ FmKv K H' l' (fm.take i)) ⟨Same.upd nD, [], upd_same, .nil⟩ (fun i H _ q => q.1 _ _ h1) ?_ ?_
  · rintro i x H0 H' hi ⟨S, l', hD', kv'⟩ ⟨rfl, k, qb, av, hkv, rfl⟩
    obtain ⟨m, q, b, a, hm, e, tb, sa⟩ := hf0.get hkv
    obtain ⟨rfl, e2⟩ := Prod.mk.inj e
    obtain ⟨rfl, rfl⟩ := Prod.mk.inj e2
    have tk1 := take_snoc hm
    have hil : i < fm.length := by rw [← hf.length]; exact hi
    have dg : GetN P w K H' d (.ref qb) (some av) := ⟨l, qb, kS m, .inr ⟨od, S _ _ h1⟩, (hf0.same S).keys, rfl, (tb.same S).sq, by rw [findN_at (hf.nodup hn) hkv]; rfl⟩
    refine hs od H1 hH1.symm i m q H' qb av _ _ hm S (tb.same S) dg (sa.same S) fun H5 b' a' S5 hb' sa' => ?_
    refine ⟨l', kS m, b', a', rfl, rfl, hb'.sq, S5 _ _ hD', (kv'.same S5).keys, ?_, ?_, ?_⟩
    · rw [kv'.length, List.length_take]
      omega
    · intro c u e
      rw [upd_ne (ne_of_none e nD)]
      exact S5 _ _ (S _ _ e)
    · refine ⟨_, upd_same, ?_⟩
      rw [tk1]
      have k6 := (kv'.same S5).put m hb' sa'
      rw [putM_new _ (nodup_new hn hm)] at k6
      exact k6.imp (.off (S5 _ _ hD') noTup_df)
  · rintro H' ⟨S, l', hD', kv'⟩
    rw [hf.length, List.take_length] at kv'
    subst hH1
    refine ⟨S _ _ h1, hq _ D l' (same_back hd S) nD' (by rw [upd_ne neD]; exact hD') ?_⟩
    exact kv'.imp (.off (S _ _ h1) noTup_fz)
end L2

set_option Elab.async false
set_option linter.all false
set_option maxRecDepth 100000
set_option maxHeartbeats 1000000
/-! a + b -/
namespace E2
open PySem PySem.Spec PyProof.Rows L2
open C8 (Cal Mak Met InsC pe_c pe_mt pe_mt0 call_isC clsBody)
abbrev nz : Rat → Bool := fun q => !decide (q = 0)
/-- what stands on the right: a whole number, or a form -/
def RightV (P : Program) (w : World) (K : PySem.W.Frag) (C : Addr) (H : Hp) (v : V) (fm : Fm) : Prop := (∃ n : Int, v = .int n ∧ fm = numM n) ∨ ∃ b, v = .ref b ∧ FmAt P w K C H b fm
theorem right_of {P : Program} {w : World} {K : PySem.W.Frag} {C : Addr} {H : Hp} {v : V} {fm : Fm} {Q : VK} {E : XK} (h : RightV P w K C H v fm) (k : ∀ H0 b, Same H H0 → FmAt P w K C H0 b fm → Q (.ref b) H0) : spRight P w K C [v] H Q E := by
  rcases h with ⟨n, rfl, rfl⟩ | ⟨b, rfl, hb⟩
  · exact ⟨_, rfl, .inl ⟨n, rfl, fun H' b S _ hb => k H' b S hb⟩⟩
  · obtain ⟨dx, d, kvs, ha, hd, hf⟩ := hb
    exact ⟨_, rfl, .inr ⟨b, dx, _, rfl, ha, k H b (Same.refl H) ⟨dx, d, kvs, ha, hd, hf⟩⟩⟩
/-- sizes that the fractions' arithmetic takes -/
structure Szs (fm1 fm2 : Fm) : Prop where
  n1 : (fm1.map (·.1)).Nodup
  n2 : (fm2.map (·.1)).Nodup
  len : fm1.length + fm2.length < sizeLine
  bq : ∃ D M N, 0 < D ∧ D < 2 ^ 4000 ∧ M + fm2.length * N < 2 ^ 400000 ∧ N < 2 ^ 400000 ∧ (∀ x ∈ fm1, Bq D M x.2) ∧ ∀ x ∈ fm2, Bq D N x.2
def spAdd (P : Program) (w : World) (K : PySem.W.Frag) (C : Addr) : Sp := fun vs H Q _ => ∃ a v fm1 fm2, vs = [.ref a, v] ∧ FmAt P w K C H a fm1 ∧ RightV P w K C H v fm2 ∧ Szs fm1 fm2 ∧ ∀ H' b, Same H H' → H b = none → FmAt P w K C H' b (mapM nz id (addTo fm1 fm2)) → Q (.ref b) H'
theorem get_or {K : PySem.W.Frag} {H : Hp} {l : NAV} {fm : Fm} {D M : Nat} {t : Addr} (h : FmKv K H l fm) (m : Mon) (ht : SqT K H t (frac 0)) (hb : ∀ y ∈ fm, Bq D M y.2) :
    ∃ p, orV ((findN l (kS m)).map (·.2)) (.ref t) = .ref p ∧ SqT K H p (frac ((valM fm m).getD 0)) ∧ Bq D M ((valM fm m).getD 0) := by
  rcases h.val m with ⟨e1, e2⟩ | ⟨b, a, q, e1, e2, sa⟩
  · rw [e1, e2]
    exact ⟨t, rfl, ht, Bq.zero.mono (Nat.zero_le _)⟩
  · rw [e1, e2]
    exact ⟨a, rfl, sa, hb _ (mem_valM e2)⟩
section
variable {P : Program} {w : World} {K : PySem.W.Frag} {mg : Str → Option Value} {base : Heap} {C : Addr}
theorem scAdd : FnScope ["self", "other", "right", "parts", "names", "worth"] ["self", "other"] (defScope sAdd) := ⟨rfl, rfl, rfl, by decide +kernel, rfl, by decide +kernel, by decide +kernel⟩
theorem ok_add {f : Addr} {fd : FuncData} (F : Fun K "__add__" "Form.__add__" sAdd f fd) (T : Fx P w K mg base C) (R : Cal P w K mg base 4 "right_side" (spRight P w K C) []) (Fs : Cal P w K mg base 2 "fraction_sum" (spFrac K (· + ·)) []) (Wo : Cal P w K mg base 1 "without_noughts" (spWithout P w K) []) : FnOk P w K mg base CX0 5 f fd ["self", "other"] (spAdd P w K C) := by
  refine F.ok scAdd (fun vs H Q E h => ?_) (fun cdv A outer s H vs Q E hr h => ?_)
  · obtain ⟨a, v, fm1, fm2, rfl, _⟩ := h
    rfl
  · obtain ⟨a, v0, fm1, fm2, rfl, ⟨dx, d, kvs, ha, hd, hf⟩, hv, Z, k⟩ := h
    have u1 := Nat.lt_of_le_of_lt (Nat.add_le_add_left (by decide : 1 ≤ 64) _) hr.units
    refine ⟨_, pss_cons (ps_set (i := 2) scAdd.nd rfl (Or.inl rfl) (pe_c R hr (by decide) rfl (pa_cons (pv 1) pa_nil)))
      (pss_cons (ps_lock (ps_dcN (i := 3) (swD_true rfl rfl rfl (by rfl)) (own := [("names", 4)]) (g := gName 4) (tt := tYes) (tk := tVar 4) (tv := tOp (rDf P w K) (tFld K (tVar 0) "_parts") (tVar 4)) (Nat.lt_of_le_of_lt (Nat.le_add_right _ 64) hr.units) rfl scAdd.nd rfl rfl (pi_keysN (pe_fld (pv 0) rfl))
        (blkOk_by (own := [("names", 4)]) (N := ["self", "other", "right", "parts", "names", "worth"]) (sc := defScope sAdd) (by decide +kernel))
        ⟨fun _ _ _ _ _ => pg_name (i := 4) scAdd.nd rfl (Or.inl rfl), fun _ _ _ _ _ => pts_nil, fun _ _ _ _ _ => pv 4, fun _ _ _ _ _ => by exact pe_ix (ix_df u1) (pe_fld (pv 0) rfl) (pv 4) (fun _ _ => rfl)⟩))
      (pss_cons (ps_lock (ps_for PassesOwn.never rfl (pi_itemsN (pe_fld (pv 2) rfl)) (pg_tup rfl (pgs_cons (pg_name (i := 4) scAdd.nd rfl (Or.inl rfl)) (pgs_cons (pg_name (i := 5) scAdd.nd rfl (Or.inl rfl)) pgs_nil)))
        (pss_one (ps_asg (pe_c Fs hr (by decide) rfl (pa_cons (pe_get2N u1 (pv 3) (pv 4) (pe_tupS (pa_cons pe_int (pa_cons pe_int pa_nil))) ⟨rfl, rfl, rfl, rfl⟩) (pa_cons (pv 5) pa_nil))) (pg_sub (pv 3) (pv 4) (set_df u1))))))
      (pss_one (ps_ret (pe_mkF T.maks hr (by decide) rfl (pe_c Wo hr (by decide) rfl (pa_cons (pv 3) pa_nil))))))), ?_⟩
    refine seq_asg (call_one rfl (right_of hv fun H0 b S0 hb => ?_))
    have hd0 : H0 d = some (DfO P w d kvs) := S0 _ _ hd
    refine seq_lockasg ?_
    refine lock_keys hd0 (hf.same S0) Z.n1 (by have := Z.len; omega) (fun od R h => ⟨_, rfl, a, C, dx, _, _, rfl, by rw [upd_ne (ne_of ha hd (by intro z; cases z))]; exact S0 _ _ ha, T.cl, T.na, rfl, h⟩) ?_ ?_
    · rintro od H1 rfl i m q H' b1 a1 put skip hm S hb1 dg sa hput
      refine ⟨rfl, iteT (B := False) ?_⟩
      refine ⟨_, rfl, _, rfl, a, C, dx, _, _, rfl, S _ _ (by rw [upd_ne (ne_of ha hd (by intro z; cases z))]; exact S0 _ _ ha), T.cl, T.na, rfl, _, rfl, d, _, rfl, dg, hput H' b1 a1 (Same.refl H') hb1 sa⟩
    · intro H1 D kvs1 S1 nD hD kv1
      obtain ⟨dx2, d2, kvs2, hb1, hd2, hf2⟩ := hb
      have neD : D ≠ d2 := by
        rintro rfl
        rw [nD] at hd2
        cases hd2
      have hd21 := S1 _ _ hd2
      have hb11 := S1 _ _ hb1
      obtain ⟨Dn, M, N, hD0, hD4, hMN, hN, hq1, hq2⟩ := Z.bq
      refine seq_for_items (l := kvs2) (fm := fm2) (d := d2) hd21 (hf2.same S1) (fun od R h => ⟨_, rfl, b, C, dx2, _, _, rfl, by rw [upd_ne (ne_of hb11 hd21 (by intro z; cases z))]; exact hb11, T.cl, T.na, rfl, h⟩)
        (fun od i σ' H' => (∃ u v, σ' = [some (.ref a), some v0, some (.ref b), some (.ref D), u, v]) ∧ SameB D (upd H1 d2 (.frz od (DfO P w d2 kvs2))) H' ∧ ∃ kvs', H' D = some (DfO P w D kvs') ∧ FmKv K H' kvs' (addTo fm1 (fm2.take i))) ?_ ?_ ?_ ?_
      · intro od
        refine ⟨⟨none, none, rfl⟩, SameB.refl _ _, kvs1, by rw [upd_ne neD]; exact hD, ?_⟩
        exact kv1.imp (.off hd21 noTup_df)
      · rintro od i σ' H' ⟨_, S, _⟩
        exact ⟨S _ _ (Ne.symm neD) upd_same, .sameB S (by rw [upd_ne neD]; exact hD) noTup_df⟩
      · rintro od i m q σ' H' T b2 a2 rt bk hm ⟨⟨u, v, rfl⟩, S, kvs', hD', kv'⟩ nT hb2 sa2
        have S2 : Same H' (upd H' T (.tup [.ref b2, .ref a2])) := Same.upd nT
        refine ⟨T, _, rfl, SqT.of upd_same, rfl, _, _, rfl, _, _, rfl, rfl, ?_⟩
        refine ⟨_, rfl, D, kvs', rfl, .inl (S2 _ _ hD'), _, rfl, (by show 2 ≤ sizeLine; decide), fun t H3 S3 n3 h3 => ?_⟩
        have hD3 := S3 _ _ (S2 _ _ hD')
        have kv3 := (kv'.same S2).same S3
        have tb2 := (hb2.same S2).same S3
        refine ⟨_, ⟨kvs', b2, kS m, .inl hD3, kv3.keys, rfl, tb2.sq, rfl⟩, ?_⟩
        have hil : i < fm2.length := (List.getElem?_eq_some_iff.mp hm).1
        have tl : (fm2.take i).length = i := by rw [List.length_take]; omega
        obtain ⟨p0, e0, sp, bq0⟩ := get_or kv3 m (SqT.of h3) (bq_addTo (fm2.take i) fm1 M hq1 fun y hy => hq2 y (List.mem_of_mem_take hy))
        rw [e0]
        have bq1 := hq2 _ (List.mem_of_getElem? hm)
        have le0 : M + (fm2.take i).length * N < 2 ^ 400000 := Nat.lt_of_le_of_lt (Nat.add_le_add_left (Nat.mul_le_mul_right _ (by rw [tl]; omega)) _) hMN
        refine ⟨_, rfl, p0, a2, _, q, rfl, sp, (sa2.same S2).same S3, Nat.lt_of_le_of_lt (bq0.num_le hD0) le0, Nat.lt_of_le_of_lt (bq1.num_le hD0) hN, Nat.lt_of_le_of_lt (bq0.den_le hD0) hD4, Nat.lt_of_le_of_lt (bq1.den_le hD0) hD4, fun p5 H5 S5 n5 h5 => ?_⟩
        have hD5 := S5 _ _ hD3
        have ll := length_addTo (fm2.take i) fm1
        refine ⟨_, rfl, _, rfl, D, b2, _, kvs', kS m, rfl, rfl, rfl, hD5, (kv3.same S5).keys, (tb2.same S5).sq, (by rw [kv'.length]; have := Z.len; omega), ⟨_, _, rfl⟩, (((S.to S2).to S3).to S5).upd, _, upd_same, ?_⟩
        rw [take_addTo hm]
        exact ((kv3.same S5).put m (tb2.same S5) (SqT.of h5)).imp (.off hD5 noTup_df)
      · rintro od σ' H' ⟨⟨u, v, rfl⟩, S, kvs', hD', kv'⟩
        rw [List.take_length] at kv'
        have hl2 : H' d2 = some (.frz od (DfO P w d2 kvs2)) := S _ _ (Ne.symm neD) upd_same
        have SH : Same H (upd H' d2 (DfO P w d2 kvs2)) := by
          intro c o e
          have e0 := S0 _ _ e
          have nc : c ≠ D := by
            rintro rfl
            rw [nD] at e0
            cases e0
          by_cases c2 : c = d2
          · subst c2
            rw [upd_same]
            rw [hd2] at e0
            exact e0
          · rw [upd_ne c2]
            exact S _ _ nc (by rw [upd_ne c2]; exact S1 _ _ e0)
        have nDH : ∀ {c : Addr}, upd H' d2 (DfO P w d2 kvs2) c = none → H c = none := fun {c} n => SH.free n
        refine ret_mkF ?_
        refine call_one rfl ⟨D, kvs', addTo fm1 fm2, rfl, by rw [upd_ne neD]; exact hD', kv'.imp (.off hl2 noTup_fz), nodup_addTo _ _ Z.n1, Nat.le_of_lt (Nat.lt_of_le_of_lt (length_addTo _ _) Z.len), fun H4 D4 kvs4 S4 nD4 hD4 kv4 b5 dx5 H5 S5 nb5 hb5 => ?_⟩
        exact k H5 b5 ((SH.trans S4).trans S5) ((SH.trans S4).free nb5) ⟨dx5, D4, kvs4, hb5, S5 _ _ hD4, kv4.same S5⟩
end
end E2

set_option Elab.async false
set_option linter.all false
set_option maxRecDepth 100000
set_option maxHeartbeats 1000000
/-! sorted(t), t a tuple of texts -/
namespace L2
open PySem PySem.Spec PyProof.Rows
def rSortedTS (K : PySem.W.Frag) : List V → Hp → VK → Prop := fun vs H Q => ∃ (a : Addr) (xs : List Str), vs = [V.ref a] ∧ SqT K H a (xs.map V.str) ∧ xs.length ≤ sizeLine ∧
  ∀ (ys : List Str), ys.Perm xs → sortedS ys = true → NewQ H (.lst (ys.map V.str)) Q
theorem cr_sortedTS {X : Cx} : CallR X (.builtin "sorted") (rSortedTS X.K) := by
  intro pins s σ H vs us Q I r h
  obtain ⟨a, xs, rfl, hs, hz, q⟩ := h
  obtain ⟨its, rv, tp, _⟩ := I.tuple hs
  obtain ⟨o, ho, hc, n, hd⟩ := tp
  have hlen0 := rv.length
  rw [List.length_map] at hlen0
  have hS := rv.strs
  rw [Vals.ref1 r]
  refine Calls.call_function_entry kind_sorted plain_sorted entry_sorted (args_sorted1 _) ?_
  unfold Builtin.«sorted»
  refine wpAny_bind (m := checkCount "sorted" 1 1 _) (wpAny_pure ?_)
  refine wpAny_bind (wpAny_collect_seq a (.inr rfl) ho hc hd (fun h' hk => ?_) (by rw [List.size_toArray]; omega))
  rw [List.toList_toArray]
  have I1 : Inv X pins σ H { s with heap := h' } := I.kept (t' := s.toks) hk
  refine wpAny_bind (wpAny_newList ?_ (by omega))
  have hoL : (h'.push (seqObj "list" its.toArray 0)).get? h'.objs.size = some (seqObj "list" its.toArray 0) := Heap.get?_push_size _ rfl
  show wpAny _ _ _ _ _ { s with heap := h'.push (seqObj "list" its.toArray 0) }
  refine wpAny_bind (wpAny_holding (wpAny_call_entry slot_list_sort ⟨_, hoL, rfl⟩ entry_list_sort (list_sort_treeKAny strKind_oneLt hoL hS.keysOf (fun v₁ v₂ rest e => keyKind_strs (by rw [← e]; exact hS)) (by omega) fun st' hp hs => ⟨_, rfl, ?_⟩) (args_list_sort _)))
  obtain ⟨ys, h1, h2, h3⟩ := sorted_out_str hS hp hs
  obtain ⟨ep, he'⟩ := sortedHeap_at (vs := its) (out := (arrOf st').map (·.2)) hoL
  have hlen : (ys.map V.str).length ≤ sizeLine := by rw [List.length_map, h2.length_eq]; exact hz
  refine wpAny_pure ⟨_, rfl, .ref h'.objs.size, upd H h'.objs.size (.lst (ys.map V.str)), I1.laid (t' := s.toks) (fun b u e => ?_) (Nat.le_refl _) ⟨hlen, _, ep, vals_of_strs h1, he'⟩, rfl, (q ys h2 h3).at I1.fresh⟩
  have lt := Heap.lt_size e
  rw [sortedHeap_old (Nat.ne_of_lt lt) (by rw [size_push']; exact Nat.lt_succ_of_lt lt)]
  exact Heap.get?_push_of_some _ e
end L2

set_option Elab.async false
set_option linter.all false
set_option maxRecDepth 100000
set_option maxHeartbeats 1000000
/-! for .. in d.items(), where d may be walked already; products of forms: the mathematics -/
namespace L2
open PySem PySem.Spec PyProof.Rows
def tLockO (t : TS) : TS := fun D σ H => tLock t D σ H ∨ t D σ H
theorem ps_lockO {X : Cx} {st : Stmt} {t : TS} (h : PS X st t) : PS X st (tLockO t) :=
  ⟨fun pins s σ H D I hw => hw.elim (fun q => (ps_lock h).run pins s σ H D I q) fun q => h.run pins s σ H D I q⟩
/-- Hl is H, d's dict locked -/
structure Lk (P : Program) (w : World) (d : Addr) (l : NAV) (od : Obj) (H Hl : Hp) : Prop where
  at_ : Hl d = some (.frz od (DfO P w d l))
  off : ∀ b, b ≠ d → Hl b = H b
theorem for_itemsO {P : Program} {w : World} {K : PySem.W.Frag} {H : Hp} {d : Addr} {l : NAV} {fm : Fm} {td : TE} {g : TG} {tb : TS} {D : Ends} {σ : St} (hd : Rd H d (DfO P w d l)) (hf : FmKv K H l fm)
    (hte : ∀ (od : Obj) (Hl : Hp), Lk P w d l od H Hl → ∀ R : VK, R (.ref d) Hl → td σ Hl R) (Pv : Obj → Hp → Nat → St → Hp → Prop) (h0 : ∀ od Hl, Lk P w d l od H Hl → Pv od Hl 0 σ Hl)
    (hl : ∀ od Hl, Lk P w d l od H Hl → ∀ i σ' H', Pv od Hl i σ' H' → H' d = some (.frz od (DfO P w d l)) ∧ Mv K Hl H')
    (hs : ∀ (od : Obj) (Hl : Hp), Lk P w d l od H Hl → ∀ (i : Nat) (m : Mon) (q : Rat) (σ' : St) (H' : Hp) (T b a : Addr) (rt : VK) (bk : St → Hp → Prop), fm[i]? = some (m, q) → Pv od Hl i σ' H' → H' T = none → TupN H' b ((kS m).map kV) → SqT K H' a (frac q) →
      g (.ref T) σ' (upd H' T (.tup [.ref b, .ref a])) fun σ2 H2 => tb { nx := Pv od Hl (i + 1), rt := rt, bk := bk, ct := Pv od Hl (i + 1) } σ2 H2)
    (he : ∀ od Hl, Lk P w d l od H Hl → ∀ σ' H' Hu, Pv od Hl fm.length σ' H' → Hu d = H d → (∀ b, b ≠ d → Hu b = H' b) → D.nx σ' Hu) : tLockO (tFor (iItemsN P w td) g tb) D σ H := by
  have core : ∀ (od : Obj) (Hl : Hp) (L : Lk P w d l od H Hl) (D' : Ends), FmKv K Hl l fm → (∀ σ' H', Pv od Hl fm.length σ' H' → D'.nx σ' H') → tFor (iItemsN P w td) g tb D' σ Hl := by
    intro od Hl L D' hf0 hnx
    refine hte od Hl L _ ⟨d, od, l, rfl, L.at_, for_it walk_itemsN (Pv od Hl) (h0 od Hl L) (fun i σ' H' _ p => (hl od Hl L i σ' H' p).1) ?_ ?_⟩
    · rintro i x σ' H' H'' hi p ⟨T, k, qb, av, hkv, rfl, nT, rfl⟩
      obtain ⟨m, q, b, a, hm, e, tb, sa⟩ := hf0.get hkv
      obtain ⟨rfl, e2⟩ := Prod.mk.inj e
      obtain ⟨rfl, rfl⟩ := Prod.mk.inj e2
      have M := (hl od Hl L i σ' H' p).2
      exact hs od Hl L i m q σ' H' T qb av _ _ hm p nT (M.tn _ _ tb) (M.sq _ _ sa)
    · intro σ' H' p
      rw [hf.length] at p
      exact hnx σ' H' p
  rcases hd with hd | ⟨o, hd⟩
  · refine .inl ⟨d, DfO P w d l, hd, trivial, fun od => ?_⟩
    have L : Lk P w d l od H (upd H d (.frz od (DfO P w d l))) := ⟨upd_same, fun b n => upd_ne n⟩
    refine core od _ L _ (hf.imp (.agree hd noTup_df L.off)) fun σ' H' p => ⟨(hl od _ L _ σ' H' p).1, ?_⟩
    exact he od _ L σ' H' _ p (by rw [upd_same, hd]) fun b n => upd_ne n
  · have L : Lk P w d l o H H := ⟨hd, fun _ _ => rfl⟩
    refine .inr (core o H L D hf fun σ' H' p => he o H L σ' H' H' p ?_ fun _ _ => rfl)
    rw [(hl o H L _ σ' H' p).1, hd]
/-- a product of two terms, its letters sorted -/
def MulT (z : Mon × Rat) (xy : (Mon × Rat) × (Mon × Rat)) : Prop := z.1.Perm (xy.1.1 ++ xy.2.1) ∧ sortedS z.1 = true ∧ z.2 = xy.1.2 * xy.2.2
def allP (a b : Fm) : List ((Mon × Rat) × (Mon × Rat)) := a.flatMap fun x => b.map fun y => (x, y)
theorem allP_snoc (a b : Fm) (x : Mon × Rat) : allP (a ++ [x]) b = allP a b ++ b.map fun y => (x, y) := by
  unfold allP
  rw [List.flatMap_append]
  simp
theorem allP_length (a b : Fm) : (allP a b).length = a.length * b.length := by
  unfold allP
  induction a with
  | nil => simp
  | cons x a ih => rw [List.flatMap_cons, List.length_append, List.length_map, ih, List.length_cons, Nat.add_mul]; omega
theorem evM_perm (σ : Str → Int) {m n : Mon} (h : m.Perm n) : evM σ m = evM σ n := prodI_perm (h.map σ)
theorem evM_append (σ : Str → Int) (m n : Mon) : evM σ (m ++ n) = evM σ m * evM σ n := by
  unfold evM
  rw [List.map_append, prodI_append]
theorem ev_mulT (σ : Str → Int) {l : Fm} {ps : List ((Mon × Rat) × (Mon × Rat))} (h : Paired MulT l ps) : ev σ l = (ps.map fun p => p.1.2 * p.2.2 * (evM σ p.1.1 : Rat) * (evM σ p.2.1 : Rat)).sum := by
  induction h with
  | nil => rfl
  | @cons z p l ps r t ih =>
    show z.2 * (evM σ z.1 : Rat) + ev σ l = _
    rw [List.map_cons, List.sum_cons, ih, evM_perm σ r.1, evM_append, r.2.2, Rat.intCast_mul]
    grind
theorem sum_row (σ : Str → Int) (x : Mon × Rat) : ∀ b : Fm, ((b.map fun y => (x, y)).map fun p => p.1.2 * p.2.2 * (evM σ p.1.1 : Rat) * (evM σ p.2.1 : Rat)).sum = x.2 * (evM σ x.1 : Rat) * ev σ b
  | [] => by show (0 : Rat) = _ * 0; grind
  | y :: b => by
    have ih := sum_row σ x b
    rw [List.map_cons, List.map_cons, List.sum_cons, ih]
    show _ = x.2 * _ * (y.2 * _ + ev σ b)
    grind
theorem sum_all (σ : Str → Int) (b : Fm) : ∀ a : Fm, ((allP a b).map fun p => p.1.2 * p.2.2 * (evM σ p.1.1 : Rat) * (evM σ p.2.1 : Rat)).sum = ev σ a * ev σ b
  | [] => by show (0 : Rat) = 0 * _; grind
  | x :: a => by
    have ih := sum_all σ b a
    unfold allP at ih ⊢
    rw [List.flatMap_cons, List.map_append, List.sum_append, ih, sum_row]
    show _ = (x.2 * _ + ev σ a) * _
    grind
theorem ev_prod (σ : Str → Int) {l a b : Fm} (h : Paired MulT l (allP a b)) : ev σ l = ev σ a * ev σ b := by
  rw [ev_mulT σ h, sum_all]
end L2

set_option Elab.async false
set_option linter.all false
set_option maxRecDepth 100000
set_option maxHeartbeats 1000000
/-! a * b -/
namespace E2
open PySem PySem.Spec PyProof.Rows L2
open C8 (Cal Mak Met InsC pe_c pe_mt pe_mt0 call_isC clsBody)
structure Bt3 (mg : Str → Option Value) : Prop where
  tup_ : mg "tuple" = none
  srt_ : mg "sorted" = none
structure SzM (fm1 fm2 : Fm) : Prop where
  n1 : (fm1.map (·.1)).Nodup
  n2 : (fm2.map (·.1)).Nodup
  len : fm1.length * fm2.length < sizeLine
  keys : ∀ x ∈ fm1, ∀ y ∈ fm2, x.1.length + y.1.length ≤ sizeLine
  bq : ∃ D M E N, 0 < D ∧ 0 < E ∧ D * E < 2 ^ 4000 ∧ fm1.length * fm2.length * (M * N) < 2 ^ 400000 ∧ M * N < 2 ^ 400000 ∧ M < 2 ^ 400000 ∧ N < 2 ^ 400000 ∧ (∀ x ∈ fm1, Bq D M x.2) ∧ ∀ x ∈ fm2, Bq E N x.2
def spMul (P : Program) (w : World) (K : PySem.W.Frag) (C : Addr) : Sp := fun vs H Q _ => ∃ a v fm1 fm2, vs = [.ref a, v] ∧ FmAt P w K C H a fm1 ∧ RightV P w K C H v fm2 ∧ SzM fm1 fm2 ∧ ∀ H' b l, Same H H' → H b = none → Paired MulT l (allP fm1 fm2) → FmAt P w K C H' b (mapM nz id (addTo [] l)) → Q (.ref b) H'
theorem sort_cat {K : PySem.W.Frag} {i j : Nat} {a b : Addr} {m n : List Str} {σ : L2.St} {H : Hp} {Q : VK} (h4 : σ[i]? = some (some (.ref a))) (h6 : σ[j]? = some (some (.ref b))) (sa : SqT K H a (m.map V.str)) (sb : SqT K H b (n.map V.str)) (hz : m.length + n.length ≤ sizeLine)
    (k : ∀ H' p (ys : List Str), Same H H' → ys.Perm (m ++ n) → sortedS ys = true → TupN H' p (ys.map V.str) → Q (.ref p) H') : tCB (rTupN K) (tCons (tCB (rSortedTS K) (tCons (tOp (rCatA K) (tVar i) (tVar j)) tNil)) tNil) σ H Q := by
  have fin : ∀ H1 c, Same H H1 → SqT K H1 c ((m ++ n).map V.str) → rSortedTS K [.ref c] H1 (fun x H2 => rTupN K [x] H2 Q) := fun H1 c S s =>
    ⟨c, m ++ n, rfl, s, by rw [List.length_append]; exact hz, fun ys p1 p2 p H2 S2 np hp => ⟨p, _, rfl, SqL.of hp, fun q H3 S3 nq tq => k H3 q ys ((S.trans S2).trans S3) p1 p2 tq⟩⟩
  refine ⟨_, h4, _, h6, a, b, _, _, rfl, rfl, sa, sb, by rw [List.length_map, List.length_map]; exact hz, fun e => ?_, fun e1 e2 => ?_, fun e1 e2 p np => ?_⟩
  · have e' : m = [] := List.map_eq_nil_iff.mp e
    exact fin H b (Same.refl H) (by rw [e']; exact sb)
  · have e' : n = [] := List.map_eq_nil_iff.mp e2
    exact fin H a (Same.refl H) (by rw [e', List.append_nil]; exact sa)
  · exact fin _ p (Same.upd np) (by rw [List.map_append]; exact SqT.of upd_same)
theorem bq_mulT {D M E N : Nat} {l : Fm} {ps : List ((Mon × Rat) × (Mon × Rat))} (h : Paired MulT l ps) (hp : ∀ p ∈ ps, Bq D M p.1.2 ∧ Bq E N p.2.2) : ∀ z ∈ l, Bq (D * E) (M * N) z.2 := by
  induction h with
  | nil => intro z hz; exact absurd hz List.not_mem_nil
  | @cons z p l ps r t ih =>
    intro y hy
    rcases List.mem_cons.mp hy with rfl | hy
    · rw [r.2.2]
      exact (hp p (List.mem_cons.mpr (.inl rfl))).1.mul (hp p (List.mem_cons.mpr (.inl rfl))).2
    · exact ih (fun p h => hp p (List.mem_cons.mpr (.inr h))) y hy
theorem mem_allP {a b : Fm} {p : (Mon × Rat) × (Mon × Rat)} (h : p ∈ allP a b) : p.1 ∈ a ∧ p.2 ∈ b := by
  unfold allP at h
  obtain ⟨x, hx, h⟩ := List.mem_flatMap.mp h
  obtain ⟨y, hy, rfl⟩ := List.mem_map.mp h
  exact ⟨hx, hy⟩
theorem seq_lockO {wi : TI} {g : TG} {tb u : TS} {D : Ends} {σ : L2.St} {H : Hp} (h : tLockO (tFor wi g tb) { D with nx := u D } σ H) : tSeq (tLockO (tFor wi g tb)) u D σ H := h
section
variable {P : Program} {w : World} {K : PySem.W.Frag} {mg : Str → Option Value} {base : Heap} {C : Addr}
theorem scMul : FnScope ["self", "other", "right", "parts", "mine", "worth", "its", "factor", "names", "grown"] ["self", "other"] (defScope sMul) := ⟨rfl, rfl, rfl, by decide +kernel, rfl, by decide +kernel, by decide +kernel⟩
theorem ok_mul {f : Addr} {fd : FuncData} (F : Fun K "__mul__" "Form.__mul__" sMul f fd) (T : Fx P w K mg base C) (B : Bt3 mg) (R : Cal P w K mg base 4 "right_side" (spRight P w K C) []) (Fs : Cal P w K mg base 2 "fraction_sum" (spFrac K (· + ·)) []) (Fp : Cal P w K mg base 2 "fraction_product" (spFrac K (· * ·)) []) (Wo : Cal P w K mg base 1 "without_noughts" (spWithout P w K) []) : FnOk P w K mg base CX0 5 f fd ["self", "other"] (spMul P w K C) := by
  refine F.ok scMul (fun vs H Q E h => ?_) (fun cdv A outer s H vs Q E hr h => ?_)
  · obtain ⟨a, v, fm1, fm2, rfl, _⟩ := h
    rfl
  · obtain ⟨a, v0, fm1, fm2, rfl, ⟨dx, d, kvs, ha, hd, hf⟩, hv, Z, k⟩ := h
    have u1 := Nat.lt_of_le_of_lt (Nat.add_le_add_left (by decide : 1 ≤ 64) _) hr.units
    refine ⟨_, pss_cons (ps_set (i := 2) scMul.nd rfl (Or.inl rfl) (pe_c R hr (by decide) rfl (pa_cons (pv 1) pa_nil)))
      (pss_cons (ps_set (i := 3) scMul.nd rfl (Or.inl rfl) pe_newD)
      (pss_cons (ps_lockO (ps_for PassesOwn.never rfl (pi_itemsN (pe_fld (pv 0) rfl)) (pg_tup rfl (pgs_cons (pg_name (i := 4) scMul.nd rfl (Or.inl rfl)) (pgs_cons (pg_name (i := 5) scMul.nd rfl (Or.inl rfl)) pgs_nil)))
        (pss_one (ps_lockO (ps_for PassesOwn.never rfl (pi_itemsN (pe_fld (pv 2) rfl)) (pg_tup rfl (pgs_cons (pg_name (i := 6) scMul.nd rfl (Or.inl rfl)) (pgs_cons (pg_name (i := 7) scMul.nd rfl (Or.inl rfl)) pgs_nil)))
          (pss_cons (ps_set (i := 8) scMul.nd rfl (Or.inl rfl) (pe_callTy cr_tupN (by rfl) B.tup_ (by decide +kernel) (pa_cons (pe_callB cr_sortedTS (by rfl) B.srt_ (by decide +kernel) (pa_cons (pe_op op_catA (pv 4) (pv 6)) pa_nil)) pa_nil)))
          (pss_cons (ps_set (i := 9) scMul.nd rfl (Or.inl rfl) (pe_c Fp hr (by decide) rfl (pa_cons (pv 5) (pa_cons (pv 7) pa_nil))))
          (pss_one (ps_asg (pe_c Fs hr (by decide) rfl (pa_cons (pe_get2N u1 (pv 3) (pv 8) (pe_tupS (pa_cons pe_int (pa_cons pe_int pa_nil))) ⟨rfl, rfl, rfl, rfl⟩) (pa_cons (pv 9) pa_nil))) (pg_sub (pv 3) (pv 8) (set_df u1))))))))))) 
      (pss_one (ps_ret (pe_mkF T.maks hr (by decide) rfl (pe_c Wo hr (by decide) rfl (pa_cons (pv 3) pa_nil))))))), ?_⟩
    refine seq_asg (call_one rfl (right_of hv fun H0 b S0 hb => ?_))
    refine seq_asg (fun D nD => ?_)
    obtain ⟨dx2, d2, kvs2, hb1, hd2, hf2⟩ := hb
    have hd0 := S0 _ _ hd
    have neD : d ≠ D := by rintro rfl; rw [nD] at hd0; cases hd0
    have neD2 : d2 ≠ D := by rintro rfl; rw [nD] at hd2; cases hd2
    have nebD : b ≠ D := by rintro rfl; rw [nD] at hb1; cases hb1
    have nebd : b ≠ d := by rintro rfl; rw [hd0] at hb1; cases hb1
    have nebd2 : b ≠ d2 := by rintro rfl; rw [hd2] at hb1; cases hb1
    have nad : a ≠ d := ne_of ha hd (by intro z; cases z)
    have naD : a ≠ D := by rintro rfl; rw [S0 _ _ ha] at nD; cases nD
    generalize hHn : upd H0 D _ = Hn
    have SN : Same H0 Hn := by rw [← hHn]; exact Same.upd nD
    have hDn : Hn D = some (DfO P w D []) := by rw [← hHn]; exact upd_same
    have hoff : ∀ c, c ≠ D → Hn c = H0 c := fun c n => by rw [← hHn]; exact upd_ne n
    obtain ⟨Dn, M, En, N, p1', p2', bDE, b1', b2', b3, b4, hq1, hq2⟩ := Z.bq
    have hdn := SN _ _ hd0
    have lkD : ∀ {od Hl}, Lk P w d kvs od Hn Hl → Hl D = some (DfO P w D []) := fun {od Hl} L => by rw [L.off D (Ne.symm neD)]; exact hDn
    have lkS : ∀ {od Hl}, Lk P w d kvs od Hn Hl → Mv K Hn Hl := fun {od Hl} L => .agree hdn noTup_df L.off
    have rd2 : ∀ {od Hl}, Lk P w d kvs od Hn Hl → Rd Hl d2 (DfO P w d2 kvs2) := fun {od Hl} L => by
      by_cases e : d2 = d
      · subst e
        have e2 : DfO P w d2 kvs = DfO P w d2 kvs2 := Option.some.inj (hd0.symm.trans hd2)
        exact .inr ⟨od, by rw [← e2]; exact L.at_⟩
      · exact .inl (by rw [L.off d2 e]; exact SN _ _ hd2)
    refine seq_lockO (for_itemsO (l := kvs) (fm := fm1) (d := d) (.inl hdn) ((hf.same S0).same SN) (fun od Hl L R h => ⟨_, rfl, a, C, dx, _, _, rfl, by rw [L.off a nad]; exact SN _ _ (S0 _ _ ha), T.cl, T.na, rfl, h⟩)
      (fun od Hl i σ' H' => (∃ u4 u5 u6 u7 u8 u9, σ' = [some (.ref a), some v0, some (.ref b), some (.ref D), u4, u5, u6, u7, u8, u9]) ∧ SameB D Hl H' ∧ ∃ kvs' l, H' D = some (DfO P w D kvs') ∧ FmKv K H' kvs' (addTo [] l) ∧ Paired MulT l (allP (fm1.take i) fm2)) ?_ ?_ ?_ ?_)
    · intro od Hl L
      exact ⟨⟨none, none, none, none, none, none, rfl⟩, SameB.refl _ _, [], [], lkD L, .nil, .nil⟩
    · rintro od Hl L i σ' H' ⟨_, S, _⟩
      exact ⟨S _ _ neD L.at_, .sameB S (lkD L) noTup_df⟩
    · rintro od Hl L i m q σ' H' T1 k1 a1 rt bk hm ⟨⟨u4, u5, u6, u7, u8, u9, rfl⟩, S, kvs', l, hD', kv', pl⟩ nT hk1 sa1
      have hq := hq1 _ (List.mem_of_getElem? hm)
      have hmm := List.mem_of_getElem? hm
      refine ⟨T1, _, rfl, SqT.of upd_same, rfl, _, _, rfl, _, _, rfl, rfl, ?_⟩
      have S2 : Same H' (upd H' T1 (.tup [.ref k1, .ref a1])) := Same.upd nT
      have hD1 := S2 _ _ hD'
      have SB := S.to S2
      have kv1 := kv'.same S2
      have sa1 := sa1.same S2
      have hk1 := hk1.same S2
      generalize upd H' T1 (.tup [.ref k1, .ref a1]) = H1 at S2 hD1 SB kv1 sa1 hk1 ⊢
      have rd1 : Rd H1 d2 (DfO P w d2 kvs2) := by
        rcases rd2 L with h | ⟨o, h⟩
        · exact .inl (SB _ _ neD2 h)
        · exact .inr ⟨o, SB _ _ neD2 h⟩
      have hf21 : FmKv K H1 kvs2 fm2 := (hf2.same SN).imp ((lkS L).trans (.sameB SB (lkD L) noTup_df))
      have hb11 : H1 b = some (.ins C dx2 [("_parts", .ref d2)]) := SB _ _ nebD (by rw [L.off b nebd]; exact SN _ _ hb1)
      have lk2S : ∀ {od2 Hl2}, Lk P w d2 kvs2 od2 H1 Hl2 → Mv K H1 Hl2 := fun {od2 Hl2} L2 => by
        rcases rd1 with h | ⟨o, h⟩
        · exact .agree h noTup_df L2.off
        · exact .agree h noTup_fz L2.off
      have lk2D : ∀ {od2 Hl2}, Lk P w d2 kvs2 od2 H1 Hl2 → Hl2 D = some (DfO P w D kvs') := fun {od2 Hl2} L2 => by rw [L2.off D (Ne.symm neD2)]; exact hD1
      refine for_itemsO (l := kvs2) (fm := fm2) (d := d2) rd1 hf21 (fun od2 Hl2 L2 R h => ⟨_, rfl, b, C, dx2, _, _, rfl, by rw [L2.off b nebd2]; exact hb11, T.cl, T.na, rfl, h⟩)
        (fun od2 Hl2 j σ' H' => (∃ u6 u7 u8 u9, σ' = [some (.ref a), some v0, some (.ref b), some (.ref D), some (.ref k1), some (.ref a1), u6, u7, u8, u9]) ∧ SameB D Hl2 H' ∧ ∃ kvs' l, H' D = some (DfO P w D kvs') ∧ FmKv K H' kvs' (addTo [] l) ∧ Paired MulT l (allP (fm1.take i) fm2 ++ (fm2.take j).map fun y => ((m, q), y))) ?_ ?_ ?_ ?_
      · intro od2 Hl2 L2
        exact ⟨⟨u6, u7, u8, u9, rfl⟩, SameB.refl _ _, kvs', l, lk2D L2, kv1.imp (lk2S L2), by rw [List.take_zero, List.map_nil, List.append_nil]; exact pl⟩
      · rintro od2 Hl2 L2 j σ' H'' ⟨_, S'', _⟩
        exact ⟨S'' _ _ neD2 L2.at_, .sameB S'' (lk2D L2) noTup_df⟩
      · rintro od2 Hl2 L2 j m2 q2 σ' H'' T2 k2 a2 rt2 bk2 hm2 ⟨⟨u6, u7, u8, u9, rfl⟩, S'', kvs'', l'', hD'', kv'', pl''⟩ nT2 hk2 sa2
        have hm2m := List.mem_of_getElem? hm2
        have hqq := hq2 _ hm2m
        have T2S : Same H'' (upd H'' T2 (.tup [.ref k2, .ref a2])) := Same.upd nT2
        refine ⟨T2, _, rfl, SqT.of upd_same, rfl, _, _, rfl, _, _, rfl, rfl, ?_⟩
        have hD2 := T2S _ _ hD''
        have SB2 := S''.to T2S
        have kv2 := kv''.same T2S
        have sk1 : SqT K (upd H'' T2 (.tup [.ref k2, .ref a2])) k1 (m.map V.str) := SqT.same ((Mv.sameB S'' (lk2D L2) noTup_df).sq _ _ ((lk2S L2).sq _ _ (by rw [← kS_kV]; exact hk1.sq))) T2S
        have sk2 : SqT K (upd H'' T2 (.tup [.ref k2, .ref a2])) k2 (m2.map V.str) := by rw [← kS_kV]; exact (hk2.same T2S).sq
        have sv1 : SqT K (upd H'' T2 (.tup [.ref k2, .ref a2])) a1 (frac q) := SqT.same ((Mv.sameB S'' (lk2D L2) noTup_df).sq _ _ ((lk2S L2).sq _ _ sa1)) T2S
        have sv2 := sa2.same T2S
        generalize upd H'' T2 (.tup [.ref k2, .ref a2]) = G0 at hD2 SB2 kv2 sk1 sk2 sv1 sv2 ⊢
        refine seq_asg (sort_cat rfl rfl sk1 sk2 (Z.keys _ hmm _ hm2m) fun G1 p1 ys S1 pm so hp1 => ?_)
        have pE : 0 < Dn * En := Nat.mul_pos p1' p2'
        have d1 : Dn ≤ Dn * En := Nat.le_mul_of_pos_right _ p2'
        have d2' : En ≤ Dn * En := Nat.le_mul_of_pos_left _ p1'
        refine seq_asg ⟨_, rfl, _, rfl, a1, a2, q, q2, rfl, sv1.same S1, sv2.same S1, Nat.lt_of_le_of_lt (hq.num_le p1') b3, Nat.lt_of_le_of_lt (hqq.num_le p2') b4, Nat.lt_of_le_of_lt (Nat.le_trans (hq.den_le p1') d1) bDE, Nat.lt_of_le_of_lt (Nat.le_trans (hqq.den_le p2') d2') bDE, fun p4 G2 S2' n4 h4 => ?_⟩
        refine ⟨_, rfl, D, kvs'', rfl, .inl (S2' _ _ (S1 _ _ hD2)), _, rfl, (by show 2 ≤ sizeLine; decide), fun t G3 S3 n5 h5 => ?_⟩
        have SG := (S1.trans S2').trans S3
        have hk3 : TupN G3 p1 ((kS ys).map kV) := by rw [kS_kV]; exact (hp1.same S2').same S3
        have hD3 := SG _ _ hD2
        refine ⟨_, ⟨kvs'', p1, kS ys, .inl hD3, (kv2.same SG).keys, rfl, hk3.sq, rfl⟩, ?_⟩
        have lps : l''.length = i * fm2.length + j := by
          have h1 := Paired.length pl''
          have li : (fm1.take i).length = i := by rw [List.length_take]; have := (List.getElem?_eq_some_iff.mp hm).1; omega
          have lj : (fm2.take j).length = j := by rw [List.length_take]; have := (List.getElem?_eq_some_iff.mp hm2).1; omega
          rw [List.length_append, allP_length, List.length_map, li, lj] at h1
          exact h1
        have hlt : i * fm2.length + j < fm1.length * fm2.length := by
          have h1 := (List.getElem?_eq_some_iff.mp hm).1
          have h2 := (List.getElem?_eq_some_iff.mp hm2).1
          have h3 : (i + 1) * fm2.length ≤ fm1.length * fm2.length := Nat.mul_le_mul_right _ h1
          rw [Nat.add_mul] at h3
          omega
        have bl : ∀ z ∈ l'', Bq (Dn * En) (M * N) z.2 := bq_mulT pl'' fun p hp => by
          rcases List.mem_append.mp hp with hp | hp
          · exact ⟨hq1 _ (List.mem_of_mem_take (mem_allP hp).1), hq2 _ (mem_allP hp).2⟩
          · obtain ⟨y, hy, rfl⟩ := List.mem_map.mp hp
            exact ⟨hq, hq2 _ (List.mem_of_mem_take hy)⟩
        obtain ⟨p0, e0, sp, bq0⟩ := get_or (kv2.same SG) ys (SqT.of h5) (bq_addTo l'' [] 0 (fun y hy => absurd hy List.not_mem_nil) bl)
        rw [e0]
        have le0 : 0 + l''.length * (M * N) < 2 ^ 400000 := by
          rw [Nat.zero_add, lps]
          exact Nat.lt_of_le_of_lt (Nat.mul_le_mul_right _ (Nat.le_of_lt hlt)) b1'
        have bqm := hq.mul hqq
        refine ⟨_, rfl, p0, p4, _, q * q2, rfl, sp, (SqT.of h4).same S3, Nat.lt_of_le_of_lt (bq0.num_le pE) le0, Nat.lt_of_le_of_lt (bqm.num_le pE) b2', Nat.lt_of_le_of_lt (bq0.den_le pE) bDE, Nat.lt_of_le_of_lt (bqm.den_le pE) bDE, fun p6 G4 S4 n6 h6 => ?_⟩
        have hD4 := S4 _ _ hD3
        have ll := length_addTo l'' []
        refine ⟨_, rfl, _, rfl, D, p1, _, kvs'', kS ys, rfl, rfl, rfl, hD4, ((kv2.same SG).same S4).keys, (hk3.same S4).sq, (by rw [kv2.length]; rw [List.length_nil] at ll; have := Z.len; omega), ⟨_, _, _, _, rfl⟩, ((SB2.to SG).to S4).upd, _, l'' ++ [(ys, q * q2)], upd_same, ?_, ?_⟩
        · rw [addTo_snoc]
          exact (((kv2.same SG).same S4).put ys (hk3.same S4) (SqT.of h6)).imp (.off hD4 noTup_df)
        · rw [take_snoc hm2, List.map_append, ← List.append_assoc]
          exact Paired.snoc pl'' ⟨pm, so, rfl⟩
      · rintro od2 Hl2 L2 σ' H'' Hu ⟨⟨u6, u7, u8, u9, rfl⟩, S'', kvs'', l'', hD'', kv'', pl''⟩ e1 e2
        refine ⟨⟨_, _, _, _, _, _, rfl⟩, fun c o nc h => ?_, kvs'', l'', by rw [e2 D (Ne.symm neD2)]; exact hD'', kv''.imp (.agree (S'' _ _ neD2 L2.at_) noTup_fz e2), ?_⟩
        · by_cases cd : c = d2
          · subst cd
            rw [e1]
            exact SB _ _ nc h
          · rw [e2 c cd]
            exact S'' _ _ nc (by rw [L2.off c cd]; exact SB _ _ nc h)
        · rw [take_snoc hm, allP_snoc]
          rw [List.take_length] at pl''
          exact pl''
    · rintro od Hl L σ' H' Hu ⟨⟨u4, u5, u6, u7, u8, u9, rfl⟩, S, kvs', l, hD', kv', pl⟩ e1 e2
      rw [List.take_length] at pl
      have SH : Same H Hu := by
        intro c o e
        have e0 := S0 _ _ e
        have nc : c ≠ D := by rintro rfl; rw [nD] at e0; cases e0
        by_cases cd : c = d
        · subst cd
          rw [e1]
          exact SN _ _ e0
        · rw [e2 c cd]
          exact S _ _ nc (by rw [L.off c cd]; exact SN _ _ e0)
      have ll : (addTo [] l).length ≤ fm1.length * fm2.length := by
        have h1 := length_addTo l []
        have h2 := Paired.length pl
        rw [allP_length] at h2
        rw [List.length_nil] at h1
        omega
      show tRet (tMkF C (tCall (spWithout P w K) [] C8.E0 (tCons (tVar 3) tNil))) _ _ _
      refine ret_mkF ?_
      refine call_one rfl ⟨D, kvs', addTo [] l, rfl, by rw [e2 D (Ne.symm neD)]; exact hD', kv'.imp (.agree (S _ _ neD L.at_) noTup_fz e2), nodup_addTo _ _ List.nodup_nil, Nat.le_of_lt (Nat.lt_of_le_of_lt ll Z.len), fun H4 D4 kvs4 S4 nD4 hD4 kv4 b5 dx5 H5 S5 nb5 hb5 => ?_⟩
      exact k H5 b5 l ((SH.trans S4).trans S5) ((SH.trans S4).free nb5) pl ⟨dx5, D4, kvs4, hb5, S5 _ _ hD4, kv4.same S5⟩
end
end E2

set_option Elab.async false
set_option linter.all false
set_option maxRecDepth 100000
set_option maxHeartbeats 1000000
/-! a - b -/
namespace E2
open PySem PySem.Spec PyProof.Rows L2
open C8 (Cal Mak Met InsC pe_c pe_mt pe_mt0 call_isC clsBody)
/-- an operator's method of the class at C -/
structure OpM (P : Program) (w : World) (K : PySem.W.Frag) (mg : Str → Option Value) (base : Heap) (k : Nat) (C : Addr) (name : Str) (sp : Sp) : Prop where
  ex : ∃ (f : Addr) (fd : FuncData) (ps : List Str), OwnOp K C name f ∧ FnOk P w K mg base CX0 k f fd ps sp ∧ Binds K fd ps []
abbrev negM (fm : Fm) : Fm := mapM (fun _ => true) (fun q => -q) fm
def spSub (P : Program) (w : World) (K : PySem.W.Frag) (C : Addr) : Sp := fun vs H Q _ => ∃ a v fm1 fm2, vs = [.ref a, v] ∧ FmAt P w K C H a fm1 ∧ RightV P w K C H v fm2 ∧ Szs fm1 (negM fm2) ∧ (fm2.map (·.1)).Nodup ∧ fm2.length ≤ sizeLine ∧ ∀ H' b, Same H H' → H b = none → FmAt P w K C H' b (mapM nz id (addTo fm1 (negM fm2))) → Q (.ref b) H'
theorem un_one {r : V → Hp → VK → Prop} {t : TE} {σ : L2.St} {H : Hp} {Q : VK} (h : t σ H fun x H1 => r x H1 Q) : tUn r t σ H Q := h
section
variable {P : Program} {w : World} {K : PySem.W.Frag} {mg : Str → Option Value} {base : Heap} {C : Addr}
theorem scSub : FnScope ["self", "other"] ["self", "other"] (defScope sSub) := ⟨rfl, rfl, rfl, by decide +kernel, rfl, by decide +kernel, by decide +kernel⟩
theorem ok_sub {f : Addr} {fd : FuncData} (F : Fun K "__sub__" "Form.__sub__" sSub f fd) (R : Cal P w K mg base 4 "right_side" (spRight P w K C) []) (Oa : OpM P w K mg base 5 C "__add__" (spAdd P w K C)) (On : OpM P w K mg base 3 C "__neg__" (spNeg P w K C (fun q => -q))) : FnOk P w K mg base CX0 6 f fd ["self", "other"] (spSub P w K C) := by
  obtain ⟨fa, fda, pa, oa, Fa, ba⟩ := Oa.ex
  obtain ⟨fn, fdn, pn, on, Fn, bn⟩ := On.ex
  refine F.ok scSub (fun vs H Q E h => ?_) (fun cdv A outer s H vs Q E hr h => ?_)
  · obtain ⟨a, v, fm1, fm2, rfl, _⟩ := h
    rfl
  · obtain ⟨a, v, fm1, fm2, rfl, ha, hv, Z, n2, l2, k⟩ := h
    refine ⟨_, pss_one (ps_ret (pe_op (op_own (op := .Add) oa Fa hr ba) (pv 0) (pe_un (un_own on Fn (hr.mono (by decide)) bn) (pe_c R hr (by decide) rfl (pa_cons (pv 1) pa_nil))))), ?_⟩
    refine ⟨_, rfl, un_one (call_one rfl (right_of hv fun H0 b S0 hb => ?_))⟩
    obtain ⟨dxb, db, kvb, hb1, hb2, hb3⟩ := hb
    refine ⟨b, dxb, _, rfl, hb1, b, fm2, rfl, ⟨dxb, db, kvb, hb1, hb2, hb3⟩, n2, l2, fun H1 c S1 nc hc => ?_⟩
    have ha1 := (ha.same S0).same S1
    obtain ⟨dxa, da, kva, ha2, ha3, ha4⟩ := ha1
    obtain ⟨dxc, dc, kvc, hc2, hc3, hc4⟩ := hc
    exact ⟨a, c, dxa, _, dxc, _, rfl, rfl, ha2, hc2, a, _, fm1, negM fm2, rfl, ⟨dxa, da, kva, ha2, ha3, ha4⟩, .inr ⟨c, rfl, dxc, dc, kvc, hc2, hc3, hc4⟩, Z, fun H2 e S2 ne he => k H2 e ((S0.trans S1).trans S2) ((S0.trans S1).free ne) he⟩
end
end E2

set_option Elab.async false
set_option linter.all false
set_option maxRecDepth 100000
set_option maxHeartbeats 1000000
/-! the one sorted list of a list's texts; sums and products of forms as functions -/
namespace L2
open PySem PySem.Spec PyProof.Rows
theorem ltCps_eq : ∀ a b : List Nat, ltCps a b = decide (a < b)
  | [], [] => rfl
  | [], _ :: _ => by rw [decide_eq_true (List.nil_lt_cons _ _)]; rfl
  | _ :: _, [] => by rw [decide_eq_false (List.not_lt_nil _)]; rfl
  | x :: a, y :: b => by
    have ih := ltCps_eq a b
    unfold ltCps
    rw [ih]
    by_cases c : x < y
    · rw [decide_eq_true (List.cons_lt_cons_iff.mpr (.inl c))]
      simp [c]
    · by_cases d : x = y
      · subst d
        have : decide (x :: a < x :: b) = decide (a < b) := by
          by_cases e : a < b
          · rw [decide_eq_true e, decide_eq_true (List.cons_lt_cons_iff.mpr (.inr ⟨rfl, e⟩))]
          · rw [decide_eq_false e, decide_eq_false fun z => (List.cons_lt_cons_iff.mp z).elim (fun h => Nat.lt_irrefl _ h) fun h => e h.2]
        rw [this]
        simp
      · rw [decide_eq_false fun z => (List.cons_lt_cons_iff.mp z).elim c fun h => d h.1]
        simp [c, d]
/-- a ≤ b -/
def leT (a b : Str) : Bool := !ltCps b.cps.toList a.cps.toList
theorem leT_iff {a b : Str} : leT a b = true ↔ a.cps.toList ≤ b.cps.toList := by
  unfold leT
  rw [ltCps_eq]
  simp [List.not_lt]
theorem leT_trans {a b c : Str} (h : leT a b = true) (k : leT b c = true) : leT a c = true := leT_iff.mpr (List.le_trans (leT_iff.mp h) (leT_iff.mp k))
theorem leT_total (a b : Str) : leT a b = true ∨ leT b a = true := by
  rw [leT_iff, leT_iff]
  exact List.le_total _ _
theorem str_ext {a b : Str} (h : a.cps.toList = b.cps.toList) : a = b := by
  cases a
  cases b
  congr 1
  exact Array.toList_inj.mp h
theorem leT_anti {a b : Str} (h : leT a b = true) (k : leT b a = true) : a = b := str_ext (List.le_antisymm (leT_iff.mp h) (leT_iff.mp k))
theorem rising_pw : ∀ (r : List Str) (x : Str), risingS x r = true → List.Pairwise (fun a b => leT a b = true) (x :: r)
  | [], x, _ => List.pairwise_cons.mpr ⟨fun _ h => absurd h List.not_mem_nil, .nil⟩
  | y :: r, x, h => by
    rw [risingS.eq_2, Bool.and_eq_true] at h
    have ih := rising_pw r y h.2
    refine List.pairwise_cons.mpr ⟨fun z hz => ?_, ih⟩
    rcases List.mem_cons.mp hz with rfl | hz
    · exact h.1
    · exact leT_trans h.1 ((List.pairwise_cons.mp ih).1 z hz)
theorem sorted_pw {l : List Str} (h : sortedS l = true) : List.Pairwise (fun a b => leT a b = true) l := by
  cases l with
  | nil => exact .nil
  | cons x r => exact rising_pw r x h
def insT (x : Str) : List Str → List Str
  | [] => [x]
  | y :: r => if leT x y then x :: y :: r else y :: insT x r
def sortT (l : List Str) : List Str := l.foldr insT []
theorem insT_perm (x : Str) : ∀ l, (insT x l).Perm (x :: l)
  | [] => List.Perm.refl _
  | y :: r => by
    unfold insT
    split
    · exact List.Perm.refl _
    · exact ((insT_perm x r).cons y).trans (List.Perm.swap x y r)
theorem sortT_perm : ∀ l, (sortT l).Perm l
  | [] => List.Perm.refl _
  | x :: r => (insT_perm x _).trans ((sortT_perm r).cons x)
theorem insT_pw (x : Str) : ∀ l, List.Pairwise (fun a b => leT a b = true) l → List.Pairwise (fun a b => leT a b = true) (insT x l)
  | [], _ => List.pairwise_cons.mpr ⟨fun _ h => absurd h List.not_mem_nil, .nil⟩
  | y :: r, h => by
    unfold insT
    split
    · rename_i c
      refine List.pairwise_cons.mpr ⟨fun z hz => ?_, h⟩
      rcases List.mem_cons.mp hz with rfl | hz
      · exact c
      · exact leT_trans c ((List.pairwise_cons.mp h).1 z hz)
    · rename_i c
      refine List.pairwise_cons.mpr ⟨fun z hz => ?_, insT_pw x r (List.pairwise_cons.mp h).2⟩
      rcases List.mem_cons.mp ((insT_perm x r).mem_iff.mp hz) with rfl | hz
      · exact (leT_total _ _).resolve_left c
      · exact (List.pairwise_cons.mp h).1 z hz
theorem sortT_pw : ∀ l, List.Pairwise (fun a b => leT a b = true) (sortT l)
  | [] => .nil
  | x :: r => insT_pw x _ (sortT_pw r)
/-- sorted lists of the same texts are the same -/
theorem sortT_one {l ys : List Str} (p : ys.Perm l) (s : sortedS ys = true) : ys = sortT l :=
  List.Perm.eq_of_pairwise (le := fun a b => leT a b = true) (fun _ _ _ _ => leT_anti) (sorted_pw s) (sortT_pw l) (p.trans (sortT_perm l).symm)
def mulT (xy : (Mon × Rat) × (Mon × Rat)) : Mon × Rat := (sortT (xy.1.1 ++ xy.2.1), xy.1.2 * xy.2.2)
theorem MulT.eq {z : Mon × Rat} {xy : (Mon × Rat) × (Mon × Rat)} (h : MulT z xy) : z = mulT xy := Prod.ext (sortT_one h.1 h.2.1) h.2.2
theorem mulT_list {l : Fm} {ps : List ((Mon × Rat) × (Mon × Rat))} (h : Paired MulT l ps) : l = ps.map mulT := by
  induction h with
  | nil => rfl
  | cons r t ih => rw [List.map_cons, ← ih, r.eq]
/-- a + b, a * b -/
def addF (a b : Fm) : Fm := mapM (fun q => !decide (q = 0)) id (addTo a b)
def mulF (a b : Fm) : Fm := mapM (fun q => !decide (q = 0)) id (addTo [] ((allP a b).map mulT))
end L2

set_option Elab.async false
set_option linter.all false
set_option maxRecDepth 100000
set_option maxHeartbeats 1000000
/-! factor_of -/
namespace E2
open PySem PySem.Spec PyProof.Rows L2
open C8 (Cal Mak Met InsC pe_c pe_mt pe_mt0 call_isC clsBody)
def zeroD (s : Str) : Str := ("0" : Str) ++ cutS s none (some (s.length : Int))
def numV (s : Str) : Int := (intText? (zeroD s)).getD 0
def NumOk (s : Str) : Prop := s.length < 64 ∧ (intText? (zeroD s)).isSome = true ∧ (zeroD s).length ≤ 640 ∧ (cutS s none (some (s.length : Int))).length ≤ 640
instance (s : Str) : Decidable (NumOk s) := by unfold NumOk; infer_instance
instance (s : Str) : Decidable (LetOk s) := by unfold LetOk; infer_instance
def facF (s : Str) : Fm := if digS (fst1 s) then numM (numV s) else [([s], 1)]
def FacOk (s : Str) : Prop := 0 < s.length ∧ s.length ≤ 100000 ∧ if digS (fst1 s) = true then NumOk s else LetOk s
instance (s : Str) : Decidable (FacOk s) := by unfold FacOk; infer_instance
def spFactor (P : Program) (w : World) (K : PySem.W.Frag) (C : Addr) : Sp := fun vs H Q _ => ∃ s : Str, vs = [.str s] ∧ FacOk s ∧ ∀ H' b, Same H H' → H b = none → FmAt P w K C H' b (facF s) → Q (.ref b) H'
theorem num_call {s : Str} {H : Hp} {Q : VK} {E : XK} (h : NumOk s) (k : Q (.int (numV s)) H) : spNumOf [.str s] H Q E := by
  obtain ⟨h1, h2, h3, h4⟩ := h
  obtain ⟨n, hn⟩ := Option.isSome_iff_exists.mp h2
  refine ⟨s, n, rfl, h1, hn, h3, h4, ?_⟩
  unfold numV at k
  rw [hn] at k
  exact k
section
variable {P : Program} {w : World} {K : PySem.W.Frag} {mg : Str → Option Value} {base : Heap} {C : Addr}
theorem scFactor : FnScope ["word"] ["word"] (defScope sFactorOf) := ⟨rfl, rfl, rfl, by decide +kernel, rfl, by decide +kernel, by decide +kernel⟩
theorem ok_factor {f : Addr} {fd : FuncData} (F : Fun K "factor_of" "factor_of" sFactorOf f fd) (Dg : Cal P w K mg base 1 "is_digit" (spIs digS) []) (No : Cal P w K mg base 1 "number_of" spNumOf []) (Nu : Cal P w K mg base 3 "number" (spNumber P w K C) []) (Le : Cal P w K mg base 3 "letter" (spLetter P w K C) []) : FnOk P w K mg base CX0 4 f fd ["word"] (spFactor P w K C) := by
  refine F.ok scFactor (fun vs H Q E h => ?_) (fun cdv A outer s H vs Q E hr h => ?_)
  · obtain ⟨t, rfl, _⟩ := h
    rfl
  · obtain ⟨t, rfl, ⟨h0, hz, hc⟩, k⟩ := h
    refine ⟨_, pss_one (ps_ret (pe_ifExp (pt_val (pe_c Dg hr (by decide) rfl (pa_cons (pe_ix ix_str (pv 0) pe_int (fun _ _ => rfl)) pa_nil))) (pe_c Nu hr (by decide) rfl (pa_cons (pe_c No hr (by decide) rfl (pa_cons (pv 0) pa_nil)) pa_nil)) (pe_c Le hr (by decide) rfl (pa_cons (pv 0) pa_nil)))), ?_⟩
    have hz2 : t.length ≤ sizeLine := by rw [sizeLine_eq]; omega
    refine ⟨_, rfl, t, _, _, rfl, rfl, hz2, atI_nat (j := 0) (fst_at h0), _, rfl, _, rfl, ?_⟩
    unfold facF at k
    by_cases q : digS (fst1 t) = true
    · rw [if_pos q] at hc
      simp only [q, if_true] at k
      refine ifT q ⟨_, rfl, ?_⟩
      show spNumOf [V.str t] H (fun x H1 => spNumber P w K C [x] H1 Q C8.E0) C8.E0
      exact num_call (s := t) hc ⟨_, rfl, k⟩
    · rw [if_neg q] at hc
      simp only [q, if_false] at k
      exact ifF (Bool.eq_false_iff.mpr q) ⟨_, rfl, t, rfl, hc, k⟩
end
end E2

set_option Elab.async false
set_option linter.all false
set_option maxRecDepth 100000
set_option maxHeartbeats 1000000
/-! lambda x: (len(x), x), called with a tuple of texts -/
namespace L2
open PySem PySem.Spec PySem.Calls PyProof.Rows PySem.W
abbrev lmPar (p : Pos) : Arguments := { posonlyargs := [], args := [{ arg := "names", annotation := none, pos := p }], vararg := none, kwonlyargs := [], kw_defaults := [], kwarg := none, defaults := [] }
abbrev lmBody (p1 p2 p3 p4 p5 : Pos) : Expr := .Tuple [.Call (.Name "len" p1) [.Name "names" p2] [] p3, .Name "names" p4] 0 p5
abbrev lmScope : Scope := { kind := .function, names := [("names", .local), ("len", .globalImplicit)], isGenerator := false, isCoroutine := false, more := [] }
/-- its key -/
def kM (m : Mon) : PyData := .tuple [.int (m.length : Int), .tuple (m.map PyData.str)]
theorem readsAll_strs {h : Heap} : ∀ {vs : List Value} {xs : List Str}, StrsAre vs xs → ReadsAll h vs (xs.map PyData.str) []
  | _, _, .nil => .nil
  | _, _, .cons x t r => .cons (as := []) (.str x t) (readsAll_strs r)
section
variable {prog : Program} {w : World} {A : Around} {s : Shared}
theorem lam_key {p p1 p2 p3 p4 p5 : Pos} {f c' t : Addr} {qual : Str} {pm ctv : Value} {mg mb : Str → Option Value} {its : List Value} {m : Mon}
    (hroom : A.depth < recursionLimit) (hf : s.heap.get? f = some (kla_obj "<lambda>" qual (lmPar p) (lmBody p1 p2 p3 p4 p5) lmScope [] pm c' ctv)) (hcd : s.heap.CodeRec (.ref c') qual) (hnl : s.heap.NoLimit)
    (hg : s.heap.Ns mainGlobals mg) (hlen : mg "len" = none) (hb : s.heap.Ns builtinsNs mb) (hmb : mb "len" = some (.builtin "len")) (ht : s.heap.IsTuple t its.toArray) (hs : StrsAre its m) (small : m.length ≤ sizeLine) :
    wpAny (model prog w) A (call (.ref f) [.ref t]) (KeyPure (kM m) s) (fun _ _ => False) s := by
  refine wpAny_call (kla_callFunE hroom hf rfl rfl rfl rfl hcd ?_)
  rw [show bindArgs (kla_fn "<lambda>" qual (lmPar p) (lmBody p1 p2 p3 p4 p5) lmScope [] pm (.ref c') ctv) ⟨[Value.ref t], []⟩ = pure [(("names" : Str), Value.ref t)] from rfl]
  refine wpAny_pure (wpAny_newFunctionEnv (fun y hy => ?_) (fun y hy => ?_) (fun h₁ hns hsb => ⟨hnl.fresh _ hsb, ?_⟩) rfl)
  · intro z
    simp only [List.mem_cons, List.not_mem_nil, or_false] at hy
    rcases hy with rfl | rfl <;> cases z
  · rw [List.mem_singleton.mp hy]
    rfl
  have kp : ∀ b o, s.heap.get? b = some o → h₁.get? b = some o := fun b o e => (hsb.2 b (Nat.ne_of_lt (Heap.lt_size e))).trans (Heap.get?_push_of_some _ e)
  refine kla_codeExpr ?_
  generalize henv : newEnv (kla_fn "<lambda>" qual (lmPar p) (lmBody p1 p2 p3 p4 p5) lmScope [] pm (.ref c') ctv).scope s.heap.objs.size _ _ _ _ _ _ _ = env
  have name : ∀ {A' : Around} {pos : Pos} {s1 : Shared} {Q : Value → Shared → Prop} {E : Value → Shared → Prop}, s1.heap = h₁ → Q (.ref t) s1 → wpAny (model prog w) A' (eval (.Name "names" pos) env) Q E s1 := fun e q =>
    wpAny_Name (wpAny_loadName_local (by rw [← henv]; rfl) (by rw [← henv]; rfl) (by rw [e, ← henv]; exact hns) (by rfl) q) (by decide)
  have sl : m.length < 2 ^ 63 := Nat.lt_of_le_of_lt small (by rw [sizeLine_eq]; decide)
  have ln := hs.len_eq
  refine wpAny_Tuple_spliced ?_
  show wpAny _ _ (spliced [(false, eval (.Call (.Name "len" p1) [.Name "names" p2] [] p3) env), (false, eval (.Name "names" p4) env)]) _ _ _
  refine spliced_cons (wpAny_Call_Name_kw (Name_function_global (by rw [← henv]; rfl) (by rw [← henv]; rfl) (loadGlobal_builtin (mg := mg) (mb := mb) (by rw [← henv]; exact hg.keeps kp) hlen (by rw [← henv]; exact hb.keeps kp) hmb ?_)))
  refine callWith_builtin1 (name rfl ?_)
  refine len_tuple (items := its.toArray) (let ⟨o, ho, r⟩ := ht; ⟨o, kp _ _ ho, r⟩) (by simp only [List.size_toArray]; omega) ?_
  refine spliced_cons (name rfl (spliced_nil ⟨by show 2 ≤ sizeLine; decide, ?_⟩))
  refine ⟨_, _, rfl, fun b o e => Heap.get?_push_of_some _ (kp b o e), ?_⟩
  refine Reads.tuple (as := []) (Heap.get?_push_size _ rfl) rfl rfl ?_
  obtain ⟨o, ho, hc, n, hd⟩ := ht
  have r1 : ∀ u : Obj, Reads (h₁.push u) (.ref t) (.tuple (m.map PyData.str)) [] := fun u => Reads.tuple (as := []) (Heap.get?_push_of_some _ (kp _ _ ho)) hc hd (by rw [List.toList_toArray]; exact readsAll_strs hs)
  have e : ((its.toArray.size : Nat) : Int) = (m.length : Int) := by rw [List.size_toArray, ln]
  rw [← e]
  exact .cons (as := []) (.int _ _) (.cons (as := []) (r1 _) .nil)
end
end L2

set_option Elab.async false
set_option linter.all false
set_option maxRecDepth 100000
set_option maxHeartbeats 1000000
/-! sorted(xs, key=lambda x: (len(x), x)), xs a list of tuples of texts -/
namespace L2
open PySem PySem.Spec PySem.Calls PyProof.Rows
open PySem.W (dataLe AllAlike Sortable EachIs)
open LamX (Tabs ExtN TabB CodeO)
/-- nothing that is followed stands there, but for a table of code objects -/
def NewT (H : Hp) (p : Addr) : Prop := ∀ o, H p = some o → ∃ ps, o = .tbl ps
/-- tuples of texts with their addresses, in the order of the keys -/
def sortA (ams : List (Addr × Mon)) : List (Addr × Mon) := ams.mergeSort (dataLe false fun x => kM x.2)
theorem alike_strs : ∀ xs ys : List Str, PySem.W.alikeAll (xs.map PyData.str) (ys.map PyData.str) = true
  | [], _ => by simp [PySem.W.alikeAll]
  | x :: xs, [] => by simp [PySem.W.alikeAll]
  | x :: xs, y :: ys => by simp [PySem.W.alikeAll, PySem.W.alike, alike_strs xs ys]
theorem alike_kM (m n : Mon) : PySem.W.alike (kM m) (kM n) = true := by simp [kM, PySem.W.alike, PySem.W.alikeAll, alike_strs]
theorem depthAll_strs : ∀ xs : List Str, PyData.depthAll (xs.map PyData.str) ≤ 4
  | [] => by simp [PyData.depthAll]
  | x :: xs => by
    have := depthAll_strs xs
    simp [PyData.depthAll, PyData.depth]
    try omega
theorem depth_kM (m : Mon) : PyData.depth (kM m) ≤ 16 := by
  have := depthAll_strs m
  simp [kM, PyData.depth, PyData.depthAll]
  try omega
def tSortL (T : List (Addr × Str)) (K : PySem.W.Frag) (te : TE) : TE := fun σ H Q => te σ H fun v H1 => ∃ (l : Addr) (ams : List (Addr × Mon)), v = .ref l ∧ SqL K H1 l (ams.map fun x => V.ref x.1) ∧ (∀ x ∈ ams, SqT K H1 x.1 (x.2.map V.str) ∧ x.2.length ≤ sizeLine) ∧ ams.length ≤ sizeLine ∧ Tabs T H1 ∧
  ∀ (H2 : Hp) (p : Addr), ExtN H1 H2 → Tabs T H2 → NewT H1 p → H2 p = some (.lst ((sortA ams).map fun x => V.ref x.1)) → Q (.ref p) H2
theorem SqL.extN {K : PySem.W.Frag} {H H' : Hp} {a : Addr} {xs : List V} (h : SqL K H a xs) (S : ExtN H H') : SqL K H' a xs := by
  rcases h with (h | ⟨o, h⟩) | h
  · exact .inl (.inl (S _ _ h fun _ z => nomatch z))
  · exact .inl (.inr ⟨o, S _ _ h fun _ z => nomatch z⟩)
  · exact .inr h
theorem SqT.extN {K : PySem.W.Frag} {H H' : Hp} {a : Addr} {xs : List V} (h : SqT K H a xs) (S : ExtN H H') : SqT K H' a xs := by
  rcases h with (h | ⟨o, h⟩) | h
  · exact .inl (.inl (S _ _ h fun _ z => nomatch z))
  · exact .inl (.inr ⟨o, S _ _ h fun _ z => nomatch z⟩)
  · exact .inr h
theorem each_of_vals {ams : List (Addr × Mon)} {its : List Value} (r : Vals (ams.map fun x => V.ref x.1) its) : EachIs (fun (v : Value) (x : Addr × Mon) => v = Value.ref x.1) its ams := by
  induction ams generalizing its with
  | nil => cases r; exact .nil
  | cons x xs ih =>
    cases r with
    | cons h t => exact .cons h (ih t)
theorem vals_of_each {ams : List (Addr × Mon)} {out : List Value} (e : EachIs (fun (v : Value) (x : Addr × Mon) => v = Value.ref x.1) out ams) : Vals (ams.map fun x => V.ref x.1) out := by
  induction e with
  | nil => exact .nil
  | cons h t ih => exact .cons h ih
section
variable {X : Cx} {e : Expr} {te : TE} {T : List (Addr × Str)} {c P : Addr} {p p1 p2 p3 p4 p5 p6 q kpos pos : Pos}
theorem pe_sortedL (hr : Room 0 X.A) (hg : Gl X "sorted") (hm : X.mg "sorted" = none) (hlen : X.mg "len" = none) (TB : TabB X.base X.mg c P) (hcode : X.env.code = .ref c) (hmT : (P, X.env.qual ++ "<lambda>") ∈ T) (hu : ∀ p ∈ T, p.1 = P → p.2 = X.env.qual ++ "<lambda>") (he : PE X e te)
    (hes : backTo pos (starEach [e] X.env) = (false, eval e X.env) :: backTo pos (starEach [] X.env) := by rfl) (hpl : (backTo pos (starEach [e] X.env)).any (·.1) = false := by rfl) :
    PE X (.Call (.Name "sorted" q) [e] [⟨some "key", .Lambda (lmPar p) (lmBody p1 p2 p3 p4 p5) lmScope p6, kpos⟩] pos) (tSortL T X.K te) := by
  refine ⟨fun pins s σ H Q I h => ?_⟩
  refine wpAny_Call_Name_kw (ld_blt (u := .builtin "sorted") I hg hm (by decide +kernel) ?_)
  refine callWith_kw ?_ hes hpl rfl rfl
  rw [hes]
  refine spliced_cons (thn (he.run pins s σ H _ I h) fun u s1 ⟨v, H1, I1, rv, l, ams, ev, hl, ht, hz, tb, q⟩ => spliced_nil ?_)
  subst ev
  obtain rfl : u = Value.ref l := rv
  show wpAny _ _ (evalAll [do let v ← eval (.Lambda (lmPar p) (lmBody p1 p2 p3 p4 p5) lmScope p6) X.env; standAt pos; pure v]) _ _ s1
  refine wpAny_evalAll_cons (wpAny_bind (LamX.lam_make2 I1 TB hcode hmT hu tb rfl (fun y hy z => ?_) fun f c' pm ctv H2 s2 I2 ex tb2 hf nf _ hc => wpAny_bind (wpAny_standAt (wpAny_pure (wpAny_evalAll_nil ?_)))))
  · simp only [List.mem_cons, List.not_mem_nil, or_false] at hy
    rcases hy with rfl | rfl <;> cases z
  show wpAny _ _ (call (.builtin "sorted") [.ref l] [(Str.ofString "key", .ref f)]) _ _ s2
  obtain ⟨its, rl, pl, hz2⟩ := I2.list (hl.extN ex)
  have lits := rl.length
  rw [List.length_map] at lits
  obtain ⟨⟨oc, vs, tq, hoc, hd, hv⟩, _, _⟩ := I2.hok c' _ hc
  obtain ⟨mb, hb1, hb2⟩ := I2.mod.blt
  refine PySem.W.sorted_key_data (b := false) (fun x : Addr × Mon => kM x.2) pl.isList (each_of_vals rl) (fun d hd d' hd' => ?_) (.inl fun d hd => ?_) hz (fun x _ => ?_) (PyProof.Rows.ksk_s1 _ _) (fun x => PyProof.Rows.ksk_l1 _ _) (fun x => PyProof.Rows.ksk_t1 _ _) (fun v x hR hx h tk kp => ?_) fun out cc h' tk kp n0 hp lo eo => ?_
  · obtain ⟨x, _, rfl⟩ := List.mem_map.mp hd
    obtain ⟨y, _, rfl⟩ := List.mem_map.mp hd'
    exact alike_kM _ _
  · obtain ⟨x, _, rfl⟩ := List.mem_map.mp hd
    exact ⟨_, _, rfl⟩
  · have := depth_kM x.2
    have := hr.un
    omega
  · subst hR
    obtain ⟨hx1, hx2⟩ := ht x hx
    have I3 : Inv X pins σ H2 { s2 with heap := h, toks := tk } := I2.kept kp
    obtain ⟨its2, rv2, tp, hz3⟩ := I3.tuple (hx1.extN ex)
    exact lam_key (s := { s2 with heap := h, toks := tk }) hr.depth (kp _ _ hf) ⟨c', oc, vs, tq, rfl, kp _ _ hoc, hd, hv⟩ I3.nolimit (I3.mod.glob.keeps I3.bk) hlen (hb1.keeps I3.bk) ((hb2 _ (by decide)).trans (by decide +kernel)) tp rv2.strs hx2
  · have lo2 : (sortA ams).length ≤ sizeLine := by unfold sortA; rw [List.length_mergeSort]; exact hz
    refine ⟨.ref (s2.heap.objs.size + 1), _, I2.laid (t' := tk) (o := .lst ((sortA ams).map fun x => V.ref x.1)) kp (Nat.le_succ _) ⟨by rw [List.length_map]; exact lo2, _, cc, vals_of_each eo, hp⟩, rfl, ?_⟩
    have np : H2 (s2.heap.objs.size + 1) = none := I2.hok.fresh (Nat.le_succ _)
    have up : ExtN H2 (upd H2 (s2.heap.objs.size + 1) (.lst ((sortA ams).map fun x => V.ref x.1))) := ExtN.of fun b o e => by rw [upd_ne (ne_of_none e np)]; exact e
    refine q _ _ (ex.trans up) (tb2.ext fun b o e => by rw [upd_ne (ne_of_none e np)]; exact e) ?_ upd_same
    intro o e1
    apply Classical.byContradiction
    intro no
    have z := ex _ _ e1 fun ps e2 => no ⟨ps, e2⟩
    rw [np] at z
    cases z
end
end L2

set_option Elab.async false
set_option linter.all false
set_option maxRecDepth 100000
set_option maxHeartbeats 2000000
/-! Two dicts whose keys are tuples: ==. -/
namespace L2
open PySem PySem.Spec PyProof.Rows
section
variable {prog : Program} {w : World} {K : Type} [DecidableEq K] {knd : HeapKind prog w K} {A : Around} {E : Value → Shared → Prop} {s : Shared}
/-- what the other dict has to show for an entry: f tells whether it does -/
def ShowsH (knd : HeapKind prog w K) (A : Around) (s : Shared) (xb : List (K × Addr × Value)) (f : K → Bool) (x : K × Addr × Value) : Prop :=
  (atKey xb x.1 = none ∧ f x.1 = false) ∨ ∃ p, atKey xb x.1 = some p ∧ SeqAt.EqP prog w A s x.2.2 p.2 (f x.1)
theorem take_all_succ {α : Type} {l : List α} {i : Nat} {x : α} {f : α → Bool} (h : l[i]? = some x) : (l.take (i + 1)).all f = ((l.take i).all f && f x) := by
  rw [take_snoc h, List.all_append]
  simp
theorem all_stop {α : Type} {l : List α} {i : Nat} {x : α} {f : α → Bool} (h : l[i]? = some x) (hf : f x = false) : l.all f = false := by
  rw [List.all_eq_false]
  exact ⟨x, List.mem_of_getElem? h, by rw [hf]; exact Bool.false_ne_true⟩
theorem samePairsH {nm : String} {a b : Addr} {xa xb : List (K × Addr × Value)} {f : K → Bool} {Q : Bool → Shared → Prop} (ha : (a == sysModules) = false) (hb : (b == sysModules) = false) (hu : knd.room A)
    (da : s.heap.DictOfH knd a xa) (db : s.heap.DictOfH knd b xb) (hits : ∀ x ∈ xa, ShowsH knd A s xb f x) (h : Q (xa.length == xb.length && xa.all fun x => f x.1) s) :
    wpAny (model prog w) A (Builtin.Dict.samePairs nm a b) Q E s := by
  obtain ⟨oa, es, ep, hoa, _, hda, hea, hia, hna⟩ := da
  obtain ⟨ob, es', ep', hob, _, hdb, heb, hib, hnb⟩ := db
  have hla := size_of_entries hea
  have hlb := size_of_entries heb
  unfold Builtin.Dict.samePairs Builtin.Dict.showsAll
  rw [if_neg (show ¬ (a == sysModules) = true by rw [ha]; exact Bool.false_ne_true), if_neg (show ¬ (b == sysModules) = true by rw [hb]; exact Bool.false_ne_true)]
  refine wpAny_bind (wpAny_pure (wpAny_bind (wpAny_pure (wpAny_bind (wpAny_dictEntries hoa hda ?_)))))
  dsimp only
  refine wpAny_bind (wpAny_dictEntries hob hdb ?_)
  by_cases hsz : es.size = es'.size
  case neg =>
    rw [if_pos (by simpa using hsz)]
    have hbf : (xa.length == xb.length) = false := by rw [← hla, ← hlb]; simpa using hsz
    rw [hbf, Bool.false_and] at h
    exact wpAny_bind (wpAny_rule (wpAny_pure h))
  case pos =>
    have hbt : (xa.length == xb.length) = true := by rw [← hla, ← hlb]; simpa using hsz
    rw [hbt, Bool.true_and] at h
    rw [if_neg (by rw [hsz]; simp)]
    refine wpAny_bind (wpAny_dictEpoch hoa hda (wpAny_bind ?_))
    rw [Std.Legacy.Range.forIn_eq_forIn_range']
    simp only [Std.Legacy.Range.size, Nat.sub_zero, Nat.add_sub_cancel, Nat.div_one]
    refine wpAny_forIn_list _ (fun rest q s' => s' = s ∧ q = (none, ()) ∧ ∃ i, rest = List.range' i (es.size - i) ∧ i ≤ es.size ∧ ((xa.take i).all fun x => f x.1) = true) _ ?_ ?_ _ _ ⟨rfl, rfl, 0, by simp, Nat.zero_le _, rfl⟩
    · rintro j rest q s' ⟨rfl, rfl, i, hr, hi, pre⟩
      have hlt : i < es.size := by
        rcases Nat.lt_or_ge i es.size with z | z
        · exact z
        · rw [Nat.sub_eq_zero_of_le z] at hr; simp at hr
      obtain ⟨rfl, hrest⟩ : j = i ∧ rest = List.range' (i + 1) (es.size - (i + 1)) := by
        have e : es.size - i = (es.size - (i + 1)) + 1 := by omega
        rw [e, List.range'_succ] at hr
        injection hr with h1 h2
        exact ⟨h1, h2⟩
      have hlx : j < xa.length := by omega
      obtain ⟨⟨k, ad, v⟩, hx⟩ : ∃ x, xa[j]? = some x := ⟨_, List.getElem?_eq_getElem hlx⟩
      have hes : es[j]? = some (entryOfKey knd (k, ad, v)) := by rw [entry_at hea j, hx]; rfl
      refine wpAny_bind (wpAny_dictEntries hoa hda ?_)
      rw [hes]
      have hmem := List.mem_of_getElem? hx
      have stop : f k = false → Q false s' := fun e => by
        have z := all_stop (f := fun x : K × Addr × Value => f x.1) hx e
        rw [z] at h
        exact h
      show wpAny _ _ (holding [.ref ad, v] _ >>= _) _ _ _
      refine wpAny_bind (wpAny_holding (wpAny_bind (wpAny_dictFind_heap hu (hia _ hmem) hob hdb heb hib hnb (fun no => ?_) (fun i' p hp => ?_))))
      · have hn : atKey xb k = none := atKey_none_of_get no
        rcases hits _ hmem with ⟨_, er⟩ | ⟨p, hy, _⟩
        · refine wpAny_pure ?_
          show wpAny _ _ (if (!false) = true then _ else _) _ _ _
          rw [if_pos (by decide)]
          exact wpAny_pure (wpAny_pure (stop er))
        · rw [show atKey xb k = some p from hy] at hn
          cases hn
      · have hv := atKey_of_get hnb hp
        refine wpAny_bind (wpAny_dictEntries hob hdb ?_)
        rw [entry_at heb i', hp]
        rcases hits _ hmem with ⟨hn, _⟩ | ⟨p', hy, he⟩
        · rw [show atKey xb k = none from hn] at hv
          cases hv
        · rw [show atKey xb k = some p' from hy] at hv
          cases hv
          refine wpAny_holding (he _ _ ?_)
          cases ef : f k with
          | false =>
            show wpAny _ _ (if (!false) = true then _ else _) _ _ _
            rw [if_pos (by decide)]
            exact wpAny_pure (wpAny_pure (stop ef))
          | true =>
            show wpAny _ _ (if (!true) = true then _ else _) _ _ _
            rw [if_neg (by decide)]
            refine wpAny_bind (wpAny_dictEpoch hoa hda ?_)
            rw [if_neg (by simp)]
            refine wpAny_pure ⟨rfl, rfl, j + 1, hrest, hlt, ?_⟩
            rw [take_all_succ hx, pre]
            exact ef
    · rintro q s' ⟨rfl, rfl, i, hr, hi, pre⟩
      have hin : i = es.size := by
        rcases Nat.lt_or_ge i es.size with z | z
        · have e : es.size - i = (es.size - (i + 1)) + 1 := by omega
          rw [e, List.range'_succ] at hr
          cases hr
        · exact Nat.le_antisymm hi z
      refine wpAny_pure ?_
      rw [hin, hla, List.take_length] at pre
      rw [pre] at h
      exact h
theorem rcP_dictsH {a b : Addr} {xa xb : List (K × Addr × Value)} {f : K → Bool} (ha : (a == sysModules) = false) (hb : (b == sysModules) = false) (hu : A.units < cLine) (hk : knd.room A.in1)
    (da : s.heap.DictOfH knd a xa) (db : s.heap.DictOfH knd b xb) (hits : ∀ x ∈ xa, ShowsH knd A.in1 s xb f x) (E Q : Value → Shared → Prop) (h : Q (.bool (xa.length == xb.length && xa.all fun x => f x.1)) s) : wpAny (model prog w) A (richCompare .Eq (.ref a) (.ref b)) Q E s := by
  refine wpAny_richCompare_same_room (op := .Eq) da.typeIs db.typeIs PySem.F.slot_dict_eq (wpAny_call_entry PySem.F.slot_dict_eq da.typeIs PySem.F.entry_dict_eq ?_ (PySem.F.args_dict_eq_2 _ _)) hu
  show wpAny _ _ (Builtin.Dict.dictSlotArgs "__eq__" ⟨[.ref a, .ref b], []⟩ >>= _) _ _ s
  refine wpAny_bind ?_
  unfold Builtin.Dict.dictSlotArgs
  refine wpAny_bind (PySem.wpAny_notOrdered_dict da.typeIs ?_)
  show wpAny _ _ (pure (Value.ref a, Value.ref b)) _ _ s
  refine wpAny_pure (wpAny_bind (wpAny_isInstance (T := "dict") db.typeIs PySem.F.sub_dict_dict ?_))
  simp only [Bool.not_true, Bool.false_eq_true, if_false]
  refine wpAny_bind (wpAny_pure (wpAny_bind (wpAny_pure (wpAny_bind (samePairsH ha hb hk da db hits ?_)))))
  refine wpAny_pure ⟨_, rfl, ?_, ?_⟩
  · exact fun z => nomatch z
  · simpa using h
end
end L2

set_option Elab.async false
set_option linter.all false
set_option maxRecDepth 100000
set_option maxHeartbeats 2000000
/-! Two forms' dicts: ==. -/
namespace L2
open PySem PySem.Spec PyProof.Rows
/-- the same terms, whatever their order -/
def eqFm (a b : Fm) : Bool := a.length == b.length && a.all fun x => decide (valM b x.1 = valM a x.1)
def kQ (fm : Fm) (k : List Key) : Option Rat := (fm.find? fun x => decide (kS x.1 = k)).map (·.2)
theorem kQ_kS (fm : Fm) (m : Mon) : kQ fm (kS m) = valM fm m := by
  unfold kQ valM
  congr 1
  congr 1
  funext x
  by_cases c : x.1 = m
  · rw [decide_eq_true c, decide_eq_true (by rw [c])]
  · rw [decide_eq_false c, decide_eq_false fun e => c (kS_inj e)]
theorem dp_frac {K : PySem.W.Frag} {H : Hp} {a : Addr} {q : Rat} (h : SqT K H a (frac q)) : Dp K H (.ref a) (.tuple [.int q.num, .int (q.den : Int)]) := .tup h (.cons (.int _) (.cons (.int _) .nil))
theorem eqv_frac (p q : Rat) : PyData.eqv (.tuple [.int p.num, .int (p.den : Int)]) (.tuple [.int q.num, .int (q.den : Int)]) = decide (p = q) := by
  have e : PyData.eqv (.tuple [.int p.num, .int (p.den : Int)]) (.tuple [.int q.num, .int (q.den : Int)]) = (decide (p.num = q.num) && decide ((p.den : Int) = (q.den : Int))) := by
    simp [PyData.eqv, PyData.eqvAll]
    try rfl
  rw [e]
  by_cases c : p = q
  · subst c
    simp
  · rw [decide_eq_false c]
    by_cases h1 : p.num = q.num
    · have h2 : ¬ p.den = q.den := fun z => c (Rat.ext h1 z)
      rw [decide_eq_true h1, Bool.true_and]
      exact decide_eq_false fun z => h2 (Int.ofNat.inj z)
    · rw [decide_eq_false h1, Bool.false_and]
theorem fm_keys {K : PySem.W.Frag} {H : Hp} {ks : NAV} {fm : Fm} (r : FmKv K H ks fm) : ks.map (·.1) = (fm.map (·.1)).map kS := by
  unfold FmKv at r
  induction r with
  | nil => rfl
  | cons h t ih => rw [List.map_cons, List.map_cons, List.map_cons, ih, h.1]
theorem valM_at {fm : Fm} {i : Nat} {m : Mon} {q : Rat} (nd : (fm.map (·.1)).Nodup) (h : fm[i]? = some (m, q)) : valM fm m = some q := by
  induction fm generalizing i with
  | nil => cases h
  | cons x xs ih =>
    rw [List.map_cons, List.nodup_cons] at nd
    cases i with
    | zero =>
      cases h
      simp [valM, List.find?_cons]
    | succ j =>
      have hj : xs[j]? = some (m, q) := h
      have ne : ¬ x.1 = m := fun e => nd.1 (e ▸ List.mem_map.mpr ⟨(m, q), List.mem_of_getElem? hj, rfl⟩)
      have z : valM (x :: xs) m = valM xs m := by simp [valM, List.find?_cons, ne]
      rw [z]
      exact ih nd.2 hj
theorem nodup_of_map {α β : Type} (f : α → β) {l : List α} (h : (l.map f).Nodup) : l.Nodup := by
  induction l with
  | nil => exact List.nodup_nil
  | cons x xs ih =>
    rw [List.map_cons, List.nodup_cons] at h
    exact List.nodup_cons.mpr ⟨fun z => h.1 (List.mem_map.mpr ⟨x, z, rfl⟩), ih h.2⟩
theorem depth_frac (a b : Int) : PyData.depth (.tuple [.int a, .int b]) ≤ 8 := by
  simp [PyData.depth, PyData.depthAll] <;> first | omega | decide
def rEqFm (P : Program) (w : World) (K : PySem.W.Frag) : R2 := fun x y H Q => ∃ d e ks ls fa fb, x = .ref d ∧ y = .ref e ∧ H d = some (DfO P w d ks) ∧ H e = some (DfO P w e ls) ∧ FmKv K H ks fa ∧ FmKv K H ls fb ∧ Q (.bl (eqFm fa fb)) H
theorem op_eqFm {X : Cx} (hu : X.A.units + 64 < cLine) : OpR X (compareOp .Eq) (rEqFm X.prog X.w X.K) := by
  intro pins s σ H x y v u Q I rx ry h
  obtain ⟨d, e, ks, ls, fa, fb, rfl, rfl, hd, he, ha, hb, q⟩ := h
  obtain rfl : v = Value.ref d := rx
  obtain rfl : u = Value.ref e := ry
  have da := dn_of I (.inl hd) ha.keys.toN
  have db := dn_of I (.inl he) hb.keys.toN
  obtain ⟨_, y1, nd1, _⟩ := dn_get I (.inl hd)
  obtain ⟨_, y2, _⟩ := dn_get I (.inl he)
  have nda : (fa.map (·.1)).Nodup := by
    rw [List.map_map] at nd1
    have e1 : ks.map ((fun x : List Key × Addr × Value => x.1) ∘ toV) = ks.map (·.1) := rfl
    rw [e1, fm_keys ha] at nd1
    exact nodup_of_map _ nd1
  have la : (ks.map toV).length = fa.length := by rw [List.length_map, ha.length]
  have lb : (ls.map toV).length = fb.length := by rw [List.length_map, hb.length]
  refine rcP_dictsH (f := fun k => decide (kQ fb k = kQ fa k)) y1 y2 (Nat.lt_of_le_of_lt (Nat.le_add_right _ 64) hu) (show X.A.in1.units < cLine from ?_) da db (fun x hx => ?_) _ _ ?_
  · show X.A.units + 1 < cLine
    omega
  · obtain ⟨kv, hkv, rfl⟩ := List.mem_map.mp hx
    obtain ⟨i, hi⟩ := List.mem_iff_getElem?.mp hkv
    obtain ⟨m, p, b1, a1, hm, rfl, _, sa⟩ := ha.get hi
    have va : valM fa m = some p := valM_at nda hm
    rw [show toV (kS m, b1, a1) = (kS m, b1, Value.ref a1) from rfl]
    unfold ShowsH
    dsimp only
    rw [kQ_kS, kQ_kS, va, atKey_toV]
    rcases hb.val m with ⟨f1, f2⟩ | ⟨b2, a2, p2, f1, f2, sb⟩
    · rw [f1, f2]
      exact .inl ⟨rfl, rfl⟩
    · rw [f1, f2]
      refine .inr ⟨(b2, .ref a2), rfl, ?_⟩
      obtain ⟨as, r1⟩ := Dp.reads I _ _ (Value.ref a1) (dp_frac sa) rfl
      obtain ⟨bs, r2⟩ := Dp.reads I _ _ (Value.ref a2) (dp_frac sb) rfl
      have q := SeqAt.eqAt_reads _ _ X.A.in1 s _ _ _ _ r1 r2 (by rfl) (by rfl) (by show X.A.units + 1 + _ < cLine; have : min (PyData.depth (.tuple [.int p.num, .int (p.den : Int)])) (PyData.depth (.tuple [.int p2.num, .int (p2.den : Int)])) ≤ 8 := Nat.le_trans (Nat.min_le_left _ _) (depth_frac _ _); omega)
      rw [eqv_frac] at q
      have e9 : decide (p = p2) = decide (some p2 = some p) := by
        by_cases c2 : p = p2
        · rw [c2]; simp
        · rw [decide_eq_false c2, decide_eq_false fun z => c2 (Option.some.inj z).symm]
      rw [← e9]
      exact q.eqP
  · refine ⟨.bl _, H, I, rfl, ?_⟩
    have e : ((ks.map toV).length == (ls.map toV).length && (ks.map toV).all fun x => decide (kQ fb x.1 = kQ fa x.1)) = eqFm fa fb := by
      unfold eqFm
      rw [la, lb]
      congr 1
      have all2 : ∀ {l : NAV} {n : Fm}, FmKv X.K H l n → ((l.map toV).all fun x => decide (kQ fb x.1 = kQ fa x.1)) = n.all fun x => decide (valM fb x.1 = valM fa x.1) := by
        intro l n r
        unfold FmKv at r
        induction r with
        | nil => rfl
        | @cons p x ps xs h t ih =>
          rw [List.map_cons, List.all_cons, List.all_cons, ih]
          congr 1
          rw [show (toV p).1 = kS x.1 from h.1, kQ_kS, kQ_kS]
      exact all2 ha
    rw [e]
    exact q
end L2

set_option Elab.async false
set_option linter.all false
set_option maxRecDepth 100000
set_option maxHeartbeats 1000000
/-! a != b, both of one own class that has __eq__ alone. -/
namespace PySem.W
open PySem PySem.Calls PyProof.Rows
section
variable {prog : Program} {w : World} {A : Around} {E : Value → Shared → Prop} {s : Shared} {K : Frag} {x y C L f : Addr} {h₀ : Heap} {m : Str → Option Value} {ox : Obj} {od : Option Obj}
/-- what the class says of != -/
structure NoNe (K : Frag) (C f : Addr) : Prop where
  ne : findIn K (.ref C) "__ne__" = some (some (.builtin "object.__ne__"))
  eq : findIn K (.ref C) "__eq__" = some (some (.ref f))
  fn : isFn K (.ref f) = true
  sub : subIn K (.ref C) (.type "object") = some true
theorem check_ne (X : K.In s.heap) (I : InstAt s.heap x ox C od) (N : NoNe K C f) {b : Value} {Q : Unit → Shared → Prop} (hq : Q () s) : wpAny (model prog w) A (checkBuiltinCall "object.__ne__" ⟨[.ref x, b], []⟩) Q E s := by
  simp only [checkBuiltinCall, F.cmpKind_ne, F.cmpSplit_ne]
  refine wpAny_bind ?_
  unfold isInstance
  refine wpAny_bind (I.type.here ?_)
  refine (looks_subIn X N.sub).here ?_
  have ha := F.cmpArgs_ne (.ref x) b
  cases hsig : Manifest.signature? "object.__ne__" with
  | none => exact wpAny_pure hq
  | some sig =>
    simp only [argsOk, hsig] at ha
    have h2 : Bind.checkArgs "object.__ne__" sig ⟨[.ref x, b], []⟩ = pure () := ha
    show wpAny _ A (Bind.checkArgs "object.__ne__" sig ⟨[.ref x, b], []⟩) Q E _
    rw [h2]
    exact wpAny_pure hq
theorem entry_ne (X : K.In s.heap) (I : InstAt s.heap x ox C od) (N : NoNe K C f) (hu : A.units < cLine) {b : Value} {Q : Fin → Shared → Prop}
    (h : wpAny (model prog w) A (call (.ref f) [.ref x, b]) (fun v s' => ∃ r, v = .bool r ∧ Q (.done (.ret (.bool (!r)))) s') E s) : wpAny (model prog w) A (Builtin.«object.__ne__» ⟨[.ref x, b], []⟩) Q E s := by
  unfold Builtin.«object.__ne__»
  repeat (first
    | with_reducible refine wpAny_cRoomFor hu ?_
    | (refine wpAny_bind (m := callSpecialIfBound? (.ref x) (Str.ofString "__eq__") [b])
        (ifBound_K X I N.eq N.fn (wpAny_mono h (fun r s' hr => by
          obtain ⟨b, rfl, hq⟩ := hr
          repeat (first | exact hq | exact wpAny_pure hq | exact wpAny_truthy_bool hq | (refine wpAny_bind (m := truthy (.bool _)) (wpAny_truthy_bool ?_)) | wp_step)) fun _ _ e => e)))
    | wp_step)
theorem try_ne (X : K.In s.heap) (I : InstAt s.heap x ox C od) (N : NoNe K C f) (hu : A.units + 1 < cLine) {b : Value} {Q : Option Value → Shared → Prop}
    (h : wpAny (model prog w) A.in1 (call (.ref f) [.ref x, b]) (fun v s' => ∃ r, v = .bool r ∧ Q (some (.bool (!r))) s') E s) : wpAny (model prog w) A (tryCompare (.ref x) "__ne__" b) Q E s := by
  simp only [tryCompare]
  refine wpAny_bind ?_
  simp only [callSpecialIfBound?, bindSpecialIfBound?]
  refine wpAny_holding (wpAny_bind (wpAny_bind (wpAny_bind (I.type.here ((looks_findIn X N.ne).here ?_)))))
  simp only [F.cmp_object.ne.bind]
  refine wpAny_bind (wpAny_askSetting (wpAny_ite ?_))
  have back : wpAny (model prog w) A (call (.builtin "object.__ne__") [.ref x, b]) (fun v s' => ∃ r, v = .bool r ∧ Q (some (.bool r)) s') E s :=
    wpAny_call (codeAny_call_builtin F.cmp_object.ne.plain F.cmpEntry_ne (check_ne X I N (entry_ne (A := A.in1) X I N hu (wpAny_mono h (fun v s' hv => by
      obtain ⟨r, rfl, hq⟩ := hv
      exact ⟨r, rfl, _, rfl, hq⟩) fun _ _ e => e))))
  split
  · refine wpAny_bind (wpAny_pure (wpAny_pure (wpAny_bind (wpAny_mono back (fun v s' hv => ?_) fun _ _ e => e))))
    obtain ⟨r, rfl, hq⟩ := hv
    exact wpAny_pure (wpAny_pure hq)
  · refine wpAny_tryCatch (wpAny_bind (wpAny_pure (wpAny_pure (wpAny_bind (wpAny_mono back (fun v s' hv => ?_) fun _ _ e => e)))))
    obtain ⟨r, rfl, hq⟩ := hv
    exact wpAny_pure (wpAny_pure hq)
theorem ne_K {Q : Value → Shared → Prop} (hu : A.units + 1 < cLine) (X : K.In s.heap) (I : InstAt s.heap x ox C od) (hb : Looks (model prog w) s.heap (typeOf (.ref y)) (.ref C)) (N : NoNe K C f)
    (h : wpAny (model prog w) A.in1 (call (.ref f) [.ref x, .ref y]) (fun v s' => ∃ r, v = .bool r ∧ Q (.bool (!r)) s') E s) : wpAny (model prog w) A (richCompare .NotEq (.ref x) (.ref y)) Q E s := by
  unfold richCompare
  simp only [oneThing_ref]
  refine wpAny_holding (wpAny_bind (wpAny_cRoomFor (Nat.lt_of_succ_lt hu) ?_))
  rw [cmpInfo_NotEq]
  dsimp only
  refine wpAny_bind (I.type.here (wpAny_bind (hb.here ?_)))
  rw [show (Value.ref C != Value.ref C) = false from by simp]
  simp only [Bool.false_eq_true, if_false]
  refine wpAny_bind (wpAny_pure ?_)
  simp only [Bool.false_eq_true, if_false]
  refine wpAny_bind (try_ne X I N hu (wpAny_mono h (fun v s' hv => ?_) fun _ _ e => e))
  obtain ⟨r, rfl, hq⟩ := hv
  exact ⟨r, rfl, wpAny_pure hq⟩
end
end PySem.W

set_option Elab.async false
set_option linter.all false
set_option maxRecDepth 100000
set_option maxHeartbeats 1000000
/-! a == b, a != b of two forms -/
namespace L2
open PySem PySem.Spec PyProof.Rows
open C8 (Cal Mak Met InsC)
section
variable {X : Cx}
/-- an around where a def of this level may be called -/
structure SubA (X : Cx) (k : Nat) (A : Around) : Prop where
  room : Room k A
  fr : A.frames = X.A.frames
/-- a def called where the around is deeper -/
theorem run_sub {A : Around} {k : Nat} {f : Addr} {fd : FuncData} {ps : List Str} {sp : Sp} {pins : List (Addr × Obj)} {σ : L2.St} {H : Hp} {s : Shared} {Q : VK} {us : List Value} {vs : List V} (sb : SubA X k A) (F : FnOk X.prog X.w X.K X.mg X.base CX0 k f fd ps sp) (hb : Binds X.K fd ps [])
    (I : Inv X pins σ H s) (r : Vals vs us) (hsp : sp vs H Q E0) : wpAny (model X.prog X.w) A (call (.ref f) us) (EP X pins σ Q) X.xe s := by
  have e0 : Env0 X.prog X.w X.K X.mg X.base A X.stack s H := by
    have e := I.env0
    exact ⟨by rw [sb.fr]; exact e.frames, e.mod, e.bs, e.bsz, e.funs, e.frf, e.hok, e.bare⟩
  have hl := F.len _ _ _ _ hsp
  have hlu : us.length = ps.length := by rw [← r.length]; exact hl
  refine wpAny_call (codeAny_mono (F.run A X.stack s H ⟨us, []⟩ us vs _ E0 sb.room e0 (by
    have := hb s us I.kIn (by simpa using hlu)
    simpa using this) r hsp) fun r s' hq => ?_)
  cases r with
  | error e => exact pass0 pins σ H s e s' I hq
  | ok fl =>
    cases fl with
    | ret w =>
      obtain ⟨z, H', I', rz, q⟩ := I.after hq
      exact ⟨z, H', I', rz, q⟩
    | next => exact False.elim hq
    | brk => exact False.elim hq
    | cont => exact False.elim hq
end
def spEqF (P : Program) (w : World) (K : PySem.W.Frag) (C : Addr) : Sp := fun vs H Q _ => ∃ a b fa fb, vs = [.ref a, .ref b] ∧ FmAt P w K C H a fa ∧ FmAt P w K C H b fb ∧ Q (.bl (eqFm fa fb)) H
/-- what == and != of two forms lean on -/
structure EqM (P : Program) (w : World) (K : PySem.W.Frag) (mg : Str → Option Value) (base : Heap) (k : Nat) (C : Addr) : Prop where
  ex : ∃ (f : Addr) (fd : FuncData) (ps : List Str), PySem.W.NoNe K C f ∧ FnOk P w K mg base CX0 k f fd ps (spEqF P w K C) ∧ Binds K fd ps []
def rEqO (P : Program) (w : World) (K : PySem.W.Frag) (C : Addr) : R2 := fun x y H Q => ∃ a b fa fb, x = .ref a ∧ y = .ref b ∧ FmAt P w K C H a fa ∧ FmAt P w K C H b fb ∧ Q (.bl (eqFm fa fb)) H
def rNeO (P : Program) (w : World) (K : PySem.W.Frag) (C : Addr) : R2 := fun x y H Q => ∃ a b fa fb, x = .ref a ∧ y = .ref b ∧ FmAt P w K C H a fa ∧ FmAt P w K C H b fb ∧ Q (.bl (!eqFm fa fb)) H
section
variable {X : Cx} {C : Addr} {k j : Nat}
theorem op_eqO (O : EqM X.prog X.w X.K X.mg X.base k C) (hr : Room j X.A) (hk : k ≤ j) : OpR X (compareOp .Eq) (rEqO X.prog X.w X.K C) := by
  obtain ⟨f, fd, ps, N, F, hb⟩ := O.ex
  intro pins s σ H x y v u Q I rx ry h
  obtain ⟨a, b, fa, fb, rfl, rfl, ha, hb2, q⟩ := h
  obtain rfl : v = Value.ref a := rx
  obtain rfl : u = Value.ref b := ry
  have ha1 := ha
  have hb1 := hb2
  obtain ⟨dx, d, kvs, ea, _⟩ := ha1
  obtain ⟨dy, e, kvs2, eb, _⟩ := hb1
  obtain ⟨ox, od, J⟩ := inst_of I ea
  obtain ⟨oy, oe, J2⟩ := inst_of I eb
  obtain ⟨m, fr⟩ := I.fr
  have hrk := hr.mono hk
  refine PySem.W.cmp_K (op := .Eq) (tb := .ref C) hrk.units0 fr I.ok.mod.kin J J2.type (by simp [PySem.W.notFirst]) N.eq N.fn ?_
  exact thn (run_sub ⟨hrk, rfl⟩ (vs := [V.ref a, V.ref b]) F hb I (.cons rfl (.cons rfl .nil)) ⟨a, b, fa, fb, rfl, ha, hb2, q⟩) fun _ _ z => back_of z
theorem op_neO (O : EqM X.prog X.w X.K X.mg X.base k C) (hr : Room j X.A) (hk : k + 1 ≤ j) : OpR X (compareOp .NotEq) (rNeO X.prog X.w X.K C) := by
  obtain ⟨f, fd, ps, N, F, hb⟩ := O.ex
  intro pins s σ H x y v u Q I rx ry h
  obtain ⟨a, b, fa, fb, rfl, rfl, ha, hb2, q⟩ := h
  obtain rfl : v = Value.ref a := rx
  obtain rfl : u = Value.ref b := ry
  have ha1 := ha
  have hb1 := hb2
  obtain ⟨dx, d, kvs, ea, _⟩ := ha1
  obtain ⟨dy, e, kvs2, eb, _⟩ := hb1
  obtain ⟨ox, od, J⟩ := inst_of I ea
  obtain ⟨oy, oe, J2⟩ := inst_of I eb
  have hrk : Room (k + 1) X.A := hr.mono hk
  have sb : SubA X k X.A.in1 := ⟨hrk.in1, rfl⟩
  refine PySem.W.ne_K (A := X.A) (Nat.lt_of_le_of_lt (Nat.add_le_add_left (by decide : 1 ≤ 64) _) hrk.units) I.kIn J J2.type N ?_
  refine thn (run_sub (Q := fun v H' => v = .bl (eqFm fa fb) ∧ H' = H) (vs := [V.ref a, V.ref b]) sb F hb I (.cons rfl (.cons rfl .nil)) ⟨a, b, fa, fb, rfl, ha, hb2, rfl, rfl⟩) fun r s' z => ?_
  obtain ⟨z, H', I', rz, rfl, rfl⟩ := z
  obtain rfl : r = Value.bool (eqFm fa fb) := rz
  exact ⟨_, rfl, .bl (!eqFm fa fb), H', I', rfl, q⟩
end
end L2
namespace E2
open PySem PySem.Spec PyProof.Rows L2
open C8 (Cal Mak Met InsC pe_c pe_mt pe_mt0 call_isC clsBody)
abbrev sEq : Stmt := meth 5
section
variable {P : Program} {w : World} {K : PySem.W.Frag} {mg : Str → Option Value} {base : Heap} {C : Addr}
theorem scEq : FnScope ["self", "other"] ["self", "other"] (defScope sEq) := ⟨rfl, rfl, rfl, by decide +kernel, rfl, by decide +kernel, by decide +kernel⟩
theorem ok_eq {f : Addr} {fd : FuncData} (F : Fun K "__eq__" "Form.__eq__" sEq f fd) (T : Fx P w K mg base C) (B : Bt K mg C) : FnOk P w K mg base CX0 1 f fd ["self", "other"] (spEqF P w K C) := by
  refine F.ok scEq (fun vs H Q E h => ?_) (fun cdv A outer s H vs Q E hr h => ?_)
  · obtain ⟨a, b, fa, fb, rfl, _⟩ := h
    rfl
  · obtain ⟨a, b, fa, fb, rfl, ⟨dx, d, kvs, ha, hd, hf⟩, ⟨dy, e, kvs2, hb, he, hf2⟩, k⟩ := h
    refine ⟨_, pss_one (ps_ret (pe_and (pe_callB (call_isC B.ins) (by rfl) B.isi (by decide +kernel) (pa_cons (pv 1) (pa_cons (pe_glob (v := .ref C) (by rfl) B.mgF rfl) pa_nil))) (pe_one (pe_cmpR (op_eqFm hr.units) (pe_fld (pv 0) rfl) (pe_fld (pv 1) rfl) (nomark _))))), ?_⟩
    exact ⟨_, rfl, b, dy, _, rfl, hb, true, rfl, iteT (B := False) ⟨_, rfl, a, C, dx, _, _, rfl, ha, T.cl, T.na, rfl, _, rfl, b, C, dy, _, _, rfl, hb, T.cl, T.na, rfl, d, e, kvs, kvs2, fa, fb, rfl, rfl, hd, he, hf, hf2, k⟩⟩
end
end E2

set_option Elab.async false
set_option linter.all false
set_option maxRecDepth 100000
set_option maxHeartbeats 1000000
/-! list(d), d such a dict -/
namespace L2
open PySem PySem.Spec PyProof.Rows
def rListN (X : Cx) : List V → Hp → VK → Prop := fun xs H Q => ∃ (d : Addr) (l : NAV), xs = [V.ref d] ∧ Rd H d (DfO X.prog X.w d l) ∧ ∀ p, H p = none → Q (.ref p) (upd H p (.lst (l.map fun x => V.ref x.2.1)))
theorem vals_keys : ∀ l : NAV, Vals (l.map fun x => V.ref x.2.1) (l.map fun x => Value.ref x.2.1)
  | [] => .nil
  | x :: r => .cons rfl (vals_keys r)
theorem cr_listN {X : Cx} (hc : X.calm = true) : CallR X (.type "list") (rListN X) := by
  intro pins s σ H xs us Q I r h
  obtain ⟨d, l, rfl, hd, q⟩ := h
  rw [Vals.ref1 r]
  obtain ⟨z, hs, _, o, es, ep, ho, hx, hdt, he⟩ := dn_get I hd
  have l1 := size_of_entries he
  rw [List.length_map] at l1 z
  refine PySem.W.kdl_call (kdl_raw hs hx hdt) (I.ok.hd hc) ho (by omega) fun h' tk acc' c' kp e it => ?_
  have ea : acc'.toList = l.map fun x => Value.ref x.2.1 := by
    refine List.ext_getElem? fun j => ?_
    have sz : acc'.toList.length = l.length := by rw [Array.length_toList, it.1, l1]
    rw [List.getElem?_map]
    rcases Nat.lt_or_ge j l.length with c | c
    · obtain ⟨v, hj⟩ : ∃ v, acc'.toList[j]? = some v := ⟨_, List.getElem?_eq_getElem (by omega)⟩
      obtain ⟨en, hen, hv⟩ := it.2 j v (by rw [← Array.getElem?_toList]; exact hj)
      have qe := entry_at he j
      rw [hen, List.getElem?_map, List.getElem?_eq_getElem c] at qe
      rw [hj, List.getElem?_eq_getElem c]
      have e3 := Option.some.inj qe
      rw [e3] at hv
      exact congrArg some hv
    · rw [List.getElem?_eq_none (by omega), List.getElem?_eq_none c]
      rfl
  have hz : (l.map fun x => V.ref x.2.1).length ≤ sizeLine := by rw [List.length_map]; exact z
  have ob : ObjOk X.prog X.w (upd H s.heap.objs.size (.lst (l.map fun x => V.ref x.2.1))) h' s.heap.objs.size (.lst (l.map fun x => V.ref x.2.1)) :=
    ⟨hz, acc'.toList, c', by rw [ea]; exact vals_keys l, by rw [Array.toArray_toList]; exact e⟩
  exact ⟨.ref s.heap.objs.size, _, I.laid (t' := tk) kp (Nat.le_refl _) ob, rfl, q _ (I.hok.fresh (Nat.le_refl _))⟩
end L2

set_option Elab.async false
set_option linter.all false
set_option maxRecDepth 100000
set_option maxHeartbeats 1000000
/-! a.terms() -/
namespace L2
open PySem PySem.Spec PyProof.Rows
open LamX (Tabs ExtN TabB CodeO)
/-- a def whose code object is known: its body as a term -/
theorem Fun.okC {P : Program} {w : World} {K : PySem.W.Frag} {mg : Str → Option Value} {base : Heap} {x qual : Str} {st : Stmt} {f c : Addr} {fd : FuncData} {N ps : List Str} {k : Nat} {sp : Sp} (F : Fun K x qual st f fd) (hc : fd.code = .ref c) (S : FnScope N ps (defScope st)) (len : ∀ vs H Q E, sp vs H Q E → vs.length = ps.length)
    (hbody : ∀ (A : Around) (outer : List Env) (s : Shared) (H : Hp) (vs : List V) (Q : VK) (E : XK), Room k (A.deeper (envOfC qual (defScope st) s.heap.objs.size f (.ref c))) → sp vs H Q E →
      ∃ t, PSs (cxOf CX0 P w K mg base N qual (defScope st) f (.ref c) A outer s H E).nox (defBody st) t ∧ t { nx := fun _ H' => Q .non H', rt := Q } (start N vs) H) : FnOk P w K mg base CX0 (k + 1) f fd ps sp := by
  obtain ⟨oc, od, kV, doc, pm, an, cdv, ct, osl, rfl, lk, hcd⟩ := F.ex
  obtain rfl : cdv = .ref c := hc
  refine fn_of lk hcd S len fun A outer s H vs Q E hr hsp => ?_
  obtain ⟨t, h, q⟩ := hbody A outer s H vs Q E hr hsp
  exact ⟨t, h.nox, q⟩
def sortM (ms : List Mon) : List Mon := ms.mergeSort (PySem.W.dataLe false kM)
theorem sortA_map (ams : List (Addr × Mon)) : (sortA ams).map (·.2) = sortM (ams.map (·.2)) := List.map_mergeSort fun _ _ _ _ => rfl
theorem newT_of {H H2 : Hp} {p : Addr} (ex : ExtN H H2) (n : H2 p = none) : NewT H p := fun o e => Classical.byContradiction fun no => by
  have z := ex _ _ e fun ps e2 => no ⟨ps, e2⟩
  rw [n] at z
  cases z
theorem valM_mem {fm : Fm} {m : Mon} (h : m ∈ fm.map (·.1)) : ∃ q, valM fm m = some q := by
  obtain ⟨x, hx, rfl⟩ := List.mem_map.mp h
  cases e : fm.find? fun y => decide (y.1 = x.1) with
  | none => exact absurd (by simp) (List.find?_eq_none.mp e x hx)
  | some y => exact ⟨y.2, by unfold valM; rw [e]; rfl⟩
/-- the terms in their order -/
def trs (fm : Fm) : Fm := (sortM (fm.map (·.1))).map fun m => (m, (valM fm m).getD 0)
/-- a term as a tuple of numerator, denominator and a list of letters -/
def TrmAt (H : Hp) (z : Addr × Addr) (x : Mon × Rat) : Prop := H z.1 = some (.tup [.int x.2.num, .int (x.2.den : Int), .ref z.2]) ∧ H z.2 = some (.lst (x.1.map V.str))
def TermsAt (H : Hp) (zs : List (Addr × Addr)) (fm : Fm) : Prop := Paired (TrmAt H) zs fm
theorem TermsAt.imp {H H' : Hp} {zs : List (Addr × Addr)} {fm : Fm} (h : TermsAt H zs fm) (k : ∀ z ∈ zs, ∀ x, TrmAt H z x → TrmAt H' z x) : TermsAt H' zs fm := by
  unfold TermsAt at h ⊢
  induction h with
  | nil => exact .nil
  | cons r t ih => exact .cons (k _ List.mem_cons_self _ r) (ih fun z hz => k z (List.mem_cons_of_mem _ hz))
end L2
namespace E2
open PySem PySem.Spec PyProof.Rows L2
open C8 (Cal Mak Met InsC pe_c pe_mt pe_mt0 call_isC clsBody)
open LamX (Tabs ExtN TabB CodeO)
open StX (tStar pa_star)
abbrev sTerms : Stmt := meth 7
def spTerms (T : List (Addr × Str)) (P : Program) (w : World) (K : PySem.W.Frag) (C : Addr) : Sp := fun vs H Q _ => ∃ a fm, vs = [.ref a] ∧ FmAt P w K C H a fm ∧ (fm.map (·.1)).Nodup ∧ fm.length ≤ 100000 ∧ (∀ x ∈ fm, x.1.length ≤ 100000) ∧ Tabs T H ∧
  ∀ (H' : Hp) (p : Addr) (zs : List (Addr × Addr)), ExtN H H' → Tabs T H' → NewT H p → H' p = some (.lst (zs.map fun z => V.ref z.1)) → TermsAt H' zs (trs fm) → (zs.map (·.2)).Nodup → (∀ z ∈ zs, NewT H z.2 ∧ z.2 ≠ p) → Q (.ref p) H'
section
variable {P : Program} {w : World} {K : PySem.W.Frag} {mg : Str → Option Value} {base : Heap} {C : Addr}
theorem scTerms : FnScope ["self", "order", "names"] ["self"] (defScope sTerms) := ⟨rfl, rfl, rfl, by decide +kernel, rfl, by decide +kernel, by decide +kernel⟩
theorem ok_terms {TT : List (Addr × Str)} {f c Pt : Addr} {fd : FuncData} (F : Fun K "terms" "Form.terms" sTerms f fd) (hc : fd.code = .ref c) (T : Fx P w K mg base C) (B3 : Bt3 mg) (hlist : mg "list" = none) (hlen : mg "len" = none) (TB : TabB base mg c Pt)
    (hm : (Pt, ("Form.terms.<locals>.<lambda>" : Str)) ∈ TT) (hu : ∀ p ∈ TT, p.1 = Pt → p.2 = "Form.terms.<locals>.<lambda>") : FnOk P w K mg base CX0 2 f fd ["self"] (spTerms TT P w K C) := by
  refine F.okC hc scTerms (fun vs H Q E h => ?_) (fun A outer s H vs Q E hr h => ?_)
  · obtain ⟨a, fm, rfl, _⟩ := h
    rfl
  · obtain ⟨a, fm, rfl, ⟨dx, d, kvs, ha, hd, hf⟩, hn, hl, hml, tb, k⟩ := h
    have u1 := Nat.lt_of_le_of_lt (Nat.add_le_add_left (by decide : 1 ≤ 64) _) hr.units
    refine ⟨_, pss_cons (ps_set (i := 1) scTerms.nd rfl (Or.inl rfl) (pe_sortedL (T := TT) (c := c) (P := Pt) (hr.mono (by decide)) (by rfl) B3.srt_ hlen TB rfl hm hu (pe_callTy (cr_listN rfl) (by rfl) hlist (by decide +kernel) (pa_cons (pe_fld (pv 0) rfl) pa_nil))))
      (pss_one (ps_ret (pe_lc (own := [("names", 2)]) (g := gName 2) (tt := tYes) (te := tTupS (tStar K (tOp (rDf P w K) (tFld K (tVar 0) "_parts") (tVar 2)) (tCons (tCB (fun xs H Q => ∃ p ys, xs = [.ref p] ∧ (SqL K H p ys ∨ SqT K H p ys) ∧ ∀ l, H l = none → Q (.ref l) (upd H l (.lst ys))) (tCons (tVar 2) tNil)) tNil))) rfl scTerms.nd (pi_list (pv 1))
        (blkOk_by (own := [("names", 2)]) (N := ["self", "order", "names"]) (sc := defScope sTerms) (by decide +kernel))
        (fun _ _ _ _ _ => pg_name (i := 2) scTerms.nd rfl (Or.inl rfl)) (fun _ _ _ _ _ => pts_nil)
        (fun _ _ _ _ _ => by exact pe_tupS (pa_star (pe_ix (ix_df u1) (pe_fld (pv 0) rfl) (pv 2) (fun _ _ => rfl)) (pa_cons (pe_callTy call_list_of (by rfl) hlist (by decide +kernel) (pa_cons (pv 2) pa_nil)) pa_nil)))))), ?_⟩
    have nad : a ≠ d := ne_of ha hd (by intro z; cases z)
    refine seq_asg ⟨_, rfl, a, C, dx, _, _, rfl, ha, T.cl, T.na, rfl, d, kvs, rfl, .inl hd, fun l nl => ?_⟩
    generalize hbs : kvs.map (fun x => x.2.1) = bs
    have lbs : bs.length = (fm.map (·.1)).length := by rw [← hbs, List.length_map, List.length_map, hf.length]
    have e0 : (kvs.map fun x => V.ref x.2.1) = bs.map V.ref := by rw [← hbs, List.map_map]; rfl
    rw [e0]
    have e1 : (bs.zip (fm.map (·.1))).map (fun x => V.ref x.1) = bs.map V.ref := by
      rw [show (fun x : Addr × Mon => V.ref x.1) = V.ref ∘ Prod.fst from rfl, ← List.map_map, List.map_fst_zip (by omega)]
    have e2 : (bs.zip (fm.map (·.1))).map (·.2) = fm.map (·.1) := List.map_snd_zip (by omega)
    have key : ∀ x ∈ bs.zip (fm.map (·.1)), TupN H x.1 (x.2.map V.str) := fun x hx => by
      obtain ⟨i, hi⟩ := List.mem_iff_getElem?.mp hx
      rw [List.getElem?_zip_eq_some] at hi
      obtain ⟨h1, h2⟩ := hi
      have hil := (List.getElem?_eq_some_iff.mp h1).1
      obtain ⟨kv, hkv⟩ : ∃ kv, kvs[i]? = some kv := ⟨_, List.getElem?_eq_getElem (by rw [← hbs, List.length_map] at hil; exact hil)⟩
      obtain ⟨m, q, b, a1, hm1, rfl, tb, _⟩ := hf.get hkv
      rw [List.getElem?_map, hm1] at h2
      rw [← hbs, List.getElem?_map, hkv] at h1
      have e1 : x.1 = b := (Option.some.inj h1).symm
      have e2 : x.2 = m := (Option.some.inj h2).symm
      rw [e1, e2, ← kS_kV]
      exact tb
    generalize hams : bs.zip (fm.map (·.1)) = ams at e1 e2 key
    have lam : ams.length = fm.length := by rw [← List.length_map (f := (·.2)), e2, List.length_map]
    have hin : ∀ x ∈ ams, x.2 ∈ fm.map (·.1) := fun x hx => by rw [← e2]; exact List.mem_map.mpr ⟨x, hx, rfl⟩
    have z5 : (100000 : Nat) ≤ sizeLine := by rw [sizeLine_eq]; decide
    refine ⟨l, ams, rfl, ?_, fun x hx => ⟨((key x hx).same (Same.upd nl)).sq, ?_⟩, by rw [lam]; omega, tb.ext fun b o e => by rw [upd_ne (ne_of_none e nl)]; exact e, fun H2 p ex tb2 np hp => ?_⟩
    · rw [e1]
      exact SqL.of upd_same
    · obtain ⟨y, hy, e3⟩ := List.mem_map.mp (hin x hx)
      rw [← e3]
      exact Nat.le_trans (hml y hy) z5
    have ex2 : ExtN H H2 := (ExtN.of fun b o e => by rw [upd_ne (ne_of_none e nl)]; exact e).trans ex
    have ha2 := ex2 _ _ ha fun _ z => nomatch z
    have hd2 := ex2 _ _ hd fun _ z => nomatch z
    have perm : ∀ x ∈ sortA ams, x ∈ ams := fun x hx => (List.mem_mergeSort.mp hx)
    have ltr : (trs fm).length = (sortA ams).length := by
      unfold trs
      rw [List.length_map, ← e2, ← sortA_map, List.length_map]
    refine ret_of ⟨_, rfl, p, rfl, ⟨_, SqL.of hp⟩, fun D nD => lc_it (walk_list (xs := (sortA ams).map fun x => V.ref x.1)) (fun i H' => SameB D H2 H' ∧ H' p = some (.lst ((sortA ams).map fun x => V.ref x.1)) ∧ ∃ zs : List (Addr × Addr), zs.length = i ∧ H' D = some (.lst (zs.map fun z => V.ref z.1)) ∧ TermsAt H' zs ((trs fm).take i) ∧ (zs.map (·.2)).Nodup ∧ ∀ z ∈ zs, H2 z.2 = none ∧ z.2 ≠ D)
      ⟨fun b o n e => by rw [upd_ne n]; exact e, by rw [upd_ne (ne_of_none hp nD)]; exact hp, [], rfl, upd_same, .nil, List.nodup_nil, fun z hz => absurd hz List.not_mem_nil⟩ (fun i H' _ q => SqL.of q.2.1) ?_ ?_⟩
    · rintro i x H0 H3 hi ⟨S, hp3, zs, lz, hD, tz, nd, fz⟩ ⟨rfl, hx⟩
      rw [List.length_map] at hi
      rw [List.getElem?_map] at hx
      obtain ⟨⟨b, m⟩, hbm, rfl⟩ := Option.map_eq_some_iff.mp hx
      have hmem := perm _ (List.mem_of_getElem? hbm)
      obtain ⟨q, hq⟩ := valM_mem (hin _ hmem)
      have nb : ∀ {c : Addr} {o : HO}, H2 c = some o → c ≠ D := fun e => ne_of_none e nD
      have tm : ∀ q xs, TupN H q xs → TupN H3 q xs := fun q xs ⟨o, h1, h2⟩ => by
        have h := ex2 _ _ h1 fun _ z => nomatch z
        exact ⟨o, S _ _ (nb h) h, h2⟩
      have hb3 := tm _ _ (key _ hmem)
      rcases hf.val m with ⟨_, er⟩ | ⟨b1, a1, q1, ev, eq1, sa⟩
      · rw [show valM fm m = some q from hq] at er
        cases er
      obtain rfl : q = q1 := Option.some.inj ((show valM fm m = some q from hq).symm.trans eq1)
      have sa2 : SqT K H3 a1 (frac q) := by
        rcases (sa.extN ex2) with (z | ⟨o, z⟩) | z
        · exact .inl (.inl (S _ _ (nb z) z))
        · exact .inl (.inr ⟨o, S _ _ (nb z) z⟩)
        · exact .inr z
      have dg : GetN P w K H3 d (.ref b) (some a1) := ⟨kvs, b, kS m, .inl (S _ _ (nb hd2) hd2), fun x hx => tm _ _ (hf.keys x hx), rfl, by rw [kS_kV]; exact hb3.sq, by rw [ev]; rfl⟩
      refine ⟨rfl, iteT (B := False) ⟨_, rfl, a, C, dx, _, _, rfl, S _ _ (nb ha2) ha2, T.cl, T.na, rfl, _, rfl, d, a1, rfl, dg, a1, frac q, rfl, .inl sa2, ⟨_, rfl, b, _, rfl, .inr hb3.sq, fun l2 nl2 => ⟨by show 3 ≤ sizeLine; decide, fun t H5 S5 nt ht => ?_⟩⟩⟩⟩
      have S35 : Same H3 H5 := (Same.upd nl2).trans S5
      have hl5 : H5 l2 = some (.lst (m.map V.str)) := S5 _ _ upd_same
      have nl2D : l2 ≠ D := (ne_of_none hD nl2).symm
      have hD5 := S35 _ _ hD
      have ntD : t ≠ D := ne_of ht hD5 (by intro z; cases z)
      have off : ∀ {c : Addr} {o u : HO}, c ≠ D → H3 c = some o → (upd H5 D u) c = some o := fun n e => by rw [upd_ne n]; exact S35 _ _ e
      refine ⟨_, hD5, ?_, S.to S35 |>.upd, off (nb hp) hp3, zs ++ [(t, l2)], by rw [List.length_append, lz]; rfl, by rw [upd_same, List.map_append]; rfl, ?_, ?_, ?_⟩
      · rw [List.length_map, lz]
        have : i < fm.length := by rw [← lam, ← List.length_mergeSort (le := PySem.W.dataLe false fun x => kM x.2)]; exact hi
        omega
      · have hti : (trs fm)[i]? = some (m, q) := by
          unfold trs
          rw [← e2, ← sortA_map, List.map_map, List.getElem?_map, hbm]
          show some (m, (valM fm m).getD 0) = _
          rw [show valM fm m = some q from hq]
          rfl
        rw [take_snoc hti]
        refine Paired.snoc (tz.imp fun z hz x hx => ?_) ⟨?_, ?_⟩
        · have n2 := (fz z hz).2
          have n1 : z.1 ≠ D := ne_of hx.1 hD (by intro w; cases w)
          exact ⟨off n1 hx.1, off n2 hx.2⟩
        · show (upd H5 D _) t = _
          rw [upd_ne ntD]
          exact ht
        · show (upd H5 D _) l2 = _
          rw [upd_ne nl2D]
          exact hl5
      · rw [List.map_append]
        refine List.nodup_append.mpr ⟨nd, List.nodup_cons.mpr ⟨List.not_mem_nil, List.nodup_nil⟩, fun x hx y hy => ?_⟩
        rw [List.mem_singleton.mp hy]
        rintro rfl
        obtain ⟨z, hz, e3⟩ := List.mem_map.mp hx
        obtain ⟨i2, hi2⟩ := List.mem_iff_getElem?.mp hz
        have hl2 := (List.getElem?_eq_some_iff.mp hi2).1
        obtain ⟨x2, hx2, tx⟩ := paired_get tz hi2
        have e4 := tx.2
        rw [e3] at e4
        rw [nl2] at e4
        cases e4
      · intro z hz
        rcases List.mem_append.mp hz with h | h
        · exact fz z h
        · rw [List.mem_singleton.mp h]
          refine ⟨?_, nl2D⟩
          cases e5 : H2 l2 with
          | none => rfl
          | some o =>
            have := S _ _ nl2D e5
            rw [nl2] at this
            cases this
    · rintro H3 ⟨S, hp3, zs, lz, hD, tz, nd, fz⟩
      rw [List.length_map, ← ltr] at tz
      rw [List.take_length] at tz
      have ex3 : ExtN H2 H3 := ExtN.of fun b o e => S _ _ (ne_of_none e nD) e
      exact k H3 D zs (ex2.trans ex3) (tb2.ext fun b o e => S _ _ (ne_of_none e nD) e) (newT_of ex2 nD) hD tz nd fun z hz => ⟨newT_of ex2 (fz z hz).1, (fz z hz).2⟩
end
end E2

set_option Elab.async false
set_option linter.all false
set_option maxRecDepth 100000
set_option maxHeartbeats 1000000
/-! max(xs, default=d) of whole numbers; t.count(x) of a tuple of texts -/
namespace L2
open PySem PySem.Spec PySem.Calls PyProof.Rows PySem.W
def hiI (d : Int) : List Int → Int
  | [] => d
  | y :: ys => maxOf y ys
def tMaxD (K : PySem.W.Frag) (te td : TE) : TE := fun σ H Q => te σ H fun v H1 => ∃ (l : Addr) (ns : List Int), v = .ref l ∧ SqL K H1 l (ns.map V.int) ∧ td σ H1 fun d H2 => ∃ z : Int, d = .int z ∧ H2 = H1 ∧ Q (.int (hiI z ns)) H2
theorem holds_ints {h : Heap} : ∀ {vs : List Value} {xs : List Int}, IntsAre vs xs → ReadsAll h vs (xs.map Datum.toD) []
  | _, _, .nil => .nil
  | _, _, .cons x t r => .cons (as := []) (.int x t) (holds_ints r)
section
variable {X : Cx} {e d : Expr} {te td : TE} {q kpos pos : Pos}
theorem pe_maxD (hr : Room 0 X.A) (hc : X.calm = true) (hg : Gl X "max") (hm : X.mg "max" = none) (he : PE X e te) (hd : PE X d td)
    (hes : backTo pos (starEach [e] X.env) = (false, eval e X.env) :: backTo pos (starEach [] X.env) := by rfl) (hpl : (backTo pos (starEach [e] X.env)).any (·.1) = false := by rfl) :
    PE X (.Call (.Name "max" q) [e] [⟨some "default", d, kpos⟩] pos) (tMaxD X.K te td) := by
  refine ⟨fun pins s σ H Q I h => ?_⟩
  refine wpAny_Call_Name_kw (ld_blt (u := .builtin "max") I hg hm (by decide +kernel) ?_)
  refine callWith_kw ?_ hes hpl rfl rfl
  rw [hes]
  refine spliced_cons (thn (he.run pins s σ H _ I h) fun u s1 ⟨v, H1, I1, rv, l, ns, ev, hl, q⟩ => spliced_nil ?_)
  subst ev
  obtain rfl : u = Value.ref l := rv
  show wpAny _ _ (evalAll [do let v ← eval d X.env; standAt pos; pure v]) _ _ s1
  refine wpAny_evalAll_cons (wpAny_bind (thn (hd.run pins s1 σ H1 _ I1 q) fun u2 s2 ⟨v2, H2, I2, rv2, z, ez, eH, q2⟩ => wpAny_bind (wpAny_standAt (wpAny_pure (wpAny_evalAll_nil ?_)))))
  subst ez eH
  obtain ⟨t2, rfl⟩ := rv2
  show wpAny _ _ (call (.builtin "max") [.ref l] [(Str.ofString "default", .int z t2)]) _ _ s2
  obtain ⟨its, rl, pl, hz2⟩ := I2.list hl
  refine max_list_datum_default (α := Int) (xs := ns) (I2.ok.hd hc) pl.isList ⟨[], holds_ints rl.ints⟩ ?_ (fun en h' tk kp => ?_) fun y ys i v h' tk en hi hv kp => ?_
  · show _ + 1 + 0 < cLine
    have := hr.un
    omega
  · subst en
    exact ⟨.int z, H2, I2.kept kp, ⟨_, rfl⟩, q2⟩
  · subst en
    obtain ⟨bs, rd⟩ := hv
    have rd' : Reads h' v (.int (maxOf y ys)) bs := rd
    cases rd' with
    | int _ t => exact ⟨.int _, H2, I2.kept kp, ⟨t, rfl⟩, q2⟩
end
/-! t.count(x) -/
def eqkS (k : Str) (v : Value) : Bool := match v with
  | .str s _ => s.cps.toList == k.cps.toList
  | _ => false
def cntS (k : Str) (ns : List Str) : Nat := ns.countP fun s => s.cps.toList == k.cps.toList
theorem eqkS_gives {k : Str} {t : Tok} : ∀ {us : List Value} {ns : List Str}, StrsAre us ns → ∀ y ∈ us, MeetsSeq.EqGives y (.str k t) (eqkS k y)
  | _, _, .nil => fun y hy => by cases hy
  | _, _, .cons n t' h => fun y hy => by
    rcases List.mem_cons.mp hy with e | e
    · rw [e]
      exact SeqRoads2.EqGives.str n k t' t
    · exact eqkS_gives h y e
theorem eqkS_count {k : Str} : ∀ {us : List Value} {ns : List Str}, StrsAre us ns → us.countP (eqkS k) = cntS k ns
  | _, _, .nil => rfl
  | _, _, .cons n t h => by
    have ih := eqkS_count (k := k) h
    unfold cntS at ih ⊢
    rw [List.countP_cons, List.countP_cons, ih]
    rfl
def rCntS (K : PySem.W.Frag) : V → List V → Hp → VK → Prop := fun x xs H Q => ∃ (p : Addr) (ns : List Str) (k : Str), x = .ref p ∧ xs = [.str k] ∧ SqT K H p (ns.map V.str) ∧ Q (.int (cntS k ns : Nat)) H
theorem mt_tcount {X : Cx} : MtM X "tuple.count" (rCntS X.K) := by
  intro pins s σ H x xs v us Q I rx rxs h
  obtain ⟨p, ns, k, rfl, rfl, hs, q⟩ := h
  cases rx
  obtain ⟨u, rfl, ru⟩ := rxs.one
  obtain ⟨t, rfl⟩ := ru
  obtain ⟨its, rv, tp, hlen⟩ := I.tuple hs
  obtain ⟨⟨cls, dd, data, sl⟩, ho, hc, n, hd⟩ := tp
  simp only at hc hd
  subst hc hd
  have hi := rv.strs
  refine call_meets PySem.F.slot_tuple_count ⟨_, ho, rfl⟩ PySem.F.entry_tuple_count (PySem.F.args_tuple_count_2 _ _)
    (SeqAt.tuple_countAt p its.toArray n dd sl (.str k t) (eqkS k)) ⟨ho, fun y hy => (eqkS_gives hi y (by simpa using hy)).at _ _, ?_⟩
  have ec : its.toArray.toList.countP (eqkS k) = cntS k ns := eqkS_count hi
  rw [ec]
  exact ⟨.int _, H, I.tok _, ⟨_, rfl⟩, q⟩
end L2

set_option Elab.async false
set_option linter.all false
set_option maxRecDepth 100000
set_option maxHeartbeats 1000000
/-! a.by_powers(name) -/
namespace L2
open PySem PySem.Spec PyProof.Rows
def tNewP (P : Program) (w : World) : TE := fun _ H Q => ∀ p, H p = none → Q (.ref p) (upd H p (DfO P w p []))
theorem pe_newP {X : Cx} {pos : Pos} : PE X (.Dict [] [] pos) (tNewP X.prog X.w) := pe_newD
end L2
namespace E2
open PySem PySem.Spec PyProof.Rows L2
open C8 (Cal Mak Met InsC pe_c pe_mt pe_mt0 call_isC clsBody)
abbrev sPut : Stmt := meth 11
abbrev sPow : Stmt := meth 12
def cntM (name : Str) (m : Mon) : Nat := cntS name m
def rstM (name : Str) (m : Mon) : Mon := m.filter fun x => !decide (V.str x = V.str name)
def hiN (name : Str) (fm : Fm) : Nat := (hiI 0 (fm.map fun x => (cntM name x.1 : Int))).toNat
def powStep (name : Str) (sh : List Fm) (x : Mon × Rat) : List Fm := sh.modify (cntM name x.1) fun f => putM f (rstM name x.1) x.2
def powF (name : Str) (fm : Fm) : List Fm := fm.foldl (powStep name) (List.replicate (hiN name fm + 1) [])
section
variable {P : Program} {w : World} {K : PySem.W.Frag} {mg : Str → Option Value} {base : Heap} {C : Addr}
theorem hiI_ge (ns : List Int) (h : ∀ n ∈ ns, 0 ≤ n) : (∀ n ∈ ns, n ≤ hiI 0 ns) ∧ (hiI 0 ns = 0 ∨ hiI 0 ns ∈ ns) := by
  cases ns with
  | nil => exact ⟨fun n hn => absurd hn List.not_mem_nil, .inl rfl⟩
  | cons y ys =>
    have key : ∀ (l : List Int) (a : Int), (∀ n ∈ l, n ≤ l.foldl (fun a y => if PySem.W.DatumOrd.lt a y = true then y else a) a) ∧ a ≤ l.foldl (fun a y => if PySem.W.DatumOrd.lt a y = true then y else a) a ∧ (l.foldl (fun a y => if PySem.W.DatumOrd.lt a y = true then y else a) a = a ∨ l.foldl (fun a y => if PySem.W.DatumOrd.lt a y = true then y else a) a ∈ l) := by
      intro l
      induction l with
      | nil => intro a; exact ⟨fun n hn => absurd hn List.not_mem_nil, Int.le_refl a, .inl rfl⟩
      | cons x r ih =>
        intro a
        rw [List.foldl_cons]
        have lt_iff : PySem.W.DatumOrd.lt a x = true ↔ a < x := by
          show decide (a < x) = true ↔ _
          exact decide_eq_true_iff
        by_cases c : a < x
        · rw [if_pos (lt_iff.mpr c)]
          obtain ⟨h1, h2, h3⟩ := ih x
          refine ⟨fun n hn => ?_, by omega, ?_⟩
          · rcases List.mem_cons.mp hn with rfl | hn
            · exact h2
            · exact h1 n hn
          · rcases h3 with h3 | h3
            · exact .inr (by rw [h3]; exact List.mem_cons_self)
            · exact .inr (List.mem_cons.mpr (.inr h3))
        · rw [if_neg fun z => c (lt_iff.mp z)]
          obtain ⟨h1, h2, h3⟩ := ih a
          refine ⟨fun n hn => ?_, h2, ?_⟩
          · rcases List.mem_cons.mp hn with rfl | hn
            · omega
            · exact h1 n hn
          · rcases h3 with h3 | h3
            · exact .inl h3
            · exact .inr (List.mem_cons.mpr (.inr h3))
    obtain ⟨h1, h2, h3⟩ := key ys y
    show (∀ n ∈ y :: ys, n ≤ PySem.W.maxOf y ys) ∧ (PySem.W.maxOf y ys = 0 ∨ PySem.W.maxOf y ys ∈ y :: ys)
    unfold PySem.W.maxOf
    refine ⟨fun n hn => ?_, .inr ?_⟩
    · rcases List.mem_cons.mp hn with rfl | hn
      · exact h2
      · exact h1 n hn
    · rcases h3 with h3 | h3
      · rw [h3]; exact List.mem_cons_self
      · exact List.mem_cons.mpr (.inr h3)
theorem putM_len (f : Fm) (m : Mon) (q : Rat) : (putM f m q).length ≤ f.length + 1 := by
  unfold putM
  split
  · rw [List.length_map]; omega
  · rw [List.length_append]; simp
def foldP (name : Str) (n : Nat) (fm : Fm) : List Fm := fm.foldl (powStep name) (List.replicate n [])
theorem foldP_len (name : Str) (n : Nat) (fm : Fm) : (foldP name n fm).length = n := by
  have : ∀ (l : Fm) (sh : List Fm), (l.foldl (powStep name) sh).length = sh.length := by
    intro l
    induction l with
    | nil => intro _; rfl
    | cons x l ih => intro sh; rw [List.foldl_cons, ih]; exact List.length_modify _ _ _
  unfold foldP
  rw [this, List.length_replicate]
theorem foldP_snoc {name : Str} {n : Nat} {fm : Fm} {i : Nat} {x : Mon × Rat} (h : fm[i]? = some x) : foldP name n (fm.take (i + 1)) = powStep name (foldP name n (fm.take i)) x := by
  unfold foldP
  rw [take_snoc h, List.foldl_append]; rfl
theorem foldP_few (name : Str) (n : Nat) (fm : Fm) : ∀ f ∈ foldP name n fm, f.length ≤ fm.length := by
  have : ∀ (l : Fm) (sh : List Fm) (k : Nat), (∀ f ∈ sh, f.length ≤ k) → ∀ f ∈ l.foldl (powStep name) sh, f.length ≤ k + l.length := by
    intro l
    induction l with
    | nil => intro sh k h; exact h
    | cons x l ih =>
      intro sh k h f hf
      have := ih (powStep name sh x) (k + 1) (fun g hg => by
        obtain ⟨j, hj, e⟩ := List.mem_iff_getElem.mp hg
        have e2 := List.getElem?_eq_getElem hj
        unfold powStep at e2
        rw [List.getElem?_modify] at e2
        cases o : sh[j]? with
        | none => rw [o] at e2; cases e2
        | some g0 =>
          have g1 := h g0 (List.mem_of_getElem? o)
          rw [o] at e2
          have e3 := Option.some.inj e2
          rw [← e, ← show _ = (powStep name sh x)[j] from e3]
          dsimp only
          split
          · exact Nat.le_trans (putM_len _ _ _) (by omega)
          · exact Nat.le_trans g1 (Nat.le_succ k)) f hf
      rw [List.length_cons]; omega
  have := this fm (List.replicate n []) 0 fun f hf => by rw [List.eq_of_mem_replicate hf]; exact Nat.le_refl 0
  unfold foldP
  intro f hf
  have := this f hf
  omega
/-- all but some dicts as it was -/
theorem Mv.but {ds : List Addr} {H H' : Hp} (S : ∀ b o, b ∉ ds → H b = some o → H' b = some o) (hn : ∀ b ∈ ds, ∃ u, H b = some u ∧ NoTup u) : Mv K H H' := by
  constructor
  · intro a xs h
    rcases h with (h | ⟨o, h⟩) | h
    · refine .inl (.inl (S _ _ (fun z => ?_) h))
      obtain ⟨u, e, n⟩ := hn a z
      rw [h] at e
      exact n.1 xs (Option.some.inj e).symm
    · refine .inl (.inr ⟨o, S _ _ (fun z => ?_) h⟩)
      obtain ⟨u, e, n⟩ := hn a z
      rw [h] at e
      exact n.2 o xs (Option.some.inj e).symm
    · exact .inr h
  · rintro q xs ⟨o, h1, h2⟩
    refine ⟨o, S _ _ (fun z => ?_) h1, h2⟩
    obtain ⟨u, e, n⟩ := hn q z
    rw [h1] at e
    exact n.2 o xs (Option.some.inj e).symm
theorem noTup_lst {xs : List V} : NoTup (.lst xs) := ⟨fun _ z => (nomatch z), fun _ _ z => (nomatch z)⟩
theorem FmAt.sameL {D : Addr} {H H' : Hp} {b : Addr} {f : Fm} {xs : List V} (h : FmAt P w K C H b f) (S : SameB D H H') (hD : H D = some (.lst xs)) : FmAt P w K C H' b f := by
  obtain ⟨dx, d, kvs, h1, h2, h3⟩ := h
  refine ⟨dx, d, kvs, S _ _ (fun z => ?_) h1, S _ _ (fun z => ?_) h2, h3.imp (.sameB S hD noTup_lst)⟩
  · rw [z, hD] at h1; cases h1
  · rw [z, hD] at h2; exact absurd (Option.some.inj h2).symm (fun z => nomatch (show HO.ext _ = _ from z))
theorem nodup_ix {α : Type} : ∀ {l : List α}, l.Nodup → ∀ {i j : Nat} {x : α}, l[i]? = some x → l[j]? = some x → i = j
  | [], _, _, _, _, h, _ => by simp at h
  | a :: l, n, 0, 0, _, _, _ => rfl
  | a :: l, n, 0, j + 1, x, h, g => by
    obtain rfl := Option.some.inj h
    exact absurd (List.mem_of_getElem? (show l[j]? = some a from g)) (List.nodup_cons.mp n).1
  | a :: l, n, i + 1, 0, x, h, g => by
    obtain rfl := Option.some.inj g
    exact absurd (List.mem_of_getElem? (show l[i]? = some a from h)) (List.nodup_cons.mp n).1
  | a :: l, n, i + 1, j + 1, x, h, g => congrArg (· + 1) (nodup_ix (List.nodup_cons.mp n).2 h g)
theorem cnt_le (name : Str) (m : Mon) : cntM name m ≤ m.length := List.countP_le_length
theorem hiN_spec (name : Str) (fm : Fm) : hiI 0 (fm.map fun x => (cntM name x.1 : Int)) = (hiN name fm : Int) ∧ ∀ x ∈ fm, cntM name x.1 ≤ hiN name fm := by
  obtain ⟨h1, h2⟩ := hiI_ge (fm.map fun x => (cntM name x.1 : Int)) fun n hn => by
    obtain ⟨x, _, rfl⟩ := List.mem_map.mp hn
    exact Int.natCast_nonneg _
  have nn : 0 ≤ hiI 0 (fm.map fun x => (cntM name x.1 : Int)) := by
    rcases h2 with h2 | h2
    · omega
    · obtain ⟨x, _, e⟩ := List.mem_map.mp h2
      rw [← e]
      exact Int.natCast_nonneg _
  have e : hiI 0 (fm.map fun x => (cntM name x.1 : Int)) = (hiN name fm : Int) := (Int.toNat_of_nonneg nn).symm
  refine ⟨e, fun x hx => ?_⟩
  have := h1 _ (List.mem_map.mpr ⟨x, hx, rfl⟩)
  rw [e] at this
  exact Int.ofNat_le.mp this
theorem hiN_le (name : Str) {fm : Fm} {B : Nat} (h : ∀ x ∈ fm, x.1.length ≤ B) : hiN name fm ≤ B := by
  obtain ⟨_, h2⟩ := hiI_ge (fm.map fun x => (cntM name x.1 : Int)) fun n hn => by
    obtain ⟨x, _, rfl⟩ := List.mem_map.mp hn
    exact Int.natCast_nonneg _
  have e := (hiN_spec name fm).1
  rcases h2 with h2 | h2
  · rw [e] at h2
    have : hiN name fm = 0 := by omega
    omega
  · obtain ⟨x, hx, e3⟩ := List.mem_map.mp h2
    rw [e] at e3
    have h4 : cntM name x.1 = hiN name fm := Int.ofNat.inj e3
    rw [← h4]
    exact Nat.le_trans (cnt_le name x.1) (h x hx)
theorem scPow : FnScope ["self", "name", "highest", "shares", "names", "worth", "rest", "_", "kept", "share"] ["self", "name"] (defScope sPow) := ⟨rfl, rfl, rfl, by decide +kernel, rfl, by decide +kernel, by decide +kernel⟩
def spPow (P : Program) (w : World) (K : PySem.W.Frag) (C : Addr) : Sp := fun vs H Q _ => ∃ a name fm, vs = [.ref a, .str name] ∧ FmAt P w K C H a fm ∧ (fm.map (·.1)).Nodup ∧ fm.length ≤ 100000 ∧ (∀ x ∈ fm, x.1.length ≤ 100000) ∧
  ∀ H' p (as : List Addr), Same H H' → H p = none → H' p = some (.lst (as.map V.ref)) → as.length = (powF name fm).length → (∀ (j : Nat) (b : Addr) (f : Fm), as[j]? = some b → (powF name fm)[j]? = some f → FmAt P w K C H' b f) → Q (.ref p) H'
theorem ok_pow {f : Addr} {fd : FuncData} (F : Fun K "by_powers" "Form.by_powers" sPow f fd) (T : Fx P w K mg base C) (B3 : Bt3 mg) (hmax : mg "max" = none) (hrng : mg "range" = none) : FnOk P w K mg base CX0 3 f fd ["self", "name"] (spPow P w K C) := by
  refine F.ok scPow (fun vs H Q E h => ?_) (fun cdv A outer s H vs Q E hr h => ?_)
  · obtain ⟨a, name, fm, rfl, _⟩ := h
    rfl
  · obtain ⟨a, name, fm, rfl, ⟨dx, d, kvs, ha, hd, hf⟩, hn, hl, hml, k⟩ := h
    have u1 := Nat.lt_of_le_of_lt (Nat.add_le_add_left (by decide : 1 ≤ 64) _) hr.units
    refine ⟨_, pss_cons (ps_set (i := 2) scPow.nd rfl (Or.inl rfl) (pe_maxD (hr.mono (by decide)) rfl (by rfl) hmax (pe_lock (pe_lc (own := [("names", 4)]) (g := gName 4) (tt := tYes) (te := tTM (rCntS K) (tVar 4) (tCons (tVar 1) tNil)) rfl scPow.nd (pi_keysN (pe_fld (pv 0) rfl))
        (blkOk_by (own := [("names", 4)]) (N := ["self", "name", "highest", "shares", "names", "worth", "rest", "_", "kept", "share"]) (sc := defScope sPow) (by decide +kernel))
        (fun _ _ _ _ _ => pg_name (i := 4) scPow.nd rfl (Or.inl rfl)) (fun _ _ _ _ _ => pts_nil) (fun _ _ _ _ _ => by exact pe_tm PySem.F.plainAttrs_tuple PySem.F.slot_tuple_count PySem.F.type_tuple_count mt_tcount (pv 4) (pa_cons (pv 1) pa_nil)))) pe_int))
      (pss_cons (ps_setLc (i := 3) (own := [("_", 7)]) (g := gName 7) (tt := tYes) (te := tNewP P w) (by rfl) scPow.nd rfl rfl (sw_true rfl rfl rfl (by decide +kernel)) (pi_range1 rfl hrng (pa_cons (pe_op op_add (pv 2) pe_int) pa_nil))
        (blkOk_by (own := [("_", 7)]) (N := ["self", "name", "highest", "shares", "names", "worth", "rest", "_", "kept", "share"]) (sc := defScope sPow) (by decide +kernel))
        (fun _ _ _ _ _ => pg_name (i := 7) scPow.nd rfl (Or.inl rfl)) (fun _ _ _ _ _ => pts_nil) (fun _ _ _ _ _ => by exact pe_newP))
      (pss_cons (ps_lockO (ps_for PassesOwn.never rfl (pi_itemsN (pe_fld (pv 0) rfl)) (pg_tup rfl (pgs_cons (pg_name (i := 4) scPow.nd rfl (Or.inl rfl)) (pgs_cons (pg_name (i := 5) scPow.nd rfl (Or.inl rfl)) pgs_nil)))
        (pss_cons (ps_set (i := 6) scPow.nd rfl (Or.inl rfl) (pe_callTy cr_tupN (by rfl) B3.tup_ (by decide +kernel) (pa_cons (pe_lc (own := [("kept", 8)]) (g := gName 8) (tt := tTest (tOp rNe (tVar 8) (tVar 1))) (te := tVar 8) rfl scPow.nd (pi_tup (pv 4))
          (blkOk_by (own := [("kept", 8)]) (N := ["self", "name", "highest", "shares", "names", "worth", "rest", "_", "kept", "share"]) (sc := defScope sPow) (by decide +kernel))
          (fun _ _ _ _ _ => pg_name (i := 8) scPow.nd rfl (Or.inl rfl)) (fun _ _ _ _ _ => pts_one (by exact pt_cmpR op_ne (pv 8) (pv 1) (nomark _))) (fun _ _ _ _ _ => pv 8)) pa_nil)))
        (pss_one (ps_asg (pv 5) (pg_sub (pe_ix ix_list (pv 3) (pe_tm PySem.F.plainAttrs_tuple PySem.F.slot_tuple_count PySem.F.type_tuple_count mt_tcount (pv 4) (pa_cons (pv 1) pa_nil)) (fun _ _ => rfl)) (pv 6) (set_df u1)))))))
      (pss_one (ps_ret (pe_lc (own := [("share", 9)]) (g := gName 9) (tt := tYes) (te := tMkF C (tVar 9)) rfl scPow.nd (pi_list (pv 3))
        (blkOk_by (own := [("share", 9)]) (N := ["self", "name", "highest", "shares", "names", "worth", "rest", "_", "kept", "share"]) (sc := defScope sPow) (by decide +kernel))
        (fun _ _ _ _ _ => pg_name (i := 9) scPow.nd rfl (Or.inl rfl)) (fun _ _ _ _ _ => pts_nil) (fun _ _ _ _ _ => by exact pe_mkF T.maks hr (by decide) rfl (pv 9))))))), ?_⟩
    have nad : a ≠ d := ne_of ha hd (by intro z; cases z)
    have z5 : (300000 : Nat) ≤ sizeLine := by rw [sizeLine_eq]; decide
    obtain ⟨hie, hic⟩ := hiN_spec name fm
    have hib := hiN_le name hml
    refine seq_asg (te_mid (fun x H' => x = .int (hiN name fm : Nat) ∧ Same H H') (fun R hR => ?_) ?_)
    · refine ⟨d, DfO P w d kvs, hd, trivial, fun od => ?_⟩
      have h1 : (upd H d (.frz od (DfO P w d kvs))) d = some (.frz od (DfO P w d kvs)) := upd_same
      have hf1 : FmKv K (upd H d (.frz od (DfO P w d kvs))) kvs fm := hf.imp (.off hd noTup_df)
      refine ⟨_, rfl, a, C, dx, _, _, rfl, by rw [upd_ne nad]; exact ha, T.cl, T.na, rfl, d, od, kvs, rfl, upd_same, fun D nD => ?_⟩
      have neD : D ≠ d := by
        rintro rfl
        rw [upd_same] at nD
        cases nD
      have nDH : H D = none := by rwa [upd_ne neD] at nD
      have S0 : ∀ z : HO, Same H (upd (upd (upd H d (.frz od (DfO P w d kvs))) D z) d (DfO P w d kvs)) := fun z b o e => by
        by_cases c : b = d
        · subst c
          rw [upd_same, ← hd, e]
        · rw [upd_ne c, upd_ne (ne_of_none e nDH), upd_ne c]
          exact e
      generalize hH1 : upd H d (.frz od (DfO P w d kvs)) = H1 at hf1 nD h1 S0 ⊢
      refine lc_it walk_keysN (fun i H' => H' = upd H1 D (.lst (((fm.take i).map fun x => (cntM name x.1 : Int)).map V.int))) rfl (fun i H' _ e => by rw [e, upd_ne (Ne.symm neD)]; exact h1) ?_ ?_
      · rintro i x H' H'' hi rfl ⟨rfl, kk, b, av, hkv, rfl⟩
        obtain ⟨m, q, b', a1, hm, e, tb, sa⟩ := hf1.get hkv
        obtain ⟨rfl, e2⟩ := Prod.mk.inj e
        obtain ⟨rfl, rfl⟩ := Prod.mk.inj e2
        rw [kS_kV] at tb
        have tb2 := tb.same (Same.upd (o := .lst (((fm.take i).map fun x => (cntM name x.1 : Int)).map V.int)) nD)
        have hil : i < fm.length := by rw [← hf.length]; exact hi
        refine ⟨rfl, iteT (B := False) ⟨_, rfl, b, _, rfl, tb2, _, rfl, b, m, name, rfl, rfl, tb2.sq, _, upd_same, ?_, ?_⟩⟩
        · rw [List.length_map, List.length_map, List.length_take]
          omega
        · rw [upd_upd, take_snoc hm, List.map_append, List.map_append]
          rfl
      · rintro H' rfl
        rw [hf.length, List.take_length]
        refine ⟨by rw [upd_ne (Ne.symm neD)]; exact h1, D, fm.map (fun x => (cntM name x.1 : Int)), rfl, SqL.of (by rw [upd_ne neD]; exact upd_same), 0, rfl, rfl, ?_⟩
        rw [hie]
        exact hR _ _ ⟨rfl, S0 _⟩
    rintro _ H2 ⟨rfl, S2⟩
    refine seq_asg (te_mid (fun x H' => ∃ (D : Addr) (ds : List Addr), x = .ref D ∧ Same H2 H' ∧ H2 D = none ∧ H' D = some (.lst (ds.map V.ref)) ∧ ds.length = hiN name fm + 1 ∧ ds.Nodup ∧ ∀ b ∈ ds, H' b = some (DfO P w b []) ∧ H2 b = none ∧ b ≠ D) (fun R hR => ?_) ?_)
    · refine ⟨_, rfl, _, _, rfl, rfl, _, rfl, by omega, by omega, fun D nD => lc_range (lo := 0) (n := ((hiN name fm : Int) + 1).toNat) (fun i H' => SameB D H2 H' ∧ ∃ ds : List Addr, H' D = some (.lst (ds.map V.ref)) ∧ ds.length = i ∧ ds.Nodup ∧ ∀ b ∈ ds, H' b = some (DfO P w b []) ∧ H2 b = none ∧ b ≠ D) ⟨fun b o n e => by rw [upd_ne n]; exact e, [], upd_same, rfl, List.nodup_nil, fun b hb => absurd hb List.not_mem_nil⟩ ?_ ?_⟩
      · rintro i H3 hi ⟨S3, ds, hD, ln, nd, hds⟩
        refine ⟨rfl, iteT (B := False) fun p np => ?_⟩
        have npD : p ≠ D := by rintro rfl; rw [hD] at np; cases np
        have nps : p ∉ ds := fun z => by rw [(hds p z).1] at np; cases np
        refine ⟨_, by rw [upd_ne (Ne.symm npD)]; exact hD, by rw [List.length_map]; omega, ?_, ds ++ [p], by rw [upd_same, List.map_append]; rfl, by rw [List.length_append, ln]; rfl, ?_, ?_⟩
        · intro b o n e
          rw [upd_ne n, upd_ne (ne_of_none (S3 _ _ n e) np)]
          exact S3 _ _ n e
        · exact List.nodup_append.mpr ⟨nd, List.nodup_cons.mpr ⟨List.not_mem_nil, List.nodup_nil⟩, fun x hx y hy e => nps (by rw [List.mem_singleton.mp hy] at e; rw [← e]; exact hx)⟩
        · intro b hb
          rcases List.mem_append.mp hb with hb | hb
          · obtain ⟨g1, g2, g3⟩ := hds b hb
            exact ⟨by rw [upd_ne g3, upd_ne (show b ≠ p from fun e => nps (by rw [← e]; exact hb))]; exact g1, g2, g3⟩
          · rw [List.mem_singleton.mp hb]
            refine ⟨by rw [upd_ne npD]; exact upd_same, ?_, npD⟩
            cases e : H2 p with
            | none => rfl
            | some o => rw [S3 _ _ npD e] at np; cases np
      · rintro H3 ⟨S3, ds, hD, ln, nd, hds⟩
        exact hR _ _ ⟨D, ds, rfl, fun b o e => S3 _ _ (ne_of_none e nD) e, nD, hD, by omega, nd, hds⟩
    rintro _ H3 ⟨D, ds, rfl, S3, nD, hD, ln, nd, hds⟩
    have S23 := S2.trans S3
    have hd3 := S23 _ _ hd
    have ha3 := S23 _ _ ha
    have dns : ∀ b ∈ ds, b ≠ d ∧ b ≠ a ∧ b ≠ D := by
      intro b hb
      have hb2 := (hds b hb).2.1
      refine ⟨fun z => ?_, fun z => ?_, (hds b hb).2.2⟩
      · rw [z, S2 _ _ hd] at hb2; cases hb2
      · rw [z, S2 _ _ ha] at hb2; cases hb2
    have nDd : D ≠ d := fun z => by rw [z, S2 _ _ hd] at nD; cases nD
    have pf : powF name fm = foldP name (hiN name fm + 1) fm := rfl
    refine seq_lockO (for_itemsO (l := kvs) (fm := fm) (d := d) (.inl hd3) (hf.same S23) (fun od Hl L R h => ⟨_, rfl, a, C, dx, _, _, rfl, by rw [L.off a nad]; exact ha3, T.cl, T.na, rfl, h⟩)
      (fun od Hl i σ' H' => (∃ u4 u5 u6 u7 u8 u9, σ' = [some (.ref a), some (.str name), some (.int (hiN name fm : Nat)), some (.ref D), u4, u5, u6, u7, u8, u9]) ∧ (∀ b o, b ∉ ds → Hl b = some o → H' b = some o) ∧ ∀ (j : Nat) (b : Addr) (f : Fm), ds[j]? = some b → (foldP name (hiN name fm + 1) (fm.take i))[j]? = some f → ∃ l', H' b = some (DfO P w b l') ∧ FmKv K H' l' f) ?_ ?_ ?_ ?_)
    · intro od Hl L
      refine ⟨⟨none, none, none, none, none, none, rfl⟩, fun b o _ h => h, fun j b f hb hf0 => ?_⟩
      have hm := List.mem_of_getElem? hb
      obtain ⟨n1, n2, n3⟩ := dns b hm
      have e : f = [] := by
        rw [List.take_zero] at hf0
        exact List.eq_of_mem_replicate (List.mem_of_getElem? hf0)
      rw [e]
      exact ⟨[], by rw [L.off b n1]; exact (hds b hm).1, .nil⟩
    · rintro od Hl L i σ' H' ⟨_, S, _⟩
      exact ⟨S _ _ (fun z => (dns d z).1 rfl) L.at_, Mv.but S fun b hb => ⟨_, by rw [L.off b (dns b hb).1]; exact (hds b hb).1, noTup_df⟩⟩
    · rintro od Hl L i m q σ' H' T1 k1 a1 rt bk hm ⟨⟨u4, u5, u6, u7, u8, u9, rfl⟩, S, hsh⟩ nT hk1 sa1
      have hmi := List.mem_of_getElem? hm
      have ml : m.length ≤ 100000 := hml _ hmi
      have il : i < fm.length := (List.getElem?_eq_some_iff.mp hm).1
      have cl : cntM name m ≤ hiN name fm := hic _ hmi
      refine ⟨T1, _, rfl, SqT.of upd_same, rfl, _, _, rfl, _, _, rfl, rfl, ?_⟩
      have S2' : Same H' (upd H' T1 (.tup [.ref k1, .ref a1])) := Same.upd nT
      have sa2 := sa1.same S2'
      have hk2 := hk1.same S2'
      have hsh2 : ∀ (j : Nat) (b : Addr) (f : Fm), ds[j]? = some b → (foldP name (hiN name fm + 1) (fm.take i))[j]? = some f → ∃ l', (upd H' T1 (.tup [.ref k1, .ref a1])) b = some (DfO P w b l') ∧ FmKv K (upd H' T1 (.tup [.ref k1, .ref a1])) l' f := fun j b f h1 h2 => by
        obtain ⟨l', h3, h4⟩ := hsh j b f h1 h2
        exact ⟨l', S2' _ _ h3, h4.same S2'⟩
      have Sx : ∀ b o, b ∉ ds → Hl b = some o → (upd H' T1 (.tup [.ref k1, .ref a1])) b = some o := fun b o n h => S2' _ _ (S b o n h)
      generalize upd H' T1 (.tup [.ref k1, .ref a1]) = H4 at sa2 hk2 hsh2 Sx
      rw [kS_kV] at hk2
      refine seq_asg (te_mid (fun x H5 => ∃ rq, x = V.ref rq ∧ Same H4 H5 ∧ TupN H5 rq ((rstM name m).map V.str)) (fun R hR => ?_) ?_)
      · refine ⟨_, rfl, k1, rfl, ⟨_, hk2.sq⟩, fun D5 nD5 => lc_it (walk_tup (xs := m.map V.str)) (fun j H5 => SameB D5 H4 H5 ∧ H5 D5 = some (.lst ((rstM name (m.take j)).map V.str))) ⟨fun c o nc hc => by rw [upd_ne nc]; exact hc, upd_same⟩ (fun j H5 _ z => (hk2.sameB z.1 (fun e => by obtain ⟨o, h1, _⟩ := hk2; rw [← e, h1] at nD5; cases nD5)).sq) ?_ ?_⟩
        · rintro j x H5 H6 hj ⟨S5, h5⟩ ⟨rfl, hx⟩
          rw [List.length_map] at hj
          rw [List.getElem?_map, List.getElem?_eq_getElem hj] at hx
          obtain rfl := Option.some.inj hx
          have es : m.take (j + 1) = m.take j ++ [m[j]] := take_snoc (List.getElem?_eq_getElem hj)
          refine ⟨rfl, _, rfl, _, rfl, rfl, _, rfl, ?_⟩
          by_cases hc : V.str m[j] = V.str name
          · rw [decide_eq_true hc]
            refine ifF rfl ⟨S5, ?_⟩
            rw [h5, es]
            unfold rstM
            rw [List.filter_append, List.filter_cons, decide_eq_true hc]
            simp
          · rw [decide_eq_false hc]
            refine ifT rfl ⟨_, rfl, _, h5, ?_, S5.upd, ?_⟩
            · rw [List.length_map, sizeLine_eq]
              unfold rstM
              have := List.length_filter_le (fun x => !decide (V.str x = V.str name)) (m.take j)
              rw [List.length_take] at this
              omega
            · rw [upd_same, es]
              unfold rstM
              rw [List.filter_append, List.filter_cons, decide_eq_false hc]
              simp
        · rintro H5 ⟨S5, h5⟩
          rw [List.length_map, List.take_length] at h5
          refine ⟨D5, _, rfl, SqL.of h5, fun rq H6 S6 nq tq => hR _ _ ⟨rq, rfl, ?_, tq⟩⟩
          exact fun b o e => S6 _ _ (S5 _ _ (ne_of_none e nD5) e)
      rintro _ H5 ⟨rq, rfl, S5, tq⟩
      have hsh3 : ∀ (j : Nat) (b : Addr) (f : Fm), ds[j]? = some b → (foldP name (hiN name fm + 1) (fm.take i))[j]? = some f → ∃ l', H5 b = some (DfO P w b l') ∧ FmKv K H5 l' f := fun j b f h1 h2 => by
        obtain ⟨l', h3, h4⟩ := hsh2 j b f h1 h2
        exact ⟨l', S5 _ _ h3, h4.same S5⟩
      have hk5 := hk2.same S5
      have sa5 := sa2.same S5
      have Sy : ∀ b o, b ∉ ds → Hl b = some o → H5 b = some o := fun b o n h => S5 _ _ (Sx b o n h)
      have hD5 : H5 D = some (.lst (ds.map V.ref)) := Sy _ _ (fun z => (dns D z).2.2 rfl) (by rw [L.off D nDd]; exact hD)
      have jl : cntM name m < ds.length := by omega
      have hbj := List.getElem?_eq_getElem jl
      have fl := foldP_len name (hiN name fm + 1) (fm.take i)
      have hfj := List.getElem?_eq_getElem (show cntM name m < (foldP name (hiN name fm + 1) (fm.take i)).length by omega)
      obtain ⟨l', h3, h4⟩ := hsh3 _ _ _ hbj hfj
      have few := foldP_few name (hiN name fm + 1) (fm.take i) _ (List.mem_of_getElem? hfj)
      have fs := foldP_snoc (name := name) (n := hiN name fm + 1) hm
      generalize hfg : (foldP name (hiN name fm + 1) (fm.take i))[cntM name m] = fj at hfj h4 few
      generalize hbg : ds[cntM name m] = bj at hbj h3
      have kd : ((kS (rstM name m)).map kV) = (rstM name m).map V.str := kS_kV _
      refine ⟨_, rfl, _, rfl, _, rfl, k1, _, rfl, hk5, _, rfl, k1, m, name, rfl, rfl, hk5.sq, D, _, _, _, rfl, rfl, SqL.of hD5, atI_nat (by rw [List.getElem?_map, show ds[cntS name m]? = some bj from hbj]; rfl), _, rfl, bj, rq, a1, l', kS (rstM name m), rfl, rfl, rfl, h3, h4.keys, by rw [kd]; exact tq.sq, ?_, ?_⟩
      · rw [h4.length, sizeLine_eq]
        rw [List.length_take] at few
        omega
      · have kv2 := h4.put (rstM name m) (q := q) (by rw [kd]; exact tq) sa5
        have mv : Mv K H5 (upd H5 bj (DfO P w bj (putN l' (kS (rstM name m)) rq a1))) := .off h3 noTup_df
        refine ⟨⟨_, _, _, _, _, _, rfl⟩, fun b o n h => ?_, fun j b f hb hf2 => ?_⟩
        · rw [upd_ne (fun z => n (by rw [z]; exact List.mem_of_getElem? hbj))]
          exact Sy b o n h
        · rw [fs] at hf2
          unfold powStep at hf2
          rw [List.getElem?_modify] at hf2
          by_cases ej : cntM name m = j
          · subst ej
            rw [hbj] at hb
            obtain rfl := Option.some.inj hb
            rw [hfj] at hf2
            have e3 : putM fj (rstM name m) q = f := by simpa using hf2
            rw [← e3]
            exact ⟨_, upd_same, kv2.imp mv⟩
          · have hf3 : (foldP name (hiN name fm + 1) (fm.take i))[j]? = some f := by
              cases o : (foldP name (hiN name fm + 1) (fm.take i))[j]? with
              | none => rw [o] at hf2; cases hf2
              | some g0 =>
                rw [o] at hf2
                have e3 : g0 = f := by simpa [ej] using hf2
                rw [e3]
            obtain ⟨l2, h5, h6⟩ := hsh3 j b f hb hf3
            have nb : b ≠ bj := fun z => ej (nodup_ix nd hbj (by rw [← z]; exact hb))
            exact ⟨l2, by rw [upd_ne nb]; exact h5, h6.imp mv⟩
    · rintro od Hl L σ' H' Hu ⟨⟨u4, u5, u6, u7, u8, u9, rfl⟩, S, hsh⟩ hu1 hu2
      rw [List.take_length, ← pf] at hsh
      have lk := S _ _ (fun z => (dns d z).1 rfl) L.at_
      have SU : Same H Hu := fun b o e => by
        have e3 := S23 b o e
        by_cases c : b = d
        · rw [c, hu1, ← c]; exact e3
        · rw [hu2 b c]
          refine S b o (fun z => ?_) (by rw [L.off b c]; exact e3)
          have := (hds b z).2.1
          rw [S2 b o e] at this
          cases this
      have hf3 : ∀ (j : Nat) (b : Addr) (f : Fm), ds[j]? = some b → (powF name fm)[j]? = some f → ∃ l', Hu b = some (DfO P w b l') ∧ FmKv K Hu l' f := fun j b f h1 h2 => by
        obtain ⟨l', h3, h4⟩ := hsh j b f h1 h2
        exact ⟨l', by rw [hu2 b (dns b (List.mem_of_getElem? h1)).1]; exact h3, h4.imp (.agree lk noTup_fz hu2)⟩
      have hDu : Hu D = some (.lst (ds.map V.ref)) := by
        rw [hu2 D nDd]
        exact S _ _ (fun z => (dns D z).2.2 rfl) (by rw [L.off D nDd]; exact hD)
      have lp : (powF name fm).length = hiN name fm + 1 := by rw [pf]; exact foldP_len _ _ _
      refine ⟨_, rfl, D, rfl, ⟨_, SqL.of hDu⟩, fun D6 nD6 => lc_it walk_list (fun i H6 => Same Hu H6 ∧ ∃ as : List Addr, H6 D6 = some (.lst (as.map V.ref)) ∧ as.length = i ∧ ∀ (j : Nat) (b : Addr) (f : Fm), as[j]? = some b → (powF name fm)[j]? = some f → FmAt P w K C H6 b f) ⟨Same.upd nD6, [], upd_same, rfl, fun j b f z => by simp at z⟩ (fun i H6 _ z => (SqL.of hDu).same z.1) ?_ ?_⟩
      · rintro i x H6 H7 hi ⟨S6, as, h6, ln6, has⟩ ⟨rfl, hx⟩
        rw [List.length_map] at hi
        rw [List.getElem?_map, List.getElem?_eq_getElem hi] at hx
        obtain rfl := Option.some.inj hx
        refine ⟨rfl, iteT (B := False) ⟨_, rfl, fun a7 dx7 H7 S7 n7 e7 => ⟨_, S7 _ _ h6, ?_, ?_, as ++ [a7], by rw [upd_same, List.map_append]; rfl, by rw [List.length_append, ln6]; rfl, ?_⟩⟩⟩
        · rw [List.length_map]; omega
        · exact fun b o e => by rw [upd_ne (ne_of_none e nD6)]; exact S7 _ _ (S6 _ _ e)
        · intro j b f hb hf0
          by_cases c : j < as.length
          · rw [List.getElem?_append_left c] at hb
            exact FmAt.sameL ((has j b f hb hf0).same S7) (SameB.refl _ _).upd (S7 _ _ h6)
          · have ej : j = as.length := by
              have := (List.getElem?_eq_some_iff.mp hb).1
              simp at this
              omega
            subst ej
            rw [List.getElem?_append_right (Nat.le_refl _)] at hb
            have eb : a7 = b := by simpa using hb
            subst eb
            obtain ⟨l', g1, g2⟩ := hf3 i ds[i] f (List.getElem?_eq_getElem hi) (by rw [← ln6]; exact hf0)
            exact FmAt.sameL ⟨dx7, ds[i], l', e7, S7 _ _ (S6 _ _ g1), (g2.same S6).same S7⟩ (SameB.refl _ _).upd (S7 _ _ h6)
      · rintro H6 ⟨S6, as, h6, ln6, has⟩
        rw [List.length_map] at ln6
        exact k H6 D6 as (SU.trans S6) (by
          cases e : H D6 with
          | none => rfl
          | some o => rw [SU _ _ e] at nD6; cases nD6) h6 (by omega) has
end
end E2

set_option Elab.async false
set_option linter.all false
set_option maxRecDepth 100000
set_option maxHeartbeats 1000000
/-! a.put(name, other) -/
namespace E2
open PySem PySem.Spec PyProof.Rows L2
open C8 (Cal Mak Met InsC pe_c pe_mt pe_mt0 call_isC clsBody)
/-- a + b of two forms -/
theorem add_refs {P : Program} {w : World} {K : PySem.W.Frag} {C : Addr} {H : Hp} {a b : Addr} {fa fb : Fm} {Q : VK} {E : XK} (ha : FmAt P w K C H a fa) (hb : FmAt P w K C H b fb) (z : Szs fa fb) (k : ∀ H' c, Same H H' → H c = none → FmAt P w K C H' c (addF fa fb) → Q (.ref c) H') : spAdd P w K C [.ref a, .ref b] H Q E :=
  ⟨a, _, fa, fb, rfl, ha, .inr ⟨b, rfl, hb⟩, z, k⟩
theorem mul_refs {P : Program} {w : World} {K : PySem.W.Frag} {C : Addr} {H : Hp} {a b : Addr} {fa fb : Fm} {Q : VK} {E : XK} (ha : FmAt P w K C H a fa) (hb : FmAt P w K C H b fb) (z : SzM fa fb) (k : ∀ H' c, Same H H' → H c = none → FmAt P w K C H' c (mulF fa fb) → Q (.ref c) H') : spMul P w K C [.ref a, .ref b] H Q E :=
  ⟨a, _, fa, fb, rfl, ha, .inr ⟨b, rfl, hb⟩, z, fun H' c l S n p f => k H' c S n (by rw [mulT_list p] at f; exact f)⟩
theorem own_refs {P : Program} {w : World} {K : PySem.W.Frag} {C : Addr} {H : Hp} {a b : Addr} {fa fb : Fm} (ha : FmAt P w K C H a fa) (hb : FmAt P w K C H b fb) : ∃ dxa fsa dxb fsb, H a = some (.ins C dxa fsa) ∧ H b = some (.ins C dxb fsb) :=
  let ⟨x, _, _, h1, _⟩ := ha
  let ⟨y, _, _, h2, _⟩ := hb
  ⟨x, _, y, _, h1, h2⟩
def hornF (o : Fm) (acc : Fm) (ps : List Fm) : Fm := ps.foldl (fun a p => addF (mulF a o) p) acc
def putF (name : Str) (fm o : Fm) : Fm := hornF o [] (powF name fm).reverse
/-- the sizes of each step -/
def SzH (o : Fm) : Fm → List Fm → Prop
  | _, [] => True
  | a, p :: r => SzM a o ∧ Szs (mulF a o) p ∧ SzH o (addF (mulF a o) p) r
theorem SzH.at {o : Fm} : ∀ {ps : List Fm} {a : Fm} {i : Nat} {p : Fm}, SzH o a ps → ps[i]? = some p → SzM (hornF o a (ps.take i)) o ∧ Szs (mulF (hornF o a (ps.take i)) o) p
  | q :: r, a, 0, p, h, e => by
    obtain rfl := Option.some.inj e
    exact ⟨h.1, h.2.1⟩
  | q :: r, a, i + 1, p, h, e => SzH.at (ps := r) (i := i) h.2.2 e
theorem hornF_snoc {o a p : Fm} {ps : List Fm} {i : Nat} (h : ps[i]? = some p) : hornF o a (ps.take (i + 1)) = addF (mulF (hornF o a (ps.take i)) o) p := by
  unfold hornF
  rw [take_snoc h, List.foldl_append]; rfl
section
variable {P : Program} {w : World} {K : PySem.W.Frag} {mg : Str → Option Value} {base : Heap} {C : Addr}
theorem scPut : FnScope ["self", "name", "other", "found", "part"] ["self", "name", "other"] (defScope sPut) := ⟨rfl, rfl, rfl, by decide +kernel, rfl, by decide +kernel, by decide +kernel⟩
def spPut (P : Program) (w : World) (K : PySem.W.Frag) (C : Addr) : Sp := fun vs H Q _ => ∃ a b name fm o, vs = [.ref a, .str name, .ref b] ∧ LetOk name ∧ FmAt P w K C H a fm ∧ FmAt P w K C H b o ∧ (fm.map (·.1)).Nodup ∧ fm.length ≤ 100000 ∧ (∀ x ∈ fm, x.1.length ≤ 100000) ∧ SzH o [] (powF name fm).reverse ∧
  ∀ H' c, Same H H' → H c = none → FmAt P w K C H' c (putF name fm o) → Q (.ref c) H'
theorem ok_put {f : Addr} {fd : FuncData} (F : Fun K "put" "Form.put" sPut f fd) (T : Fx P w K mg base C) (B : Bt K mg C) (hrev : mg "reversed" = none) (L : Cal P w K mg base 1 "is_letter" spIsLet []) (Pw : Met P w K mg base 3 C "by_powers" (spPow P w K C) [])
    (Oa : OpM P w K mg base 5 C "__add__" (spAdd P w K C)) (Om : OpM P w K mg base 5 C "__mul__" (spMul P w K C)) : FnOk P w K mg base CX0 6 f fd ["self", "name", "other"] (spPut P w K C) := by
  obtain ⟨fa, fda, pa, oa, Fa_, ba⟩ := Oa.ex
  obtain ⟨fm_, fdm, pm, om, Fm_, bm⟩ := Om.ex
  refine F.ok scPut (fun vs H Q E h => ?_) (fun cdv A outer s H vs Q E hr h => ?_)
  · obtain ⟨a, b, name, fm, o, rfl, _⟩ := h
    rfl
  · obtain ⟨a, b, name, fm, o, rfl, hlet, ha, hb, hn, hl, hml, hz, k⟩ := h
    refine ⟨_, pss_cons (ps_if (pt_not (pt_val (pe_c L hr (by decide) rfl (pa_cons (pv 1) pa_nil)))) (pss_one ps_never) pss_nil)
      (pss_cons (ps_if (pt_not (pt_val (pe_callB (call_isC B.ins) (by rfl) B.isi (by decide +kernel) (pa_cons (pv 2) (pa_cons (pe_glob (v := .ref C) (by rfl) B.mgF rfl) pa_nil))))) (pss_one ps_never) pss_nil)
      (pss_cons (ps_set (i := 3) scPut.nd rfl (Or.inl rfl) (pe_mkF T.maks hr (by decide) rfl pe_newD))
      (pss_cons (ps_for PassesOwn.never rfl (pi_reversed rfl hrev (pa_cons (pe_mt Pw hr (by decide) (pv 0) (pa_cons (pv 1) pa_nil)) pa_nil)) (pg_name (i := 4) scPut.nd rfl (Or.inl rfl))
        (pss_one (ps_set (i := 3) scPut.nd rfl (Or.inl rfl) (pe_op (op_own (op := .Add) oa Fa_ hr ba) (pe_op (op_own (op := .Mult) om Fm_ hr bm) (pv 3) (pv 2)) (pv 4)))))
      (pss_one (ps_ret (pv 3)))))), ?_⟩
    refine ⟨_, rfl, name, rfl, hlet, fun H1 S1 => ⟨true, rfl, iteF ?_⟩⟩
    dsimp only [tNext]
    have hb1 := hb.same S1
    have ha1 := ha.same S1
    obtain ⟨dxb, db, kvb, hb2, hb3, hb4⟩ := hb1
    refine ⟨_, rfl, b, dxb, _, rfl, hb2, true, rfl, iteF ?_⟩
    dsimp only [tNext]
    refine seq_asg (fun p np => fun c dxc H2 S2 nc hc => ?_)
    have S1p : Same H1 (upd H1 p (DfO P w p [])) := Same.upd np
    have f0 : FmAt P w K C H2 c [] := ⟨dxc, p, [], hc, S2 _ _ upd_same, .nil⟩
    have S02 := (S1.trans S1p).trans S2
    obtain ⟨dxa, da, kva, ha2, ha3, ha4⟩ := ha.same S02
    refine ⟨_, rfl, a, dxa, _, rfl, ha2, rfl, _, rfl, a, name, fm, rfl, ⟨dxa, da, kva, ha2, ha3, ha4⟩, hn, hl, hml, fun H3 D as S3 nD hD ln has => ?_⟩
    have S03 := S02.trans S3
    refine ⟨D, _, rfl, SqL.of hD, for_it (walk_rev (xs := as.map V.ref)) (fun i σ' H' => Same H3 H' ∧ ∃ t u, σ' = [some (.ref a), some (.str name), some (.ref b), some (.ref t), u] ∧ H t = none ∧ FmAt P w K C H' t (hornF o [] ((powF name fm).reverse.take i)))
      ⟨Same.refl _, c, none, rfl, (S1.trans S1p).free nc, f0.same S3⟩ (fun i σ' H' _ z => (SqL.of hD).same z.1) ?_ ?_⟩
    · rintro i x σ' H4 H5 hi ⟨S4, t, u, rfl, nt, ft⟩ ⟨rfl, hx⟩
      rw [List.length_map] at hi hx
      rw [List.getElem?_map] at hx
      obtain ⟨q, hq, rfl⟩ := Option.map_eq_some_iff.mp hx
      have hi2 : as.length - 1 - i < (powF name fm).length := by omega
      have hp := List.getElem?_eq_getElem hi2
      have hr2 : (powF name fm).reverse[i]? = some (powF name fm)[as.length - 1 - i] := by
        rw [List.getElem?_reverse (by omega), ← ln, hp]
      have fq := (has _ q _ hq hp).same S4
      obtain ⟨z1, z2⟩ := hz.at hr2
      have fb := (hb.same S03).same S4
      obtain ⟨dt, fst, dbb, fsb, o1, o2⟩ := own_refs ft fb
      refine ⟨_, rfl, _, rfl, t, b, dt, _, dbb, _, rfl, rfl, o1, o2, mul_refs ft fb z1 fun H6 e S6 ne fe => ?_⟩
      have fq6 := fq.same S6
      obtain ⟨de, fse, dq, fsq, o3, o4⟩ := own_refs fe fq6
      refine ⟨_, rfl, e, q, de, _, dq, _, rfl, rfl, o3, o4, add_refs fe fq6 z2 fun H7 g S7 ng fg => ⟨(S4.trans S6).trans S7, g, _, rfl, (((S03.trans S4).trans S6).free ng), ?_⟩⟩
      rw [hornF_snoc hr2]
      exact fg
    · rintro σ' H4 ⟨S4, t, u, rfl, nt, ft⟩
      rw [List.length_map, ln, ← List.length_reverse, List.take_length] at ft
      exact ⟨_, rfl, k H4 t (S03.trans S4) nt ft⟩
end
end E2

set_option Elab.async false
set_option linter.all false
set_option maxRecDepth 100000
set_option maxHeartbeats 1000000
/-! term_text -/
namespace E2
open PySem PySem.Spec PyProof.Rows L2
open C8 (Cal Mak Met InsC pe_c pe_mt pe_mt0 call_isC clsBody)
open StX (tStar pa_star)
def DgOk (v : Int) : Prop := 0 ≤ v ∧ v < 10 ^ 64 ∧ (Str.ofString (toString v)).length ≤ 100
instance (v : Int) : Decidable (DgOk v) := by unfold DgOk; infer_instance
def facs (top : Int) (ns : List Str) : List Str := if top = 1 ∧ ns.isEmpty = false then ns else dgS top :: ns
def divS (bottom : Int) : Str := if bottom = 1 then "" else ("/" : Str) ++ dgS bottom
def ttS (top bottom : Int) (ns : List Str) : Str := Txt.join "*" (facs top ns) ++ divS bottom
def TtOk (top bottom : Int) (ns : List Str) : Prop := DgOk top ∧ DgOk bottom ∧ (ns.map (·.length)).sum + ns.length ≤ 100000 ∧ (Txt.join "*" (facs top ns)).length ≤ 100000
instance (a b : Int) (ns : List Str) : Decidable (TtOk a b ns) := by unfold TtOk; infer_instance
def spTT (K : PySem.W.Frag) : Sp := fun vs H Q _ => ∃ (top bottom : Int) (l : Addr) (ns : List Str), vs = [.int top, .int bottom, .ref l] ∧ SqL K H l (ns.map V.str) ∧ TtOk top bottom ns ∧ ∀ H', Same H H' → Q (.str (ttS top bottom ns)) H'
theorem te_mid {t : TE} {σ : L2.St} {H : Hp} {Q : VK} (G : V → Hp → Prop) (h : ∀ R : VK, (∀ x H', G x H' → R x H') → t σ H R) (k : ∀ x H', G x H' → Q x H') : t σ H Q := h Q k
section
variable {P : Program} {w : World} {K : PySem.W.Frag} {mg : Str → Option Value} {base : Heap} {C : Addr}
theorem scTT : FnScope ["top", "bottom", "names", "factors", "divisor"] ["top", "bottom", "names"] (defScope sTermText) := ⟨rfl, rfl, rfl, by decide +kernel, rfl, by decide +kernel, by decide +kernel⟩
theorem ok_termText {f : Addr} {fd : FuncData} (F : Fun K "term_text" "term_text" sTermText f fd) (Dg : Cal P w K mg base 1 "digits_of" spDigits []) : FnOk P w K mg base CX0 2 f fd ["top", "bottom", "names"] (spTT K) := by
  refine F.ok scTT (fun vs H Q E h => ?_) (fun cdv A outer s H vs Q E hr h => ?_)
  · obtain ⟨a, b, l, ns, rfl, _⟩ := h
    rfl
  · obtain ⟨top, bot, l, ns, rfl, hl, ⟨d1, d2, hs, hj⟩, k⟩ := h
    refine ⟨_, pss_cons (ps_set (i := 3) scTT.nd rfl (Or.inl rfl) (pe_ifExp (PW.pt (pw_and (pt_cmpR op_eq (pv 0) pe_int (nomark _)) (pw_and1 (pt_truth (pv 2) (by intro _; rfl))))) (pv 2) (pe_lst (pa_cons (pe_c Dg hr (by decide) rfl (pa_cons (pv 0) pa_nil)) (pa_star (pv 2) pa_nil)))))
      (pss_cons (ps_set (i := 4) scTT.nd rfl (Or.inl rfl) (pe_ifExp (pt_cmpR op_eq (pv 1) pe_int (nomark _)) pe_str (pe_op op_add_str pe_str (pe_c Dg hr (by decide) rfl (pa_cons (pv 1) pa_nil)))))
      (pss_one (ps_ret (pe_op op_add_str (pe_join pe_str (pv 3)) (pv 4))))), ?_⟩
    -- behind the first row
    have dl : ∀ v, DgOk v → (dgS v).length ≤ 100 := fun v h => h.2.2
    refine seq_asg (te_mid (fun x H' => ∃ p, x = .ref p ∧ Same H H' ∧ SqL K H' p ((facs top ns).map V.str)) (fun R hR => ?_) ?_)
    · refine ⟨_, rfl, rfl, _, rfl, ?_⟩
      by_cases c : top = 1
      · refine ifT (decide_eq_true (by rw [c])) ?_
        refine ⟨_, rfl, _, .inl ⟨_, hl, rfl⟩, ?_⟩
        by_cases c2 : ns.isEmpty = false
        · refine ifT (by rw [List.isEmpty_map, c2]; rfl) ?_
          refine ⟨_, rfl, hR _ _ ⟨l, rfl, Same.refl H, ?_⟩⟩
          unfold facs
          rw [if_pos ⟨c, c2⟩]
          exact hl
        · refine ifF (by rw [List.isEmpty_map, show ns.isEmpty = true by simpa using c2]; rfl) ?_
          refine ⟨_, rfl, top, rfl, d1.1, d1.2.1, d1.2.2, fun H1 S1 => ?_⟩
          refine ⟨_, rfl, l, _, rfl, .inr (hl.same S1), by rw [List.append_nil, List.length_cons, List.length_map, sizeLine_eq]; omega, fun p np => hR _ _ ⟨p, rfl, S1.trans (Same.upd np), ?_⟩⟩
          unfold facs
          rw [if_neg fun z => c2 z.2, List.append_nil, List.map_cons]
          exact SqL.of upd_same
      · refine ifF (decide_eq_false fun z => c (by injection z)) ?_
        refine ifF rfl ?_
        refine ⟨_, rfl, top, rfl, d1.1, d1.2.1, d1.2.2, fun H1 S1 => ?_⟩
        refine ⟨_, rfl, l, _, rfl, .inr (hl.same S1), by rw [List.append_nil, List.length_cons, List.length_map, sizeLine_eq]; omega, fun p np => hR _ _ ⟨p, rfl, S1.trans (Same.upd np), ?_⟩⟩
        unfold facs
        rw [if_neg fun z => c z.1, List.append_nil, List.map_cons]
        exact SqL.of upd_same
    · rintro _ H1 ⟨p, rfl, S1, hp⟩
      have dv : (divS bot).length ≤ 200 := by
        unfold divS
        split
        · exact Nat.zero_le _
        · have e : (("/" : Str) ++ dgS bot).length = 1 + (dgS bot).length := Array.size_append
          have := dl bot d2
          omega
      refine seq_asg (te_mid (fun x H' => x = .str (divS bot) ∧ Same H1 H') (fun R hR => ?_) ?_)
      · refine ⟨_, rfl, rfl, _, rfl, ?_⟩
        unfold divS at hR
        by_cases c : bot = 1
        · refine ifT (decide_eq_true (by rw [c])) ?_
          rw [if_pos c] at hR
          exact hR _ _ ⟨rfl, Same.refl H1⟩
        · refine ifF (decide_eq_false fun z => c (by injection z)) ?_
          rw [if_neg c] at hR
          refine ⟨_, rfl, bot, rfl, d2.1, d2.2.1, d2.2.2, fun H2 S2 => ⟨_, _, rfl, rfl, ?_, hR _ _ ⟨rfl, S2⟩⟩⟩
          have := dl bot d2
          have z1 : ("/" : Str).length = 1 := rfl
          rw [z1, sizeLine_eq]
          omega
      · rintro _ H2 ⟨rfl, S2⟩
        refine ⟨⟨_, rfl⟩, _, rfl, _, p, facs top ns, rfl, rfl, .inl (hp.same S2), ?_, _, rfl, _, _, rfl, rfl, ?_, k _ (S1.trans S2)⟩
        · have z1 : ("*" : Str).length = 1 := rfl
          rw [z1]
          unfold facs
          have := dl top d1
          split
          · omega
          · rw [List.map_cons, List.sum_cons, List.length_cons]
            omega
        · rw [sizeLine_eq]
          omega
end
end E2

set_option Elab.async false
set_option linter.all false
set_option maxRecDepth 100000
set_option maxHeartbeats 1000000
/-! is_expression -/
namespace E2
open PySem PySem.Spec PyProof.Rows L2
open C8 (Cal Mak Met InsC pe_c pe_mt pe_mt0 call_isC clsBody)
def allowedL (e : Str) : List Str :=
  if e = "expression" then ["number", "letter", "(", "-"] else if e = "factor" then ["number", "letter", "("] else if e = "divisor" then ["number"] else ["+", "-", "*", "/", ")"]
def behindL (k : Str) : Str :=
  if k = "number" ∨ k = "letter" ∨ k = ")" then "rest" else if k = "(" then "expression" else if k = "/" then "divisor" else "factor"
def states : List Str := ["expression", "factor", "divisor", "rest"]
def kinds : List Str := ["number", "letter", ")", "(", "+", "-", "*", "/"]
/-- the two tables at the module's head -/
structure Tbl (w : World) (K : PySem.W.Frag) (mg : Str → Option Value) : Prop where
  al : ∃ a, mg "ALLOWED" = some (.ref a) ∧ ∀ e ∈ states, ∃ t, KDct K w a e (.ref t) ∧ ∀ H, SqT K H t ((allowedL e).map V.str)
  be : ∃ b, mg "BEHIND" = some (.ref b) ∧ ∀ k ∈ kinds, KDct K w b k (.str (behindL k))
theorem allowed_kinds {e k : Str} (h : k ∈ allowedL e) : k ∈ kinds := by
  unfold allowedL at h
  unfold kinds
  split at h
  · simp at h ⊢; rcases h with h | h | h | h <;> simp [h]
  · split at h
    · simp at h ⊢; rcases h with h | h | h <;> simp [h]
    · split at h
      · simp at h ⊢; simp [h]
      · simp at h ⊢; rcases h with h | h | h | h | h <;> simp [h]
theorem behind_states (k : Str) : behindL k ∈ states := by
  unfold behindL states
  split
  · simp
  · split
    · simp
    · split <;> simp
def exGo : List Str → Str → Int → Bool
  | [], e, d => decide (e = "rest") && decide (d = 0)
  | x :: r, e, d =>
    if kindS x ∈ allowedL e then
      if e = "divisor" ∧ Txt.stripChars x "0" = "" then false
      else
        let d1 := if kindS x = "(" then d + 1 else d
        let d2 := if kindS x = ")" then d1 - 1 else d1
        if d2 < 0 then false else exGo r (behindL (kindS x)) d2
    else false
def spIsEx (K : PySem.W.Frag) : Sp := fun vs H Q _ => ∃ (l : Addr) (ws : List Str), vs = [.ref l] ∧ SqL K H l (ws.map V.str) ∧ (∀ x ∈ ws, 0 < x.length ∧ x.length ≤ 100000) ∧ ∀ H', Same H H' → Q (.bl (exGo ws "expression" 0)) H'
section
variable {P : Program} {w : World} {K : PySem.W.Frag} {mg : Str → Option Value} {base : Heap} {C : Addr}
theorem scIsEx : FnScope ["words", "expected", "depth", "word", "kind"] ["words"] (defScope sIsExpression) := ⟨rfl, rfl, rfl, by decide +kernel, rfl, by decide +kernel, by decide +kernel⟩
theorem inV_str (x : Str) : ∀ ys : List Str, inV (.str x) (ys.map V.str) = decide (x ∈ ys)
  | [] => rfl
  | y :: r => by
    have ih := inV_str x r
    unfold inV at ih ⊢
    rw [List.map_cons, List.any_cons, ih]
    by_cases c : x = y
    · subst c
      rw [show eqV (.str x) (.str x) = true by simp [eqV], decide_eq_true (List.mem_cons_self)]
      rfl
    · rw [show eqV (.str y) (.str x) = false by simp [eqV]; exact fun z => c z.symm, Bool.false_or]
      simp [c]
theorem flat_strs (ys : List Str) : (ys.map V.str).all flatV = true := by
  rw [List.all_map]
  exact List.all_eq_true.mpr fun _ _ => rfl
theorem ts_mid {t u : TS} {D : Ends} {σ : L2.St} {H : Hp} (G : L2.St → Hp → Prop) (h : ∀ N : L2.St → Hp → Prop, (∀ σ' H', G σ' H' → N σ' H') → t { D with nx := N } σ H) (k : ∀ σ' H', G σ' H' → u D σ' H') : tSeq t u D σ H := h _ k
theorem ok_isEx {f : Addr} {fd : FuncData} (F : Fun K "is_expression" "is_expression" sIsExpression f fd) (T : Tbl w K mg) (Kd : Cal P w K mg base 2 "kind_of" spKind []) : FnOk P w K mg base CX0 3 f fd ["words"] (spIsEx K) := by
  obtain ⟨aA, gA, dA⟩ := T.al
  obtain ⟨aB, gB, dB⟩ := T.be
  refine F.ok scIsEx (fun vs H Q E h => ?_) (fun cdv A outer s H vs Q E hr h => ?_)
  · obtain ⟨t, ws, rfl, _⟩ := h
    rfl
  · obtain ⟨l, ws, rfl, hl, hw, k⟩ := h
    refine ⟨_, pss_cons (ps_set (i := 1) scIsEx.nd rfl (Or.inl rfl) pe_str)
      (pss_cons (ps_set (i := 2) scIsEx.nd rfl (Or.inl rfl) pe_int)
      (pss_cons (ps_for PassesOwn.never rfl (pi_list (pv 0)) (pg_name (i := 3) scIsEx.nd rfl (Or.inl rfl))
        (pss_cons (ps_set (i := 4) scIsEx.nd rfl (Or.inl rfl) (pe_c Kd hr (by decide) rfl (pa_cons (pv 3) pa_nil)))
        (pss_cons (ps_if (pt_cmpR op_notIn_seq (pv 4) (pe_ix ix_kdict (pe_glob (v := .ref aA) (by rfl) gA rfl) (pv 1) (fun _ _ => rfl)) (by rfl)) (pss_one (ps_ret pe_bl)) pss_nil)
        (pss_cons (ps_if (PW.pt (pw_and (pt_cmpR op_eq (pv 1) pe_str (nomark _)) (pw_and1 (pt_cmpR op_eq (pe_bm PySem.F.plainAttrs_str PySem.F.slot_str_strip PySem.F.type_str_strip mt_stripChars (pv 3) (pa_cons pe_str pa_nil)) pe_str (nomark _))))) (pss_one (ps_ret pe_bl)) pss_nil)
        (pss_cons (ps_if (pt_cmpR op_eq (pv 4) pe_str (nomark _)) (pss_one (ps_aug (i := 2) scIsEx.nd rfl (.inl rfl) pe_int ip_add)) pss_nil)
        (pss_cons (ps_if (pt_cmpR op_eq (pv 4) pe_str (nomark _)) (pss_one (ps_aug (i := 2) scIsEx.nd rfl (.inl rfl) pe_int ip_sub)) pss_nil)
        (pss_cons (ps_if (pt_cmpR op_lt (pv 2) pe_int (nomark _)) (pss_one (ps_ret pe_bl)) pss_nil)
        (pss_one (ps_set (i := 1) scIsEx.nd rfl (Or.inl rfl) (pe_ix ix_kdict (pe_glob (v := .ref aB) (by rfl) gB rfl) (pv 4) (fun _ _ => rfl))))))))))) 
      (pss_one (ps_ret (pe_and (pe_cmpR op_eq (pv 1) pe_str (nomark _)) (pe_one (pe_cmpR op_eq (pv 2) pe_int (nomark _)))))))), ?_⟩
    generalize hans : exGo ws "expression" 0 = ans at k
    refine ⟨_, rfl, l, rfl, ⟨_, hl⟩, for_it (walk_list (xs := ws.map V.str)) (fun i σ' H' => Same H H' ∧ ∃ (e : Str) (d : Int) (u3 u4 : Option V), σ' = [some (.ref l), some (.str e), some (.int d), u3, u4] ∧ e ∈ states ∧ exGo (ws.drop i) e d = ans) ⟨Same.refl H, _, _, none, none, rfl, by decide, hans⟩ (fun i σ' H' _ p => hl.same p.1) ?_ ?_⟩
    · rintro i x _ H1 H1' hi ⟨S1, e, d, u3, u4, rfl, he, hx⟩ ⟨rfl, hy⟩
      rw [List.getElem?_map] at hy
      obtain ⟨y, hyw, rfl⟩ := Option.map_eq_some_iff.mp hy
      have hd : ws.drop i = y :: ws.drop (i + 1) := by
        obtain ⟨h1, h2⟩ := List.getElem?_eq_some_iff.mp hyw
        exact (List.drop_eq_getElem_cons h1).trans (by rw [h2])
      rw [hd] at hx
      obtain ⟨y0, y1⟩ := hw y (List.mem_of_getElem? hyw)
      refine ⟨_, rfl, y, rfl, y0, y1, fun H2 S2 => ?_⟩
      have S12 := S1.trans S2
      obtain ⟨ta, kta, sta⟩ := dA e he
      have kk := k H2 S12
      refine ⟨_, rfl, _, rfl, aA, e, _, rfl, rfl, kta, ta, _, rfl, .inr (sta H2), rfl, flat_strs _, _, rfl, ?_⟩
      unfold exGo at hx
      by_cases c1 : kindS y ∈ allowedL e
      · refine ifF (by rw [if_pos rfl, inV_str, decide_eq_true c1]; rfl) ?_
        rw [if_pos c1] at hx
        have s1 : y.length ≤ sizeLine := by rw [sizeLine_eq]; omega
        dsimp only [tNext]
        refine ts_mid (fun σ' H' => σ' = [some (.ref l), some (.str e), some (.int d), some (.str y), some (.str (kindS y))] ∧ H' = H2 ∧ ¬ (e = "divisor" ∧ Txt.stripChars y "0" = "")) (fun N hN => ?_) ?_
        · refine ⟨_, rfl, rfl, _, rfl, ?_⟩
          by_cases q1 : e = "divisor"
          · refine ifT (decide_eq_true (by rw [q1])) ?_
            refine ⟨_, rfl, rfl, y, "0", rfl, rfl, s1, rfl, _, rfl, ?_⟩
            by_cases q2 : Txt.stripChars y "0" = ""
            · refine ifT (decide_eq_true (by rw [q2])) ?_
              rw [if_pos ⟨q1, q2⟩] at hx
              rw [← hx] at kk
              exact kk
            · exact ifF (decide_eq_false fun z => q2 (by injection z)) (hN _ _ ⟨rfl, rfl, fun z => q2 z.2⟩)
          · refine ifF (decide_eq_false fun z => q1 (by injection z)) (ifF rfl (hN _ _ ⟨rfl, rfl, fun z => q1 z.1⟩))
        · rintro _ H2 ⟨rfl, rfl, no⟩
          rw [if_neg no] at hx
          dsimp only at hx
          generalize hd1 : (if kindS y = "(" then d + 1 else d) = d1 at hx
          refine ts_mid (fun σ' H' => σ' = [some (.ref l), some (.str e), some (.int d1), some (.str y), some (.str (kindS y))] ∧ H' = H2) (fun N hN => ?_) ?_
          · refine ⟨_, rfl, rfl, _, rfl, ?_⟩
            by_cases q : kindS y = "("
            · rw [if_pos q] at hd1
              exact ifT (decide_eq_true (by rw [q])) ⟨_, rfl, _, _, rfl, rfl, hN _ _ ⟨by rw [← hd1]; rfl, rfl⟩⟩
            · rw [if_neg q] at hd1
              exact ifF (decide_eq_false fun z => q (by injection z)) (hN _ _ ⟨by rw [← hd1], rfl⟩)
          rintro _ H2 ⟨rfl, rfl⟩
          generalize hd2 : (if kindS y = ")" then d1 - 1 else d1) = d2 at hx
          refine ts_mid (fun σ' H' => σ' = [some (.ref l), some (.str e), some (.int d2), some (.str y), some (.str (kindS y))] ∧ H' = H2) (fun N hN => ?_) ?_
          · refine ⟨_, rfl, rfl, _, rfl, ?_⟩
            by_cases q : kindS y = ")"
            · rw [if_pos q] at hd2
              exact ifT (decide_eq_true (by rw [q])) ⟨_, rfl, _, _, rfl, rfl, hN _ _ ⟨by rw [← hd2]; rfl, rfl⟩⟩
            · rw [if_neg q] at hd2
              exact ifF (decide_eq_false fun z => q (by injection z)) (hN _ _ ⟨by rw [← hd2], rfl⟩)
          rintro _ H2 ⟨rfl, rfl⟩
          refine ⟨_, rfl, _, _, rfl, rfl, _, rfl, ?_⟩
          by_cases q : d2 < 0
          · rw [if_pos q] at hx
            rw [← hx] at kk
            exact ifT (decide_eq_true q) kk
          · rw [if_neg q] at hx
            refine ifF (decide_eq_false q) ?_
            exact ⟨_, rfl, aB, kindS y, _, rfl, rfl, dB _ (allowed_kinds c1), S12, behindL (kindS y), d2, _, _, rfl, behind_states _, hx⟩
      · refine ifT (by rw [if_pos rfl, inV_str, decide_eq_false c1]; rfl) ?_
        rw [if_neg c1] at hx
        rw [← hx] at kk
        exact kk
    · rintro _ H1 ⟨S1, e, d, u3, u4, rfl, he, hx⟩
      rw [List.length_map, List.drop_length] at hx
      have kk := k H1 S1
      rw [← hx] at kk
      unfold exGo at kk
      refine ⟨_, rfl, rfl, _, rfl, ?_⟩
      by_cases q : e = "rest"
      · rw [decide_eq_true q, Bool.true_and] at kk
        refine ifT (decide_eq_true (by rw [q])) ⟨_, rfl, rfl, ?_⟩
        have : decide (d = 0) = decide (V.int d = V.int 0) := by
          by_cases z : d = 0
          · rw [decide_eq_true z, decide_eq_true (by rw [z])]
          · rw [decide_eq_false z, decide_eq_false fun y => z (by injection y)]
        rw [this] at kk
        exact kk
      · rw [decide_eq_false q, Bool.false_and] at kk
        exact ifF (decide_eq_false fun z => q (by injection z)) kk
end
end E2

set_option Elab.async false
set_option linter.all false
set_option maxRecDepth 100000
set_option maxHeartbeats 1000000
/-! work_out -/
namespace E2
open PySem PySem.Spec PyProof.Rows L2
open C8 (Cal Mak Met InsC pe_c pe_mt pe_mt0 call_isC clsBody)
structure Wo where
  st : List (Fm × Fm)
  total : Fm
  term : Fm
  before : Str
def overF (fm : Fm) (n : Int) : Fm := mapM (fun _ => true) (fun q => q * Rat.divInt 1 n) fm
def woStep (s : Wo) (w : Str) : Wo :=
  if w = "(" then ⟨s.st ++ [(s.total, s.term)], numM 0, numM 1, w⟩
  else if w = ")" then
    let p := s.st.getLastD ([], [])
    ⟨s.st.dropLast, p.1, mulF p.2 (addF s.total s.term), w⟩
  else if w = "+" ∨ w = "-" then ⟨s.st, if s.before = "(" then s.total else addF s.total s.term, numM (if w = "+" then 1 else -1), w⟩
  else if s.before = "/" then ⟨s.st, s.total, overF s.term (numV w), w⟩
  else if w = "*" ∨ w = "/" then ⟨s.st, s.total, s.term, w⟩
  else ⟨s.st, s.total, mulF s.term (facF w), w⟩
def OvOk (fm : Fm) (n : Int) : Prop := n ≠ 0 ∧ n.natAbs < 2 ^ 2000 ∧ (fm.map (·.1)).Nodup ∧ fm.length ≤ sizeLine ∧ Sm fm
def stepOk (s : Wo) (w : Str) : Prop :=
  if w = "(" then s.st.length < 10000
  else if w = ")" then s.st ≠ [] ∧ Szs s.total s.term ∧ SzM (s.st.getLastD ([], [])).2 (addF s.total s.term)
  else if w = "+" ∨ w = "-" then s.before = "(" ∨ Szs s.total s.term
  else if s.before = "/" then NumOk w ∧ OvOk s.term (numV w)
  else if w = "*" ∨ w = "/" then True
  else FacOk w ∧ SzM s.term (facF w)
def woGo : List Str → Wo → Wo
  | [], s => s
  | w :: r, s => woGo r (woStep s w)
def woOk : List Str → Wo → Prop
  | [], s => Szs s.total s.term
  | w :: r, s => stepOk s w ∧ woOk r (woStep s w)
def wo0 : Wo := ⟨[], numM 0, numM 1, "("⟩
def woF (ws : List Str) : Fm := addF (woGo ws wo0).total (woGo ws wo0).term
def spWork (P : Program) (w : World) (K : PySem.W.Frag) (C : Addr) : Sp := fun vs H Q _ => ∃ (l : Addr) (ws : List Str), vs = [.ref l] ∧ SqL K H l (ws.map V.str) ∧ woOk ws wo0 ∧ ∀ H' b, Same H H' → H b = none → FmAt P w K C H' b (woF ws) → Q (.ref b) H'
/-- a list elsewhere changes nothing of a form -/
theorem fmL {P : Program} {w : World} {K : PySem.W.Frag} {C : Addr} {D : Addr} {H H' : Hp} {a : Addr} {fm : Fm} {xs : List V} (h : FmAt P w K C H a fm) (S : SameB D H H') (hD : H D = some (.lst xs)) : FmAt P w K C H' a fm := FmAt.sameL h S hD
/-- what waits -/
def Wait (P : Program) (w : World) (K : PySem.W.Frag) (C : Addr) (H : Hp) (zs : List Addr) (st : List (Fm × Fm)) : Prop := Paired (fun z x => ∃ a b, H z = some (.tup [.ref a, .ref b]) ∧ FmAt P w K C H a x.1 ∧ FmAt P w K C H b x.2) zs st
theorem Wait.same {P : Program} {w : World} {K : PySem.W.Frag} {C : Addr} {H H' : Hp} {zs : List Addr} {st : List (Fm × Fm)} (h : Wait P w K C H zs st) (S : Same H H') : Wait P w K C H' zs st := Paired.mapP h fun _ _ ⟨a, b, h1, h2, h3⟩ => ⟨a, b, S _ _ h1, h2.same S, h3.same S⟩
theorem Wait.sameL {P : Program} {w : World} {K : PySem.W.Frag} {C : Addr} {D : Addr} {H H' : Hp} {xs : List V} {zs : List Addr} {st : List (Fm × Fm)} (h : Wait P w K C H zs st) (S : SameB D H H') (hD : H D = some (.lst xs)) : Wait P w K C H' zs st := Paired.mapP h fun _ _ ⟨a, b, h1, h2, h3⟩ => ⟨a, b, S _ _ (ne_of h1 hD (by intro z; cases z)) h1, fmL h2 S hD, fmL h3 S hD⟩
theorem paired_take {α β : Type} {R : α → β → Prop} {xs : List α} {ys : List β} (h : Paired R xs ys) : ∀ n, Paired R (xs.take n) (ys.take n) := by
  induction h with
  | nil => intro n; rw [List.take_nil, List.take_nil]; exact .nil
  | cons r t ih =>
    intro n
    cases n with
    | zero => exact .nil
    | succ n => exact .cons r (ih n)
theorem woStep_before (s : Wo) (w : Str) : (woStep s w).before = w := by
  unfold woStep
  split
  · rfl
  · split
    · rfl
    · split
      · rfl
      · split
        · rfl
        · split <;> rfl
theorem Wait.last {P : Program} {w : World} {K : PySem.W.Frag} {C : Addr} {H : Hp} {zs : List Addr} {st : List (Fm × Fm)} (h : Wait P w K C H zs st) (ne : st ≠ []) : ∃ z a b, (zs.map V.ref)[(zs.map V.ref).length - 1]? = some (.ref z) ∧ H z = some (.tup [.ref a, .ref b]) ∧ FmAt P w K C H a (st.getLastD ([], [])).1 ∧ FmAt P w K C H b (st.getLastD ([], [])).2 ∧ Wait P w K C H zs.dropLast st.dropLast := by
  have hl := Paired.length h
  have hpos : 0 < st.length := List.length_pos_iff.mpr ne
  have e1 : (zs.map V.ref).length - 1 = zs.length - 1 := by rw [List.length_map]
  have g1 : zs[zs.length - 1]? = some (zs[zs.length - 1]'(by omega)) := List.getElem?_eq_getElem (by omega)
  obtain ⟨x, hx, a, b, h1, h2, h3⟩ := paired_get h g1
  rw [hl] at hx
  have e2 : st.getLastD ([], []) = x := by
    rw [List.getLastD_eq_getLast?, List.getLast?_eq_getElem?, hx]
    rfl
  refine ⟨_, a, b, by rw [e1, List.getElem?_map, g1]; rfl, h1, by rw [e2]; exact h2, by rw [e2]; exact h3, ?_⟩
  have e3 : zs.dropLast = zs.take (zs.length - 1) := List.dropLast_eq_take
  have e4 : st.dropLast = st.take (st.length - 1) := List.dropLast_eq_take
  rw [e3, e4, hl]
  exact paired_take h _
section
variable {P : Program} {w : World} {K : PySem.W.Frag} {mg : Str → Option Value} {base : Heap} {C : Addr}
theorem scWork : FnScope ["words", "waiting", "total", "term", "before", "word", "inner"] ["words"] (defScope sWorkOut) := ⟨rfl, rfl, rfl, by decide +kernel, rfl, by decide +kernel, by decide +kernel⟩
theorem ok_work {f : Addr} {fd : FuncData} (F : Fun K "work_out" "work_out" sWorkOut f fd) (No : Cal P w K mg base 1 "number_of" spNumOf []) (Nu : Cal P w K mg base 3 "number" (spNumber P w K C) []) (Fa : Cal P w K mg base 4 "factor_of" (spFactor P w K C) []) (Ov : Met P w K mg base 4 C "over" (spOver P w K C) [])
    (Oa : OpM P w K mg base 5 C "__add__" (spAdd P w K C)) (Om : OpM P w K mg base 5 C "__mul__" (spMul P w K C)) : FnOk P w K mg base CX0 6 f fd ["words"] (spWork P w K C) := by
  obtain ⟨fa, fda, pa, oa, Fa_, ba⟩ := Oa.ex
  obtain ⟨fm_, fdm, pm, om, Fm_, bm⟩ := Om.ex
  refine F.ok scWork (fun vs H Q E h => ?_) (fun cdv A outer s H vs Q E hr h => ?_)
  · obtain ⟨t, ws, rfl, _⟩ := h
    rfl
  · obtain ⟨l, ws, rfl, hl, hok, k⟩ := h
    have nu : ∀ {X : Cx}, True := trivial
    refine ⟨_, pss_cons (ps_set (i := 1) scWork.nd rfl (Or.inl rfl) (pe_lst pa_nil))
      (pss_cons (ps_par (i := 2) (j := 3) (by rfl) scWork.nd rfl rfl (by decide) rfl rfl (pa_cons (pe_c Nu hr (by decide) rfl (pa_cons pe_int pa_nil)) (pa_cons (pe_c Nu hr (by decide) rfl (pa_cons pe_int pa_nil)) pa_nil)) (by rfl))
      (pss_cons (ps_set (i := 4) scWork.nd rfl (Or.inl rfl) pe_str)
      (pss_cons (ps_for PassesOwn.never rfl (pi_list (pv 0)) (pg_name (i := 5) scWork.nd rfl (Or.inl rfl))
        (pss_cons (ps_if (pt_cmpR op_eq (pv 5) pe_str (nomark _))
          (pss_cons (ps_expr (pe_bm PySem.F.plainAttrs_list PySem.F.slot_list_append PySem.F.type_list_append mt_append (pv 1) (pa_cons (pe_tupS (pa_cons (pv 2) (pa_cons (pv 3) pa_nil))) pa_nil)))
          (pss_one (ps_par (i := 2) (j := 3) (by rfl) scWork.nd rfl rfl (by decide) rfl rfl (pa_cons (pe_c Nu hr (by decide) rfl (pa_cons pe_int pa_nil)) (pa_cons (pe_c Nu hr (by decide) rfl (pa_cons pe_int pa_nil)) pa_nil)) (by rfl))))
        (pss_one (ps_if (pt_cmpR op_eq (pv 5) pe_str (nomark _))
          (pss_cons (ps_set (i := 6) scWork.nd rfl (Or.inl rfl) (pe_op (op_own (op := .Add) oa Fa_ hr ba) (pv 2) (pv 3)))
          (pss_cons (ps_asg (pe_bm0 PySem.F.plainAttrs_list PySem.F.slot_list_pop PySem.F.type_list_pop mt_pop (pv 1)) (pg_tup (by rfl) (pgs_cons (pg_name (i := 2) scWork.nd rfl (Or.inl rfl)) (pgs_cons (pg_name (i := 3) scWork.nd rfl (Or.inl rfl)) pgs_nil))))
          (pss_one (ps_set (i := 3) scWork.nd rfl (Or.inl rfl) (pe_op (op_own (op := .Mult) om Fm_ hr bm) (pv 3) (pv 6))))))
        (pss_one (ps_if (pt_cmpR op_in_seq (pv 5) (pe_tupS (pa_cons pe_str (pa_cons pe_str pa_nil))) (by rfl))
          (pss_cons (ps_if (pt_cmpR op_ne (pv 4) pe_str (nomark _)) (pss_one (ps_set (i := 2) scWork.nd rfl (Or.inl rfl) (pe_op (op_own (op := .Add) oa Fa_ hr ba) (pv 2) (pv 3)))) pss_nil)
          (pss_one (ps_set (i := 3) scWork.nd rfl (Or.inl rfl) (pe_c Nu hr (by decide) rfl (pa_cons (pe_ifExp (pt_cmpR op_eq (pv 5) pe_str (nomark _)) pe_int (pe_un un_neg pe_int)) pa_nil)))))
        (pss_one (ps_if (pt_cmpR op_eq (pv 4) pe_str (nomark _))
          (pss_one (ps_set (i := 3) scWork.nd rfl (Or.inl rfl) (pe_mt Ov hr (by decide) (pv 3) (pa_cons (pe_c No hr (by decide) rfl (pa_cons (pv 5) pa_nil)) pa_nil))))
        (pss_one (ps_if (pt_cmpR op_notIn_seq (pv 5) (pe_tupS (pa_cons pe_str (pa_cons pe_str pa_nil))) (by rfl))
          (pss_one (ps_set (i := 3) scWork.nd rfl (Or.inl rfl) (pe_op (op_own (op := .Mult) om Fm_ hr bm) (pv 3) (pe_c Fa hr (by decide) rfl (pa_cons (pv 5) pa_nil)))))
          pss_nil))))))))) 
        (pss_one (ps_set (i := 4) scWork.nd rfl (Or.inl rfl) (pv 5)))))
      (pss_one (ps_ret (pe_op (op_own (op := .Add) oa Fa_ hr ba) (pv 2) (pv 3))))))), ?_⟩
    refine ⟨by decide, fun D nD => ?_⟩
    have SD : Same H (upd H D (.lst [])) := Same.upd nD
    refine ⟨0, rfl, fun H1 t0 S1 n1 f1 => ⟨1, rfl, fun H2 m0 S2 n2 f2 => ⟨_, _, rfl, ?_⟩⟩⟩
    have hD2 : H2 D = some (.lst []) := S2 _ _ (S1 _ _ upd_same)
    generalize hans : woGo ws wo0 = ans
    have hk : ∀ H' b, Same H H' → H b = none → FmAt P w K C H' b (addF ans.total ans.term) → Q (.ref b) H' := by
      rw [← hans]
      exact k
    refine ⟨_, rfl, l, rfl, ⟨_, ((hl.same SD).same S1).same S2⟩, for_it (walk_list (xs := ws.map V.str)) (fun i σ' H' => ∃ (s : Wo) (zs : List Addr) (t m : Addr) (u v : Option V), σ' = [some (.ref l), some (.ref D), some (.ref t), some (.ref m), some (.str s.before), u, v] ∧ Same H H' ∧ H' D = some (.lst (zs.map V.ref)) ∧ Wait P w K C H' zs s.st ∧ FmAt P w K C H' t s.total ∧ FmAt P w K C H' m s.term ∧ woOk (ws.drop i) s ∧ woGo (ws.drop i) s = ans)
      ⟨wo0, [], t0, m0, none, none, rfl, (SD.trans S1).trans S2, hD2, .nil, f1.same S2, f2, hok, hans⟩ (fun i σ' H' _ ⟨s, zs, t, m, u, v, _, S, _⟩ => hl.same S) ?_ ?_⟩
    · rintro i x _ H3 H3' hi ⟨s, zs, t, m, u, v, rfl, S3, hD3, wt, ft, fm, ok, go⟩ ⟨rfl, hy⟩
      rw [List.getElem?_map] at hy
      obtain ⟨y, hyw, rfl⟩ := Option.map_eq_some_iff.mp hy
      have hd : ws.drop i = y :: ws.drop (i + 1) := by
        obtain ⟨h1, h2⟩ := List.getElem?_eq_some_iff.mp hyw
        exact (List.drop_eq_getElem_cons h1).trans (by rw [h2])
      rw [hd] at ok go
      obtain ⟨sok, ok⟩ := ok
      unfold woGo at go
      have zl : zs.length = s.st.length := Paired.length wt
      refine ts_mid (fun σ' H' => ∃ (zs : List Addr) (t m : Addr) (v : Option V), σ' = [some (.ref l), some (.ref D), some (.ref t), some (.ref m), some (.str s.before), some (.str y), v] ∧ Same H H' ∧ H' D = some (.lst (zs.map V.ref)) ∧ Wait P w K C H' zs (woStep s y).st ∧ FmAt P w K C H' t (woStep s y).total ∧ FmAt P w K C H' m (woStep s y).term) (fun N hN => ?_) ?_
      · refine ⟨_, rfl, rfl, _, rfl, ?_⟩
        unfold stepOk at sok
        by_cases q1 : y = "("
        · rw [if_pos q1] at sok
          have es : woStep s y = ⟨s.st ++ [(s.total, s.term)], numM 0, numM 1, y⟩ := if_pos q1
          rw [es] at hN
          refine ifT (decide_eq_true (by rw [q1])) ?_
          refine ⟨_, rfl, .inl ⟨rfl, _, SqL.of hD3⟩, _, rfl, _, rfl, (by show 2 ≤ sizeLine; decide), fun z H4 S4 nz hz => ?_⟩
          have hD4 := S4 _ _ hD3
          have z5 : (100000 : Nat) ≤ sizeLine := by rw [sizeLine_eq]; decide
          refine ⟨D, _, _, rfl, rfl, hD4, by rw [List.length_map]; omega, ?_⟩
          have SB : SameB D H4 (upd H4 D (.lst (zs.map V.ref ++ [.ref z]))) := (SameB.refl D H4).upd
          have hz5 : (upd H4 D (.lst (zs.map V.ref ++ [.ref z]))) z = some (.tup [.ref t, .ref m]) := by rw [upd_ne (ne_of hz hD4 (by intro w; cases w))]; exact hz
          have SH : Same H (upd H4 D (.lst (zs.map V.ref ++ [.ref z]))) := fun b o e => by rw [upd_ne (ne_of_none e nD)]; exact S4 _ _ (S3 _ _ e)
          have wt5 := (wt.same S4).sameL SB hD4
          have ft5 := fmL (ft.same S4) SB hD4
          have fm5 := fmL (fm.same S4) SB hD4
          have hD5 : (upd H4 D (.lst (zs.map V.ref ++ [.ref z]))) D = some (.lst ((zs ++ [z]).map V.ref)) := by rw [upd_same, List.map_append]; rfl
          generalize upd H4 D (.lst (zs.map V.ref ++ [.ref z])) = H5 at SB hz5 SH wt5 ft5 fm5 hD5 ⊢
          refine ⟨0, rfl, fun H6 t6 S6 n6 f6 => ⟨1, rfl, fun H7 m7 S7 n7 f7 => ⟨_, _, rfl, ?_⟩⟩⟩
          have wt6 : Wait P w K C H5 (zs ++ [z]) (s.st ++ [(s.total, s.term)]) := Paired.snoc wt5 ⟨t, m, hz5, ft5, fm5⟩
          exact hN _ _ ⟨zs ++ [z], t6, m7, v, rfl, (SH.trans S6).trans S7, S7 _ _ (S6 _ _ hD5), (wt6.same S6).same S7, f6.same S7, f7⟩
        · rw [if_neg q1] at sok
          refine ifF (decide_eq_false fun w => q1 (by injection w)) ?_
          refine ⟨_, rfl, rfl, _, rfl, ?_⟩
          by_cases q2 : y = ")"
          · rw [if_pos q2] at sok
            obtain ⟨ne, sz1, sz2⟩ := sok
            have es : woStep s y = ⟨s.st.dropLast, (s.st.getLastD ([], [])).1, mulF (s.st.getLastD ([], [])).2 (addF s.total s.term), y⟩ := (if_neg q1).trans (if_pos q2)
            rw [es] at hN
            refine ifT (decide_eq_true (by rw [q2])) ?_
            obtain ⟨dxa, fsa, dxb, fsb, ha, hb⟩ := own_refs ft fm
            refine ⟨_, rfl, _, rfl, t, m, dxa, _, dxb, _, rfl, rfl, ha, hb, ?_⟩
            refine add_refs ft fm sz1 fun H4 c S4 nc fc => ?_
            have hD4 := S4 _ _ hD3
            obtain ⟨z, a, b, hz, hz2, fa2, fb2, wt2⟩ := (wt.same S4).last ne
            have hzD : z ≠ D := ne_of hz2 hD4 (by intro w; cases w)
            refine ⟨_, rfl, .inl ⟨rfl, _, SqL.of hD4⟩, D, _, _, rfl, rfl, hD4, hz, ?_⟩
            have SB : SameB D H4 (upd H4 D (.lst ((zs.map V.ref).dropLast))) := (SameB.refl D H4).upd
            have SH : Same H (upd H4 D (.lst ((zs.map V.ref).dropLast))) := fun b o e => by rw [upd_ne (ne_of_none e nD)]; exact S4 _ _ (S3 _ _ e)
            have hD5 : (upd H4 D (.lst ((zs.map V.ref).dropLast))) D = some (.lst (zs.dropLast.map V.ref)) := by rw [upd_same, List.map_dropLast]
            refine ⟨z, _, rfl, SqT.of (SB _ _ hzD hz2), rfl, _, _, rfl, _, _, rfl, rfl, ?_⟩
            have wt5 := wt2.sameL SB hD4
            have fa5 := fmL fa2 SB hD4
            have fb5 := fmL fb2 SB hD4
            have fc5 := fmL fc SB hD4
            generalize upd H4 D (.lst ((zs.map V.ref).dropLast)) = H5 at SB SH wt5 fa5 fb5 fc5 hD5 ⊢
            obtain ⟨dxa, fsa, dxb, fsb, ha, hb⟩ := own_refs fb5 fc5
            refine ⟨_, rfl, _, rfl, b, c, dxa, _, dxb, _, rfl, rfl, ha, hb, ?_⟩
            exact mul_refs fb5 fc5 sz2 fun H6 e S6 n6 f6 => hN _ _ ⟨zs.dropLast, a, e, _, rfl, SH.trans S6, S6 _ _ hD5, wt5.same S6, fa5.same S6, f6⟩
          · rw [if_neg q2] at sok
            refine ifF (decide_eq_false fun w => q2 (by injection w)) ?_
            refine ⟨_, rfl, (by show 2 ≤ sizeLine; decide), fun p4 H4 S4 n4 h4 => ?_⟩
            refine ⟨p4, _, rfl, .inr (SqT.of h4), rfl, rfl, _, rfl, ?_⟩
            have hD4 := S4 _ _ hD3
            have iv : inV (.str y) [.str "+", .str "-"] = decide (y ∈ (["+", "-"] : List Str)) := inV_str y ["+", "-"]
            have mem3 : y ∈ (["+", "-"] : List Str) ↔ y = "+" ∨ y = "-" := by simp
            have wt4 := wt.same S4
            have ft4 := ft.same S4
            have fm4 := fm.same S4
            by_cases q3 : y = "+" ∨ y = "-"
            · rw [if_pos q3] at sok
              have es : woStep s y = ⟨s.st, if s.before = "(" then s.total else addF s.total s.term, numM (if y = "+" then 1 else -1), y⟩ := (if_neg q1).trans ((if_neg q2).trans (if_pos q3))
              rw [es] at hN
              refine ifT (by rw [if_neg Bool.false_ne_true, iv, decide_eq_true (mem3.mpr q3)]) ?_
              refine ts_mid (fun σ' H' => ∃ t', σ' = [some (.ref l), some (.ref D), some (.ref t'), some (.ref m), some (.str s.before), some (.str y), v] ∧ Same H4 H' ∧ FmAt P w K C H' t' (if s.before = "(" then s.total else addF s.total s.term)) (fun N2 hN2 => ?_) ?_
              · refine ⟨_, rfl, rfl, _, rfl, ?_⟩
                by_cases q : s.before = "("
                · rw [if_pos q] at hN2
                  exact ifF (by rw [decide_eq_true (by rw [q])]; rfl) (hN2 _ _ ⟨t, rfl, Same.refl _, ft4⟩)
                · rw [if_neg q] at hN2
                  refine ifT (by rw [decide_eq_false fun w => q (by injection w)]; rfl) ?_
                  obtain ⟨dxa, fsa, dxb, fsb, ha, hb⟩ := own_refs ft4 fm4
                  refine ⟨_, rfl, _, rfl, t, m, dxa, _, dxb, _, rfl, rfl, ha, hb, ?_⟩
                  exact add_refs ft4 fm4 (sok.resolve_left q) fun H5 c S5 nc fc => hN2 _ _ ⟨c, rfl, S5, fc⟩
              · rintro _ H5 ⟨t', rfl, S5, ft5⟩
                have S35 := S3.trans (S4.trans S5)
                have hD5 := S5 _ _ hD4
                by_cases q5 : y = "+"
                · simp only [q5, if_true] at hN
                  exact ⟨_, rfl, rfl, _, rfl, ifT (decide_eq_true (by rw [q5])) ⟨1, rfl, fun H6 b S6 n6 f6 => hN _ _ ⟨zs, t', b, v, by rw [q5]; rfl, S35.trans S6, S6 _ _ hD5, (wt4.same S5).same S6, ft5.same S6, f6⟩⟩⟩
                · simp only [q5, if_false] at hN
                  exact ⟨_, rfl, rfl, _, rfl, ifF (decide_eq_false fun w => q5 (by injection w)) ⟨_, rfl, -1, rfl, fun H6 b S6 n6 f6 => hN _ _ ⟨zs, t', b, v, rfl, S35.trans S6, S6 _ _ hD5, (wt4.same S5).same S6, ft5.same S6, f6⟩⟩⟩
            · rw [if_neg q3] at sok
              refine ifF (by rw [if_neg Bool.false_ne_true, iv, decide_eq_false fun w => q3 (mem3.mp w)]) ?_
              refine ⟨_, rfl, rfl, _, rfl, ?_⟩
              by_cases q4 : s.before = "/"
              · rw [if_pos q4] at sok
                have es : woStep s y = ⟨s.st, s.total, overF s.term (numV y), y⟩ := (if_neg q1).trans ((if_neg q2).trans ((if_neg q3).trans (if_pos q4)))
                rw [es] at hN
                obtain ⟨⟨h1, h2, h3, h5⟩, o1, o2, o3, o4, o5⟩ := sok
                obtain ⟨n, hn⟩ := Option.isSome_iff_exists.mp h2
                have en : numV y = n := by unfold numV; rw [hn]; rfl
                rw [en] at hN o1 o2
                refine ifT (decide_eq_true (by rw [q4])) ?_
                obtain ⟨dx, d, kvs, a1, a2, a3⟩ := fm4
                exact ⟨_, rfl, m, dx, _, rfl, a1, rfl, _, rfl, y, n, rfl, h1, hn, h3, h5, m, n, s.term, rfl, o1, o2, ⟨dx, d, kvs, a1, a2, a3⟩, o3, o4, o5, fun H6 b S6 n6 f6 => hN _ _ ⟨zs, t, b, v, rfl, (S3.trans S4).trans S6, S6 _ _ hD4, wt4.same S6, ft4.same S6, f6⟩⟩
              · rw [if_neg q4] at sok
                refine ifF (decide_eq_false fun w => q4 (by injection w)) ?_
                refine ⟨_, rfl, (by show 2 ≤ sizeLine; decide), fun p5 H5 S5 n5 h5 => ?_⟩
                refine ⟨p5, _, rfl, .inr (SqT.of h5), rfl, rfl, _, rfl, ?_⟩
                have hD5 := S5 _ _ hD4
                have S35 := (S3.trans S4).trans S5
                have wt5 := wt4.same S5
                have ft5 := ft4.same S5
                have fm5 := fm4.same S5
                have iv2 : inV (.str y) [.str "*", .str "/"] = decide (y ∈ (["*", "/"] : List Str)) := inV_str y ["*", "/"]
                have mem4 : y ∈ (["*", "/"] : List Str) ↔ y = "*" ∨ y = "/" := by simp
                by_cases q5 : y = "*" ∨ y = "/"
                · have es : woStep s y = ⟨s.st, s.total, s.term, y⟩ := (if_neg q1).trans ((if_neg q2).trans ((if_neg q3).trans ((if_neg q4).trans (if_pos q5))))
                  rw [es] at hN
                  exact ifF (by rw [if_pos rfl, iv2, decide_eq_true (mem4.mpr q5)]; rfl) (hN _ _ ⟨zs, t, m, v, rfl, S35, hD5, wt5, ft5, fm5⟩)
                · rw [if_neg q5] at sok
                  have es : woStep s y = ⟨s.st, s.total, mulF s.term (facF y), y⟩ := (if_neg q1).trans ((if_neg q2).trans ((if_neg q3).trans ((if_neg q4).trans (if_neg q5))))
                  rw [es] at hN
                  refine ifT (by rw [if_pos rfl, iv2, decide_eq_false fun w => q5 (mem4.mp w)]; rfl) ?_
                  refine ⟨_, rfl, _, rfl, y, rfl, sok.1, fun H6 c S6 n6 f6 => ?_⟩
                  have fm6 := fm5.same S6
                  obtain ⟨dxa, fsa, dxb, fsb, ha, hb⟩ := own_refs fm6 f6
                  refine ⟨m, c, dxa, _, dxb, _, rfl, rfl, ha, hb, ?_⟩
                  exact mul_refs fm6 f6 sok.2 fun H7 b S7 n7 f7 => hN _ _ ⟨zs, t, b, v, rfl, (S35.trans S6).trans S7, S7 _ _ (S6 _ _ hD5), (wt5.same S6).same S7, (ft5.same S6).same S7, f7⟩
      · rintro _ H4 ⟨zs', t', m', v', rfl, S4, hD4, wt4, ft4, fm4⟩
        exact ⟨_, rfl, woStep s y, zs', t', m', _, v', by rw [woStep_before]; rfl, S4, hD4, wt4, ft4, fm4, ok, go⟩
    · rintro _ H3 ⟨s, zs, t, m, u, v, rfl, S3, hD3, wt, ft, fm, ok, go⟩
      rw [List.length_map, List.drop_length] at ok go
      unfold woGo at go
      subst go
      obtain ⟨dxa, fsa, dxb, fsb, ha, hb⟩ := own_refs ft fm
      refine ⟨_, rfl, _, rfl, t, m, dxa, _, dxb, _, rfl, rfl, ha, hb, ?_⟩
      exact add_refs ft fm ok fun H4 c S4 nc fc => hk H4 c (S3.trans S4) (S3.free nc) fc
end
end E2

set_option Elab.async false
set_option linter.all false
set_option maxRecDepth 100000
set_option maxHeartbeats 1000000
/-! split_words -/
namespace E2
open PySem PySem.Spec PyProof.Rows L2
open C8 (Cal Mak Met InsC pe_c pe_mt pe_mt0 call_isC clsBody)
theorem drop_at {α : Type} {l : List α} {i : Nat} {a : α} (h : l[i]? = some a) : l.drop i = a :: l.drop (i + 1) := by
  obtain ⟨h1, h2⟩ := List.getElem?_eq_some_iff.mp h
  exact (List.drop_eq_getElem_cons h1).trans (by rw [h2])
theorem wEnd_gt (l : List Nat) (i : Nat) : i < wEnd l i := by
  unfold wEnd
  split
  · exact Nat.lt_succ_self i
  · split
    · exact Nat.lt_of_lt_of_le (Nat.lt_succ_self i) (runE_ge _ _ _)
    · split
      · exact Nat.lt_of_lt_of_le (Nat.lt_succ_self i) (runE_ge _ _ _)
      · exact Nat.lt_succ_self i
theorem wEnd_le {l : List Nat} {i : Nat} (h : i < l.length) : wEnd l i ≤ l.length := by
  obtain ⟨a, ha⟩ : ∃ a, l[i]? = some a := ⟨_, List.getElem?_eq_getElem h⟩
  unfold wEnd
  rw [drop_at ha]
  have d : (l.drop (i + 1)).length = l.length - (i + 1) := List.length_drop
  have r1 := runE_le digN (l.drop (i + 1)) (i + 1)
  have r2 := runE_le smlN (l.drop (i + 1)) (i + 1)
  dsimp only
  split
  · omega
  · split <;> omega
theorem str1 {c d : Nat} : V.str ⟨#[c]⟩ = V.str ⟨#[d]⟩ ↔ c = d := by
  constructor
  · intro h
    have h1 := congrArg (fun v => match v with | V.str s => s.cps.toList | _ => []) h
    have h2 : [c] = [d] := h1
    exact (List.cons.inj h2).1
  · rintro rfl
    rfl
/-- the words from i on; n: no fewer than there can be -/
def spl (t : Str) : Nat → Nat → List Str
  | 0, _ => []
  | n + 1, i => match t.cps.toList[i]? with
    | none => []
    | some c => (if c = 32 then [] else [cutS t (some (i : Int)) (some (wEnd t.cps.toList i : Int))]) ++ spl t n (wEnd t.cps.toList i)
def wordsOf (t : Str) : List Str := spl t t.length 0
def spSplit : Sp := fun vs H Q _ => ∃ t : Str, vs = [.str t] ∧ t.length ≤ 100000 ∧ ∀ H' p, Same H H' → H p = none → H' p = some (.lst ((wordsOf t).map V.str)) → Q (.ref p) H'
section
variable {P : Program} {w : World} {K : PySem.W.Frag} {mg : Str → Option Value} {base : Heap} {C : Addr}
theorem scSplit : FnScope ["text", "words", "start", "end"] ["text"] (defScope sSplitWords) := ⟨rfl, rfl, rfl, by decide +kernel, rfl, by decide +kernel, by decide +kernel⟩
theorem ok_split {f : Addr} {fd : FuncData} (F : Fun K "split_words" "split_words" sSplitWords f fd) (B2 : Bt2 mg) (We : Cal P w K mg base 2 "word_end" spWEnd []) : FnOk P w K mg base CX0 3 f fd ["text"] spSplit := by
  refine F.ok scSplit (fun vs H Q E h => ?_) (fun cdv A outer s H vs Q E hr h => ?_)
  · obtain ⟨t, rfl, _⟩ := h
    rfl
  · obtain ⟨t, rfl, hz, k⟩ := h
    refine ⟨_, pss_cons (ps_set (i := 1) scSplit.nd rfl (Or.inl rfl) (pe_lst pa_nil))
      (pss_cons (ps_set (i := 2) scSplit.nd rfl (Or.inl rfl) pe_int)
      (pss_cons (ps_while PassesOwn.never (pt_cmpR op_lt (pv 2) (pe_callB call_len_str (by rfl) B2.len_ PySem.boot_len (pa_cons (pv 0) pa_nil)) (nomark _))
        (pss_cons (ps_set (i := 3) scSplit.nd rfl (Or.inl rfl) (pe_c We hr (by decide) rfl (pa_cons (pv 0) (pa_cons (pv 2) pa_nil))))
        (pss_cons (ps_if (pt_cmpR op_ne (pe_ix ix_str (pv 0) (pv 2) (fun _ _ => rfl)) pe_str (nomark _))
          (pss_one (ps_expr (pe_bm PySem.F.plainAttrs_list PySem.F.slot_list_append PySem.F.type_list_append mt_append (pv 1) (pa_cons (pe_slice sl_str (pv 0) (po_some (pv 2)) (po_some (pv 3))) pa_nil)))) pss_nil)
        (pss_one (ps_set (i := 2) scSplit.nd rfl (Or.inl rfl) (pv 3))))))
      (pss_one (ps_ret (pv 1))))), ?_⟩
    have hz2 : t.length ≤ sizeLine := by rw [sizeLine_eq]; omega
    have hl : t.cps.toList.length = t.length := rfl
    refine ⟨by decide, fun D nD => ?_⟩
    show tSeq (tWhile _ _) _ _ [some (.str t), some (.ref D), some (.int (0 : Nat)), none] (upd H D (.lst []))
    refine while_by (fun σ H' => ∃ (n i : Nat) (acc : List Str) (u : Option V), σ = [some (.str t), some (.ref D), some (.int (i : Nat)), u] ∧ H' = upd H D (.lst (acc.map V.str)) ∧ i ≤ t.length ∧ t.length ≤ n + i ∧ acc.length ≤ i ∧ acc ++ spl t n i = wordsOf t) (fun σ _ => t.length - eOf σ) ⟨t.length, 0, [], none, rfl, rfl, Nat.zero_le _, Nat.le_refl _, Nat.le_refl _, rfl⟩ ?_ ?_
    · rintro σ _ ⟨n, i, acc, u, rfl, rfl, hi, hn, ha0, hw⟩
      refine ⟨_, rfl, _, rfl, t, rfl, hz2, _, _, rfl, rfl, _, rfl, ?_⟩
      by_cases c : i < t.length
      · refine ifT (decide_eq_true (by omega)) ?_
        obtain ⟨a, ha⟩ : ∃ a, t.cps.toList[i]? = some a := ⟨_, List.getElem?_eq_getElem (by rw [hl]; exact c)⟩
        obtain ⟨m, rfl⟩ : ∃ m, n = m + 1 := ⟨n - 1, by omega⟩
        have g1 := wEnd_gt t.cps.toList i
        have g2 := wEnd_le (l := t.cps.toList) (i := i) (by rw [hl]; exact c)
        rw [hl] at g2
        have hw2 := hw
        unfold spl at hw2
        rw [ha] at hw2
        dsimp only at hw2
        refine ⟨_, rfl, _, rfl, t, i, rfl, c, hz, ?_⟩
        refine ⟨_, rfl, _, rfl, t, _, a, rfl, rfl, hz2, atI_nat ha, rfl, _, rfl, ?_⟩
        by_cases q : a = 32
        · refine ifF (by rw [decide_eq_true (show V.str ⟨#[a]⟩ = V.str " " by rw [q]; rfl)]; rfl) ?_
          rw [if_pos q, List.nil_append] at hw2
          exact ⟨_, rfl, ⟨m, _, acc, _, rfl, rfl, g2, by omega, by omega, hw2⟩, by show t.length - ((wEnd t.cps.toList i : Nat) : Int).toNat < t.length - ((i : Nat) : Int).toNat; omega⟩
        · refine ifT (by rw [decide_eq_false (show ¬ V.str ⟨#[a]⟩ = V.str " " from fun z => q (str1.mp z))]; rfl) ?_
          rw [if_neg q, ← List.append_assoc] at hw2
          refine ⟨_, rfl, .inl ⟨rfl, _, SqL.of upd_same⟩, _, rfl, _, rfl, _, rfl, _, rfl, _, rfl, t, rfl, hz2, D, _, _, rfl, rfl, upd_same, ?_, ?_⟩
          · rw [List.length_map]
            omega
          · exact ⟨_, rfl, ⟨m, _, acc ++ [_], _, rfl, by rw [upd_upd, List.map_append]; rfl, g2, by omega, by rw [List.length_append, List.length_singleton]; omega, hw2⟩, by show t.length - ((wEnd t.cps.toList i : Nat) : Int).toNat < t.length - ((i : Nat) : Int).toNat; omega⟩
      · refine ifF (decide_eq_false (by omega)) ?_
        have e0 : spl t n i = [] := by
          cases n with
          | zero => rfl
          | succ m =>
            unfold spl
            rw [List.getElem?_eq_none (by omega)]
        rw [e0, List.append_nil] at hw
        subst hw
        exact ⟨_, rfl, k _ D (Same.upd nD) nD upd_same⟩
    · rintro σ H1 Q Q' hq ⟨x, hx, y, hy, z, hz, l, a, b, ha, hb, k, hk, h⟩
      exact ⟨x, hx, y, hy, z, hz, l, a, b, ha, hb, k, hk, hq _ _ h⟩
end
end E2

set_option Elab.async false
set_option linter.all false
set_option maxRecDepth 100000
set_option maxHeartbeats 1000000
/-! read -/
namespace E2
open PySem PySem.Spec PyProof.Rows L2
open C8 (Cal Mak Met InsC pe_c pe_mt pe_mt0 call_isC clsBody)
structure RdOk (t : Str) : Prop where
  len : t.length ≤ 100000
  ws : ∀ x ∈ wordsOf t, 0 < x.length ∧ x.length ≤ 100000
  ex : exGo (wordsOf t) "expression" 0 = true
  ok : woOk (wordsOf t) wo0
def spRead (P : Program) (w : World) (K : PySem.W.Frag) (C : Addr) : Sp := fun vs H Q _ => ∃ t : Str, vs = [.str t] ∧ RdOk t ∧ ∀ H' b, Same H H' → H b = none → FmAt P w K C H' b (woF (wordsOf t)) → Q (.ref b) H'
section
variable {P : Program} {w : World} {K : PySem.W.Frag} {mg : Str → Option Value} {base : Heap} {C : Addr}
theorem scRead : FnScope ["text", "words"] ["text"] (defScope sRead) := ⟨rfl, rfl, rfl, by decide +kernel, rfl, by decide +kernel, by decide +kernel⟩
theorem ok_read {f : Addr} {fd : FuncData} (F : Fun K "read" "read" sRead f fd) (B : Bt K mg C) (B2 : Bt2 mg) (Sp_ : Cal P w K mg base 3 "split_words" spSplit []) (Ie : Cal P w K mg base 3 "is_expression" (spIsEx K) []) (Wk : Cal P w K mg base 6 "work_out" (spWork P w K C) []) : FnOk P w K mg base CX0 7 f fd ["text"] (spRead P w K C) := by
  refine F.ok scRead (fun vs H Q E h => ?_) (fun cdv A outer s H vs Q E hr h => ?_)
  · obtain ⟨t, rfl, _⟩ := h
    rfl
  · obtain ⟨t, rfl, ok, k⟩ := h
    refine ⟨_, pss_cons (ps_if (pt_not (pt_val (pe_callB call_isi (by rfl) B.isi (by decide +kernel) (pa_cons (pv 0) (pa_cons (pe_bltn (v := .ty "str") (by rfl) B2.str_ (by decide +kernel) rfl) pa_nil))))) (pss_one ps_never) pss_nil)
      (pss_cons (ps_set (i := 1) scRead.nd rfl (Or.inl rfl) (pe_c Sp_ hr (by decide) rfl (pa_cons (pv 0) pa_nil)))
      (pss_cons (ps_if (pt_not (pt_val (pe_c Ie hr (by decide) rfl (pa_cons (pv 1) pa_nil)))) (pss_one ps_never) pss_nil)
      (pss_one (ps_ret (pe_c Wk hr (by decide) rfl (pa_cons (pv 1) pa_nil)))))), ?_⟩
    refine ⟨_, rfl, _, _, _, _, true, rfl, .ty "str", .base (.str t), kit_ss, true, rfl, iteF ?_⟩
    dsimp only [tNext]
    refine seq_asg ⟨_, rfl, t, rfl, ok.len, fun H1 p S1 np hp => ?_⟩
    refine ⟨_, rfl, p, wordsOf t, rfl, SqL.of hp, ok.ws, fun H2 S2 => ⟨_, rfl, ?_⟩⟩
    rw [ok.ex]
    refine iteF ?_
    dsimp only [tNext]
    exact ⟨_, rfl, p, wordsOf t, rfl, (SqL.of hp).same S2, ok.ok, fun H3 b S3 nb fb => k H3 b ((S1.trans S2).trans S3) ((S1.trans S2).free nb) fb⟩
end
end E2

set_option Elab.async false
set_option linter.all false
set_option maxRecDepth 100000
set_option maxHeartbeats 1000000
/-! write -/
namespace E2
open PySem PySem.Spec PyProof.Rows L2
open C8 (Cal Mak Met InsC pe_c pe_mt pe_mt0 call_isC clsBody)
open LamX (Tabs ExtN TabB CodeO)
def sgnS (top : Int) (acc : List Str) : Str := if top < 0 then "-" else if acc.isEmpty = true then "" else "+"
def wrGo : Fm → List Str → List Str
  | [], acc => acc
  | x :: r, acc => wrGo r (acc ++ [sgnS x.2.num acc, ttS (if x.2.num < 0 then -x.2.num else x.2.num) (x.2.den : Int) x.1])
def wrS (fm : Fm) : Str := if (wrGo (trs fm) []).isEmpty = true then "0" else Txt.join "" (wrGo (trs fm) [])
structure WrOk (fm : Fm) : Prop where
  nd : (fm.map (·.1)).Nodup
  len : fm.length ≤ 100000
  ml : ∀ x ∈ fm, x.1.length ≤ 100000
  tt : ∀ x ∈ trs fm, TtOk (if x.2.num < 0 then -x.2.num else x.2.num) (x.2.den : Int) x.1
  sum : ((wrGo (trs fm) []).map (·.length)).sum ≤ 16777216
def spWrite (P : Program) (w : World) (T : List (Addr × Str)) (K : PySem.W.Frag) (C : Addr) : Sp := fun vs H Q _ => ∃ a fm, vs = [.ref a] ∧ FmAt P w K C H a fm ∧ WrOk fm ∧ Tabs T H ∧ ∀ (H' : Hp), ExtN H H' → Tabs T H' → Q (.str (wrS fm)) H'
theorem tabs_sameB {T : List (Addr × Str)} {D : Addr} {H H' : Hp} {xs : List V} (t : Tabs T H) (S : SameB D H H') (hD : H D = some (.lst xs)) : Tabs T H' := fun p hp =>
  let ⟨ps, h1, h2, h3⟩ := t p hp
  ⟨ps, S _ _ (ne_of h1 hD (by intro w; cases w)) h1, h2, fun pos cv e => let ⟨c, e1, e2⟩ := h3 pos cv e; ⟨c, e1, S _ _ (ne_of e2 hD (by unfold CodeO; intro w; cases w)) e2⟩⟩
section
variable {P : Program} {w : World} {K : PySem.W.Frag} {mg : Str → Option Value} {base : Heap} {C : Addr}
theorem scWrite : FnScope ["form", "pieces", "top", "bottom", "names"] ["form"] (defScope sWrite) := ⟨rfl, rfl, rfl, by decide +kernel, rfl, by decide +kernel, by decide +kernel⟩
theorem ok_write {TT : List (Addr × Str)} {f : Addr} {fd : FuncData} (F : Fun K "write" "write" sWrite f fd) (B : Bt K mg C) (habs : mg "abs" = none) (Te : Met P w K mg base 2 C "terms" (spTerms TT P w K C) []) (Tx : Cal P w K mg base 2 "term_text" (spTT K) []) : FnOk P w K mg base CX0 3 f fd ["form"] (spWrite P w TT K C) := by
  refine F.ok scWrite (fun vs H Q E h => ?_) (fun cdv A outer s H vs Q E hr h => ?_)
  · obtain ⟨a, fm, rfl, _⟩ := h
    rfl
  · obtain ⟨a, fm, rfl, hf, W, tb, k⟩ := h
    refine ⟨_, pss_cons (ps_if (pt_not (pt_val (pe_callB (call_isC B.ins) (by rfl) B.isi (by decide +kernel) (pa_cons (pv 0) (pa_cons (pe_glob (v := .ref C) (by rfl) B.mgF rfl) pa_nil))))) (pss_one ps_never) pss_nil)
      (pss_cons (ps_set (i := 1) scWrite.nd rfl (Or.inl rfl) (pe_lst pa_nil))
      (pss_cons (ps_for PassesOwn.never rfl (pi_list (pe_mt0 Te hr (by decide) (pv 0))) (pg_tup rfl (pgs_cons (pg_name (i := 2) scWrite.nd rfl (Or.inl rfl)) (pgs_cons (pg_name (i := 3) scWrite.nd rfl (Or.inl rfl)) (pgs_cons (pg_name (i := 4) scWrite.nd rfl (Or.inl rfl)) pgs_nil))))
        (pss_cons (ps_expr (pe_bm PySem.F.plainAttrs_list PySem.F.slot_list_append PySem.F.type_list_append mt_append (pv 1) (pa_cons (pe_ifExp (pt_cmpR op_lt (pv 2) pe_int (nomark _)) pe_str (pe_ifExp (pt_truth (pv 1) (by intro _; rfl)) pe_str pe_str)) pa_nil)))
        (pss_one (ps_expr (pe_bm PySem.F.plainAttrs_list PySem.F.slot_list_append PySem.F.type_list_append mt_append (pv 1) (pa_cons (pe_c Tx hr (by decide) rfl (pa_cons (pe_callB call_abs (by rfl) habs (by decide +kernel) (pa_cons (pv 2) pa_nil)) (pa_cons (pv 3) (pa_cons (pv 4) pa_nil)))) pa_nil))))))
      (pss_one (ps_ret (pe_ifExp (pt_truth (pv 1) (by intro _; rfl)) (pe_join pe_str (pv 1)) pe_str))))), ?_⟩
    obtain ⟨dx, dp, kvp, ha, hd, hkv⟩ := hf
    refine ⟨_, rfl, a, dx, _, rfl, ha, true, rfl, iteF ?_⟩
    dsimp only [tNext]
    refine ⟨by decide, fun D nD => ?_⟩
    have SD : Same H (upd H D (.lst [])) := Same.upd nD
    have hD1 : (upd H D (.lst [])) D = some (.lst []) := upd_same
    generalize upd H D (.lst []) = H1 at SD hD1 ⊢
    generalize hans : wrGo (trs fm) [] = ans
    have hk : ∀ H', ExtN H H' → Tabs TT H' → Q (.str (if ans.isEmpty = true then "0" else Txt.join "" ans)) H' := by
      rw [← hans]
      exact k
    refine ⟨_, rfl, a, dx, _, rfl, SD _ _ ha, rfl, a, fm, rfl, ⟨dx, dp, kvp, SD _ _ ha, SD _ _ hd, hkv.same SD⟩, W.nd, W.len, W.ml, tb.ext SD, fun H2 p zs ex tb2 np hp tz nd fz => ?_⟩
    have neD : ∀ q, NewT H1 q → q ≠ D := fun q n e => by
      rw [e] at n
      obtain ⟨ps, z⟩ := n _ hD1
      cases z
    have hD2 : H2 D = some (.lst []) := ex _ _ hD1 fun _ z => nomatch z
    have wl := W.len
    have lz : zs.length = (trs fm).length := Paired.length tz
    have ltr : (trs fm).length = fm.length := by
      unfold trs sortM
      rw [List.length_map, List.length_mergeSort, List.length_map]
    have z5 : (300000 : Nat) ≤ sizeLine := by rw [sizeLine_eq]; decide
    refine ⟨p, rfl, ⟨_, SqL.of hp⟩, for_it (walk_list (xs := zs.map fun z => V.ref z.1)) (fun i σ' H' => ∃ (acc : List Str) (u2 u3 u4 : Option V), σ' = [some (.ref a), some (.ref D), u2, u3, u4] ∧ SameB D H2 H' ∧ H' D = some (.lst (acc.map V.str)) ∧ acc.length = 2 * i ∧ wrGo ((trs fm).drop i) acc = ans)
      ⟨[], none, none, none, rfl, SameB.refl D H2, hD2, rfl, hans⟩ (fun i σ' H' _ ⟨acc, u2, u3, u4, _, S, _⟩ => SqL.of (S _ _ (neD p np) hp)) ?_ ?_⟩
    · rintro i x _ H3 H3' hi ⟨acc, u2, u3, u4, rfl, S3, hD3, la, go⟩ ⟨rfl, hy⟩
      rw [List.length_map] at hi
      rw [List.getElem?_map] at hy
      obtain ⟨z, hz, rfl⟩ := Option.map_eq_some_iff.mp hy
      obtain ⟨y, hyt, t1, t2⟩ := paired_get tz hz
      have hd4 : (trs fm).drop i = y :: (trs fm).drop (i + 1) := by
        obtain ⟨h1, h2⟩ := List.getElem?_eq_some_iff.mp hyt
        exact (List.drop_eq_getElem_cons h1).trans (by rw [h2])
      rw [hd4] at go
      unfold wrGo at go
      have nz1 : z.1 ≠ D := ne_of t1 hD2 (by intro w; cases w)
      have nz2 : z.2 ≠ D := neD z.2 (fz z (List.mem_of_getElem? hz)).1
      refine ⟨z.1, _, rfl, SqT.of (S3 _ _ nz1 t1), rfl, _, _, rfl, _, _, rfl, _, _, rfl, rfl, ?_⟩
      refine ts_mid (fun σ' H' => σ' = [some (.ref a), some (.ref D), some (.int y.2.num), some (.int (y.2.den : Int)), some (.ref z.2)] ∧ SameB D H2 H' ∧ H' D = some (.lst ((acc ++ [sgnS y.2.num acc]).map V.str))) (fun N hN => ?_) ?_
      · have app : ∀ g : Str, g = sgnS y.2.num acc → ∃ l xs y', V.ref D = V.ref l ∧ [V.str g] = [y'] ∧ H3' l = some (.lst xs) ∧ xs.length < sizeLine ∧ N [some (.ref a), some (.ref D), some (.int y.2.num), some (.int (y.2.den : Int)), some (.ref z.2)] (upd H3' l (.lst (xs ++ [y']))) := by
          rintro g rfl
          refine ⟨D, _, _, rfl, rfl, hD3, by rw [List.length_map, la]; omega, hN _ _ ⟨rfl, S3.upd, ?_⟩⟩
          rw [upd_same, List.map_append]
          rfl
        refine ⟨_, rfl, .inl ⟨rfl, _, SqL.of hD3⟩, _, rfl, _, _, rfl, rfl, _, rfl, ?_⟩
        by_cases c : y.2.num < 0
        · refine ifT (decide_eq_true c) ?_
          exact app "-" (by unfold sgnS; rw [if_pos c])
        · refine ifF (decide_eq_false c) ?_
          refine ⟨_, rfl, _, .inl ⟨_, SqL.of hD3, rfl⟩, ?_⟩
          by_cases c2 : acc.isEmpty = true
          · refine ifF (by rw [List.isEmpty_map, c2]; rfl) ?_
            exact app "" (by unfold sgnS; rw [if_neg c, if_pos c2])
          · refine ifT (by rw [List.isEmpty_map, Bool.eq_false_iff.mpr c2]; rfl) ?_
            exact app "+" (by unfold sgnS; rw [if_neg c, if_neg c2])
      · rintro _ H4 ⟨rfl, S4, hD4⟩
        refine ⟨_, rfl, .inl ⟨rfl, _, SqL.of hD4⟩, _, rfl, _, rfl, _, rfl, _, rfl, _, _, z.2, y.1, rfl, SqL.of (S4 _ _ nz2 t2), W.tt y (List.mem_of_getElem? hyt), fun H5 S5 => ?_⟩
        refine ⟨D, _, _, rfl, rfl, S5 _ _ hD4, by rw [List.length_map, List.length_append, List.length_singleton, la]; omega, ?_⟩
        refine ⟨acc ++ [sgnS y.2.num acc, ttS (if y.2.num < 0 then -y.2.num else y.2.num) (y.2.den : Int) y.1], _, _, _, rfl, (S4.to S5).upd, ?_, by rw [List.length_append, la]; simp; omega, go⟩
        rw [upd_same, List.map_append, List.map_append, List.append_assoc]
        rfl
    · rintro _ H3 ⟨acc, u2, u3, u4, rfl, S3, hD3, la, go⟩
      rw [List.length_map, lz, List.drop_length] at go
      unfold wrGo at go
      subst go
      have EX : ExtN H H3 := fun b o e n => S3 b o (ne_of_none e nD) (ex _ _ (SD _ _ e) n)
      have TB : Tabs TT H3 := tabs_sameB tb2 S3 hD2
      refine ⟨_, rfl, _, .inl ⟨_, SqL.of hD3, rfl⟩, ?_⟩
      by_cases c : acc.isEmpty = true
      · simp only [c, if_true] at hk
        exact ifF (by rw [List.isEmpty_map, c]; rfl) (hk H3 EX TB)
      · simp only [c, if_false] at hk
        refine ifT (by rw [List.isEmpty_map, Bool.eq_false_iff.mpr c]; rfl) ?_
        refine ⟨⟨_, rfl⟩, _, rfl, _, D, acc, rfl, rfl, .inl (SqL.of hD3), ?_, hk H3 EX TB⟩
        have z0 : ("" : Str).length = 0 := rfl
        rw [z0, Nat.mul_zero, Nat.add_zero, ← hans]
        exact W.sum
end
end E2

set_option Elab.async false
set_option linter.all false
set_option maxRecDepth 100000
set_option maxHeartbeats 1000000
/-! law_k05: the form that its law builds, in numbers -/
namespace L2
open PySem PySem.Spec PyProof.Rows
theorem eqFm_refl (a : Fm) : eqFm a a = true := by
  unfold eqFm
  simp
end L2
namespace E2
open PySem PySem.Spec PyProof.Rows L2
def smB (fm : Fm) : Bool := fm.all (fun x => x.2.den == 1 && decide (x.2.num.natAbs ≤ 1000000) && decide (x.1.length ≤ 100)) && decide (fm.length ≤ 100) && decide (fm.map (·.1)).Nodup
def lF (z : Str) : Fm := [([z], 1)]
def bF (q : Int) : Fm := addF (addF (mulF (lF "n") (numM q)) (mulF (mulF (lF "m") (lF "n")) (numM q))) (numM 3)
def szHB (o : Fm) : Fm → List Fm → Bool
  | _, [] => true
  | a, p :: r => smB a && smB o && smB (mulF a o) && smB p && szHB o (addF (mulF a o) p) r
def okB (q : Int) : Bool := smB (lF "n") && smB (lF "m") && smB (numM q) && smB (mulF (lF "n") (numM q)) && smB (mulF (lF "m") (lF "n")) && smB (mulF (mulF (lF "m") (lF "n")) (numM q)) && smB (addF (mulF (lF "n") (numM q)) (mulF (mulF (lF "m") (lF "n")) (numM q))) && smB (numM 3) && smB (bF q) && szHB (lF "z") [] (powF "n" (bF q)).reverse && szHB (lF "z") [] (powF "m" (bF q)).reverse
theorem okB_all : ∀ i ∈ List.range 99, okB ((i : Int) + 1) = true := by decide +kernel
def kN : List Str := ["n"]
def kMN : List Str := ["m", "n"]
def bX (q : Int) : Fm := [(kN, (q : Rat)), (kMN, (q : Rat)), (([] : List Str), 3)]
theorem bF_is : ∀ i ∈ List.range 99, bF ((i : Int) + 1) = bX ((i : Int) + 1) := by decide +kernel
theorem le1 : PySem.W.dataLe false kM kN kMN = true := by decide +kernel
theorem le2 : PySem.W.dataLe false kM ([] : List Str) kN = true := by decide +kernel
theorem le3 : PySem.W.dataLe false kM ([] : List Str) kMN = true := by decide +kernel
theorem le1' : PySem.W.dataLe false kM kMN kN = false := by decide +kernel
theorem le2' : PySem.W.dataLe false kM kN ([] : List Str) = false := by decide +kernel
theorem le3' : PySem.W.dataLe false kM kMN ([] : List Str) = false := by decide +kernel
theorem trs_is : sortM [kN, kMN, []] = [[], kN, kMN] := by
  unfold sortM
  simp [List.mergeSort, List.MergeSort.Internal.splitInTwo, List.merge, le1, le2, le3, le1', le2', le3']
def tX (q : Int) : Fm := [(([] : List Str), 3), (kN, (q : Rat)), (kMN, (q : Rat))]
theorem val_is : ∀ i ∈ List.range 99, ([[], kN, kMN].map fun m => (m, (valM (bX ((i : Int) + 1)) m).getD 0)) = tX ((i : Int) + 1) := by decide +kernel
instance (v : Int) : Decidable (DgOk v) := by unfold DgOk; infer_instance
instance (t b : Int) (ns : List Str) : Decidable (TtOk t b ns) := by unfold TtOk; infer_instance
def wB (q : Int) : Bool := (tX q).all (fun x => decide (TtOk (if x.2.num < 0 then -x.2.num else x.2.num) (x.2.den : Int) x.1)) && decide (((wrGo (tX q) []).map (·.length)).sum ≤ 16777216)
theorem wB_all : ∀ i ∈ List.range 99, wB ((i : Int) + 1) = true := by decide +kernel
def wT (q : Int) : Str := if (wrGo (tX q) []).isEmpty = true then "0" else Txt.join "" (wrGo (tX q) [])
def stepB (s : Wo) (w : Str) : Bool :=
  if w = "(" then false else if w = ")" then false
  else if w = "+" ∨ w = "-" then decide (s.before = "(") || (smB s.total && smB s.term)
  else if s.before = "/" then false
  else if w = "*" ∨ w = "/" then true
  else decide (FacOk w) && smB s.term && smB (facF w)
def woB : List Str → Wo → Bool
  | [], s => smB s.total && smB s.term
  | w :: r, s => stepB s w && woB r (woStep s w)
def rB (q : Int) : Bool := decide ((wT q).length ≤ 100000) && (wordsOf (wT q)).all (fun x => decide (0 < x.length) && decide (x.length ≤ 100000)) && exGo (wordsOf (wT q)) "expression" 0 && woB (wordsOf (wT q)) wo0 && eqFm (woF (wordsOf (wT q))) (bX q)
theorem rB_one : rB 5 = true := by decide +kernel
theorem rB_all : ∀ i ∈ List.range 99, rB ((i : Int) + 1) = true := by decide +kernel
end E2

set_option Elab.async false
set_option linter.all false
set_option maxRecDepth 100000
set_option maxHeartbeats 1000000
/-! _law_draw, _law_one_of -/
namespace E2
open PySem PySem.Spec PyProof.Rows L2
open C8 (Cal Mak Met InsC pe_c pe_mt pe_mt0 call_isC clsBody)
theorem SqL.sameB {K : PySem.W.Frag} {D : Addr} {H H' : Hp} {a : Addr} {xs : List V} (h : SqL K H a xs) (S : SameB D H H') (n : a ≠ D) : SqL K H' a xs := by
  rcases h with (h | ⟨o, h⟩) | h
  · exact .inl (.inl (S _ _ n h))
  · exact .inl (.inr ⟨o, S _ _ n h⟩)
  · exact .inr h
def spDraw : Sp := fun vs H Q _ => ∃ (a : Addr) (many : Int) (n : Nat), vs = [.ref a, .int many] ∧ PurseAt H a (n + 4) ∧ 1 ≤ many ∧ many < 2 ^ 100 ∧ ∀ r H', 0 ≤ r → r < many → PurseAt H' a n → SameB a H H' → Q (.int r) H'
theorem bits_100 {m : Int} (h0 : 1 ≤ m) (h : m < 2 ^ 100) : Builtin.Int.intBits m ≤ 100 := by
  unfold Builtin.Int.intBits
  rw [if_neg (by intro e; have := eq_of_beq e; omega)]
  have h1 : m.natAbs < 2 ^ 100 := by
    have e : ((m.natAbs : Nat) : Int) = m := Int.natAbs_of_nonneg (by omega)
    have : ((m.natAbs : Nat) : Int) < ((2 ^ 100 : Nat) : Int) := by rw [e]; exact_mod_cast h
    exact Int.ofNat_lt.mp this
  have := PySem.Flt.log2_lt_of (by decide) h1
  omega
section
variable {P : Program} {w : World} {K : PySem.W.Frag} {mg : Str → Option Value} {base : Heap}
theorem scDraw : FnScope ["_law_purse_here", "_law_many", "_law_drawn", "_law_found", "_law_piece"] ["_law_purse_here", "_law_many"] (defScope sDraw) := ⟨rfl, rfl, rfl, by decide +kernel, rfl, by decide +kernel, by decide +kernel⟩
theorem ok_draw {f : Addr} {fd : FuncData} (F : Fun K "_law_draw" "_law_draw" sDraw f fd) (B : Bt4 mg) (M : Cal P w K mg base 1 "_law_mixed" spMixed []) : FnOk P w K mg base CX0 2 f fd ["_law_purse_here", "_law_many"] spDraw := by
  refine F.ok scDraw (fun vs H Q E h => ?_) (fun cdv A outer s H vs Q E hr h => ?_)
  · obtain ⟨a, many, n, rfl, _⟩ := h
    rfl
  · obtain ⟨a, many, n, rfl, ⟨p0, p1, p2, p3, hp, a0, a1, b0, b1, c0, c1, d0, d1⟩, m1, m2, k⟩ := h
    refine ⟨_, pss_cons (ps_if (pt_cmpR op_gt (pe_ix ix_list (pv 0) pe_int (fun _ _ => rfl)) pe_int (by rfl))
        (pss_cons (ps_set (i := 2) scDraw.nd rfl (Or.inl rfl) (pe_op op_mod (pe_ix ix_list (pv 0) pe_int (fun _ _ => rfl)) (pv 1)))
        (pss_cons (ps_asg (pe_op op_fdivW (pe_ix ix_list (pv 0) pe_int (fun _ _ => rfl)) (pv 1)) (pg_sub (pv 0) pe_int set_list))
        (pss_one (ps_ret (pv 2))))) pss_nil)
      (pss_cons (ps_set (i := 3) scDraw.nd rfl (Or.inl rfl) pe_int)
      (pss_cons (ps_for PassesOwn.never rfl (pi_range1 rfl B.rng_ (pa_cons (pe_op op_add pe_int (pe_op op_fdiv (pe_bits (pv 1)) pe_int)) pa_nil)) (pg_name (i := 4) scDraw.nd rfl (Or.inl rfl))
        (pss_cons (ps_asg (pe_op op_add (pe_ix ix_list (pv 0) pe_int (fun _ _ => rfl)) pe_int) (pg_sub (pv 0) pe_int set_list))
        (pss_one (ps_set (i := 3) scDraw.nd rfl (Or.inl rfl) (pe_op op_add (pe_op op_mul (pv 3) pe_int) (pe_c M hr (by decide) rfl (pa_cons (pe_ix ix_list (pv 0) pe_int (fun _ _ => rfl)) (pa_cons (pe_ix ix_list (pv 0) pe_int (fun _ _ => rfl)) (pa_cons (pe_ix ix_list (pv 0) pe_int (fun _ _ => rfl)) pa_nil)))))))))
      (pss_one (ps_ret (pe_op op_mod (pv 3) (pv 1)))))), ?_⟩
    have ml : CDivW p0 many := by
      refine ⟨by omega, ?_⟩
      have h1 := bits_100 m1 m2
      unfold Builtin.Int.intBits at h1
      rw [if_neg (by intro e; have := eq_of_beq e; omega)] at h1
      omega
    refine ⟨_, rfl, a, _, 0, _, rfl, rfl, SqL.of hp, rfl, _, _, rfl, rfl, _, rfl, iteD (fun h => ?_) (fun h => ?_)⟩
    · refine ⟨_, rfl, a, _, 0, _, rfl, rfl, SqL.of hp, rfl, _, rfl, _, _, rfl, rfl, (show 0 < many by omega), ?_⟩
      refine ⟨_, rfl, a, _, 0, _, rfl, rfl, SqL.of hp, rfl, _, rfl, _, _, rfl, rfl, ml, _, rfl, a, _, 0, 0, rfl, rfl, hp, rfl, ?_⟩
      refine ⟨_, rfl, k _ _ (Int.emod_nonneg _ (by omega)) (Int.emod_lt_of_pos _ (by omega)) ⟨p0 / many, p1, p2, p3, upd_same, Int.ediv_nonneg a0 (by omega), Int.lt_of_le_of_lt (Int.ediv_le_self _ a0) a1, b0, b1, c0, by omega, d0, d1⟩ fun c o nc e => by rw [upd_ne nc]; exact e⟩
    · dsimp only [tNext]
      refine seq_asg ?_
      dsimp only [tC]
      have bb := bits_100 m1 m2
      have jn : ((1 + ((Builtin.Int.intBits many : Nat) : Int) / 28)).toNat ≤ 4 := by omega
      refine ⟨_, rfl, many, rfl, _, 28, rfl, rfl, (by constructor <;> decide), _, _, rfl, rfl, _, rfl, ?_⟩
      refine ⟨by omega, by omega, for_it (walk_range (n := (1 + ((Builtin.Int.intBits many : Nat) : Int) / 28).toNat)) (fun i σ' H' => (∃ fnd v, σ' = [some (.ref a), some (.int many), none, some (.int fnd), v]) ∧ SameB a H H' ∧ H' a = some (.lst [.int p0, .int p1, .int (p2 + (i : Nat)), .int p3])) ⟨⟨0, none, rfl⟩, SameB.refl _ _, by rw [hp]; simp⟩ (fun _ _ _ _ _ => trivial) ?_ ?_⟩
      · rintro i x σ' H1 H2 hi ⟨⟨fnd, v, rfl⟩, S, hp'⟩ ⟨rfl, rfl⟩
        have hi4 : i < 4 := Nat.lt_of_lt_of_le hi jn
        refine ⟨_, rfl, a, _, 2, _, rfl, rfl, SqL.of hp', rfl, _, _, rfl, rfl, _, rfl, a, _, 2, 2, rfl, rfl, hp', rfl, ?_⟩
        have hq : (upd H2 a (.lst [.int p0, .int p1, .int (p2 + (i : Nat) + 1), .int p3])) a = some (.lst [.int p0, .int p1, .int (p2 + (i : Nat) + 1), .int p3]) := upd_same
        have sq : SqL K (upd H2 a (.lst [.int p0, .int p1, .int (p2 + (i : Nat) + 1), .int p3])) a [.int p0, .int p1, .int (p2 + (i : Nat) + 1), .int p3] := SqL.of hq
        refine ⟨_, rfl, _, _, rfl, rfl, .inr (by constructor <;> decide), _, rfl, a, _, 1, _, rfl, rfl, sq, rfl, _, rfl, a, _, 2, _, rfl, rfl, sq, rfl, _, rfl, a, _, 3, _, rfl, rfl, sq, rfl, p1, p2 + (i : Nat) + 1, p3, rfl, b0, b1, by omega, by omega, d0, d1, fun r r0 r1 => ⟨_, _, rfl, rfl, ⟨_, _, rfl⟩, S.upd, ?_⟩⟩
        rw [upd_same]
        have e : p2 + ((i + 1 : Nat) : Int) = p2 + (i : Nat) + 1 := by omega
        rw [e]
        rfl
      · rintro σ' H1 ⟨⟨fnd, v, rfl⟩, S, hp'⟩
        dsimp only
        exact ⟨_, rfl, _, rfl, _, _, rfl, rfl, (show 0 < many by omega), k _ _ (Int.emod_nonneg _ (by omega)) (Int.emod_lt_of_pos _ (by omega)) ⟨p0, p1, _, p3, hp', a0, a1, b0, b1, by omega, by omega, d0, d1⟩ S⟩
end
theorem PurseAt.lst {H : Hp} {a : Addr} {n : Nat} (h : PurseAt H a n) : ∃ ys, H a = some (.lst ys) := let ⟨_, _, _, _, h, _⟩ := h; ⟨_, h⟩
theorem PurseAt.same {H H' : Hp} {a : Addr} {n : Nat} (h : PurseAt H a n) (S : Same H H') : PurseAt H' a n := let ⟨p0, p1, p2, p3, h, r⟩ := h; ⟨p0, p1, p2, p3, S _ _ h, r⟩
theorem PurseAt.less {H : Hp} {a : Addr} {n m : Nat} (h : PurseAt H a n) (l : m ≤ n) : PurseAt H a m := let ⟨p0, p1, p2, p3, h, a0, a1, b0, b1, c0, c1, r⟩ := h; ⟨p0, p1, p2, p3, h, a0, a1, b0, b1, c0, by omega, r⟩
end E2

set_option Elab.async false
set_option linter.all false
set_option maxRecDepth 100000
set_option maxHeartbeats 1000000
/-! _law_purses -/
namespace E2
open PySem PySem.Spec PyProof.Rows L2
open C8 (Cal Mak Met InsC pe_c pe_mt pe_mt0 call_isC clsBody)
def spPurses (K : PySem.W.Frag) : Sp := fun vs H Q _ => ∃ (sc : Addr) (ns : List Int) (few : Int), vs = [.ref sc, .int few] ∧ 0 ≤ few ∧ few ≤ 63 ∧ SqL K H sc (ns.map V.int) ∧ ns.length ≤ 63 ∧ ∀ (H' : Hp) (p : Addr) (as : List Addr), Same H H' → H' p = some (.lst (as.map V.ref)) → as.Nodup → (∀ b ∈ as, PurseAt H' b (2 ^ 60)) → p ∉ as → Q (.ref p) H'
theorem pne {H : Hp} {D b : Addr} {as : List Addr} {n : Nat} (hD : H D = some (.lst (as.map V.ref))) (hb : PurseAt H b n) : b ≠ D := by
  rintro rfl
  obtain ⟨p0, p1, p2, p3, e, _⟩ := hb
  rw [hD] at e
  cases as with
  | nil => cases e
  | cons x xs => cases e
theorem PurseAt.off {H : Hp} {D b : Addr} {n : Nat} {o : HO} (hb : PurseAt H b n) (ne : b ≠ D) : PurseAt (upd H D o) b n := by
  obtain ⟨p0, p1, p2, p3, e, r⟩ := hb
  exact ⟨p0, p1, p2, p3, by rw [upd_ne ne]; exact e, r⟩
section
variable {P : Program} {w : World} {K : PySem.W.Frag} {mg : Str → Option Value} {base : Heap} {C : Addr}
theorem scPurses : FnScope ["_law_script", "_law_few", "_law_at"] ["_law_script", "_law_few"] (defScope sPurses) := ⟨rfl, rfl, rfl, by decide +kernel, rfl, by decide +kernel, by decide +kernel⟩
theorem ok_purses {f : Addr} {fd : FuncData} (F : Fun K "_law_purses" "_law_purses" sPurses f fd) (B : Bt4 mg) (Pu : Cal P w K mg base 1 "_law_purse" (spPurse K) []) : FnOk P w K mg base CX0 2 f fd ["_law_script", "_law_few"] (spPurses K) := by
  refine F.ok scPurses (fun vs H Q E h => ?_) (fun cdv A outer s H vs Q E hr h => ?_)
  · obtain ⟨sc, ns, few, rfl, _⟩ := h
    rfl
  · obtain ⟨sc, ns, few, rfl, f0, f63, hs, hl, k⟩ := h
    refine ⟨_, pss_one (ps_ret (pe_lc (own := [("_law_at", 2)]) (g := gName 2) (tt := tYes) (te := tCall (spPurse K) [] E0 (tCons (tVar 0) (tCons (tVar 2) tNil))) rfl scPurses.nd (pi_range1 rfl B.rng_ (pa_cons (pe_callB (call_max2 rfl) (by rfl) B.max_ (by decide +kernel) (pa_cons pe_int (pa_cons (pe_callB (call_min2 rfl) (by rfl) B.min_ (by decide +kernel) (pa_cons (pv 1) (pa_cons (pe_callB call_len_seq (by rfl) B.len_ PySem.boot_len (pa_cons (pv 0) pa_nil)) pa_nil))) pa_nil))) pa_nil))
      (blkOk_by (own := [("_law_at", 2)]) (N := ["_law_script", "_law_few", "_law_at"]) (sc := defScope sPurses) (by decide +kernel))
      (fun _ _ _ _ _ => pg_name (i := 2) scPurses.nd rfl (Or.inl rfl)) (fun _ _ _ _ _ => pts_nil) (fun _ _ _ _ _ => by exact pe_c Pu hr (by decide) rfl (pa_cons (pv 0) (pa_cons (pv 2) pa_nil))))), ?_⟩
    refine ret_of ⟨_, rfl, _, rfl, sc, _, rfl, .inl hs, _, _, rfl, _, _, rfl, _, rfl, ?_, ?_, fun D nD => ?_⟩
    · split <;> split <;> omega
    · rw [List.length_map]
      split <;> split <;> omega
    refine lc_it walk_range (fun i H' => Same H H' ∧ ∃ as : List Addr, as.length = i ∧ H' D = some (.lst (as.map V.ref)) ∧ as.Nodup ∧ ∀ b ∈ as, PurseAt H' b (2 ^ 60)) ⟨Same.upd nD, [], rfl, upd_same, List.nodup_nil, fun b hb => absurd hb List.not_mem_nil⟩ (fun _ _ _ _ => trivial) ?_ ?_
    · rintro i x H1 H2 hi ⟨S, as, la, hD, nd, hp⟩ ⟨rfl, rfl⟩
      have hi20 : i < 64 := by
        rw [List.length_map] at hi
        refine Nat.lt_of_lt_of_le hi ?_
        split <;> split <;> omega
      refine ⟨rfl, iteT (B := False) ⟨_, rfl, _, rfl, sc, 0 + (i : Int), ns, rfl, hs.same S, by omega, by omega, fun H3 p S3 np hp3 => ?_⟩⟩
      have hD3 := S3 _ _ hD
      have npa : p ∉ as := fun h => by
        obtain ⟨ys, e⟩ := (hp p h).lst
        rw [np] at e
        cases e
      refine ⟨_, hD3, by rw [List.length_map, la, sizeLine_eq]; omega, fun c o e => ?_, as ++ [p], by rw [List.length_append, la]; rfl, by rw [upd_same, List.map_append]; rfl, ?_, fun b hb => ?_⟩
      · rw [upd_ne (ne_of_none e nD)]
        exact S3 _ _ (S _ _ e)
      · exact List.nodup_append.mpr ⟨nd, List.nodup_cons.mpr ⟨List.not_mem_nil, List.nodup_nil⟩, fun x hx y hy => by
          rw [List.mem_singleton.mp hy]
          rintro rfl
          exact npa hx⟩
      · rcases List.mem_append.mp hb with h | h
        · exact ((hp b h).same S3).off (pne hD (hp b h))
        · rw [List.mem_singleton.mp h]
          exact hp3.off (pne hD3 hp3)
    · rintro H1 ⟨S, as, la, hD, nd, hp⟩
      exact k H1 D as S hD nd hp fun h => pne hD (hp D h) rfl
end
end E2

set_option Elab.async false
set_option linter.all false
set_option maxRecDepth 100000
set_option maxHeartbeats 1000000
/-! law_k05: the sizes told by the checks -/
namespace E2
open PySem PySem.Spec PyProof.Rows L2
open LamX (Tabs ExtN TabB CodeO)
theorem sm_mem {fm : Fm} (h : smB fm = true) : (∀ x ∈ fm, x.2.den = 1 ∧ x.2.num.natAbs ≤ 1000000 ∧ x.1.length ≤ 100) ∧ fm.length ≤ 100 ∧ (fm.map (·.1)).Nodup := by
  unfold smB at h
  rw [Bool.and_eq_true, Bool.and_eq_true] at h
  obtain ⟨⟨h1, h2⟩, h3⟩ := h
  refine ⟨fun x hx => ?_, of_decide_eq_true h2, of_decide_eq_true h3⟩
  have := List.all_eq_true.mp h1 x hx
  rw [Bool.and_eq_true, Bool.and_eq_true] at this
  exact ⟨eq_of_beq this.1.1, of_decide_eq_true this.1.2, of_decide_eq_true this.2⟩
theorem bq_one {q : Rat} (h1 : q.den = 1) (h2 : q.num.natAbs ≤ 1000000) : Bq 1 1000000 q := by
  refine ⟨q.num, ?_, h2⟩
  have e : q = (q.num : Rat) := Rat.ext rfl h1
  rw [← e]
  show q * ((1 : Nat) : Rat) = q
  exact Rat.mul_one q
theorem sz_lt : 100000 ≤ sizeLine := by rw [sizeLine_eq]; decide
theorem pw (n : Nat) (h : n < 2 ^ 100) : n < 2 ^ 400000 := Nat.lt_of_lt_of_le h (Nat.pow_le_pow_right (by decide) (by decide))
theorem szs_of {a b : Fm} (ha : smB a = true) (hb : smB b = true) : Szs a b := by
  obtain ⟨a1, a2, a3⟩ := sm_mem ha
  obtain ⟨b1, b2, b3⟩ := sm_mem hb
  have z := sz_lt
  refine ⟨a3, b3, by omega, 1, 1000000, 1000000, by decide, Nat.one_lt_two_pow (by decide), pw _ ?_, pw _ (by decide), fun x hx => bq_one (a1 x hx).1 (a1 x hx).2.1, fun x hx => bq_one (b1 x hx).1 (b1 x hx).2.1⟩
  omega
theorem szm_of {a b : Fm} (ha : smB a = true) (hb : smB b = true) : SzM a b := by
  obtain ⟨a1, a2, a3⟩ := sm_mem ha
  obtain ⟨b1, b2, b3⟩ := sm_mem hb
  have z := sz_lt
  have l : a.length * b.length ≤ 100 * 100 := Nat.mul_le_mul a2 b2
  refine ⟨a3, b3, by omega, fun x hx y hy => by have := (a1 x hx).2.2; have := (b1 y hy).2.2; omega, 1, 1000000, 1, 1000000, by decide, by decide, Nat.one_lt_two_pow (by decide), pw _ ?_, pw _ (by decide), pw _ (by decide), pw _ (by decide), fun x hx => bq_one (a1 x hx).1 (a1 x hx).2.1, fun x hx => bq_one (b1 x hx).1 (b1 x hx).2.1⟩
  omega
theorem szh_of {o : Fm} : ∀ {ps : List Fm} {a : Fm}, szHB o a ps = true → SzH o a ps
  | [], _, _ => trivial
  | p :: r, a, h => by
    unfold szHB at h
    rw [Bool.and_eq_true, Bool.and_eq_true, Bool.and_eq_true, Bool.and_eq_true] at h
    obtain ⟨⟨⟨⟨h1, h2⟩, h3⟩, h4⟩, h5⟩ := h
    exact ⟨szm_of h1 h2, szs_of h3 h4, szh_of h5⟩
theorem step_of {s : Wo} {w : Str} (h : stepB s w = true) : stepOk s w := by
  unfold stepB at h
  unfold stepOk
  by_cases c1 : w = "("
  · rw [if_pos c1] at h; cases h
  · rw [if_neg c1] at h ⊢
    by_cases c2 : w = ")"
    · rw [if_pos c2] at h; cases h
    · rw [if_neg c2] at h ⊢
      by_cases c3 : w = "+" ∨ w = "-"
      · rw [if_pos c3] at h ⊢
        rw [Bool.or_eq_true, Bool.and_eq_true] at h
        rcases h with h | ⟨h1, h2⟩
        · exact .inl (of_decide_eq_true h)
        · exact .inr (szs_of h1 h2)
      · rw [if_neg c3] at h ⊢
        by_cases c4 : s.before = "/"
        · rw [if_pos c4] at h; cases h
        · rw [if_neg c4] at h ⊢
          by_cases c5 : w = "*" ∨ w = "/"
          · rw [if_pos c5]; trivial
          · rw [if_neg c5] at h ⊢
            rw [Bool.and_eq_true, Bool.and_eq_true] at h
            exact ⟨of_decide_eq_true h.1.1, szm_of h.1.2 h.2⟩
theorem wo_of : ∀ {ws : List Str} {s : Wo}, woB ws s = true → woOk ws s
  | [], s, h => by
    unfold woB at h
    rw [Bool.and_eq_true] at h
    exact szs_of h.1 h.2
  | w :: r, s, h => by
    unfold woB at h
    rw [Bool.and_eq_true] at h
    exact ⟨step_of h.1, wo_of h.2⟩
/-- all that is asked of the form -/
structure BOk (q : Int) : Prop where
  n : smB (lF "n") = true
  m : smB (lF "m") = true
  q_ : smB (numM q) = true
  nq : smB (mulF (lF "n") (numM q)) = true
  mn : smB (mulF (lF "m") (lF "n")) = true
  mnq : smB (mulF (mulF (lF "m") (lF "n")) (numM q)) = true
  sum : smB (addF (mulF (lF "n") (numM q)) (mulF (mulF (lF "m") (lF "n")) (numM q))) = true
  n3 : smB (numM 3) = true
  b : smB (bF q) = true
  hn : SzH (lF "z") [] (powF "n" (bF q)).reverse
  hm : SzH (lF "z") [] (powF "m" (bF q)).reverse
theorem i_of {q : Int} (h1 : 1 ≤ q) (h2 : q ≤ 99) : ∃ i ∈ List.range 99, q = ((i : Nat) : Int) + 1 := ⟨(q - 1).toNat, List.mem_range.mpr (by omega), by omega⟩
theorem bOk {q : Int} (h1 : 1 ≤ q) (h2 : q ≤ 99) : BOk q := by
  obtain ⟨i, hi, rfl⟩ := i_of h1 h2
  have h := okB_all i hi
  unfold okB at h
  simp only [Bool.and_eq_true] at h
  obtain ⟨⟨⟨⟨⟨⟨⟨⟨⟨⟨a1, a2⟩, a3⟩, a4⟩, a5⟩, a6⟩, a7⟩, a8⟩, a9⟩, a10⟩, a11⟩ := h
  exact ⟨a1, a2, a3, a4, a5, a6, a7, a8, a9, szh_of a10, szh_of a11⟩
theorem trs_b {q : Int} (h1 : 1 ≤ q) (h2 : q ≤ 99) : trs (bF q) = tX q := by
  obtain ⟨i, hi, rfl⟩ := i_of h1 h2
  rw [bF_is i hi]
  unfold trs
  rw [show (bX ((i : Int) + 1)).map (·.1) = [kN, kMN, []] from rfl, trs_is]
  exact val_is i hi
theorem wrS_b {q : Int} (h1 : 1 ≤ q) (h2 : q ≤ 99) : wrS (bF q) = wT q := by
  unfold wrS wT
  rw [trs_b h1 h2]
theorem wrOk_b {q : Int} (h1 : 1 ≤ q) (h2 : q ≤ 99) : WrOk (bF q) := by
  have hb := sm_mem (bOk h1 h2).b
  have e := trs_b h1 h2
  have h : wB q = true := by
    obtain ⟨i, hi, rfl⟩ := i_of h1 h2
    exact wB_all i hi
  unfold wB at h
  rw [Bool.and_eq_true] at h
  refine ⟨hb.2.2, by have := hb.2.1; omega, fun x hx => by have := (hb.1 x hx).2.2; omega, fun x hx => ?_, ?_⟩
  · rw [e] at hx
    exact of_decide_eq_true (List.all_eq_true.mp h.1 x hx)
  · rw [e]
    exact of_decide_eq_true h.2
theorem rd_b {q : Int} (h1 : 1 ≤ q) (h2 : q ≤ 99) : RdOk (wT q) ∧ eqFm (woF (wordsOf (wT q))) (bF q) = true := by
  obtain ⟨i, hi, rfl⟩ := i_of h1 h2
  have h := rB_all i hi
  unfold rB at h
  simp only [Bool.and_eq_true] at h
  obtain ⟨⟨⟨⟨a1, a2⟩, a3⟩, a4⟩, a5⟩ := h
  refine ⟨⟨of_decide_eq_true a1, fun x hx => ?_, a3, wo_of a4⟩, by rw [bF_is i hi]; exact a5⟩
  have := List.all_eq_true.mp a2 x hx
  rw [Bool.and_eq_true] at this
  exact ⟨of_decide_eq_true this.1, of_decide_eq_true this.2⟩
theorem FmAt.ext {P : Program} {w : World} {K : PySem.W.Frag} {C : Addr} {H H' : Hp} {a : Addr} {fm : Fm} (h : FmAt P w K C H a fm) (ex : ExtN H H') : FmAt P w K C H' a fm := by
  have mv : Mv K H H' := by
    constructor
    · intro a xs h
      rcases h with (h | ⟨o, h⟩) | h
      · exact .inl (.inl (ex _ _ h fun _ z => nomatch z))
      · exact .inl (.inr ⟨o, ex _ _ h fun _ z => nomatch z⟩)
      · exact .inr h
    · rintro q xs ⟨o, h1, h2⟩
      exact ⟨o, ex _ _ h1 (fun _ z => nomatch z), h2⟩
  obtain ⟨dx, d, kvs, h1, h2, h3⟩ := h
  exact ⟨dx, d, kvs, ex _ _ h1 (fun _ z => nomatch z), ex _ _ h2 (fun _ z => nomatch (show HO.ext _ = _ from z)), h3.imp mv⟩
end E2

set_option Elab.async false
set_option linter.all false
set_option maxRecDepth 100000
set_option maxHeartbeats 1000000
/-! f(k=v, ..): a def called with keywords alone -/
namespace L2
open PySem PySem.Spec PyProof.Rows
def CalK (P : Program) (w : World) (K : PySem.W.Frag) (mg : Str → Option Value) (base : Heap) (k : Nat) (x : Str) (sp : Sp) (ks : List Str) (gV : List V → List V → List V) : Prop :=
  ∃ (f : Addr) (fd : FuncData) (ps : List Str) (g : List Value → List Value → List Value), FnOk P w K mg base CX0 k f fd ps sp ∧ mg x = some (.ref f) ∧ PySem.W.keepIn K (.ref f) = true ∧ KBinds K fd ps ks g gV
section
variable {X : Cx} {k j : Nat} {x : Str} {sp : Sp} {ks : List Str} {gV : List V → List V → List V} {p pos : Pos} {kws : List Keyword} {tk : TA}
theorem pe_cK (c : CalK X.prog X.w X.K X.mg X.base k x sp ks gV) (hr : Room j X.A) (hk : k ≤ j) (hg : Gl X x) (hkw : PK X kws tk)
    (hall : (backToKw pos (keywordEach kws X.env)).all (·.1.isSome) = true := by rfl) (hks : (backToKw pos (keywordEach kws X.env)).filterMap (·.1) = ks := by rfl)
    (hdb : (x == ("__debug__" : Str)) = false := by decide)
    (hpl : ((backTo pos (starEach [] X.env)).any (·.1) || (backToKw pos (keywordEach kws X.env)).any (·.1.isNone)) = false := by rfl) :
    PE X (.Call (.Name x p) [] kws pos) (tCallK sp gV C8.E0 tNil tk) := by
  obtain ⟨f, fd, ps, g, F, hm, kp, hb⟩ := c
  refine ⟨fun pins s σ H Q I h => ?_⟩
  refine wpAny_Call_Name_kw (ld_glob I hg hm ?_ hdb)
  refine PySem.W.callWith_KW0 (h₀ := X.base) I.ok.mod.kin kp hall (thn (hkw.run pos pins s σ H _ I h) fun ws s2 ⟨zs, H2, I2, rz, q2⟩ => ⟨I2.kIn, ?_⟩) hpl
  rw [hks]
  exact run_fnk F (hr.mono hk) hb pass0 I2 .nil rz q2
end
end L2

set_option Elab.async false
set_option linter.all false
set_option maxRecDepth 100000
set_option maxHeartbeats 1000000
/-! o.m(k=v, ..): a method called with keywords alone -/
namespace L2
open PySem PySem.Spec PyProof.Rows
def MetK (P : Program) (w : World) (K : PySem.W.Frag) (mg : Str → Option Value) (base : Heap) (k : Nat) (C : Addr) (m : Str) (sp : Sp) (ks : List Str) (gV : List V → List V → List V) : Prop :=
  ∃ (f : Addr) (fd : FuncData) (ps : List Str) (g : List Value → List Value → List Value), Cls K C ∧ Meth K C m f ∧ FnOk P w K mg base CX0 k f fd ps sp ∧ KBinds K fd ps ks g gV
def tMethK (C : Addr) (m : Str) (sp : Sp) (gV : List V → List V → List V) (E : XK) (ta : TE) (tk : TA) : TE := fun σ H Q => ta σ H fun x H1 => ∃ a dx fs, x = .ref a ∧ H1 a = some (.ins C dx fs) ∧ fs.lookup m = none ∧
  tk σ H1 fun zs H2 => sp (gV [x] zs) H2 Q E
section
variable {X : Cx} {k j : Nat} {C : Addr} {m : Str} {sp : Sp} {ks : List Str} {gV : List V → List V → List V} {apos pos : Pos} {o : Expr} {kws : List Keyword} {ta : TE} {tk : TA}
theorem pe_mtK {pl : Sem Bool} (c : MetK X.prog X.w X.K X.mg X.base k C m sp ks gV) (hr : Room j X.A) (hk : k ≤ j) (he : PE X o ta) (hkw : PK X kws tk)
    (hall : (backToKw pos (keywordEach kws X.env)).all (·.1.isSome) = true := by rfl) (hks : (backToKw pos (keywordEach kws X.env)).filterMap (·.1) = ks := by rfl)
    (hpl : ((backTo pos (starEach [] X.env)).any (·.1) || (backToKw pos (keywordEach kws X.env)).any (·.1.isNone)) = false := by rfl)
    (ht : eval (.Call (.Attribute o m apos) [] kws pos) X.env = (do
      let ov ← eval o X.env
      standAt apos.atName
      let (f, first) ← holding [ov] (getMethod ov m pl)
      callWith pos f first (backTo pos (starEach [] X.env)) (backToKw pos (keywordEach kws X.env))) := by rfl) :
    PE X (.Call (.Attribute o m apos) [] kws pos) (tMethK C m sp gV C8.E0 ta tk) := by
  obtain ⟨f, fd, ps, g, hc, hm, F, hb⟩ := c
  refine ⟨fun pins s σ H Q I h => ?_⟩
  refine PySem.W.methodCall_KW (pl := pl) (thn (he.run pins s σ H _ I h) fun u s1 ⟨x, H1, I1, rx, a, dx, fs, ex, ea, l, q⟩ => ?_) ht
  subst ex
  obtain rfl : u = Value.ref a := rx
  refine getmeth_ok I1 ea hc hm l ?_
  refine PySem.W.callWith_KW0 (first := [.ref a]) (h₀ := X.base) I.ok.mod.kin hm.kp hall (thn (hkw.run pos pins _ σ H1 _ I1 q) fun ws s2 ⟨zs, H2, I2, rz, q2⟩ => ⟨I2.kIn, ?_⟩) hpl
  rw [hks]
  exact run_fnk (us := [.ref a]) (vs := [.ref a]) F (hr.mono hk) hb pass0 I2 (.cons rfl .nil) rz q2
end
end L2

set_option Elab.async false
set_option linter.all false
set_option maxRecDepth 100000
set_option maxHeartbeats 1000000
/-! is_values, product_at -/
namespace E2
open PySem PySem.Spec PyProof.Rows L2
open C8 (Cal Mak Met InsC pe_c pe_mt pe_mt0 call_isC clsBody)
/-- a dict of letters and whole numbers -/
def ValsOk (kvs : List (Key × V)) : Prop := ∀ kv ∈ kvs, ∃ (z : Str) (n : Int), kv = (Sum.inr z, V.int n) ∧ LetOk z
def spIsVals (P : Program) (w : World) (K : PySem.W.Frag) : Sp := fun vs H Q _ => ∃ (d l : Addr) (kvs : List (Key × V)) (xs : List Str), vs = [.ref d, .ref l] ∧ H d = some (.dK kvs) ∧ ValsOk kvs ∧ kvs.length ≤ 1000 ∧ SqL K H l (xs.map V.str) ∧ xs.length ≤ 1000 ∧ (∀ x ∈ xs, (valV kvs (Sum.inr x)).isSome = true) ∧ ∀ H', Same H H' → Q (.bl true) H'
theorem all_true (n : Nat) : (List.replicate n true).all id = true := by simp
theorem dk_back {H H' : Hp} {d : Addr} {u z : HO} (hd : H d = some u) (S : Same (upd H d z) H') : Same H (upd H' d u) := same_back hd S
section
variable {P : Program} {w : World} {K : PySem.W.Frag} {mg : Str → Option Value} {base : Heap} {C : Addr}
theorem kit_dd : PySem.W.kitOne K (.type "dict") (.type "dict") = some true := by kernel_rfl
theorem scIsVals : FnScope ["values", "names", "name", "value"] ["values", "names"] (defScope sIsValues) := ⟨rfl, rfl, rfl, by decide +kernel, rfl, by decide +kernel, by decide +kernel⟩
theorem ok_isVals {f : Addr} {fd : FuncData} (F : Fun K "is_values" "is_values" sIsValues f fd) (B : Bt K mg C) (B2 : Bt2 mg) (hdict : mg "dict" = none) (L : Cal P w K mg base 1 "is_letter" spIsLet []) (Wh : Cal P w K mg base 1 "is_whole" (spWhole C) []) : FnOk P w K mg base CX0 2 f fd ["values", "names"] (spIsVals P w K) := by
  refine F.ok scIsVals (fun vs H Q E h => ?_) (fun cdv A outer s H vs Q E hr h => ?_)
  · obtain ⟨d, l, kvs, xs, rfl, _⟩ := h
    rfl
  · obtain ⟨d, l, kvs, xs, rfl, hd, hv, hk, hl, hx, hin, k⟩ := h
    have u1 := Nat.lt_of_le_of_lt (Nat.add_le_add_left (by decide : 1 ≤ 64) _) hr.units
    refine ⟨_, pss_cons (ps_if (pt_not (pt_val (pe_callB call_isi (by rfl) B.isi (by decide +kernel) (pa_cons (pv 0) (pa_cons (pe_bltn (v := .ty "dict") (by rfl) hdict (by decide +kernel) rfl) pa_nil))))) (pss_one (ps_ret pe_bl)) pss_nil)
      (pss_cons (ps_if (pt_not (pt_val (pe_callB (cr_all rfl) (by rfl) B2.all_ (by decide +kernel) (pa_cons (pe_lock (pe_lc (own := [("name", 2), ("value", 3)]) (g := gTup K 2 (gCons (gName 2) (gCons (gName 3) gNil))) (tt := tYes) (te := tAndV (tCall spIsLet [] E0 (tCons (tVar 2) tNil)) (tCall (spWhole C) [] E0 (tCons (tVar 3) tNil))) rfl scIsVals.nd (pi_items (pv 0))
          (blkOk_by (own := [("name", 2), ("value", 3)]) (N := ["values", "names", "name", "value"]) (sc := defScope sIsValues) (by decide +kernel))
          (fun _ _ _ _ _ => pg_tup rfl (pgs_cons (pg_name (i := 2) scIsVals.nd rfl (Or.inl rfl)) (pgs_cons (pg_name (i := 3) scIsVals.nd rfl (Or.inl rfl)) pgs_nil))) (fun _ _ _ _ _ => pts_nil)
          (fun _ _ _ _ _ => by exact pe_and (pe_c L hr (by decide) rfl (pa_cons (pv 2) pa_nil)) (pe_one (pe_c Wh hr (by decide) rfl (pa_cons (pv 3) pa_nil)))))) pa_nil)))) (pss_one (ps_ret pe_bl)) pss_nil)
      (pss_one (ps_ret (pe_callB (cr_all rfl) (by rfl) B2.all_ (by decide +kernel) (pa_cons (pe_lc (own := [("name", 2)]) (g := gName 2) (tt := tYes) (te := tDIn (tVar 2) (tVar 0)) rfl scIsVals.nd (pi_list (pv 1))
          (blkOk_by (own := [("name", 2)]) (N := ["values", "names", "name", "value"]) (sc := defScope sIsValues) (by decide +kernel))
          (fun _ _ _ _ _ => pg_name (i := 2) scIsVals.nd rfl (Or.inl rfl)) (fun _ _ _ _ _ => pts_nil) (fun _ _ _ _ _ => by exact pe_cmp (pc_din u1 (pv 2) (pv 0)))) pa_nil))))), ?_⟩
    refine ⟨_, rfl, _, _, _, _, true, rfl, .ty "dict", .base (.dK hd), kit_dd, true, rfl, iteF ?_⟩
    have sz : ∀ n : Nat, n ≤ 1000 → n < sizeLine := fun n h => by rw [sizeLine_eq]; omega
    -- the rest, with any heap that has grown
    have rest : ∀ H1, Same H H1 → ∀ σ : L2.St, σ = [some (.ref d), some (.ref l), none, none] → ∀ D, H1 D = none → ∃ W : Nat → Nat → Hp → Prop, (∃ m, W 0 m (upd H1 D (.lst []))) ∧ ∀ i m H, W i m H → ((Itl K l).stop i H ∧ rAll K [.ref D] H Q) ∨ ((Itl K l).go i H ∧ ∃ Nx : Hp → Prop, (∀ H', Nx H' → ∃ m', m' < m ∧ W (i + 1) m' H') ∧ ∀ x H', (Itl K l).yld i H x H' → gName 2 x (wipe σ [2]) H' fun σ2 H2 => wipe σ2 [2] = wipe σ [2] ∧ tYes σ2 H2 fun b H3 =>
        if b = true then tDIn (tVar 2) (tVar 0) σ2 H3 fun y H4 => ∃ acc, H4 D = some (.lst acc) ∧ acc.length < sizeLine ∧ Nx (upd H4 D (.lst (acc ++ [y]))) else Nx H3) := by
      rintro H1 S1 σ rfl D nD
      refine lc_it walk_list (fun i H' => Same H1 H' ∧ H' D = some (.lst (List.replicate i (V.bl true)))) ⟨Same.upd nD, upd_same⟩ (fun i H' _ q => (hl.same S1).same q.1) ?_ ?_
      · rintro i x H2 H3 hi ⟨S, hD⟩ ⟨rfl, hx2⟩
        rw [List.length_map] at hi
        obtain ⟨z, hz, rfl⟩ : ∃ z, xs[i]? = some z ∧ x = V.str z := by
          rw [List.getElem?_map] at hx2
          obtain ⟨z, hz, e⟩ := Option.map_eq_some_iff.mp hx2
          exact ⟨z, hz, e.symm⟩
        have hs := hin z (List.mem_of_getElem? hz)
        refine ⟨rfl, iteT (B := False) ⟨_, rfl, _, rfl, d, valV kvs (Sum.inr z), rfl, DGet.k (k := Sum.inr z) (S _ _ (S1 _ _ hd)), _, hD, ?_, ?_, ?_⟩⟩
        · rw [List.length_replicate]
          exact sz _ (by omega)
        · intro b o hb
          rw [upd_ne (ne_of_none hb nD)]
          exact S _ _ hb
        · rw [upd_same, hs, List.replicate_succ']
      · rintro H2 ⟨S, hD⟩
        refine ⟨D, List.replicate xs.length true, rfl, SqL.of ?_, ?_⟩
        · rw [List.map_replicate]
          rw [List.length_map] at hD
          exact hD
        · rw [all_true]
          exact k H2 (S1.trans S)
    refine ⟨d, .dK kvs, hd, trivial, fun od => ⟨_, rfl, d, od, kvs, rfl, upd_same, fun D nD => ?_⟩⟩
    have h1 : (upd H d (.frz od (.dK kvs))) d = some (.frz od (.dK kvs)) := upd_same
    have neD : D ≠ d := by rintro rfl; rw [upd_same] at nD; cases nD
    have back : ∀ H2, Same (upd H d (.frz od (.dK kvs))) H2 → Same H (upd H2 d (.dK kvs)) := fun H2 S => same_back hd S
    generalize upd H d (.frz od (.dK kvs)) = H1 at h1 nD back ⊢
    refine lc_it walk_items (fun i H' => Same H1 H' ∧ H' D = some (.lst (List.replicate i (V.bl true)))) ⟨Same.upd nD, upd_same⟩ (fun i H' _ q => q.1 _ _ h1) ?_ ?_
    · rintro i x H2 H3 hi ⟨S, hD⟩ ⟨T, x1, y1, rfl, nT, rfl, e1, e2⟩
      obtain ⟨kv, hkv⟩ : ∃ kv, kvs[i]? = some kv := ⟨kvs[i], List.getElem?_eq_getElem hi⟩
      obtain ⟨z, n, rfl, hz⟩ := hv kv (List.mem_of_getElem? hkv)
      replace e1 : (kvs[i]?.map fun kv => kV kv.1) = some x1 := e1
      replace e2 : kvs[i]?.map Prod.snd = some y1 := e2
      rw [hkv] at e1 e2
      obtain rfl : V.str z = x1 := Option.some.inj e1
      obtain rfl : V.int n = y1 := Option.some.inj e2
      have S2 : Same H2 (upd H2 T (.tup [.str z, .int n])) := Same.upd nT
      refine ⟨T, _, rfl, SqT.of upd_same, rfl, _, _, rfl, _, _, rfl, rfl, rfl, iteT (B := False) ?_⟩
      refine ⟨_, rfl, z, rfl, hz, fun H4 S4 => ⟨true, rfl, iteT (B := False) ⟨_, rfl, _, rfl, .inl ⟨n, rfl, _, S4 _ _ (S2 _ _ hD), ?_, ?_, ?_⟩⟩⟩⟩
      · rw [List.length_replicate]
        exact sz _ (by omega)
      · intro b o hb
        rw [upd_ne (ne_of_none hb nD)]
        exact S4 _ _ (S2 _ _ (S _ _ hb))
      · rw [upd_same, List.replicate_succ']
    · rintro H2 ⟨S, hD⟩
      refine ⟨S _ _ h1, D, List.replicate kvs.length true, rfl, SqL.of ?_, true, by rw [all_true], iteF ?_⟩
      · rw [upd_ne neD, List.map_replicate]
        exact hD
      · exact ⟨_, rfl, l, rfl, ⟨_, hl.same (back H2 S)⟩, fun D2 nD2 => rest _ (back H2 S) _ rfl D2 nD2⟩
def spProd (P : Program) (w : World) (K : PySem.W.Frag) : Sp := fun vs H Q _ => ∃ (t d : Addr) (m : List Str) (kvs : List (Key × V)) (g : Str → Int), vs = [.ref t, .ref d] ∧ SqT K H t (m.map V.str) ∧ H d = some (.dK kvs) ∧ (∀ x ∈ m, valV kvs (Sum.inr x) = some (.int (g x))) ∧ m.length ≤ 1000 ∧ (∀ x ∈ m, (g x).natAbs < 2 ^ 400) ∧ Q (.int (prodI (m.map g))) H
theorem scProd : FnScope ["names", "values", "found", "name"] ["names", "values"] (defScope sProductAt) := ⟨rfl, rfl, rfl, by decide +kernel, rfl, by decide +kernel, by decide +kernel⟩
theorem prod_lt (g : Str → Int) : ∀ l : List Str, (∀ x ∈ l, (g x).natAbs < 2 ^ 400) → (prodI (l.map g)).natAbs < 2 ^ (1 + l.length * 400)
  | [], _ => by show (1 : Int).natAbs < 2 ^ (1 + 0 * 400); decide
  | x :: l, h => by
    have ih := prod_lt g l fun y hy => h y (List.mem_cons.mpr (.inr hy))
    have hx := h x (List.mem_cons.mpr (.inl rfl))
    have e := wide_lt (a := 400) (b := 1 + l.length * 400) hx ih
    have e2 : 400 + (1 + l.length * 400) = 1 + (x :: l).length * 400 := by rw [List.length_cons, Nat.add_mul]; omega
    rw [e2] at e
    exact e
theorem ok_prod {f : Addr} {fd : FuncData} (F : Fun K "product_at" "product_at" sProductAt f fd) : FnOk P w K mg base CX0 1 f fd ["names", "values"] (spProd P w K) := by
  refine F.ok scProd (fun vs H Q E h => ?_) (fun cdv A outer s H vs Q E hr h => ?_)
  · obtain ⟨t, d, m, kvs, g, rfl, _⟩ := h
    rfl
  · obtain ⟨t, d, m, kvs, g, rfl, ht, hd, hg, hl, hb, k⟩ := h
    have u1 := Nat.lt_of_le_of_lt (Nat.add_le_add_left (by decide : 1 ≤ 64) _) hr.units
    refine ⟨_, pss_cons (ps_set (i := 2) scProd.nd rfl (Or.inl rfl) pe_int)
      (pss_cons (ps_for PassesOwn.never rfl (pi_tup (pv 0)) (pg_name (i := 3) scProd.nd rfl (Or.inl rfl)) (pss_one (ps_set (i := 2) scProd.nd rfl (Or.inl rfl) (pe_op op_mulW (pv 2) (pe_dget u1 (pv 1) (pv 3) (fun _ _ => rfl))))))
      (pss_one (ps_ret (pv 2)))), ?_⟩
    refine seq_asg ⟨_, rfl, t, rfl, ⟨_, ht⟩, for_it (walk_tup (xs := m.map V.str)) (fun i σ H' => H' = H ∧ ∃ u, σ = [some (.ref t), some (.ref d), some (.int (prodI ((m.take i).map g))), u]) ⟨rfl, none, rfl⟩ ?_ ?_ ?_⟩
    · rintro i σ H' _ ⟨rfl, _⟩
      exact ht
    · rintro i x σ H1 H2 hi ⟨rfl, u, rfl⟩ ⟨rfl, hx⟩
      rw [List.length_map] at hi
      obtain ⟨z, hz, rfl⟩ : ∃ z, m[i]? = some z ∧ x = V.str z := by
        rw [List.getElem?_map] at hx
        obtain ⟨z, hz, e⟩ := Option.map_eq_some_iff.mp hx
        exact ⟨z, hz, e.symm⟩
      have hm := List.mem_of_getElem? hz
      have p1 := prod_lt g (m.take i) fun y hy => hb y (List.mem_of_mem_take hy)
      have tl : (m.take i).length ≤ 1000 := by rw [List.length_take]; omega
      refine ⟨_, rfl, _, rfl, _, rfl, d, _, rfl, by rw [← hg z hm]; exact DGet.k (k := Sum.inr z) hd, _, _, rfl, rfl, cmw p1 (hb z hm) (by omega) (by decide) (by omega), rfl, some (V.str z), ?_⟩
      rw [take_snoc hz, List.map_append, prodI_append]
      show _ = [_, _, some (V.int (_ * (g z * 1))), _]
      rw [Int.mul_one]
      rfl
    · rintro σ H1 ⟨rfl, u, rfl⟩
      rw [List.length_map, List.take_length]
      exact ⟨_, rfl, k⟩
end
end E2

set_option Elab.async false
set_option linter.all false
set_option maxRecDepth 100000
set_option maxHeartbeats 1000000
/-! a.at(values) -/
namespace L2
open PySem PySem.Spec PyProof.Rows
def rLcm : List V → Hp → VK → Prop := fun vs H Q => ∃ a b : Nat, vs = [.int (a : Int), .int (b : Int)] ∧ 0 < a ∧ a < 2 ^ 64 ∧ b < 2 ^ 64 ∧ Q (.int ((Nat.lcm a b : Nat) : Int)) H
theorem cr_lcm {X : Cx} : CallR X (.builtin "math.lcm") rLcm := by
  intro pins s σ H vs us Q I r h
  obtain ⟨a, b, rfl, ha0, ha, hb, q⟩ := h
  obtain ⟨t, u, rfl⟩ := Vals.int2 r
  have e1 : Nat.lcm 1 (a : Int).natAbs = a := by rw [Int.natAbs_natCast, Nat.lcm_comm, Nat.lcm_one_right]
  have e2 : (((Nat.lcm 1 (a : Int).natAbs).lcm (b : Int).natAbs : Nat) : Int) = ((Nat.lcm a b : Nat) : Int) := by rw [e1, Int.natAbs_natCast]
  have hl : Nat.lcm a b < 2 ^ 128 := by
    have h1 : Nat.lcm a b ≤ a * b := by
      unfold Nat.lcm
      exact Nat.div_le_self _ _
    exact Nat.lt_of_le_of_lt h1 (by rw [show (2 : Nat) ^ 128 = 2 ^ 64 * 2 ^ 64 by decide]; exact Nat.mul_lt_mul'' ha hb)
  exact PySem.W.mg_lcm_v (by rw [Int.natAbs_natCast]; exact ha) (by rw [Int.natAbs_natCast]; exact hb) e2 (by rw [Int.natAbs_natCast]; exact Nat.lt_of_lt_of_le (PySem.Flt.log2_lt_of (by decide) hl) (by decide)) ⟨.int _, H, I.tok _, ⟨_, rfl⟩, q⟩
/-- the least common multiple of the denominators -/
def cmD (fm : Fm) : Nat := fm.foldl (fun c x => Nat.lcm c x.2.den) 1
theorem cmD_snoc (fm : Fm) (x : Mon × Rat) : cmD (fm ++ [x]) = Nat.lcm (cmD fm) x.2.den := by
  unfold cmD
  rw [List.foldl_append]
  rfl
theorem foldl_dvd {D : Nat} : ∀ (fm : Fm) (c : Nat), c ∣ D → (∀ x ∈ fm, x.2.den ∣ D) → fm.foldl (fun c x => Nat.lcm c x.2.den) c ∣ D
  | [], _, h, _ => h
  | x :: r, c, h, hx => foldl_dvd r _ (Nat.lcm_dvd h (hx x (List.mem_cons.mpr (.inl rfl)))) fun y hy => hx y (List.mem_cons.mpr (.inr hy))
theorem cmD_dvd {D : Nat} {fm : Fm} (h : ∀ x ∈ fm, x.2.den ∣ D) : cmD fm ∣ D := foldl_dvd fm 1 (Nat.one_dvd _) h
theorem foldl_base : ∀ (fm : Fm) (c : Nat), c ∣ fm.foldl (fun c x => Nat.lcm c x.2.den) c
  | [], _ => Nat.dvd_refl _
  | x :: r, c => Nat.dvd_trans (Nat.dvd_lcm_left c x.2.den) (foldl_base r _)
theorem den_foldl : ∀ (fm : Fm) (c : Nat), ∀ x ∈ fm, x.2.den ∣ fm.foldl (fun c x => Nat.lcm c x.2.den) c
  | y :: r, c, x, h => by
    rcases List.mem_cons.mp h with rfl | h
    · exact Nat.dvd_trans (Nat.dvd_lcm_right c x.2.den) (foldl_base r _)
    · exact den_foldl r _ x h
theorem den_cmD {fm : Fm} : ∀ x ∈ fm, x.2.den ∣ cmD fm := den_foldl fm 1
theorem foldl_pos : ∀ (fm : Fm) (c : Nat), 0 < c → 0 < fm.foldl (fun c x => Nat.lcm c x.2.den) c
  | [], _, h => h
  | x :: r, c, h => foldl_pos r _ (Nat.lcm_pos h x.2.den_pos)
theorem cmD_pos (fm : Fm) : 0 < cmD fm := foldl_pos fm 1 (by decide)
/-- the sum that at builds -/
def totD (c : Nat) (g : Str → Int) : Fm → Int
  | [] => 0
  | x :: r => x.2.num * ((c : Int) / (x.2.den : Int)) * evM g x.1 + totD c g r
theorem totD_append (c : Nat) (g : Str → Int) : ∀ a b : Fm, totD c g (a ++ b) = totD c g a + totD c g b
  | [], b => by show totD c g b = 0 + totD c g b; omega
  | x :: a, b => by
    show _ + totD c g (a ++ b) = _ + totD c g a + totD c g b
    rw [totD_append c g a b, Int.add_assoc]
theorem totD_ev {c : Nat} (g : Str → Int) : ∀ fm : Fm, (∀ x ∈ fm, x.2.den ∣ c) → (totD c g fm : Rat) = (c : Rat) * ev g fm
  | [], _ => by show (0 : Rat) = _ * 0; grind
  | x :: r, h => by
    have ih := totD_ev g r fun y hy => h y (List.mem_cons.mpr (.inr hy))
    obtain ⟨k, hk⟩ := h x (List.mem_cons.mpr (.inl rfl))
    have hd : (x.2.den : Int) ≠ 0 := by have := x.2.den_nz; omega
    have e1 : (c : Int) / (x.2.den : Int) = (k : Int) := by rw [hk, Int.natCast_mul, Int.mul_ediv_cancel_left _ hd]
    show ((x.2.num * ((c : Int) / (x.2.den : Int)) * evM g x.1 + totD c g r : Int) : Rat) = (c : Rat) * (x.2 * _ + ev g r)
    rw [Rat.intCast_add, ih, e1, Rat.intCast_mul, Rat.intCast_mul, rat_num, Rat.intCast_natCast, hk, Rat.natCast_mul]
    grind
end L2

set_option Elab.async false
set_option linter.all false
set_option maxRecDepth 100000
set_option maxHeartbeats 1000000
/-! a.at(values) -/
namespace L2
open PySem PySem.Spec PyProof.Rows
theorem upd_back {H : Hp} {d : Addr} {u z : HO} (h : H d = some u) : upd (upd H d z) d u = H := by
  funext b
  by_cases c : b = d
  · subst c
    rw [upd_same, h]
  · rw [upd_ne c, upd_ne c]
theorem mem_sum : ∀ {l : List Nat} {n : Nat}, n ∈ l → n ≤ l.sum
  | x :: l, n, h => by
    rw [List.sum_cons]
    rcases List.mem_cons.mp h with rfl | h
    · omega
    · have := mem_sum h
      omega
/-- for .. in d.values(), the heap as it was -/
theorem for_valsO {P : Program} {w : World} {K : PySem.W.Frag} {H : Hp} {d : Addr} {l : NAV} {fm : Fm} {td : TE} {g : TG} {tb : TS} {D : Ends} {σ : L2.St} (hd : Rd H d (DfO P w d l)) (hf : FmKv K H l fm)
    (hte : ∀ (od : Obj) (Hl : Hp), Lk P w d l od H Hl → ∀ R : VK, R (.ref d) Hl → td σ Hl R) (Pv : Nat → L2.St → Prop) (h0 : Pv 0 σ)
    (hs : ∀ (Hl : Hp) (i : Nat) (m : Mon) (q : Rat) (σ' : L2.St) (a : Addr) (rt : VK) (bk : L2.St → Hp → Prop), fm[i]? = some (m, q) → Pv i σ' → SqT K Hl a (frac q) →
      g (.ref a) σ' Hl fun σ2 H2 => tb { nx := fun σ3 H3 => H3 = Hl ∧ Pv (i + 1) σ3, rt := rt, bk := bk, ct := fun σ3 H3 => H3 = Hl ∧ Pv (i + 1) σ3 } σ2 H2)
    (he : ∀ σ', Pv fm.length σ' → D.nx σ' H) : tLockO (tFor (iValsN P w td) g tb) D σ H := by
  have core : ∀ (od : Obj) (Hl : Hp) (L : Lk P w d l od H Hl) (D' : Ends), FmKv K Hl l fm → (∀ σ', Pv fm.length σ' → D'.nx σ' Hl) → tFor (iValsN P w td) g tb D' σ Hl := by
    intro od Hl L D' hf0 hnx
    refine hte od Hl L _ ⟨d, od, l, rfl, L.at_, for_it walk_valuesN (fun i σ' H' => H' = Hl ∧ Pv i σ') ⟨rfl, h0⟩ (fun i σ' H' _ p => by rw [p.1]; exact L.at_) ?_ ?_⟩
    · rintro i x σ' H' H'' hi ⟨rfl, p⟩ ⟨rfl, k, qb, av, hkv, rfl⟩
      obtain ⟨m, q, b, a, hm, e, tb, sa⟩ := hf0.get hkv
      obtain ⟨rfl, e2⟩ := Prod.mk.inj e
      obtain ⟨rfl, rfl⟩ := Prod.mk.inj e2
      exact hs _ i m q σ' av _ _ hm p sa
    · rintro σ' H' ⟨rfl, p⟩
      rw [hf.length] at p
      exact hnx σ' p
  rcases hd with hd | ⟨o, hd⟩
  · refine .inl ⟨d, DfO P w d l, hd, trivial, fun od => ?_⟩
    have L : Lk P w d l od H (upd H d (.frz od (DfO P w d l))) := ⟨upd_same, fun b n => upd_ne n⟩
    refine core od _ L _ (hf.imp (.agree hd noTup_df L.off)) fun σ' p => ⟨upd_same, ?_⟩
    rw [upd_back hd]
    exact he σ' p
  · exact .inr (core o H ⟨hd, fun _ _ => rfl⟩ D hf he)
end L2
namespace E2
open PySem PySem.Spec PyProof.Rows L2
open C8 (Cal Mak Met InsC pe_c pe_mt pe_mt0 call_isC clsBody)
def spLetters (P : Program) (w : World) (K : PySem.W.Frag) (C : Addr) : Sp := fun vs H Q _ => ∃ a fm, vs = [.ref a] ∧ FmAt P w K C H a fm ∧ fm.length ≤ 1000 ∧ (fm.map fun x => x.1.length).sum ≤ 1000 ∧
  ∀ H' p (xs : List Str), Same H H' → H p = none → H' p = some (.lst (xs.map V.str)) → xs.length ≤ 1000 → sortedS xs = true → xs.Nodup → (∀ x, x ∈ xs ↔ ∃ m ∈ fm.map (·.1), x ∈ m) → Q (.ref p) H'
def spAt (P : Program) (w : World) (K : PySem.W.Frag) (C : Addr) : Sp := fun vs H Q _ => ∃ (a d : Addr) (fm : Fm) (kvs : List (Key × V)) (g : Str → Int) (D M : Nat), vs = [.ref a, .ref d] ∧ FmAt P w K C H a fm ∧ fm.length ≤ 1000 ∧ (fm.map fun x => x.1.length).sum ≤ 1000 ∧ H d = some (.dK kvs) ∧ ValsOk kvs ∧ kvs.length ≤ 1000 ∧
  (∀ x ∈ fm, ∀ z ∈ x.1, valV kvs (Sum.inr z) = some (.int (g z)) ∧ (g z).natAbs < 2 ^ 400) ∧ 0 < D ∧ D < 2 ^ 64 ∧ M < 2 ^ 400000 ∧ (∀ x ∈ fm, Bq D M x.2) ∧
  ∀ H', Same H H' → (∀ n : Int, ev g fm = (n : Rat) → Q (.int n) H') ∧ ((∀ n : Int, ev g fm ≠ (n : Rat)) → Q .non H')
section
variable {P : Program} {w : World} {K : PySem.W.Frag} {mg : Str → Option Value} {base : Heap} {C : Addr}
theorem scAt : FnScope ["self", "values", "common", "_", "bottom", "total", "names", "top"] ["self", "values"] (defScope sAt) := ⟨rfl, rfl, rfl, by decide +kernel, rfl, by decide +kernel, by decide +kernel⟩
theorem ok_at {f : Addr} {fd : FuncData} (F : Fun K "at" "Form.at" sAt f fd) (T : Fx P w K mg base C) (hlcm : mg "lcm" = some (.builtin "math.lcm")) (Iv : Cal P w K mg base 2 "is_values" (spIsVals P w K) []) (Le : Met P w K mg base 2 C "letters" (spLetters P w K C) []) (Pr : Cal P w K mg base 1 "product_at" (spProd P w K) []) : FnOk P w K mg base CX0 3 f fd ["self", "values"] (spAt P w K C) := by
  refine F.ok scAt (fun vs H Q E h => ?_) (fun cdv A outer s H vs Q E hr h => ?_)
  · obtain ⟨a, d, fm, kvs, g, D, M, rfl, _⟩ := h
    rfl
  · obtain ⟨a, d, fm, kvs, g, D, M, rfl, ⟨dx, dp, kvp, ha, hd, hf⟩, hl, hsum, hv, vok, hk, hg, D0, D64, M4, hq, k⟩ := h
    refine ⟨_, pss_cons (ps_if (pt_not (pt_val (pe_c Iv hr (by decide) rfl (pa_cons (pv 1) (pa_cons (pe_mt0 Le hr (by decide) (pv 0)) pa_nil))))) (pss_one ps_never) pss_nil)
      (pss_cons (ps_set (i := 2) scAt.nd rfl (Or.inl rfl) pe_int)
      (pss_cons (ps_lockO (ps_for PassesOwn.never rfl (pi_valuesN (pe_fld (pv 0) rfl)) (pg_tup rfl (pgs_cons (pg_name (i := 3) scAt.nd rfl (Or.inl rfl)) (pgs_cons (pg_name (i := 4) scAt.nd rfl (Or.inl rfl)) pgs_nil)))
        (pss_one (ps_set (i := 2) scAt.nd rfl (Or.inl rfl) (pe_callBfun cr_lcm rfl hlcm (pa_cons (pv 2) (pa_cons (pv 4) pa_nil)))))))
      (pss_cons (ps_set (i := 5) scAt.nd rfl (Or.inl rfl) pe_int)
      (pss_cons (ps_lockO (ps_for PassesOwn.never rfl (pi_itemsN (pe_fld (pv 0) rfl)) (pg_tup rfl (pgs_cons (pg_name (i := 6) scAt.nd rfl (Or.inl rfl)) (pgs_cons (pg_tup rfl (pgs_cons (pg_name (i := 7) scAt.nd rfl (Or.inl rfl)) (pgs_cons (pg_name (i := 4) scAt.nd rfl (Or.inl rfl)) pgs_nil))) pgs_nil)))
        (pss_one (ps_set (i := 5) scAt.nd rfl (Or.inl rfl) (pe_op op_add (pv 5) (pe_op op_mulW (pe_op op_mulW (pv 7) (pe_op op_fdivW (pv 2) (pv 4))) (pe_c Pr hr (by decide) rfl (pa_cons (pv 6) (pa_cons (pv 1) pa_nil)))))))))
      (pss_one (ps_ret (pe_ifExp (pt_cmpR op_eq (pe_op op_modN (pv 5) (pv 2)) pe_int (nomark _)) (pe_op op_fdivW (pv 5) (pv 2)) pe_non))))))), ?_⟩
    have hin : ∀ (xs : List Str), (∀ x, x ∈ xs ↔ ∃ m ∈ fm.map (·.1), x ∈ m) → ∀ x ∈ xs, (valV kvs (Sum.inr x)).isSome = true := fun xs hm x hx => by
      obtain ⟨m, hm2, hxm⟩ := (hm x).mp hx
      obtain ⟨y, hy, rfl⟩ := List.mem_map.mp hm2
      rw [(hg y hy x hxm).1]
      rfl
    refine ⟨_, rfl, _, rfl, a, dx, _, rfl, ha, rfl, a, fm, rfl, ⟨dx, dp, kvp, ha, hd, hf⟩, hl, hsum, fun H1 p xs S1 np hp hxl hso hnd hmem => ?_⟩
    refine ⟨d, p, kvs, xs, rfl, S1 _ _ hv, vok, hk, SqL.of hp, hxl, hin xs hmem, fun H2 S2 => ⟨true, rfl, iteF ?_⟩⟩
    dsimp only [tNext]
    have SS := S1.trans S2
    have ha2 := SS _ _ ha
    have hd2 := SS _ _ hd
    have hv2 := SS _ _ hv
    have hf2 := hf.same SS
    have nad : a ≠ dp := ne_of ha hd (by intro z; cases z)
    have ndd : d ≠ dp := ne_of hv hd (by intro z; cases z)
    refine seq_asg (show (tSeq _ _ _ _ _) from ?_)
    have cdv : ∀ i, cmD (fm.take i) ∣ D := fun i => cmD_dvd fun x hx => (hq x (List.mem_of_mem_take hx)).den
    have cle : ∀ i, cmD (fm.take i) < 2 ^ 64 := fun i => Nat.lt_of_le_of_lt (Nat.le_of_dvd D0 (cdv i)) D64
    refine seq_lockO (for_valsO (l := kvp) (fm := fm) (d := dp) (.inl hd2) hf2 (fun od Hl L R h => ⟨_, rfl, a, C, dx, _, _, rfl, by rw [L.off a nad]; exact ha2, T.cl, T.na, rfl, h⟩)
      (fun i σ' => ∃ u3 u4, σ' = [some (.ref a), some (.ref d), some (.int (cmD (fm.take i) : Nat)), u3, u4, none, none, none]) ⟨none, none, rfl⟩ ?_ ?_)
    · rintro Hl i m q σ' a1 rt bk hm ⟨u3, u4, rfl⟩ sa
      have hq1 := hq _ (List.mem_of_getElem? hm)
      refine ⟨a1, _, rfl, sa, rfl, _, _, rfl, _, _, rfl, rfl, ?_⟩
      refine ⟨_, rfl, _, rfl, cmD (fm.take i), q.den, rfl, cmD_pos _, cle i, Nat.lt_of_le_of_lt (hq1.den_le D0) D64, rfl, some (.int q.num), some (.int q.den), ?_⟩
      rw [take_snoc hm, cmD_snoc]
      rfl
    rintro σ' ⟨u3, u4, rfl⟩
    rw [List.take_length]
    have c64 : cmD fm < 2 ^ 64 := by have := cle fm.length; rwa [List.take_length] at this
    have c0 := cmD_pos fm
    dsimp only
    refine seq_asg (show (tSeq _ _ _ _ _) from ?_)
    refine seq_lockO (for_itemsO (l := kvp) (fm := fm) (d := dp) (.inl hd2) hf2 (fun od Hl L R h => ⟨_, rfl, a, C, dx, _, _, rfl, by rw [L.off a nad]; exact ha2, T.cl, T.na, rfl, h⟩)
      (fun od Hl i σ' H' => Same Hl H' ∧ ∃ u3 u4 u6 u7, σ' = [some (.ref a), some (.ref d), some (.int (cmD fm : Nat)), u3, u4, some (.int (totD (cmD fm) g (fm.take i))), u6, u7]) ?_ ?_ ?_ ?_)
    · intro od Hl L
      exact ⟨Same.refl _, u3, u4, none, none, rfl⟩
    · rintro od Hl L i σ' H' ⟨S, _⟩
      exact ⟨S _ _ L.at_, .same S⟩
    · rintro od Hl L i m q σ' H' T1 b1 a1 rt bk hm ⟨S, u3, u4, u6, u7, rfl⟩ nT hb1 sa
      have hmem1 := List.mem_of_getElem? hm
      have hq1 := hq _ hmem1
      have hgm := hg _ hmem1
      have ST : Same H' (upd H' T1 (.tup [.ref b1, .ref a1])) := Same.upd nT
      have hdv : (upd H' T1 (.tup [.ref b1, .ref a1])) d = some (.dK kvs) := ST _ _ (S _ _ (by rw [L.off d ndd]; exact hv2))
      have hml : m.length ≤ 1000 := by
        have h1 : m.length ∈ fm.map fun x => x.1.length := List.mem_map.mpr ⟨(m, q), hmem1, rfl⟩
        exact Nat.le_trans (mem_sum h1) hsum
      have dq : (0 : Int) < (q.den : Int) := by have := q.den_pos; omega
      have dl : q.den < 2 ^ 64 := Nat.lt_of_le_of_lt (hq1.den_le D0) D64
      have cd : ((cmD fm : Int) / (q.den : Int)).natAbs < 2 ^ 64 := by
        have e : (cmD fm : Int) / (q.den : Int) = ((cmD fm / q.den : Nat) : Int) := (Int.natCast_ediv _ _).symm
        rw [e, Int.natAbs_natCast]
        exact Nat.lt_of_le_of_lt (Nat.div_le_self _ _) c64
      have nl : q.num.natAbs < 2 ^ 400000 := Nat.lt_of_le_of_lt (hq1.num_le D0) M4
      have pl := prod_lt g m fun y hy => (hgm y hy).2
      refine ⟨T1, _, rfl, SqT.of upd_same, rfl, _, _, rfl, _, _, rfl, ⟨a1, _, rfl, sa.same ST, rfl, _, _, rfl, _, _, rfl, rfl, rfl, ?_⟩⟩
      refine ⟨_, rfl, _, rfl, _, rfl, _, rfl, _, _, rfl, rfl, wide_div dq (by rw [Int.natAbs_natCast]; exact dl) (by decide) (by decide), _, _, rfl, rfl, cmw nl cd (by decide) (by decide) (by decide), ?_⟩
      refine ⟨_, rfl, _, rfl, b1, d, m, kvs, g, rfl, (by rw [← kS_kV]; exact (hb1.same ST).sq), hdv, fun x hx => (hgm x hx).1, hml, fun x hx => (hgm x hx).2, _, _, rfl, rfl, cmw (wide_lt nl cd) pl (by decide) (by omega) (by omega), _, _, rfl, rfl, S.trans ST, u3, some (.int q.den), some (.ref b1), some (.int q.num), ?_⟩
      rw [take_snoc hm, totD_append]
      show _ = [_, _, _, _, _, some (V.int (_ + (q.num * ((cmD fm : Int) / (q.den : Int)) * evM g m + 0))), _, _]
      rw [Int.add_zero]
      rfl
    · rintro od Hl L σ' H' Hu ⟨S, u3, u4, u6, u7, rfl⟩ e1 e2
      rw [List.take_length]
      have SH : Same H Hu := by
        intro c o e
        have e0 := SS _ _ e
        by_cases cd : c = dp
        · subst cd
          rw [e1]
          exact e0
        · rw [e2 c cd]
          exact S _ _ (by rw [L.off c cd]; exact e0)
      have te := totD_ev g fm den_cmD
      have cz : (cmD fm : Int) ≠ 0 := by omega
      have crat : ((cmD fm : Nat) : Rat) ≠ 0 := fun e => by
        rw [← Rat.intCast_natCast] at e
        have := Rat.intCast_inj.mp (e.trans (by rfl : (0 : Rat) = ((0 : Int) : Rat)))
        omega
      dsimp only
      refine ret_of ⟨_, rfl, _, rfl, _, _, rfl, rfl, cz, rfl, _, rfl, iteD (fun h => ?_) (fun h => ?_)⟩
      · have h0 : (totD (cmD fm) g fm).fmod (cmD fm : Int) = 0 := by injection h
        have h1 : totD (cmD fm) g fm = (cmD fm : Int) * (totD (cmD fm) g fm / (cmD fm : Int)) := by
          have := Int.mul_ediv_cancel' (Int.dvd_of_fmod_eq_zero h0)
          omega
        refine ⟨_, rfl, _, rfl, _, _, rfl, rfl, wide_div (by omega) (by rw [Int.natAbs_natCast]; exact c64) (by decide) (by decide), (k Hu SH).1 _ ?_⟩
        have h2 := te
        rw [h1, Rat.intCast_mul, Rat.intCast_natCast] at h2
        grind
      · refine (k Hu SH).2 fun n hn => h ?_
        rw [hn] at te
        have h3 : totD (cmD fm) g fm = (cmD fm : Int) * n := by
          apply Rat.intCast_inj.mp
          rw [te, Rat.intCast_mul, Rat.intCast_natCast]
        show V.int ((totD (cmD fm) g fm).fmod (cmD fm : Int)) = V.int 0
        rw [h3, Int.mul_fmod_right]
end
end E2

set_option Elab.async false
set_option linter.all false
set_option maxRecDepth 100000
set_option maxHeartbeats 1000000
/-! law_k05's law -/
namespace E2
open PySem PySem.Spec PyProof.Rows L2
open C8 (Cal Mak Met InsC pe_c pe_mt pe_mt0 call_isC clsBody)
open LamX (Tabs ExtN TabB CodeO)
abbrev sLaw : Stmt := top 44
structure OpI (P : Program) (w : World) (K : PySem.W.Frag) (mg : Str → Option Value) (base : Heap) (k : Nat) (C : Addr) (name : String) (sp : Sp) : Prop where
  ex : ∃ (f : Addr) (fd : FuncData) (ps : List Str), OwnOpI K C name f ∧ FnOk P w K mg base CX0 k f fd ps sp ∧ Binds K fd ps []
/-- one keyword -/
def kw1 : List V → List V → List V := fun vs zs => match vs, zs with
  | [], [x] => [x]
  | _, _ => []
def km1 : List V → List V → List V := fun vs zs => match vs, zs with
  | [s], [x] => [s, x]
  | _, _ => []
def km2 : List V → List V → List V := fun vs zs => match vs, zs with
  | [s], [o, n] => [s, n, o]
  | _, _ => []
def spLaw (TT : List (Addr × Str)) (K : PySem.W.Frag) : Sp := fun vs H Q _ => ∃ (sc : Addr) (ns : List Int), vs = [.ref sc] ∧ SqL K H sc (ns.map V.int) ∧ ns.length ≤ 63 ∧ Tabs TT H ∧ ∀ H', Q (.bl true) H'
theorem mul_int {P : Program} {w : World} {K : PySem.W.Frag} {C : Addr} {H : Hp} {a : Addr} {n : Int} {fa : Fm} {Q : VK} (ha : FmAt P w K C H a fa) (z : SzM fa (numM n)) (k : ∀ H' c, Same H H' → H c = none → FmAt P w K C H' c (mulF fa (numM n)) → Q (.ref c) H') : rOwnI C (spMul P w K C) (.ref a) (.int n) H Q := by
  obtain ⟨dx, d, kvs, h1, h2, h3⟩ := ha
  exact ⟨a, n, dx, _, rfl, rfl, h1, a, _, fa, numM n, rfl, ⟨dx, d, kvs, h1, h2, h3⟩, .inl ⟨n, rfl, rfl⟩, z, fun H' c l S n p f => k H' c S n (by rw [mulT_list p] at f; exact f)⟩
theorem add_int {P : Program} {w : World} {K : PySem.W.Frag} {C : Addr} {H : Hp} {a : Addr} {n : Int} {fa : Fm} {Q : VK} (ha : FmAt P w K C H a fa) (z : Szs fa (numM n)) (k : ∀ H' c, Same H H' → H c = none → FmAt P w K C H' c (addF fa (numM n)) → Q (.ref c) H') : rOwnI C (spAdd P w K C) (.ref a) (.int n) H Q := by
  obtain ⟨dx, d, kvs, h1, h2, h3⟩ := ha
  exact ⟨a, n, dx, _, rfl, rfl, h1, a, _, fa, numM n, rfl, ⟨dx, d, kvs, h1, h2, h3⟩, .inl ⟨n, rfl, rfl⟩, z, k⟩
theorem mul_own {P : Program} {w : World} {K : PySem.W.Frag} {C : Addr} {H : Hp} {a b : Addr} {fa fb : Fm} {Q : VK} (ha : FmAt P w K C H a fa) (hb : FmAt P w K C H b fb) (z : SzM fa fb) (k : ∀ H' c, Same H H' → H c = none → FmAt P w K C H' c (mulF fa fb) → Q (.ref c) H') : rOwn C (spMul P w K C) (.ref a) (.ref b) H Q := by
  obtain ⟨x, y, u, v, h1, h2⟩ := own_refs ha hb
  exact ⟨a, b, x, _, u, _, rfl, rfl, h1, h2, mul_refs ha hb z k⟩
theorem add_own {P : Program} {w : World} {K : PySem.W.Frag} {C : Addr} {H : Hp} {a b : Addr} {fa fb : Fm} {Q : VK} (ha : FmAt P w K C H a fa) (hb : FmAt P w K C H b fb) (z : Szs fa fb) (k : ∀ H' c, Same H H' → H c = none → FmAt P w K C H' c (addF fa fb) → Q (.ref c) H') : rOwn C (spAdd P w K C) (.ref a) (.ref b) H Q := by
  obtain ⟨x, y, u, v, h1, h2⟩ := own_refs ha hb
  exact ⟨a, b, x, _, u, _, rfl, rfl, h1, h2, add_refs ha hb z k⟩
theorem ne_form {P : Program} {w : World} {K : PySem.W.Frag} {C : Addr} {H : Hp} {a b : Addr} {fa fb : Fm} {Q : VK} (ha : FmAt P w K C H a fa) (hb : FmAt P w K C H b fb) (e : eqFm fa fb = true) (q : Q (.bl false) H) : rNeO P w K C (.ref a) (.ref b) H Q :=
  ⟨a, b, fa, fb, rfl, rfl, ha, hb, by rw [e]; exact q⟩
theorem noTup_dK {kvs : List (Key × V)} : NoTup (.dK kvs) := ⟨fun _ z => (nomatch z), fun _ _ z => (nomatch z)⟩
theorem FmAt.offD {P : Program} {w : World} {K : PySem.W.Frag} {C : Addr} {H : Hp} {a d : Addr} {fm : Fm} {kvs : List (Key × V)} {v : HO} (h : FmAt P w K C H a fm) (hd : H d = some (.dK kvs)) : FmAt P w K C (upd H d v) a fm := by
  obtain ⟨dx, e, kv, h1, h2, h3⟩ := h
  exact ⟨dx, e, kv, by rw [upd_ne (ne_of h1 hd (by intro z; cases z))]; exact h1, by rw [upd_ne (ne_of h2 hd fun z => nomatch (show HO.ext _ = _ from z))]; exact h2, h3.imp (.off hd noTup_dK)⟩
theorem tabs_offD {T : List (Addr × Str)} {d : Addr} {H : Hp} {v : HO} {kvs : List (Key × V)} (t : Tabs T H) (hd : H d = some (.dK kvs)) : Tabs T (upd H d v) := fun p hp =>
  let ⟨ps, h1, h2, h3⟩ := t p hp
  ⟨ps, by rw [upd_ne (ne_of h1 hd (by intro w; cases w))]; exact h1, h2, fun pos cv e => let ⟨c, e1, e2⟩ := h3 pos cv e; ⟨c, e1, by rw [upd_ne (ne_of e2 hd (by unfold CodeO; intro w; cases w))]; exact e2⟩⟩
def knV (x y : Int) : List (Key × V) := [(Sum.inr "n", V.int x), (Sum.inr "m", V.int y)]
theorem merge_is (x y : Int) : mergeK [] (knV x y) = knV x y := rfl
def gV2 (x y : Int) : Str → Int := fun z => if z = "n" then x else y
theorem ev_b (g : Str → Int) (q : Int) : ∃ n : Int, ev g (bX q) = (n : Rat) := by
  refine ⟨q * evM g kN + (q * evM g kMN + (3 * evM g [] + 0)), ?_⟩
  show (q : Rat) * (evM g kN : Rat) + ((q : Rat) * (evM g kMN : Rat) + (3 * (evM g [] : Rat) + 0)) = _
  rw [Rat.intCast_add, Rat.intCast_add, Rat.intCast_add, Rat.intCast_mul, Rat.intCast_mul, Rat.intCast_mul]
  rfl
theorem ev_bF (g : Str → Int) {q : Int} (h1 : 1 ≤ q) (h2 : q ≤ 99) : ∃ n : Int, ev g (bF q) = (n : Rat) := by
  obtain ⟨i, hi, rfl⟩ := i_of h1 h2
  rw [bF_is i hi]
  exact ev_b g _
theorem bF_len {q : Int} (h1 : 1 ≤ q) (h2 : q ≤ 99) : (bF q).length = 3 ∧ ((bF q).map fun x => x.1.length).sum = 3 ∧ ∀ x ∈ bF q, ∀ z ∈ x.1, z = "n" ∨ z = "m" := by
  obtain ⟨i, hi, rfl⟩ := i_of h1 h2
  rw [bF_is i hi]
  refine ⟨rfl, rfl, fun x hx z hz => ?_⟩
  have hx : x.1 ∈ [kN, kMN, []] := List.mem_map.mpr ⟨x, hx, rfl⟩
  have hx : x.1 = kN ∨ x.1 = kMN ∨ x.1 = [] := by simpa using hx
  rcases hx with e | e | e
  · rw [e] at hz; exact .inl (by simpa [kN] using hz)
  · rw [e] at hz
    have : z = "m" ∨ z = "n" := by simpa [kMN] using hz
    exact this.symm
  · rw [e] at hz; cases hz
theorem letn : LetOk "n" := by decide
theorem letm : LetOk "m" := by decide
theorem letz : LetOk "z" := by decide
section
variable {P : Program} {w : World} {K : PySem.W.Frag} {mg : Str → Option Value} {base : Heap} {C : Addr}
theorem scLaw : FnScope ["_law_script", "_law_purse_here", "_law_many", "_law_word", "_law_built", "_law_known"] ["_law_script"] (defScope sLaw) := ⟨rfl, rfl, rfl, by decide +kernel, rfl, by decide +kernel, by decide +kernel⟩
theorem ok_law {TT : List (Addr × Str)} {f : Addr} {fd : FuncData} (F : Fun K "law" "law" sLaw f fd) (Ps : Cal P w K mg base 2 "_law_purses" (spPurses K) []) (D : Cal P w K mg base 2 "_law_draw" spDraw [])
    (Le : Cal P w K mg base 3 "letter" (spLetter P w K C) []) (LeK : CalK P w K mg base 3 "letter" (spLetter P w K C) ["name"] kw1) (Nu : Cal P w K mg base 3 "number" (spNumber P w K C) []) (NuK : CalK P w K mg base 3 "number" (spNumber P w K C) ["value"] kw1)
    (Oa : OpM P w K mg base 5 C "__add__" (spAdd P w K C)) (Om : OpM P w K mg base 5 C "__mul__" (spMul P w K C)) (Ia : OpI P w K mg base 5 C "add" (spAdd P w K C)) (Im : OpI P w K mg base 5 C "mul" (spMul P w K C)) (Ne : EqM P w K mg base 1 C)
    (Ov : Met P w K mg base 4 C "over" (spOver P w K C) []) (OvK : MetK P w K mg base 4 C "over" (spOver P w K C) ["divisor"] km1) (At : Met P w K mg base 3 C "at" (spAt P w K C) []) (AtK : MetK P w K mg base 3 C "at" (spAt P w K C) ["values"] km1)
    (Pu : Met P w K mg base 6 C "put" (spPut P w K C) []) (PuK : MetK P w K mg base 6 C "put" (spPut P w K C) ["other", "name"] km2)
    (Rd : CalK P w K mg base 7 "read" (spRead P w K C) ["text"] kw1) (Wr : Cal P w K mg base 3 "write" (spWrite P w TT K C) []) (WrK : CalK P w K mg base 3 "write" (spWrite P w TT K C) ["form"] kw1) :
    FnOk P w K mg base CX0 8 f fd ["_law_script"] (spLaw TT K) := by
  obtain ⟨fa, fda, pa, oa, Fa, ba⟩ := Oa.ex
  obtain ⟨fm_, fdm, pm, om, Fm_, bm⟩ := Om.ex
  obtain ⟨ga, gda, qa, ia, Ga, ca⟩ := Ia.ex
  obtain ⟨gm, gdm, qm, im, Gm, cm⟩ := Im.ex
  refine F.ok scLaw (fun vs H Q E h => ?_) (fun cdv A outer s H vs Q E hr h => ?_)
  · obtain ⟨sc, ns, rfl, _⟩ := h
    rfl
  · obtain ⟨sc, ns, rfl, hs, hl, tb, k⟩ := h
    refine ⟨_, pss_cons (ps_for PassesOwn.never rfl (pi_list (pe_c Ps hr (by decide) rfl (pa_cons (pv 0) (pa_cons pe_int pa_nil)))) (pg_name (i := 1) scLaw.nd rfl (Or.inl rfl))
        (pss_cons (ps_par (i := 2) (j := 3) (by rfl) scLaw.nd rfl rfl (by decide) rfl rfl (pa_cons (pe_op op_add pe_int (pe_c D hr (by decide) rfl (pa_cons (pv 1) (pa_cons pe_int pa_nil)))) (pa_cons (pe_ix ix_list (pe_lst (pa_cons pe_str (pa_cons pe_str pa_nil))) (pe_c D hr (by decide) rfl (pa_cons (pv 1) (pa_cons pe_int pa_nil))) (fun _ _ => rfl)) pa_nil)) (by rfl))
        (pss_cons (ps_set (i := 4) scLaw.nd rfl (Or.inl rfl) (pe_op (op_ownI (op := .Add) ia Ga (hr.mono (by decide)) ca) (pe_op (op_own (op := .Add) oa Fa (hr.mono (by decide)) ba) (pe_op (op_ownI (op := .Mult) im Gm (hr.mono (by decide)) cm) (pe_c Le hr (by decide) rfl (pa_cons pe_str pa_nil)) (pv 2))
            (pe_op (op_ownI (op := .Mult) im Gm (hr.mono (by decide)) cm) (pe_op (op_own (op := .Mult) om Fm_ (hr.mono (by decide)) bm) (pe_c Le hr (by decide) rfl (pa_cons pe_str pa_nil)) (pe_c Le hr (by decide) rfl (pa_cons pe_str pa_nil))) (pv 2))) pe_int))
        (pss_cons (ps_set (i := 5) scLaw.nd rfl (Or.inl rfl) (pe_disp (pps_cons pe_str (pe_c D hr (by decide) rfl (pa_cons (pv 1) (pa_cons (pe_op op_pow pe_int pe_int) pa_nil))) (pps_cons pe_str (pe_op op_sub (pe_c D hr (by decide) rfl (pa_cons (pv 1) (pa_cons pe_int pa_nil))) pe_int) pps_nil)) rfl rfl (by intro z; cases z) (by decide)))
        (pss_cons (ps_if (PW.pt (pw_or (pt_cmpR (op_neO Ne hr (by decide)) (pe_cK LeK hr (by decide) rfl (pk_cons (pv 3) pk_nil)) (pe_c Le hr (by decide) rfl (pa_cons (pv 3) pa_nil)) (nomark _)) (pw_or1 (pt_cmpR (op_neO Ne hr (by decide)) (pe_cK NuK hr (by decide) rfl (pk_cons (pv 2) pk_nil)) (pe_c Nu hr (by decide) rfl (pa_cons (pv 2) pa_nil)) (nomark _))))) (pss_one (ps_ret pe_bl)) pss_nil)
        (pss_cons (ps_if (PW.pt (pw_or (pt_cmpR (op_neO Ne hr (by decide)) (pe_mtK OvK hr (by decide) (pv 4) (pk_cons (pv 2) pk_nil)) (pe_mt Ov hr (by decide) (pv 4) (pa_cons (pv 2) pa_nil)) (nomark _)) (pw_or1 (pt_cmpR op_ne (pe_mtK AtK hr (by decide) (pv 4) (pk_cons (pv 5) pk_nil)) (pe_mt At hr (by decide) (pv 4) (pa_cons (pv 5) pa_nil)) (nomark _))))) (pss_one (ps_ret pe_bl)) pss_nil)
        (pss_cons (ps_if (pt_cmpR (op_neO Ne hr (by decide)) (pe_mtK PuK hr (by decide) (pv 4) (pk_cons (pe_c Le hr (by decide) rfl (pa_cons pe_str pa_nil)) (pk_cons (pv 3) pk_nil))) (pe_mt Pu hr (by decide) (pv 4) (pa_cons (pv 3) (pa_cons (pe_c Le hr (by decide) rfl (pa_cons pe_str pa_nil)) pa_nil))) (nomark _)) (pss_one (ps_ret pe_bl)) pss_nil)
        (pss_one (ps_if (PW.pt (pw_or (pt_cmpR (op_neO Ne hr (by decide)) (pe_cK Rd hr (by decide) rfl (pk_cons (pe_cK WrK hr (by decide) rfl (pk_cons (pv 4) pk_nil)) pk_nil)) (pv 4) (nomark _)) (pw_or1 (pt_cmpR op_ne (pe_c Wr hr (by decide) rfl (pa_cons (pv 4) pa_nil)) (pe_c Wr hr (by decide) rfl (pa_cons (pv 4) pa_nil)) (nomark _))))) (pss_one (ps_ret pe_bl)) pss_nil)))))))))
      (pss_one (ps_ret pe_bl)), ?_⟩
    refine ⟨_, rfl, sc, ns, 12, rfl, by decide, by decide, hs, hl, fun H1 p as S1 hp1 nd hpu npa => ⟨p, rfl, ⟨_, SqL.of hp1⟩, for_it (walk_list (xs := as.map V.ref)) (fun i σ' H' => (∃ u1 u2 u3 u4 u5, σ' = [some (.ref sc), u1, u2, u3, u4, u5]) ∧ Tabs TT H' ∧ H' p = some (.lst (as.map V.ref)) ∧ ∀ j b, i ≤ j → as[j]? = some b → PurseAt H' b (2 ^ 60))
      ⟨⟨none, none, none, none, none, rfl⟩, tb.ext S1, hp1, fun j b _ hb => hpu b (List.mem_of_getElem? hb)⟩ (fun i σ' H' _ z => SqL.of z.2.2.1) ?_ ?_⟩⟩
    · rintro i x σ' H2 H3 hi ⟨⟨u1, u2, u3, u4, u5, rfl⟩, tb3, hpp, hpj⟩ ⟨rfl, hx⟩
      rw [List.length_map] at hi
      obtain ⟨a, ha, rfl⟩ : ∃ a, as[i]? = some a ∧ x = V.ref a := by
        rw [List.getElem?_map] at hx
        obtain ⟨z, hz, e⟩ := Option.map_eq_some_iff.mp hx
        exact ⟨z, hz, e.symm⟩
      have hpa := hpj i a (Nat.le_refl _) ha
      have npp : p ≠ a := by rintro rfl; exact npa (List.mem_of_getElem? ha)
      have ndx : ∀ j b, i + 1 ≤ j → as[j]? = some b → b ≠ a := fun j b hj hb e => by
        have := nodup_ix nd hb (by rw [e]; exact ha)
        omega
      have fin : ∀ H7 H8, SameB a H3 H7 → ExtN H7 H8 → Tabs TT H8 → ∀ v2 v3 v4 v5, (∃ u1 u2 u3 u4 u5, ([some (.ref sc), some (.ref a), v2, v3, v4, v5] : L2.St) = [some (.ref sc), u1, u2, u3, u4, u5]) ∧ Tabs TT H8 ∧ H8 p = some (.lst (as.map V.ref)) ∧ ∀ j b, i + 1 ≤ j → as[j]? = some b → PurseAt H8 b (2 ^ 60) := fun H7 H8 S7 ex tb8 v2 v3 v4 v5 =>
        ⟨⟨_, _, _, _, _, rfl⟩, tb8, ex _ _ (S7 _ _ npp hpp) (fun _ z => nomatch z), fun j b2 hj hb2 => by
          obtain ⟨p0, p1, p2, p3, e, rr⟩ := hpj j b2 (by omega) hb2
          exact ⟨p0, p1, p2, p3, ex _ _ (S7 _ _ (ndx j b2 hj hb2) e) (fun _ z => nomatch z), rr⟩⟩
      obtain ⟨ya, ea⟩ := hpa.lst
      refine ⟨_, rfl, a, 99, 2 ^ 40 + 12, rfl, hpa.less (by decide), by decide, by decide, fun r H4 r0 r1 hp4 S4 => ⟨_, _, rfl, rfl, (by decide : 2 ≤ sizeLine), fun p1 np1 => ⟨_, rfl, a, 2, 2 ^ 40 + 8, rfl, (hp4.same (Same.upd np1)).less (by decide), by decide, by decide, fun r2 H5 r20 r21 hp5 S5 => ?_⟩⟩⟩
      have np1a : p1 ≠ a := by rintro rfl; obtain ⟨y4, e4⟩ := hp4.lst; rw [e4] at np1; cases np1
      obtain ⟨name, hname, hat⟩ : ∃ name : Str, (name = "n" ∨ name = "m") ∧ L2.atI [V.str "n", V.str "m"] r2 = some (.str name) := by
        have : r2 = 0 ∨ r2 = 1 := by omega
        rcases this with rfl | rfl
        · exact ⟨"n", .inl rfl, rfl⟩
        · exact ⟨"m", .inr rfl, rfl⟩
      refine ⟨p1, _, r2, _, rfl, rfl, SqL.of (S5 _ _ np1a upd_same), hat, _, _, rfl, ?_⟩
      have q1 : 1 ≤ 1 + r := by omega
      have q2 : 1 + r ≤ 99 := by omega
      dsimp only
      generalize 1 + r = q at q1 q2 ⊢
      have bk := bOk q1 q2
      have let_n : LetOk name := by rcases hname with rfl | rfl; exact letn; exact letm
      have S35 : SameB a H3 H5 := (S4.to (Same.upd np1)).trans S5
      have tb5 : Tabs TT H5 := tabs_sameB (tabs_sameB tb3 S4 ea |>.ext (Same.upd np1)) S5 (Same.upd np1 _ _ (show H4 a = some _ from hp4.lst.choose_spec))
      refine seq_asg ?_
      refine ⟨"n", rfl, letn, fun Ha x1 Sa na fx1 => ⟨_, rfl, ?_⟩⟩
      refine mul_int fx1 (szm_of bk.n bk.q_) fun Hb x2 Sb nb fx2 => ?_
      refine ⟨"m", rfl, letm, fun Hc x3 Sc nc fx3 => ⟨"n", rfl, letn, fun Hd x4 Sd nd4 fx4 => ?_⟩⟩
      refine mul_own (fx3.same Sd) fx4 (szm_of bk.m bk.n) fun He x5 Se ne5 fx5 => ?_
      refine ⟨_, rfl, ?_⟩
      refine mul_int fx5 (szm_of bk.mn bk.q_) fun Hf x6 Sf nf6 fx6 => ?_
      refine add_own ((((fx2.same Sc).same Sd).same Se).same Sf) fx6 (szs_of bk.nq bk.mnq) fun Hg x7 Sg ng7 fx7 => ?_
      refine add_int fx7 (szs_of bk.sum bk.n3) fun H6 b S6 nb6 fb => ?_
      have fb : FmAt P w K C H6 b (bF q) := fb
      have S56 : Same H5 H6 := ((((((Sa.trans Sb).trans Sc).trans Sd).trans Se).trans Sf).trans Sg).trans S6
      have hp6 := hp5.same S56
      have tb6 := tb5.ext S56
      have pw10 : CPow 10 20 := ⟨by decide, by decide, by decide⟩
      refine seq_asg fun pd npd => ?_
      have Spd : Same H6 (upd H6 pd (.dK [])) := Same.upd npd
      have npa6 : pd ≠ a := by rintro rfl; obtain ⟨y4, e4⟩ := hp6.lst; rw [e4] at npd; cases npd
      refine ⟨_, rfl, 10, 20, rfl, rfl, pw10, a, _, 2 ^ 40 + 4, rfl, (hp6.same Spd).less (by decide), by decide +kernel, by decide +kernel, fun d1 H7 d10 d11 hp7 S7 => ⟨_, rfl, a, 99, 2 ^ 40, rfl, hp7.less (by decide), by decide, by decide, fun d2 H8 d20 d21 hp8 S8 => ⟨_, _, rfl, rfl, ?_⟩⟩⟩
      have hpd8 : H8 pd = some (.dK []) := S8 _ _ npa6 (S7 _ _ npa6 upd_same)
      refine ⟨hpd8, knV d1 (d2 - 50), rfl, (show 2 ≤ 15 by decide), ?_⟩
      rw [merge_is]
      have d11' : d1 < 10 ^ 20 := d11
      obtain ⟨y6, ea6⟩ := (hp6.same Spd).lst
      obtain ⟨y7, ea7⟩ := hp7.lst
      have fb8 : FmAt P w K C H8 b (bF q) := fmL (fmL (fb.same Spd) S7 ea6) S8 ea7
      have tb8 : Tabs TT H8 := tabs_sameB (tabs_sameB (tb6.ext Spd) S7 ea6) S8 ea7
      have fb9 : FmAt P w K C (upd H8 pd (.dK (knV d1 (d2 - 50)))) b (bF q) := FmAt.offD fb8 hpd8
      have tb9 : Tabs TT (upd H8 pd (.dK (knV d1 (d2 - 50)))) := tabs_offD tb8 hpd8
      have hd9 : (upd H8 pd (.dK (knV d1 (d2 - 50)))) pd = some (.dK (knV d1 (d2 - 50))) := upd_same
      have S39 : SameB a H3 (upd H8 pd (.dK (knV d1 (d2 - 50)))) := fun c o n e => by
        have n2 : c ≠ pd := by
          rintro rfl
          have := S56 _ _ (S35 _ _ n e)
          rw [npd] at this
          cases this
        rw [upd_ne n2]
        exact S8 _ _ n (S7 _ _ n (Spd _ _ (S56 _ _ (S35 _ _ n e))))
      generalize upd H8 pd (.dK (knV d1 (d2 - 50))) = H9 at fb9 tb9 hd9 S39 ⊢
      -- letter, number
      refine ⟨_, rfl, name, rfl, let_n, fun Ha x1 Sa na fx1 => ⟨_, rfl, name, rfl, let_n, fun Hb x2 Sb nb fx2 => ?_⟩⟩
      refine ne_form (FmAt.same fx1 Sb) fx2 (eqFm_refl _) ⟨_, rfl, ifF rfl ?_⟩
      refine ⟨_, rfl, q, rfl, fun Hc x3 Sc nc fx3 => ⟨_, rfl, q, rfl, fun Hd x4 Sd nd4 fx4 => ?_⟩⟩
      refine ne_form (FmAt.same fx3 Sd) fx4 (eqFm_refl _) ⟨_, rfl, ifF rfl ?_⟩
      dsimp only [tNext]
      have S9d : Same H9 Hd := ((Sa.trans Sb).trans Sc).trans Sd
      have fbd := FmAt.same fb9 S9d
      have hdd := S9d _ _ hd9
      have EXd : ExtN H9 Hd := .of S9d
      have tbd := tb9.ext S9d
      generalize Hd = H10 at fbd hdd EXd tbd ⊢
      -- over
      obtain ⟨sm1, sm2, sm3⟩ := sm_mem bk.b
      obtain ⟨bl1, bl2, bl3⟩ := bF_len q1 q2
      have szl := sz_lt
      have bsm : Sm (bF q) := fun x hx => ⟨pw _ (Nat.lt_of_le_of_lt (sm1 x hx).2.1 (by decide)), by rw [(sm1 x hx).1]; exact Nat.one_lt_two_pow (by decide)⟩
      have q0 : q ≠ 0 := by omega
      have qs : q.natAbs < 2 ^ 2000 := Nat.lt_of_lt_of_le (show q.natAbs < 2 ^ 7 by omega) (Nat.pow_le_pow_right (by decide) (by decide))
      have ins : ∀ {H' : Hp}, FmAt P w K C H' b (bF q) → ∃ dx d, H' b = some (.ins C dx [("_parts", V.ref d)]) := fun h => let ⟨dx, d, _, h1, _⟩ := h; ⟨dx, d, h1⟩
      obtain ⟨dxa, da, ia1⟩ := ins fbd
      refine ⟨_, rfl, b, dxa, _, rfl, ia1, rfl, _, rfl, b, q, bF q, rfl, q0, qs, fbd, sm3, by omega, bsm, fun He x5 Se ne5 fx5 => ?_⟩
      have fbe := FmAt.same fbd Se
      refine ⟨_, rfl, b, dxa, _, rfl, Se _ _ ia1, rfl, _, rfl, b, q, bF q, rfl, q0, qs, fbe, sm3, by omega, bsm, fun Hf x6 Sf nf6 fx6 => ?_⟩
      refine ne_form (FmAt.same fx5 Sf) fx6 (eqFm_refl _) ⟨_, rfl, ifF rfl ?_⟩
      have Sdf := Se.trans Sf
      have fbf := FmAt.same fbe Sf
      have hdf := Sdf _ _ hdd
      have EXf : ExtN H9 Hf := EXd.trans (.of Sdf)
      have tbf := tbd.ext Sdf
      -- at
      obtain ⟨n0, hn0⟩ := ev_bF (gV2 d1 (d2 - 50)) q1 q2
      have vok : ValsOk (knV d1 (d2 - 50)) := fun kv hkv => by
        have : kv = (Sum.inr ("n" : Str), V.int d1) ∨ kv = (Sum.inr ("m" : Str), V.int (d2 - 50)) := by simpa [knV] using hkv
        rcases this with rfl | rfl
        · exact ⟨_, _, rfl, letn⟩
        · exact ⟨_, _, rfl, letm⟩
      have big : ∀ n : Nat, n < 2 ^ 100 → n < 2 ^ 400 := fun n h => Nat.lt_of_lt_of_le h (Nat.pow_le_pow_right (by decide) (by decide))
      have hg : ∀ x ∈ bF q, ∀ z ∈ x.1, valV (knV d1 (d2 - 50)) (Sum.inr z) = some (.int (gV2 d1 (d2 - 50) z)) ∧ (gV2 d1 (d2 - 50) z).natAbs < 2 ^ 400 := fun x hx z hz => by
        rcases bl3 x hx z hz with rfl | rfl
        · exact ⟨rfl, big _ (by show d1.natAbs < _; omega)⟩
        · exact ⟨rfl, big _ (by show (d2 - 50).natAbs < _; omega)⟩
      have hq1 : ∀ x ∈ bF q, Bq 1 1000000 x.2 := fun x hx => bq_one (sm1 x hx).1 (sm1 x hx).2.1
      refine ⟨_, rfl, b, dxa, _, rfl, Sdf _ _ ia1, rfl, _, rfl, b, pd, bF q, knV d1 (d2 - 50), gV2 d1 (d2 - 50), 1, 1000000, rfl, fbf, by omega, by omega, hdf, vok, (show 2 ≤ 1000 by decide), hg, by decide, by decide, pw _ (by decide), hq1, fun Hg Sg => ⟨fun n hn => ?_, fun no => absurd hn0 (no n0)⟩⟩
      have fbg := FmAt.same fbf Sg
      refine ⟨_, rfl, b, dxa, _, rfl, Sg _ _ (Sdf _ _ ia1), rfl, _, rfl, b, pd, bF q, knV d1 (d2 - 50), gV2 d1 (d2 - 50), 1, 1000000, rfl, fbg, by omega, by omega, Sg _ _ hdf, vok, (show 2 ≤ 1000 by decide), hg, by decide, by decide, pw _ (by decide), hq1, fun Hh Sh => ⟨fun n2 hn2 => ?_, fun no => absurd hn0 (no n0)⟩⟩
      obtain rfl : n = n2 := Rat.intCast_inj.mp (hn.symm.trans hn2)
      refine ⟨rfl, _, rfl, ifF (by rw [decide_eq_true rfl]; rfl) ?_⟩
      dsimp only [tNext]
      have Sfh := Sg.trans Sh
      have fbh := FmAt.same fbg Sh
      have EXh : ExtN H9 Hh := EXf.trans (.of Sfh)
      have tbh := tbf.ext Sfh
      have iah := Sfh _ _ (Sdf _ _ ia1)
      -- put
      have hsz : SzH (lF "z") [] (powF name (bF q)).reverse := by
        rcases hname with rfl | rfl
        · exact bk.hn
        · exact bk.hm
      have hml : ∀ x ∈ bF q, x.1.length ≤ 100000 := fun x hx => Nat.le_trans (sm1 x hx).2.2 (by decide)
      refine ⟨_, rfl, b, dxa, _, rfl, iah, rfl, "z", rfl, letz, fun Hi z1 Si nz1 fz1 => ⟨_, rfl, b, z1, name, bF q, lF "z", rfl, let_n, FmAt.same fbh Si, fz1, sm3, by omega, hml, hsz, fun Hj x7 Sj nj fx7 => ?_⟩⟩
      have Shj := Si.trans Sj
      refine ⟨_, rfl, b, dxa, _, rfl, Shj _ _ iah, rfl, _, rfl, "z", rfl, letz, fun Hk z2 Sk nz2 fz2 => ⟨b, z2, name, bF q, lF "z", rfl, let_n, FmAt.same fbh (Shj.trans Sk), fz2, sm3, by omega, hml, hsz, fun Hl x8 Sl nl8 fx8 => ?_⟩⟩
      refine ne_form (FmAt.same fx7 (Sk.trans Sl)) fx8 (eqFm_refl _) ⟨_, rfl, ifF rfl ?_⟩
      dsimp only [tNext]
      have Shl := (Shj.trans Sk).trans Sl
      have fbl := FmAt.same fbh Shl
      have EXl : ExtN H9 Hl := EXh.trans (.of Shl)
      have tbl := tbh.ext Shl
      -- read, write
      have wo := wrOk_b q1 q2
      obtain ⟨rk, req⟩ := rd_b q1 q2
      rw [← wrS_b q1 q2] at rk req
      refine ⟨_, rfl, b, bF q, rfl, fbl, wo, tbl, fun Hm exm tbm => ⟨wrS (bF q), rfl, rk, fun Hn x9 Sn nn fx9 => ⟨_, rfl, ?_⟩⟩⟩
      have fbm := FmAt.ext fbl exm
      refine ne_form fx9 (FmAt.same fbm Sn) req ⟨_, rfl, ifF rfl ?_⟩
      refine ⟨_, rfl, b, bF q, rfl, FmAt.same fbm Sn, wo, tbm.ext Sn, fun Ho exo tbo => ⟨_, rfl, b, bF q, rfl, FmAt.ext (FmAt.same fbm Sn) exo, wo, tbo, fun Hp exp_ tbp => ?_⟩⟩
      refine ⟨rfl, _, rfl, ifF (by rw [decide_eq_true rfl]; rfl) ?_⟩
      exact fin _ _ S39 ((((EXl.trans exm).trans (.of Sn)).trans exo).trans exp_) tbp _ _ _ _
    · rintro σ' H2 ⟨⟨u1, u2, u3, u4, u5, rfl⟩, _⟩
      exact k H2
end
end E2

set_option Elab.async false
set_option linter.all false
set_option maxRecDepth 100000
set_option maxHeartbeats 1000000
/-! A head by facts: one Bool of the law's own, and the defs. -/
namespace Hb
open PySem PySem.Spec PyProof.Rows L2 He
abbrev AlB : Type := Bool × List FnV
def obsB (ex : PySem.W.Frag → Bool) (fn : List FnD) (K : PySem.W.Frag) : AlB := (ex K && fn.all fun d => (Fa.code d.at_ d.qual).ok K && PySem.W.keepIn K (.ref (fAd K d.at_)), fn.map fun d => fnObs K d.at_)
def valB (fn : List FnD) : AlB := (true, fn.map FnD.val)
def SaysB (ex : PySem.W.Frag → Bool) (fn : List FnD) (K : PySem.W.Frag) : Prop := obsB ex fn K = valB fn
def lookB (n : Nat) (ex : PySem.W.Frag → Bool) (fn : List FnD) (g : Addr → Option Obj) : AlB := obsB ex fn (frG g (asG g n))
def hookB (n : Nat) (ex : PySem.W.Frag → Bool) (fn : List FnD) : PySem.W.Hook where
  α := AlB
  obs := fun s => lookB n ex fn s.heap.get?
  val := fun _ => valB fn
  says := fun _ h => ∃ K : PySem.W.Frag, K.In h ∧ SaysB ex fn K
  of := fun _ _ e => ⟨_, frG_in, e⟩
  keeps := fun _ _ _ ⟨K, hK, c⟩ k => ⟨K, PySem.W.Frag.In.keeps hK k, c⟩
theorem lookB_eq {n : Nat} {ex : PySem.W.Frag → Bool} {fn : List FnD} {g : Addr → Option Obj} {s : Shared} (h : ∀ a, g a = s.heap.get? a) : lookB n ex fn g = (hookB n ex fn).obs s := by
  have e : g = s.heap.get? := funext h
  rw [e] <;> rfl
/-- a def of the text, by its statement -/
def dS (at_ : Str × Option Str) (name qual : Str) (st : Stmt) : FnD := ⟨at_, name, qual, defArgs st, defBody st, defScope st⟩
section
variable {ex : PySem.W.Frag → Bool} {fn : List FnD} {K : PySem.W.Frag}
theorem SaysB.bool (c : SaysB ex fn K) : ex K = true := (ba (show (ex K && fn.all fun d => (Fa.code d.at_ d.qual).ok K && PySem.W.keepIn K (.ref (fAd K d.at_))) = true from congrArg (fun z : AlB => z.1) c)).1
theorem SaysB.fun_ (c : SaysB ex fn K) (i : Nat) {at_ : Str × Option Str} {name qual : Str} {st : Stmt} (h : fn[i]? = some (dS at_ name qual st) := by rfl) : ∃ fd, L2.Fun K name qual st (fAd K at_) fd := by
  have c2 := (ba (show (ex K && fn.all fun d => (Fa.code d.at_ d.qual).ok K && PySem.W.keepIn K (.ref (fAd K d.at_))) = true from congrArg (fun z : AlB => z.1) c)).2
  have c3 := ba (List.all_eq_true.mp c2 _ (List.mem_of_getElem? h))
  have e : fn.map (fun d => fnObs K d.at_) = fn.map FnD.val := congrArg (fun z : AlB => z.2) c
  have e2 : (fn.map fun d => fnObs K d.at_)[i]? = (fn.map FnD.val)[i]? := by rw [e]
  rw [List.getElem?_map, List.getElem?_map, h] at e2
  obtain ⟨oc, od, osl, kV, doc, pm, an, cdv, ct, l, k⟩ := fn_ok (Option.some.inj e2) c3.1
  exact ⟨_, ⟨oc, od, kV, doc, pm, an, cdv, ct, osl, rfl, l, k⟩, c3.2⟩
end
theorem bindsA {K : PySem.W.Frag} {x qual : Str} {st : Stmt} {f : Addr} {fd : FuncData} {ps : List Str} (F : L2.Fun K x qual st f fd)
    (h : ∀ (kV doc pm : Value) (an : Option Addr) (cdv ct : Value) (us : List Value), us.length = ps.length → bindArgs (PySem.W.fnOf x qual (defArgs st) (defBody st) (defScope st) .none kV doc pm an cdv ct) ⟨us, []⟩ = pure (ps.zip us)) (s : Shared) (us : List Value) (hl : us.length = ps.length) : BindsTo s fd ⟨us, []⟩ (ps.zip us) := by
  obtain ⟨oc, od, kV, doc, pm, an, cdv, ct, osl, rfl, lk, hcd⟩ := F.ex
  exact .of_eq (h kV doc pm an cdv ct us hl)
/-! own operators, isinstance, as Bools -/
section
variable {K : PySem.W.Frag} {C : Addr}
def ownB (K : PySem.W.Frag) (C : Addr) (m : Str) : Bool := PySem.W.selfFirst K C && (eqO (PySem.W.findIn K (.ref C) m) (some (some (.ref (ma K C m)))) && PySem.W.isFn K (.ref (ma K C m)))
theorem ownB_ok {m : Str} (h : ownB K C m = true) : OwnOp K C m (ma K C m) :=
  let ⟨h1, h2⟩ := ba h
  let ⟨h3, h4⟩ := ba h2
  ⟨h1, eqO_ok h3, h4⟩
def ownIB (K : PySem.W.Frag) (C : Addr) (name : String) : Bool := ownB K C (PySem.dunder name) && ((match PySem.W.findIn K (.ref C) (dunderR name) with
  | some none => true
  | some (some (.ref _)) => true
  | _ => false) && ((PySem.W.findIn K (.type "int") (PySem.dunder name)).isSome && ((PySem.W.findIn K (.type "int") (dunderR name)).isSome && decide (PySem.W.subIn K (.type "int") (.ref C) = some false))))
theorem ownIB_ok {name : String} (h : ownIB K C name = true) : OwnOpI K C name (ma K C (PySem.dunder name)) := by
  obtain ⟨h1, h⟩ := ba h
  obtain ⟨h2, h⟩ := ba h
  obtain ⟨h3, h⟩ := ba h
  obtain ⟨h4, h5⟩ := ba h
  refine ⟨ownB_ok h1, ?_, Option.isSome_iff_exists.mp h3, Option.isSome_iff_exists.mp h4, of_decide_eq_true h5⟩
  split at h2
  · rename_i e
    exact ⟨_, e, .inl rfl⟩
  · rename_i a e
    exact ⟨_, e, .inr ⟨a, rfl⟩⟩
  · cases h2
def insB (K : PySem.W.Frag) (C : Addr) : Bool := eqO (PySem.W.findIn K (.ref C) "__class__") (some (some (.builtin "object.__class__"))) && (eqO (PySem.W.specialIn K (.builtin "object.__class__") "__get__") (some (some (.builtin "getset_descriptor.__get__"))) &&
  (decide (PySem.W.takesIn K (.builtin "object.__class__") = some true) && (decide (PySem.W.mroIn K C (.type "object") = some true) && decide (PySem.W.kitOne K (.ref C) (.ref C) = some true))))
theorem insB_ok (c : Cls K C) (h : insB K C = true) : C8.InsC K C := by
  obtain ⟨h1, h⟩ := ba h
  obtain ⟨h2, h⟩ := ba h
  obtain ⟨h3, h⟩ := ba h
  obtain ⟨h4, h5⟩ := ba h
  exact ⟨c, eqO_ok h1, eqO_ok h2, of_decide_eq_true h3, of_decide_eq_true h4, of_decide_eq_true h5⟩
/-- a global that is a built-in function -/
def bltB (K : PySem.W.Frag) (x : Str) (n : String) : Bool := eqO (PySem.W.nsIn K mainGlobals x) (some (some (.builtin n)))
theorem bltB_ok {h : Heap} {mg : Str → Option Value} (X : K.In h) (G : h.Ns mainGlobals mg) {x : Str} {n : String} (c : bltB K x n = true) : mg x = some (.builtin n) := PySem.W.mg_of X G (eqO_ok c)
/-- the facts of a list hold -/
theorem fa_ok {fa : List Fa} (h : (fa.all fun f => f.ok K) = true) (i : Nat) {f : Fa} (hi : fa[i]? = some f := by rfl) : f.ok K = true := List.all_eq_true.mp h f (List.mem_of_getElem? hi)
theorem bool_ok {l : List Bool} (h : (l.all id) = true) (i : Nat) {b : Bool} (hi : l[i]? = some b := by rfl) : b = true := List.all_eq_true.mp h b (List.mem_of_getElem? hi)
end
end Hb

set_option Elab.async false
set_option linter.all false
set_option maxRecDepth 100000
set_option maxHeartbeats 2000000
/-! A set of texts, by the list of its members. -/
namespace L2
open PySem PySem.Spec PyProof.Rows
/-- an entry is a text under its hash -/
def GoodS (P : Program) (w : World) (e : Int × Value) : Prop := ∃ (x : Str) (t : Tok), e = ((PySem.strKind P w).hash x, .str x t)
def keyS (e : Int × Value) : Str := match e.2 with
  | .str x _ => x
  | _ => Str.empty
def SetS (P : Program) (w : World) (h : Heap) (a : Addr) (ks : List Str) : Prop := ∃ o es ep t, h.get? a = some o ∧ o.ExactSet ∧ o.data = .set es ep t ∧ (∀ e ∈ es.toList, GoodS P w e) ∧ (es.toList.map keyS).Perm ks ∧ ks.Nodup ∧
  es.size < scanBound ∧ t.fits es.size = true ∧ Ris t.place.toList ∧ (w.params.followText "set-order" = true ∨ t.led = true)
section
variable {P : Program} {w : World} {h h' : Heap} {a : Addr} {ks : List Str}
theorem SetS.at (R : SetS P w h a ks) (k : ∀ o, h.get? a = some o → h'.get? a = some o) : SetS P w h' a ks := let ⟨o, es, ep, t, ho, r⟩ := R; ⟨o, es, ep, t, k o ho, r⟩
theorem goodS_is {e : Int × Value} (g : GoodS P w e) (k : Str) : (PySem.strKind P w).is k e.2 = true ↔ keyS e = k := by
  obtain ⟨x, t, rfl⟩ := g
  unfold keyS
  show Value.isStrOf k (.str x t) = true ↔ x = k
  simp [Value.isStrOf]
theorem goodS_elems {l : List (Int × Value)} (g : ∀ e ∈ l, GoodS P w e) : ElemsOf (PySem.strKind P w) l := fun e he => by
  obtain ⟨x, t, rfl⟩ := g e he
  exact ⟨⟨x, strKind_is P w x t, rfl⟩, rfl⟩
theorem goodS_mem {l : List (Int × Value)} (g : ∀ e ∈ l, GoodS P w e) (k : Str) : k ∈ l.map keyS ↔ ∃ e ∈ l, (PySem.strKind P w).is k e.2 = true := by
  rw [List.mem_map]
  exact ⟨fun ⟨e, he, q⟩ => ⟨e, he, (goodS_is (g e he) k).mpr q⟩, fun ⟨e, he, q⟩ => ⟨e, he, (goodS_is (g e he) k).mp q⟩⟩
theorem setS_new (w : World) (P : Program) (h : Heap) : SetS P w (h.push { cls := .type "set", dict := none, data := .set #[] 0 (.fresh 0 0 (!w.params.followText "set-order")) }) h.objs.size [] := by
  refine ⟨_, #[], 0, _, Heap.get?_push_size _ rfl, ⟨rfl, rfl, rfl⟩, rfl, fun e he => absurd he (by simp), .nil, List.nodup_nil, by decide, rfl, List.Pairwise.nil, ?_⟩
  cases c : w.params.followText "set-order" with
  | true => exact .inl rfl
  | false => exact .inr rfl
end
section
variable {P : Program} {w : World} {A : Around} {E : Value → Shared → Prop} {s : Shared} {a : Addr} {ks : List Str}
/-- sorted of it -/
theorem setS_sorted {Q : Value → Shared → Prop} (R : SetS P w s.heap a ks) (hh : A.handled = none)
    (hQ : ∀ s' p (out : Array Value) (c : Nat) (ys : List Str), (∀ b o, s.heap.get? b = some o → s'.heap.get? b = some o) → s'.gens = s.gens → s'.os = s.os → s.heap.objs.size ≤ p → s'.heap.get? p = some (seqObj "list" out c) → StrsAre out.toList ys → ys.Perm ks → sortedS ys = true → Q (.ref p) s') :
    wpAny (model P w) A (call (.builtin "sorted") [.ref a]) Q E s := by
  obtain ⟨o, es, ep, t, ho, hex, hd, g, pm0, nd, hb, hf, hr, hl⟩ := R
  refine Calls.call_function_entry kind_sorted plain_sorted entry_sorted (args_sorted1 _) ?_
  unfold Builtin.«sorted»
  refine wpAny_bind (m := checkCount "sorted" 1 1 _) (wpAny_pure ?_)
  refine wpAny_bind (collect_set (A := A.in1) hh ⟨o, ho, hex.1, hd⟩ hf hb hr hl fun s1 vs k1 hz g1 o1 pm => ?_)
  have vl : vs.length < scanBound := by rw [pm.length_eq, List.length_map, Array.length_toList]; exact hb
  have texts : ∀ l : List Value, (∀ v ∈ l, ∃ x tk, v = Value.str x tk) → StrsAre l (l.map fun v => keyS (0, v)) := by
    intro l
    induction l with
    | nil => intro _; exact .nil
    | cons v l ih =>
      intro h
      obtain ⟨x, tk, rfl⟩ := h v (List.mem_cons.mpr (.inl rfl))
      exact .cons x tk (ih fun u hu => h u (List.mem_cons.mpr (.inr hu)))
  have hS := texts vs fun v hv => by
    obtain ⟨e, he, q⟩ := List.mem_map.mp (pm.mem_iff.mp hv)
    obtain ⟨x, tk, rfl⟩ := g e he
    exact ⟨x, tk, q.symm⟩
  have pk : (vs.map fun v => keyS (0, v)).Perm ks := by
    refine (pm.map fun v => keyS (0, v)).trans ?_
    rw [List.map_map]
    exact pm0
  have zl : vs.length ≤ sizeLine := fits_of_scanBound vl
  refine wpAny_bind (wpAny_newList ?_ zl)
  have hoL : (s1.heap.push (seqObj "list" vs.toArray 0)).get? s1.heap.objs.size = some (seqObj "list" vs.toArray 0) := Heap.get?_push_size _ rfl
  refine wpAny_bind (wpAny_holding (wpAny_call_entry slot_list_sort ⟨_, hoL, rfl⟩ entry_list_sort (list_sort_treeKAny strKind_oneLt hoL hS.keysOf (fun v₁ v₂ rest e => keyKind_strs (by rw [← e]; exact hS)) zl fun st' hp hs => ⟨_, rfl, ?_⟩) (args_list_sort _)))
  obtain ⟨ys, h1, h2, h3⟩ := sorted_out_str hS hp hs
  obtain ⟨c, hc⟩ := sortedHeap_at (vs := vs) (out := (arrOf st').map (·.2)) hoL
  refine wpAny_pure ⟨_, rfl, hQ _ s1.heap.objs.size _ c ys (fun b u e => ?_) g1 o1 hz hc h1 (h2.trans pk) h3⟩
  have q := k1 b u e
  have hlt := Heap.lt_size q
  show (sortedHeap (s1.heap.push (seqObj "list" vs.toArray 0)) s1.heap.objs.size vs _).get? b = some u
  rw [sortedHeap_old (Nat.ne_of_lt hlt) (by rw [size_push']; exact Nat.lt_succ_of_lt hlt)]
  exact Heap.get?_push_of_some _ q
end
end L2

set_option Elab.async false
set_option linter.all false
set_option maxRecDepth 100000
set_option maxHeartbeats 2000000
/-! A set of texts: one more. -/
namespace L2
open PySem PySem.Spec PyProof.Rows
section
variable {P : Program} {w : World} {A : Around} {E : Value → Shared → Prop} {s : Shared} {a : Addr} {ks : List Str}
/-- the entries laid down, and once more where the table is too full -/
theorem setS_tail {g : Bool → Sem Unit} (hg : ∀ (b : Bool) (s₁ : Shared) (Q' : Unit → Shared → Prop), Q' () s₁ → wpAny (model P w) A (g b) Q' E s₁) {o : Obj} {es es1 : Array (Int × Value)} {ep : Nat} {t t2 : SetTable} {ks1 : List Str}
    (ho : s.heap.get? a = some o) (hex : o.ExactSet) (hd : o.data = .set es ep t) (g1 : ∀ e ∈ es1.toList, GoodS P w e) (p1 : (es1.toList.map keyS).Perm ks1) (n1 : ks1.Nodup) (hb : es1.size < scanBound) (hf : t2.fits es1.size = true) (hr : Ris t2.place.toList)
    (hl : w.params.followText "set-order" = true ∨ t2.led = true) {wasDummy : Bool} {R : Option Bool → Shared → Prop} (hR : ∀ h', Heap.SameBut a s.heap h' → SetS P w h' a ks1 → R (some true) { s with heap := h' }) :
    wpAny (model P w) A (do
        storeSet a es1 t2
        if (!wasDummy && t2.tooFull) = true then do
            g (relayAll t2 es1 (SetTable.grown es1.size)).2.2
            storeSet a (relayAll t2 es1 (SetTable.grown es1.size)).1 (relayAll t2 es1 (SetTable.grown es1.size)).2.1
            pure (some true)
          else pure (some true)) R E s := by
  have at_ : ∀ {h : Heap} {o : Obj} {es es' : Array (Int × Value)} {ep : Nat} {t t' : SetTable}, h.get? a = some o → o.data = .set es ep t → (h.update a (Obj.putSet es' t')).get? a = some { o with data := .set es' (ep + 1) t' } := by
    intro h o es es' ep t t' ho hd
    have q := Heap.get?_update_self (Obj.putSet es' t') ho (by rw [putSet_of es' t' hd]; rfl)
    rwa [putSet_of es' t' hd] at q
  refine wpAny_bind (wpAny_storeSet_of ho hd ?_ (fits_of_scanBound hb))
  have h1 := at_ (es' := es1) (t' := t2) ho hd
  have b1 := Heap.SameBut.update s.heap a (Obj.putSet es1 t2)
  split
  · have pm := relayAll_perm t2 es1 (SetTable.grown es1.size)
    have z1 := relayAll_fits t2 es1 (SetTable.grown es1.size)
    have z2 := relayAll_ris t2 es1 (SetTable.grown es1.size)
    have z3 := relayAll_led t2 es1 (SetTable.grown es1.size)
    generalize relayAll t2 es1 (SetTable.grown es1.size) = Z at pm z1 z2 z3 ⊢
    obtain ⟨es2, t3, gave⟩ := Z
    dsimp only at pm z1 z2 z3 ⊢
    have es : es2.size = es1.size := by rw [← Array.length_toList, pm.length_eq, Array.length_toList]
    refine wpAny_bind (hg _ _ _ (wpAny_bind (wpAny_storeSet_of h1 rfl (wpAny_pure (hR _ (b1.trans (Heap.SameBut.update _ a _)) ?_)) (fits_of_scanBound (by rw [es]; exact hb)))))
    exact ⟨_, es2, _, t3, at_ h1 rfl, hex, rfl, fun e he => g1 e (pm.mem_iff.mp he), (pm.map keyS).trans p1, n1, by rw [es]; exact hb, z1, z2, hl.imp id fun z => by rw [z3]; exact z⟩
  · exact wpAny_pure (hR _ b1 ⟨_, es1, _, t2, h1, hex, rfl, g1, p1, n1, hb, hf, hr, hl⟩)
theorem setS_hashed {x : Str} {tk : Tok} {Q : Bool → Shared → Prop} (R : SetS P w s.heap a ks) (room : ks.length + 1 < scanBound)
    (hQ : ∀ b h', Heap.SameBut a s.heap h' → SetS P w h' a (if x ∈ ks then ks else x :: ks) → Q b { s with heap := h' }) : wpAny (model P w) A (setAddHashed a (.str x tk) ((PySem.strKind P w).hash x)) Q E s := by
  obtain ⟨o, es, ep, t, ho, hex, hd, g, pm0, nd, hb, hf, hr, hl⟩ := R
  have hkey : (PySem.strKind P w).is x (.str x tk) = true := strKind_is P w x tk
  have hsc : (Value.str x tk).scannable = true := rfl
  have hel := goodS_elems g
  unfold setAddHashed setAddHashedIn
  refine wpAny_holding (wpAny_bind (wpAny_setState_of ho hd hf ?_))
  dsimp only
  rw [byScan_of hsc hb hel]
  simp only [↓reduceIte]
  unfold setAddByScan
  refine wpAny_bind ?_
  refine wpAny_bind (wpAny_rule ?_)
  refine wpAny_bind (wpAny_setScan_of hkey ho hd hf hel ?_)
  cases hfi : List.findIdx? (fun e => (PySem.strKind P w).is x e.2) es.toList with
  | some j =>
    dsimp only
    obtain ⟨hj, pj, _⟩ := List.findIdx?_eq_some_iff_getElem.mp hfi
    have hin : x ∈ ks := pm0.mem_iff.mp ((goodS_mem g x).mpr ⟨es.toList[j], List.getElem_mem hj, pj⟩)
    refine wpAny_pure (wpAny_pure (hQ _ s.heap (Heap.SameBut.refl a s.heap) ?_))
    rw [if_pos hin]
    exact ⟨o, es, ep, t, ho, hex, hd, g, pm0, nd, hb, hf, hr, hl⟩
  | none =>
    dsimp only
    have hnot : x ∉ ks := fun z => by
      obtain ⟨e, he, q⟩ := (goodS_mem g x).mp (pm0.mem_iff.mpr z)
      have c := List.findIdx?_eq_none_iff.mp hfi e he
      rw [q] at c
      cases c
    rw [if_neg hnot] at hQ
    have gw : ∀ (b : Bool) {s₁ : Shared} {Q' : Unit → Shared → Prop}, Q' () s₁ → wpAny (model P w) A (match b with | true => rule "set.scan.the-table-gave-way" | false => pure ()) Q' E s₁ :=
      fun b s₁ Q' q => by cases b <;> first | exact wpAny_pure q | exact wpAny_rule q
    have pm := layNew_perm t es ((PySem.strKind P w).hash x) (.str x tk)
    have y1 := layNew_fits t es ((PySem.strKind P w).hash x) (.str x tk)
    have y2 := layNew_ris t es ((PySem.strKind P w).hash x) (.str x tk) hr
    have y3 := layNew_led t es ((PySem.strKind P w).hash x) (.str x tk)
    generalize layNew t es ((PySem.strKind P w).hash x) (.str x tk) = Z at pm y1 y2 y3 ⊢
    obtain ⟨es1, t1, wasDummy, gave⟩ := Z
    dsimp only at pm y1 y2 y3 ⊢
    rw [Array.toList_push] at pm
    have pc : es1.toList.Perm (((PySem.strKind P w).hash x, Value.str x tk) :: es.toList) := pm.trans (List.perm_append_singleton _ _)
    have g1 : ∀ e ∈ es1.toList, GoodS P w e := fun e he => by
      rcases List.mem_cons.mp (pc.mem_iff.mp he) with z | z
      · exact ⟨x, tk, z⟩
      · exact g e z
    have p1 : (es1.toList.map keyS).Perm (x :: ks) := (pc.map keyS).trans (List.Perm.cons x pm0)
    have n1 : (x :: ks).Nodup := List.nodup_cons.mpr ⟨hnot, nd⟩
    have size1 : es1.size = ks.length + 1 := by
      have := p1.length_eq
      rw [List.length_map, Array.length_toList, List.length_cons] at this
      exact this
    have b1 : es1.size < scanBound := by rw [size1]; exact room
    have l1 : w.params.followText "set-order" = true ∨ t1.led = true := hl.imp id fun z => by rw [y3]; exact z
    refine wpAny_bind (gw _ ?_)
    split
    · refine wpAny_bind ?_
      rw [hashByValue_scannable 8 hsc]
      refine wpAny_pure ?_
      refine setS_tail ?_ ho hex hd g1 p1 n1 b1 ?_ ?_ ?_ ?_
      · intro b s₁ Q' q; cases b <;> first | exact wpAny_pure q | exact wpAny_rule q
      · first | (split <;> first | exact y1 | exact SetTable.fits_plain_off y1) | exact y1
      · first | (split <;> exact y2) | exact y2
      · first | (split <;> exact l1) | exact l1
      · intro h' sb r; dsimp only; exact wpAny_pure (hQ _ h' sb r)
    · refine wpAny_bind (wpAny_pure ?_)
      simp only [↓reduceIte]
      refine setS_tail ?_ ho hex hd g1 p1 n1 b1 y1 y2 l1 ?_
      · intro b s₁ Q' q; cases b <;> first | exact wpAny_pure q | exact wpAny_rule q
      · intro h' sb r; dsimp only; exact wpAny_pure (hQ _ h' sb r)
theorem SetS.typeIs (R : SetS P w s.heap a ks) : s.TypeIs (.ref a) "set" := let ⟨o, _, _, _, ho, hex, _⟩ := R; ⟨o, ho, hex.1⟩
theorem setS_add {x : Str} {tk : Tok} {Q : Value → Shared → Prop} (R : SetS P w s.heap a ks) (room : ks.length + 1 < scanBound)
    (hQ : ∀ h' t, Heap.SameBut a s.heap h' → SetS P w h' a (if x ∈ ks then ks else x :: ks) → Q .none { s with heap := h', toks := t }) : wpAny (model P w) A (call (.builtin "set.add") [.ref a, .str x tk]) Q E s := by
  refine wpAny_call_entry F.slot_set_add R.typeIs F.entry_set_add ?_ (F.args_set_add_2 _ _)
  unfold Builtin.«set.add» Builtin.Frozenset.oneOther
  simp only [List.isEmpty_nil, bind_assoc]
  unfold Builtin.Frozenset.addrOf setAdd
  refine wpAny_bind (wpAny_pure ?_)
  try dsimp only
  refine wpAny_bind (wpAny_pure ?_)
  try dsimp only
  refine wpAny_bind ?_
  refine wpAny_holding ?_
  refine wpAny_bind ((PySem.strKind P w).pyHash (strKind_is P w x tk) ?_)
  refine setS_hashed (s := { s with toks := s.toks + 1 }) R room fun _ h' sb r => ?_
  show wpAny _ _ (ret Value.none) _ _ _
  exact wpAny_pure ⟨_, rfl, hQ h' _ sb r⟩
end
end L2

set_option Elab.async false
set_option linter.all false
set_option maxRecDepth 100000
set_option maxHeartbeats 2000000
/-! A set of texts made by a comprehension of two clauses without tests. -/
namespace L2
open PySem PySem.Spec PyProof.Rows
/-- the set of texts at a, as a thing that is followed -/
def SetSO (P : Program) (w : World) (a : Addr) (ks : List Str) : HO := .ext fun h => SetS P w h a ks
theorem setSO_new {P P' : Program} {w w' : World} {H : Hp} {h : Heap} {a : Addr} {ks : List Str} (R : SetS P w h a ks) : ObjOk P' w' H h a (SetSO P w a ks) := by
  have ⟨o, _, _, _, ho, _⟩ := R
  exact ⟨R, ⟨o, ho⟩, fun h1 h2 p k => SetS.at p k⟩
/-- one text more -/
def putS (ks : List Str) (x : Str) : List Str := if x ∈ ks then ks else x :: ks
section
variable {X : Cx}
theorem setSO_get {pins : List (Addr × Obj)} {σ : L2.St} {H : Hp} {s : Shared} {P : Program} {w : World} {a : Addr} {ks : List Str} (I : Inv X pins σ H s) (ha : H a = some (SetSO P w a ks)) : SetS P w s.heap a ks := (I.hok a _ ha).1
theorem addS_ok {pins : List (Addr × Obj)} {σ : L2.St} {H : Hp} {s : Shared} {E : Value → Shared → Prop} {D : Addr} {ks : List Str} {x : Str} {tk : Tok} {Q : Value → Shared → Prop} (I : Inv X pins σ H s) (hD : H D = some (SetSO X.prog X.w D ks)) (room : ks.length + 1 < scanBound)
    (h : ∀ s', Inv X pins σ (upd H D (SetSO X.prog X.w D (putS ks x))) s' → Q .none s') : wpAny (model X.prog X.w) X.A (call (.builtin "set.add") [.ref D, .str x tk]) Q E s := by
  refine setS_add (setSO_get I hD) room fun h' t sb new => ?_
  obtain ⟨o, _, _, _, ho, _⟩ := id new
  exact h _ (I.write (e := D) (t' := t) (by rw [hD]; trivial) (.inl rfl) (fun b u hb hu => (sb.2 b hb).trans hu) ⟨o, ho⟩ (setSO_new new))
end
section
variable {prog : Program} {w : World} {A : Around} {R : Result → Shared → Prop} {s : Shared} {elt t0 i0 t1 i1 : Expr} {scope : Scope} {pos : Pos} {it acc : Value} {env : Env}
/-- the comprehension that is spoken of -/
abbrev sc2 (elt t0 i0 t1 i1 : Expr) (scope : Scope) (pos : Pos) : Expr := .SetComp elt [⟨t0, i0, [], 0⟩, ⟨t1, i1, [], 0⟩] scope pos
theorem eval_sc2 : eval (sc2 elt t0 i0 t1 i1 scope pos) env = comprehension (sc2 elt t0 i0 t1 i1 scope pos) scope env (firstIterPos [⟨t0, i0, [], 0⟩, ⟨t1, i1, [], 0⟩] pos) (newSet (.type "set")) false (eval i0 env) := rfl
theorem sc2_turn0 : compTurn (sc2 elt t0 i0 t1 i1 scope pos) 0 it acc env = (do
      standAt i0.pos
      match ← pyNext it with
      | none => pure (.done .next)
      | some v =>
        letOwnedTupleGo t0 it v
        assign t0 env v
        let src ← eval i1 env
        standAt i1.pos
        let src ← foldedSetIterable i1 env src
        let _ ← runOwn (.compStart (sc2 elt t0 i0 t1 i1 scope pos) 1 (← holding [src] (pyIter src)) acc env) env
        again (.compLoop (sc2 elt t0 i0 t1 i1 scope pos) 0 it acc env)) := by rfl
theorem sc2_turn1 : compTurn (sc2 elt t0 i0 t1 i1 scope pos) 1 it acc env = (do
      standAt i1.pos
      match ← pyNext it with
      | none => pure (.done .next)
      | some v =>
        letOwnedTupleGo t1 it v
        assign t1 env v
        (do let u ← eval elt env; standAt elt.pos; let _ ← call (.builtin "set.add") [acc, u])
        again (.compLoop (sc2 elt t0 i0 t1 i1 scope pos) 1 it acc env)) := by rfl
end
end L2
namespace L2
open PySem PySem.Spec PyProof.Rows
section
variable {prog : Program} {w : World} {A : Around} {R : Result → Shared → Prop} {s : Shared} {elt t0 i0 t1 i1 : Expr} {scope : Scope} {pos : Pos} {it acc : Value} {env : Env}
/-- nothing is raised -/
abbrev NoE : Value → Shared → Prop := fun _ _ => False
/-- the outer loop, J by what is left to do -/
theorem sc2_loop0 (hs : ∀ x, foldedSetIterable i1 env x = pure x) (J : Nat → Shared → Prop)
    (turn : ∀ n s, J n s → wpAny (model prog w) A (pyNext it) (fun r s1 => match r with
      | none => R (.ok .next) s1
      | some v => wpAny (model prog w) A (letOwnedTupleGo t0 it v) (fun _ s2 => wpAny (model prog w) A (assign t0 env v) (fun _ s3 => wpAny (model prog w) A (eval i1 env) (fun x s4 => wpAny (model prog w) A (pyIter x) (fun it1 s5 =>
          codeAny (model prog w) A (.compStart (sc2 elt t0 i0 t1 i1 scope pos) 1 it1 acc env) (fun r s' => match r with
            | .ok _ => ∃ m, m < n ∧ J m s'
            | .error _ => False) s5) NoE s4) NoE s3) NoE s2) NoE s1) NoE s) (n : Nat) (h : J n s) : codeAny (model prog w) A (.compLoop (sc2 elt t0 i0 t1 i1 scope pos) 0 it acc env) R s := by
  refine codeAny_loop rfl J (fun n s hJ => ?_) n h
  show wpAny _ A ((compTurn (sc2 elt t0 i0 t1 i1 scope pos) 0 it acc env).onRaise (fun x => do noteFrame x env; theTreesLotGoes x)) _ _ s
  refine wpAny_noted ?_
  rw [sc2_turn0]
  refine wpAny_bind (wpAny_standAt (wpAny_bind (thnF (turn n s hJ) fun r s1 h1 => ?_)))
  cases r with
  | none => exact wpAny_pure h1
  | some v =>
    refine wpAny_bind (thnF h1 fun _ s2 h2 => wpAny_bind (thnF h2 fun _ s3 h3 => wpAny_bind (thnF h3 fun x s4 h4 => wpAny_bind (wpAny_standAt (wpAny_bind (wpAny_of_eq (hs x) (wpAny_bind (wpAny_holding (thnF h4 fun it1 s5 h5 => ?_)))))))))
    refine wpAny_bind (wpAny_runOwn ?_)
    rw [Around.mark_none]
    refine codeAny_mono h5 fun r s' hr => ?_
    cases r with
    | ok f => first | exact wpAny_pure ⟨rfl, hr⟩ | exact wpAny_bind (wpAny_pure (wpAny_pure ⟨rfl, hr⟩))
    | error e => exact hr.elim
/-- the inner loop -/
theorem sc2_loop1 (J : Nat → Shared → Prop)
    (turn : ∀ n s, J n s → wpAny (model prog w) A (pyNext it) (fun r s1 => match r with
      | none => R (.ok .next) s1
      | some v => wpAny (model prog w) A (letOwnedTupleGo t1 it v) (fun _ s2 => wpAny (model prog w) A (assign t1 env v) (fun _ s3 => wpAny (model prog w) A (eval elt env) (fun x s4 =>
          wpAny (model prog w) A (call (.builtin "set.add") [acc, x]) (fun _ s5 => ∃ m, m < n ∧ J m s5) NoE s4) NoE s3) NoE s2) NoE s1) NoE s) (n : Nat) (h : J n s) :
    codeAny (model prog w) A (.compLoop (sc2 elt t0 i0 t1 i1 scope pos) 1 it acc env) R s := by
  refine codeAny_loop rfl J (fun n s hJ => ?_) n h
  show wpAny _ A ((compTurn (sc2 elt t0 i0 t1 i1 scope pos) 1 it acc env).onRaise (fun x => do noteFrame x env; theTreesLotGoes x)) _ _ s
  refine wpAny_noted ?_
  rw [sc2_turn1]
  refine wpAny_bind (wpAny_standAt (wpAny_bind (thnF (turn n s hJ) fun r s1 h1 => ?_)))
  cases r with
  | none => exact wpAny_pure h1
  | some v =>
    refine wpAny_bind (thnF h1 fun _ s2 h2 => wpAny_bind (thnF h2 fun _ s3 h3 => ?_))
    exact wpAny_bind (wpAny_bind (thnF h3 fun x s4 h4 => wpAny_bind (wpAny_standAt (wpAny_bind (thnF h4 fun _ s5 h5 => wpAny_pure (wpAny_pure ⟨rfl, h5⟩))))))
/-- the inner loop's start -/
theorem sc2_start1 (h0 : codeAny (model prog w) A (.compLoop (sc2 elt t0 i0 t1 i1 scope pos) 1 it acc env) R s)
    (h : wpAny (model prog w) A (pyIter it) (fun it' s' => codeAny (model prog w) A (.compLoop (sc2 elt t0 i0 t1 i1 scope pos) 1 it' acc env) R s')
      (notedBy (model prog w) A env fun x s' => R (.error x) s') s) : codeAny (model prog w) A (.compStart (sc2 elt t0 i0 t1 i1 scope pos) 1 it acc env) R s := by
  refine codeAny_of_tree ?_
  show wpAny _ _ ((compStart (sc2 elt t0 i0 t1 i1 scope pos) 1 it acc env).onRaise (fun x => do noteFrame x env; standAt theWindowsPlace)) _ _ s
  refine wpAny_notedAt ?_
  unfold compStart
  show wpAny _ _ (ask >>= _) _ _ s
  refine wpAny_bind (wpAny_askSetting (wpAny_ite ?_))
  split
  · first
      | exact wpAny_bind (wpAny_pure (wpAny_pure (And.intro rfl h0)))
      | exact wpAny_pure (And.intro rfl h0)
  · first
      | exact wpAny_bind (wpAny_rule (wpAny_bind (wpAny_standAt (wpAny_bind (wpAny_mono h (fun it' s' h' => wpAny_pure (And.intro rfl h')) fun _ _ x => x)))))
      | (refine wpAny_bind (wpAny_rule ?_); show wpAny _ _ (standAt i1.pos >>= _) _ _ s; exact wpAny_bind (wpAny_standAt (wpAny_bind (wpAny_mono h (fun it' s' h' => wpAny_pure (And.intro rfl h')) fun _ _ x => x))))
end
section
variable {X : Cx}
/-- {elt for tg in iter for tg1 in iter1}: as tLc2 without tests, D the set -/
def tSc2 (P : Program) (w : World) (wi : TI) (g : TG) (wi1 : TI) (g1 : TG) (te : TE) (vs vs1 : List Nat) : TE := fun σ H Q => wi σ H fun J H1 => ∀ D, H1 D = none → ∃ W : Nat → Nat → Hp → Prop, (∃ m, W 0 m (upd H1 D (SetSO P w D []))) ∧ ∀ i m H, W i m H →
  (J.stop i H ∧ Q (.ref D) H) ∨ (J.go i H ∧ ∃ Nx : Hp → Prop, (∀ H', Nx H' → ∃ m', m' < m ∧ W (i + 1) m' H') ∧ ∀ x H', J.yld i H x H' → g x (wipe σ vs) H' fun σ2 H2 => wipe σ2 vs = wipe σ vs ∧
    wi1 σ2 H2 fun J1 H4 => ∃ W1 : Nat → Nat → Hp → Prop, (∃ m, W1 0 m H4) ∧ ∀ j k H, W1 j k H →
      (J1.stop j H ∧ Nx H) ∨ (J1.go j H ∧ ∃ Nx1 : Hp → Prop, (∀ H', Nx1 H' → ∃ k', k' < k ∧ W1 (j + 1) k' H') ∧ ∀ x H', J1.yld j H x H' → g1 x (wipe σ2 vs1) H' fun σ3 H5 => wipe σ3 vs1 = wipe σ2 vs1 ∧
        te σ3 H5 fun y H7 => ∃ z ks, y = .str z ∧ H7 D = some (SetSO P w D ks) ∧ ks.length + 1 < scanBound ∧ Nx1 (upd H7 D (SetSO P w D (putS ks z)))))
/-- what a block's part is, wherever the block starts -/
abbrev InBlk (X : Cx) (scope : Scope) (p : Cx → Prop) : Prop := ∀ (s : Shared) (H : Hp) (C : Addr) (cl : List (Str × Addr)) (fp : List Addr), p (X.blk s H scope (compEnvC scope cl C X.env) fp)
theorem pe_sc2 {elt tg iter tg1 iter1 : Expr} {scope : Scope} {own : List (Str × Nat)} {vs1 : List Nat} {pos : Pos} {wi wi1 : TI} {g g1 : TG} {te : TE} (hc : X.calm = true) (hN : X.N.Nodup) (hi : PI X tg iter wi) (ok : BlkOk X.N X.env.scope scope own) (hv : ∀ i ∈ vs1, i ∈ own.map (·.2))
    (hg : InBlk X scope fun Y => PG Y tg g) (hi1 : InBlk X scope fun Y => PI Y tg1 iter1 wi1) (hg1 : InBlk X scope fun Y => PG Y tg1 g1) (he : InBlk X scope fun Y => PE Y elt te)
    (hs : ∀ x, foldedSetIterable iter X.env x = pure x := by intro _; rfl) (hs1 : ∀ env x, foldedSetIterable iter1 env x = pure x := by intro _ _; rfl) :
    PE X (sc2 elt tg iter tg1 iter1 scope pos) (tSc2 X.prog X.w wi g wi1 g1 te (own.map (·.2)) vs1) := by
  refine ⟨fun pins s σ H Q I h => ?_⟩
  rw [eval_sc2]
  have caught : ∀ y ∈ scope.names, y.2 = .free → ∃ c, X.env.cells.lookup y.1 = some c := fun y hy e => by
    rcases ok.free y hy e with k | k
    · exact I.ok.has _ (.inl k)
    · exact I.ok.has _ (.inr k)
  refine wpAny_comprehension_free (use := none) rfl hs (closure_ok caught) ok.kind (fun y hy e => by rw [ok.uniq y hy, e]) (thn (hi.run pins s σ H _ I h) fun xv s1 hx => thn hx fun itv s2 h2 => ?_)
  obtain ⟨it, fp, tn, J, H2, rfl, I2, T, st2, f2, q⟩ := h2
  refine PpSet.newSet_ok (newEnv_comp ?_)
  generalize hD : s2.heap.objs.size = D
  obtain ⟨W, ⟨m0, w0⟩, turn⟩ := q D (I2.hok.fresh (Nat.le_of_eq hD))
  have fb : ∀ b ∈ fp, b < s2.heap.objs.size := fun b hb => let ⟨o, e, _⟩ := T.obj _ _ st2 b hb; Heap.lt_size e
  -- the set, laid
  have nw := setS_new X.w X.prog s2.heap
  generalize hnew : s2.heap.push { cls := .type "set", dict := none, data := .set #[] 0 (.fresh 0 0 (!X.w.params.followText "set-order")) } = h3 at nw
  have keep3 : ∀ b o, s2.heap.get? b = some o → h3.get? b = some o := fun b o e => by rw [← hnew]; exact Heap.get?_push_of_some _ e
  have size3 : h3.objs.size = s2.heap.objs.size + 1 := by rw [← hnew, Heap.size_push]
  rw [hD] at nw
  have I3 : Inv X pins σ (upd H2 D (SetSO X.prog X.w D [])) { s2 with heap := h3 } := I2.laid (t' := s2.toks) keep3 (Nat.le_of_eq hD) (setSO_new nw)
  have f3 : ∀ b ∈ fp, FpOk X pins (upd H2 D (SetSO X.prog X.w D [])) b ∧ b < h3.objs.size := fun b hb => by
    refine ⟨⟨?_, (f2 b hb).2⟩, by rw [size3]; exact Nat.lt_succ_of_lt (fb b hb)⟩
    rw [upd_ne (by rw [← hD]; exact Nat.ne_of_lt (fb b hb))]
    exact (f2 b hb).1
  have st3 : tn 0 h3 := T.keep _ _ _ st2 fun b _ o e => keep3 b o e
  generalize hs3 : ({ s2 with heap := h3 } : Shared) = s3 at I3
  have eh : s3.heap = h3 := by rw [← hs3]
  rw [← eh] at st3 f3 size3
  have I4 := block_start I3 ok hN f3
  generalize hH3 : upd H2 D (SetSO X.prog X.w D []) = H3 at I3 I4 w0 f3
  show codeAny _ _ (.compStart (sc2 elt tg iter tg1 iter1 scope pos) 0 (.ref it) (.ref D) (compEnvC scope (cellsFrom (s3.heap.objs.size + 1) scope.names (cloFrom X.env.cells scope.names [])) s3.heap.objs.size X.env))
    (compPost (model X.prog X.w) X.A X.xe none (EP X pins σ Q) (.ref D) s3.heap.objs.size) { s3 with heap := pushCells (s3.heap.push { cls := .type "dict", data := .dict #[] }) scope.names }
  have pg := hg s3 H3 s3.heap.objs.size (cellsFrom (s3.heap.objs.size + 1) scope.names (cloFrom X.env.cells scope.names [])) fp
  have pi1 := hi1 s3 H3 s3.heap.objs.size (cellsFrom (s3.heap.objs.size + 1) scope.names (cloFrom X.env.cells scope.names [])) fp
  have pg1 := hg1 s3 H3 s3.heap.objs.size (cellsFrom (s3.heap.objs.size + 1) scope.names (cloFrom X.env.cells scope.names [])) fp
  have pe := he s3 H3 s3.heap.objs.size (cellsFrom (s3.heap.objs.size + 1) scope.names (cloFrom X.env.cells scope.names [])) fp
  generalize hce : compEnvC scope (cellsFrom (s3.heap.objs.size + 1) scope.names (cloFrom X.env.cells scope.names [])) s3.heap.objs.size X.env = ce at I4 pg pi1 pg1 pe ⊢
  have cL : ce.locals = s3.heap.objs.size := by rw [← hce]; rfl
  generalize hs4 : ({ s3 with heap := pushCells (s3.heap.push { cls := .type "dict", data := .dict #[] }) scope.names } : Shared) = s4 at I4 ⊢
  have st4 : tn 0 s4.heap := by
    rw [← hs4]
    exact T.keep _ _ _ st3 fun b _ o e => pushCells_keeps _ _ _ _ (Heap.get?_push_of_some _ e)
  have pinned : ∀ {σ' : L2.St} {H' : Hp} {s' : Shared}, Inv (X.blk s3 H3 scope ce fp) [] σ' H' s' → (∀ b ∈ fp, H' b = none) → ∀ b ∈ fp, FpOk (X.blk s3 H3 scope ce fp) [] H' b := fun {σ' H' s'} I' hn b hb =>
    ⟨hn b hb, (I'.ok.exf b hb).1, I'.ok.exfs b hb, .inl hb, fun x c e => (I'.ok.exf b hb).2 x c e, fun p hp => absurd (show p ∈ ([] : List (Addr × Obj)) ++ [] from hp) (by simp)⟩
  have loop : codeAny (model X.prog X.w) X.A (.compLoop (sc2 elt tg iter tg1 iter1 scope pos) 0 (.ref it) (.ref D) ce) (compPost (model X.prog X.w) X.A X.xe none (EP X pins σ Q) (.ref D) s3.heap.objs.size) s4 := by
    refine sc2_loop0 (hs1 ce) (fun n s' => ∃ i H', Inv (X.blk s3 H3 scope ce fp) [] (wipe σ (own.map (·.2))) H' s' ∧ tn i s'.heap ∧ (∀ b ∈ fp, H' b = none) ∧ W i n H') ?_ m0 ⟨0, H3, I4, st4, fun b hb => (f3 b hb).1.1, w0⟩
    rintro n s5 ⟨i, H5, I5, st5, n5, w5⟩
    rcases turn i n H5 w5 with ⟨stop, qq⟩ | ⟨go, Nx, hNx, step⟩
    · refine thnF (T.done (X.blk s3 H3 scope ce fp) rfl rfl rfl hc i [] s5 _ H5 NoE I5 (pinned I5 n5) st5 stop) fun r s6 ⟨hr, I6⟩ => ?_
      subst hr
      have I7 : Inv X pins σ H5 s6 := I3.call' (ch := fp) I6.os I6.base I6.hok I6.bare fun b hb => ⟨(f3 b hb).1.2.2.2.1, (f3 b hb).1.2.1, (f3 b hb).1.2.2.2.2.1, (f3 b hb).1.2.2.2.2.2⟩
      have free5 : H5 ce.locals = none := I6.free
      obtain ⟨m, hn, _⟩ := I6.loc
      have hn : s6.heap.Ns ce.locals m := hn
      rw [cL] at hn free5
      obtain ⟨f0, f1, _, g3, f4, f5⟩ := I3.fpOk (Nat.le_refl _) free5
      exact ⟨m, hn, fun h'' sb => ⟨.ref D, H5, I7.turned (t' := s6.toks) (fun b o hb e => (sb.2 b hb).trans e) f0 f1 g3 f4 f5, rfl, qq⟩⟩
    · refine thnF (T.item (X.blk s3 H3 scope ce fp) rfl rfl rfl hc i [] s5 _ H5 NoE I5 (pinned I5 n5) st5 go) fun r s6 ⟨u, hr, h6⟩ => ?_
      subst hr
      refine thnF h6 fun _ s7 ⟨x, H7, I7, r7, y7, st7, n7⟩ => ?_
      have I7p := I7.pinned (pinned I7 n7) (T.obj _ _ st7)
      refine thnF (pg.run _ s7 _ H7 x u _ I7p r7 (step x H7 y7)) fun _ s8 ⟨σ8, H8, I8, hw8, q8⟩ => ?_
      refine thnF (pi1.run _ s8 σ8 H8 _ I8 q8) fun xv s9 hx => thnF hx fun itv s10 h10 => ?_
      obtain ⟨it1, fp1, tn1, J1, H11, rfl, I11, T1, st11, f11, W1, ⟨m1, w1⟩, turn1⟩ := h10
      have loop1 : codeAny (model X.prog X.w) X.A (.compLoop (sc2 elt tg iter tg1 iter1 scope pos) 1 (.ref it1) (.ref D) ce)
          (fun r s' => match r with
            | .ok _ => ∃ m, m < n ∧ ∃ i H', Inv (X.blk s3 H3 scope ce fp) [] (wipe σ (own.map (·.2))) H' s' ∧ tn i s'.heap ∧ (∀ b ∈ fp, H' b = none) ∧ W i m H'
            | .error _ => False) s10 := by
        refine sc2_loop1 (fun k s' => ∃ j H', Inv (X.blk s3 H3 scope ce fp) ([] ++ pinsAt fp s7.heap) (wipe σ8 vs1) H' s' ∧ tn1 j s'.heap ∧ (∀ b ∈ fp1, H' b = none) ∧ W1 j k H') ?_ m1 ⟨0, H11, I11.weak (wipe_length _ _) (fun j v e => (wipe_some e).1), st11, fun b hb => (f11 b hb).1, w1⟩
        rintro k s12 ⟨j, H12, I12, st12, n12, w12⟩
        rcases turn1 j k H12 w12 with ⟨stop1, nx1⟩ | ⟨go1, Nx1, hNx1, step1⟩
        · refine thnF (T1.done (X.blk s3 H3 scope ce fp) rfl rfl rfl hc j _ s12 _ H12 NoE I12 (fun b hb => ⟨n12 b hb, (f11 b hb).2⟩) st12 stop1) fun r s13 ⟨hr, I13⟩ => ?_
          subst hr
          obtain ⟨m', hm, w'⟩ := hNx H12 nx1
          have pin' : ∀ b ∈ fp, ∀ o, s7.heap.get? b = some o → s13.heap.get? b = some o ∧ H12 b = none := fun b hb o e =>
            let z := I13.pin (b, o) (List.mem_append_right _ (List.mem_append_right _ (mem_pinsAt hb e)))
            ⟨z.1, z.2.1⟩
          refine ⟨m', hm, i + 1, H12, (I13.unpinned (pins := [])).weak ?_ (fun j v e => ?_), T.keep _ _ _ st7 fun b hb o e => (pin' b hb o e).1, fun b hb => ?_, w'⟩
          · have z := congrArg List.length hw8
            rw [wipe_length, wipe_length] at z
            rw [wipe_length, wipe_length]
            exact z.symm
          · rw [← hw8] at e
            obtain ⟨e1, e2⟩ := wipe_some e
            rw [wipe_out fun z => e2 (hv j z)]
            exact e1
          · obtain ⟨o, e, _⟩ := T.obj _ _ st7 b hb
            exact (pin' b hb o e).2
        · refine thnF (T1.item (X.blk s3 H3 scope ce fp) rfl rfl rfl hc j _ s12 _ H12 NoE I12 (fun b hb => ⟨n12 b hb, (f11 b hb).2⟩) st12 go1) fun r s13 ⟨u1, hr, h13⟩ => ?_
          subst hr
          refine thnF h13 fun _ s14 ⟨x1, H14, I14, r14, y14, st14, n14⟩ => ?_
          have I14p := I14.pinned (fun b hb => ⟨n14 b hb, (f11 b hb).2⟩) (T1.obj _ _ st14)
          refine thnF (pg1.run _ s14 _ H14 x1 u1 _ I14p r14 (step1 x1 H14 y14)) fun _ s15 ⟨σ15, H15, I15, hw15, q15⟩ => ?_
          refine thnF (pe.run _ s15 σ15 H15 _ I15 q15) fun v s16 ⟨yv, H16, I16, r16, z, ks, ey, hD16, room, nx⟩ => ?_
          subst ey
          obtain ⟨tk, rfl⟩ : ∃ tk, v = Value.str z tk := r16
          refine addS_ok (X := X.blk s3 H3 scope ce fp) I16 hD16 room fun s17 I17 => ?_
          obtain ⟨m', hm, w'⟩ := hNx1 _ nx
          have pin' : ∀ b ∈ fp1, ∀ o, s14.heap.get? b = some o → s17.heap.get? b = some o ∧ (upd H16 D (SetSO X.prog X.w D (putS ks z))) b = none := fun b hb o e =>
            let z := I17.pin (b, o) (List.mem_append_right _ (List.mem_append_right _ (mem_pinsAt hb e)))
            ⟨z.1, z.2.1⟩
          refine ⟨m', hm, j + 1, _, I17.unpinned.weak (by rw [← hw15, wipe_length]) (fun j v e => by rw [← hw15] at e; exact (wipe_some e).1), T1.keep _ _ _ st14 fun b hb o e => (pin' b hb o e).1, fun b hb => ?_, w'⟩
          obtain ⟨o, e, _⟩ := T1.obj _ _ st14 b hb
          exact (pin' b hb o e).2
      exact sc2_start1 loop1 (T1.self X.A 0 _ _ _ st11 loop1)
  exact PpSet.codeAny_compStart_set loop (T.self X.A 0 _ _ _ st4 loop)
end
end L2

set_option Elab.async false
set_option linter.all false
set_option maxRecDepth 100000
set_option maxHeartbeats 2000000
/-! sorted of a set of texts; a set of texts from a form's terms -/
namespace L2
open PySem PySem.Spec PyProof.Rows
def rSortedSS (P : Program) (w : World) : List V → Hp → VK → Prop := fun vs H Q => ∃ (a : Addr) (ks : List Str), vs = [V.ref a] ∧ H a = some (SetSO P w a ks) ∧ ∀ ys : List Str, ys.Perm ks → ks.Nodup → sortedS ys = true → NewQ H (.lst (ys.map V.str)) Q
theorem cr_sortedSS {X : Cx} (hc : X.calm = true) : CallR X (.builtin "sorted") (rSortedSS X.prog X.w) := by
  intro pins s σ H vs us Q I r h
  obtain ⟨a, ks, rfl, ha, q⟩ := h
  have R := setSO_get I ha
  rw [Vals.ref1 r]
  refine setS_sorted R (I.ok.hd hc) fun s' p out c ys kp gn os pn ho ss pm so => ?_
  obtain ⟨_, es, _, _, _, _, _, _, pm0, nd, hb, _⟩ := R
  have lk : ks.length = es.size := by rw [← pm0.length_eq, List.length_map, Array.length_toList]
  have hlen : (ys.map V.str).length ≤ sizeLine := by
    rw [List.length_map, pm.length_eq, lk]
    exact fits_of_scanBound hb
  have I2 : Inv X pins σ (upd H p (.lst (ys.map V.str))) { s with heap := s'.heap, toks := s.toks } := I.laid (t' := s.toks) kp pn ⟨hlen, _, c, vals_of_strs ss, ho⟩
  have I3 : Inv X pins σ (upd H p (.lst (ys.map V.str))) s' := I2.call' (ch := []) os (Un.kept fun _ _ e => e) (I2.hok.kept fun _ _ e => e) (by rw [gn]; exact I2.bare) (fun _ z => nomatch z)
  exact ⟨.ref p, _, I3, rfl, (q ys pm nd so).at (I.hok.fresh pn)⟩
theorem mem_putS {ks : List Str} {x z : Str} : x ∈ putS ks z ↔ x ∈ ks ∨ x = z := by
  unfold putS
  split
  · rename_i h
    exact ⟨.inl, fun q => q.elim id fun e => e ▸ h⟩
  · rw [List.mem_cons]
    exact ⟨fun q => q.elim .inr .inl, fun q => q.elim .inr .inl⟩
theorem len_putS (ks : List Str) (z : Str) : (putS ks z).length ≤ ks.length + 1 := by
  unfold putS
  split
  · exact Nat.le_succ _
  · exact Nat.le_refl _
/-- these texts, laid one by one -/
def putAll (ks xs : List Str) : List Str := xs.foldl putS ks
theorem mem_putAll : ∀ {xs ks : List Str} {x : Str}, x ∈ putAll ks xs ↔ x ∈ ks ∨ x ∈ xs
  | [], ks, x => by simp [putAll]
  | z :: xs, ks, x => by
    show x ∈ putAll (putS ks z) xs ↔ _
    rw [mem_putAll, mem_putS, List.mem_cons, or_assoc]
theorem len_putAll : ∀ (xs ks : List Str), (putAll ks xs).length ≤ ks.length + xs.length
  | [], ks => Nat.le_refl _
  | z :: xs, ks => by
    have h1 := len_putAll xs (putS ks z)
    have h2 := len_putS ks z
    show (putAll (putS ks z) xs).length ≤ _
    rw [List.length_cons]
    omega
theorem putAllS_snoc (ks xs : List Str) (z : Str) : putS (putAll ks xs) z = putAll ks (xs ++ [z]) := by unfold putAll; rw [List.foldl_append]; rfl
theorem putAll_app (ks xs zs : List Str) : putAll (putAll ks xs) zs = putAll ks (xs ++ zs) := by unfold putAll; rw [List.foldl_append]
/-- all letters of the terms, one behind the other -/
def lets (fm : Fm) : List Str := fm.flatMap (·.1)
theorem len_lets (fm : Fm) : (lets fm).length = (fm.map fun x => x.1.length).sum := by unfold lets; rw [List.length_flatMap]
theorem lets_take {fm : Fm} {i : Nat} {x : Mon × Rat} (h : fm[i]? = some x) : lets (fm.take (i + 1)) = lets (fm.take i) ++ x.1 := by
  unfold lets
  rw [take_snoc h, List.flatMap_append, List.flatMap_cons, List.flatMap_nil, List.append_nil]
theorem len_take_lets (fm : Fm) (i : Nat) : (lets (fm.take i)).length ≤ (lets fm).length := by
  have h : lets fm = lets (fm.take i) ++ lets (fm.drop i) := by unfold lets; rw [← List.flatMap_append, List.take_append_drop]
  rw [h, List.length_append]
  exact Nat.le_add_right _ _
section
variable {P : Program} {w : World} {J J1 : It} {n : Nat} {G : Hp → Prop} {Y : Nat → Hp → V → Hp → Prop} {wi1 : TI} {g g1 : TG} {te : TE} {vs vs1 : List Nat} {σ : L2.St} {D : Addr} {H0 : Hp}
/-- the outer walk of such a comprehension -/
theorem sc2_it {Qd : Hp → Prop} (wk : Walk J n G Y) (Pv : Nat → Hp → Prop) (h0 : Pv 0 H0) (hG : ∀ i H, i ≤ n → Pv i H → G H)
    (hs : ∀ i x H H', i < n → Pv i H → Y i H x H' → g x (wipe σ vs) H' fun σ2 H2 => wipe σ2 vs = wipe σ vs ∧
      wi1 σ2 H2 fun J1 H4 => ∃ W1 : Nat → Nat → Hp → Prop, (∃ m, W1 0 m H4) ∧ ∀ j k H, W1 j k H →
        (J1.stop j H ∧ Pv (i + 1) H) ∨ (J1.go j H ∧ ∃ Nx1 : Hp → Prop, (∀ H', Nx1 H' → ∃ k', k' < k ∧ W1 (j + 1) k' H') ∧ ∀ x H', J1.yld j H x H' → g1 x (wipe σ2 vs1) H' fun σ3 H5 => wipe σ3 vs1 = wipe σ2 vs1 ∧
          te σ3 H5 fun y H7 => ∃ z ks, y = .str z ∧ H7 D = some (SetSO P w D ks) ∧ ks.length + 1 < scanBound ∧ Nx1 (upd H7 D (SetSO P w D (putS ks z)))))
    (hd : ∀ H, Pv n H → Qd H) :
    ∃ W : Nat → Nat → Hp → Prop, (∃ m, W 0 m H0) ∧ ∀ i m H, W i m H →
      (J.stop i H ∧ Qd H) ∨ (J.go i H ∧ ∃ Nx : Hp → Prop, (∀ H', Nx H' → ∃ m', m' < m ∧ W (i + 1) m' H') ∧ ∀ x H', J.yld i H x H' → g x (wipe σ vs) H' fun σ2 H2 => wipe σ2 vs = wipe σ vs ∧
        wi1 σ2 H2 fun J1 H4 => ∃ W1 : Nat → Nat → Hp → Prop, (∃ m, W1 0 m H4) ∧ ∀ j k H, W1 j k H →
          (J1.stop j H ∧ Nx H) ∨ (J1.go j H ∧ ∃ Nx1 : Hp → Prop, (∀ H', Nx1 H' → ∃ k', k' < k ∧ W1 (j + 1) k' H') ∧ ∀ x H', J1.yld j H x H' → g1 x (wipe σ2 vs1) H' fun σ3 H5 => wipe σ3 vs1 = wipe σ2 vs1 ∧
            te σ3 H5 fun y H7 => ∃ z ks, y = .str z ∧ H7 D = some (SetSO P w D ks) ∧ ks.length + 1 < scanBound ∧ Nx1 (upd H7 D (SetSO P w D (putS ks z))))) := by
  refine ⟨fun i m H => m = n - i ∧ i ≤ n ∧ Pv i H, ⟨n, by simp, Nat.zero_le _, h0⟩, ?_⟩
  rintro i m H ⟨rfl, hi, p⟩
  have q := hG i H hi p
  by_cases hlt : i < n
  · exact .inr ⟨wk.goes i H hlt q, Pv (i + 1), fun H' p' => ⟨n - (i + 1), by omega, rfl, hlt, p'⟩, fun x H' y => hs i x H H' hlt p (wk.yields i H x H' hlt q y)⟩
  · obtain rfl : i = n := by omega
    exact .inl ⟨wk.stops H q, hd H p⟩
/-- the inner one -/
theorem sc2_in {Nx : Hp → Prop} (wk : Walk J1 n G Y) (Pv : Nat → Hp → Prop) (h0 : Pv 0 H0) (hG : ∀ i H, i ≤ n → Pv i H → G H)
    (hs : ∀ j x H H', j < n → Pv j H → Y j H x H' → g1 x (wipe σ vs1) H' fun σ3 H5 => wipe σ3 vs1 = wipe σ vs1 ∧
      te σ3 H5 fun y H7 => ∃ z ks, y = .str z ∧ H7 D = some (SetSO P w D ks) ∧ ks.length + 1 < scanBound ∧ Pv (j + 1) (upd H7 D (SetSO P w D (putS ks z))))
    (hd : ∀ H, Pv n H → Nx H) :
    ∃ W1 : Nat → Nat → Hp → Prop, (∃ m, W1 0 m H0) ∧ ∀ j k H, W1 j k H →
      (J1.stop j H ∧ Nx H) ∨ (J1.go j H ∧ ∃ Nx1 : Hp → Prop, (∀ H', Nx1 H' → ∃ k', k' < k ∧ W1 (j + 1) k' H') ∧ ∀ x H', J1.yld j H x H' → g1 x (wipe σ vs1) H' fun σ3 H5 => wipe σ3 vs1 = wipe σ vs1 ∧
        te σ3 H5 fun y H7 => ∃ z ks, y = .str z ∧ H7 D = some (SetSO P w D ks) ∧ ks.length + 1 < scanBound ∧ Nx1 (upd H7 D (SetSO P w D (putS ks z)))) := by
  refine ⟨fun i m H => m = n - i ∧ i ≤ n ∧ Pv i H, ⟨n, by simp, Nat.zero_le _, h0⟩, ?_⟩
  rintro i m H ⟨rfl, hi, p⟩
  have q := hG i H hi p
  by_cases hlt : i < n
  · exact .inr ⟨wk.goes i H hlt q, Pv (i + 1), fun H' p' => ⟨n - (i + 1), by omega, rfl, hlt, p'⟩, fun x H' y => hs i x H H' hlt p (wk.yields i H x H' hlt q y)⟩
  · obtain rfl : i = n := by omega
    exact .inl ⟨wk.stops H q, hd H p⟩
end
end L2

set_option Elab.async false
set_option linter.all false
set_option maxRecDepth 100000
set_option maxHeartbeats 1000000
/-! a.letters() -/
namespace E2
open PySem PySem.Spec PyProof.Rows L2
open C8 (Cal Mak Met InsC pe_c pe_mt pe_mt0 call_isC clsBody)
section
variable {P : Program} {w : World} {K : PySem.W.Frag} {mg : Str → Option Value} {base : Heap} {C : Addr}
theorem scLetters : FnScope ["self", "names", "name"] ["self"] (defScope sLetters) := ⟨rfl, rfl, rfl, by decide +kernel, rfl, by decide +kernel, by decide +kernel⟩
theorem ok_letters {f : Addr} {fd : FuncData} (F : Fun K "letters" "Form.letters" sLetters f fd) (T : Fx P w K mg base C) (B : Bt3 mg) : FnOk P w K mg base CX0 2 f fd ["self"] (spLetters P w K C) := by
  refine F.ok scLetters (fun vs H Q E h => ?_) (fun cdv A outer s H vs Q E hr h => ?_)
  · obtain ⟨a, fm, rfl, _⟩ := h
    rfl
  · obtain ⟨a, fm, rfl, ⟨dx, d, kvs, ha, hd, hf⟩, hl, hsum, k⟩ := h
    refine ⟨_, pss_one (ps_ret (pe_callB (cr_sortedSS rfl) (by rfl) B.srt_ (by decide +kernel) (pa_cons (pe_lock (pe_sc2 (own := [("names", 1), ("name", 2)]) (vs1 := [2]) (g := gName 1) (wi1 := iTup K (tVar 1)) (g1 := gName 2) (te := tVar 2) rfl scLetters.nd (pi_keysN (pe_fld (pv 0) rfl))
      (blkOk_by (own := [("names", 1), ("name", 2)]) (N := ["self", "names", "name"]) (sc := defScope sLetters) (by decide +kernel)) (by decide)
      (fun _ _ _ _ _ => pg_name (i := 1) scLetters.nd rfl (Or.inl rfl)) (fun _ _ _ _ _ => pi_tup (pv 1)) (fun _ _ _ _ _ => pg_name (i := 2) scLetters.nd rfl (Or.inl rfl)) (fun _ _ _ _ _ => pv 2))) pa_nil))), ?_⟩
    have nad : a ≠ d := ne_of ha hd (by intro z; cases z)
    refine ⟨d, DfO P w d kvs, hd, trivial, fun od => ?_⟩
    refine ⟨_, rfl, a, C, dx, _, _, rfl, by rw [upd_ne nad]; exact ha, T.cl, T.na, rfl, d, od, kvs, rfl, upd_same, fun D nD => ?_⟩
    have neD : D ≠ d := by
      rintro rfl
      rw [upd_same] at nD
      cases nD
    have nDH : H D = none := by rwa [upd_ne neD] at nD
    have h1 : (upd H d (.frz od (DfO P w d kvs))) d = some (.frz od (DfO P w d kvs)) := upd_same
    have hf1 : FmKv K (upd H d (.frz od (DfO P w d kvs))) kvs fm := hf.imp (.off hd noTup_df)
    have small : ∀ l : List Str, l.length ≤ (lets fm).length → (putAll [] l).length ≤ 1000 := fun l hl2 => by
      have := len_putAll l []
      rw [len_lets] at hl2
      simp only [List.length_nil] at this
      omega
    have S0 : ∀ z : HO, Same H (upd (upd (upd H d (.frz od (DfO P w d kvs))) D z) d (DfO P w d kvs)) := fun z b o e => by
      by_cases c : b = d
      · subst c
        rw [upd_same, ← hd, e]
      · rw [upd_ne c, upd_ne (ne_of_none e nDH), upd_ne c]
        exact e
    generalize hH1 : upd H d (.frz od (DfO P w d kvs)) = H1 at hf1 nD h1 S0 ⊢
    refine sc2_it walk_keysN (fun i H' => H' = upd H1 D (SetSO P w D (putAll [] (lets (fm.take i))))) rfl (fun i H' _ e => by rw [e, upd_ne (Ne.symm neD)]; exact h1) ?_ ?_
    · rintro i x H' H'' hi rfl ⟨rfl, kk, b, av, hkv, rfl⟩
      obtain ⟨m, q, b', a1, hm, e, tb, sa⟩ := hf1.get hkv
      obtain ⟨rfl, e2⟩ := Prod.mk.inj e
      obtain ⟨rfl, rfl⟩ := Prod.mk.inj e2
      rw [kS_kV] at tb
      have hb : ∀ z : HO, SqT K (upd H1 D z) b (m.map V.str) := fun z => (tb.same (Same.upd nD)).sq
      have ltk := lets_take hm
      have ln := len_take_lets fm (i + 1)
      rw [ltk, List.length_append] at ln
      have ln : (lets (fm.take i)).length + m.length ≤ (lets fm).length := ln
      refine ⟨rfl, _, rfl, b, rfl, ⟨_, hb _⟩, ?_⟩
      refine sc2_in (walk_tup (xs := m.map V.str)) (fun j H' => H' = upd H1 D (SetSO P w D (putAll [] (lets (fm.take i) ++ m.take j)))) ?_ ?_ ?_ ?_
      · rw [List.take_zero, List.append_nil]
      · rintro j H' _ rfl
        exact hb _
      · rintro j x H' H'' hj rfl ⟨rfl, hx⟩
        rw [List.getElem?_map] at hx
        cases hz : m[j]? with
        | none => rw [hz] at hx; cases hx
        | some z =>
          rw [hz] at hx
          cases hx
          refine ⟨rfl, _, rfl, z, _, rfl, upd_same, ?_, ?_⟩
          · have := small (lets (fm.take i) ++ m.take j) (by rw [List.length_append, List.length_take]; omega)
            exact Nat.lt_of_le_of_lt (Nat.succ_le_succ this) (by decide)
          · rw [upd_upd, putAllS_snoc, List.append_assoc, ← take_snoc hz]
            rfl
      · rintro H' rfl
        rw [List.length_map, List.take_length, ltk]
    · rintro H' rfl
      rw [hf.length, List.take_length]
      refine ⟨by rw [upd_ne (Ne.symm neD)]; exact h1, D, _, rfl, by rw [upd_ne neD]; exact upd_same, fun ys pm nd so p H2 S np hp => ?_⟩
      refine k H2 p ys ((S0 _).trans S) ((S0 _).free np) hp (by rw [pm.length_eq]; exact small _ (Nat.le_refl _)) so (pm.nodup_iff.mpr nd) fun x => ?_
      rw [pm.mem_iff, mem_putAll]
      unfold lets
      rw [List.mem_flatMap]
      constructor
      · rintro (h | ⟨y, hy, hx⟩)
        · cases h
        · exact ⟨y.1, List.mem_map.mpr ⟨y, hy, rfl⟩, hx⟩
      · rintro ⟨m, hm, hx⟩
        obtain ⟨y, hy, rfl⟩ := List.mem_map.mp hm
        exact .inr ⟨y, hy, hx⟩
end
end E2

set_option Elab.async false
set_option linter.all false
set_option maxRecDepth 100000
set_option maxHeartbeats 1000000
/-! what the top left: each def with its promise -/
namespace E2
open PySem PySem.Spec PyProof.Rows L2 He Hb
open C8 (Cal Mak Met InsC)
open LamX (Tabs ExtN TabB CodeO TabS)
/-- a def of the text, by its statement -/
def dX (at_ : Str × Option Str) (name qual : Str) (st : Stmt) : DefD := { at_ := at_, name := name, qual := qual, params := defArgs st, body := defBody st, scope := defScope st, dfl := [] }
theorem plainD {K : PySem.W.Frag} {x qual : Str} {st : Stmt} {f : Addr} {fd : FuncData} (F : FunD K x qual (defArgs st) (defBody st) (defScope st) [] [] f fd) : L2.Fun K x qual st f fd := by
  obtain ⟨oc, od, dV, kV, doc, pm, an, cdv, ct, osl, rfl, lk, hcd, hD, hK⟩ := F.ex
  rcases hD with ⟨_, rfl⟩ | ⟨e, _⟩
  · exact ⟨⟨oc, od, kV, doc, pm, an, cdv, ct, osl, rfl, lk, hcd⟩, F.kp⟩
  · exact absurd rfl e
theorem funX {fa : List Fa} {fn : List DefD} {K : PySem.W.Frag} (c : SaysD fa fn K) (i : Nat) {at_ : Str × Option Str} {name qual : Str} {st : Stmt} (h : fn[i]? = some (dX at_ name qual st) := by rfl) : ∃ fd, L2.Fun K name qual st (fAd K at_) fd :=
  let ⟨fd, F⟩ := c.def_ i h
  ⟨fd, plainD F⟩
def neB (K : PySem.W.Frag) (C : Addr) : Bool := eqO (PySem.W.findIn K (.ref C) "__ne__") (some (some (.builtin "object.__ne__"))) && (eqO (PySem.W.findIn K (.ref C) "__eq__") (some (some (.ref (ma K C "__eq__")))) && (PySem.W.isFn K (.ref (ma K C "__eq__")) && decide (PySem.W.subIn K (.ref C) (.type "object") = some true)))
theorem neB_ok {K : PySem.W.Frag} {C : Addr} (h : neB K C = true) : PySem.W.NoNe K C (ma K C "__eq__") := by
  obtain ⟨h1, h⟩ := ba h
  obtain ⟨h2, h⟩ := ba h
  obtain ⟨h3, h4⟩ := ba h
  exact ⟨eqO_ok h1, eqO_ok h2, h3, of_decide_eq_true h4⟩
/-- a tuple of texts at a -/
def tupAt (K : PySem.W.Frag) (a : Addr) (vs : List Str) : Bool := match K.lookup a with
  | none => false
  | some o => (match o.data with
    | .seq its _ => decide (o.cls = .type "tuple") && decide (its.size ≤ sizeLine) && relAll (vs.map V.str) its.toList
    | _ => false)
theorem tupAt_ok {K : PySem.W.Frag} {a : Addr} {vs : List Str} (h : tupAt K a vs = true) (H : Hp) : SqT K H a (vs.map V.str) := by
  unfold tupAt at h
  split at h
  · cases h
  · rename_i o q
    split at h
    · rename_i its n e
      simp only [Bool.and_eq_true] at h
      exact .inr ⟨o, its, n, q, of_decide_eq_true h.1.1, e, of_decide_eq_true h.1.2, relAll_ok h.2⟩
    · cases h
/-- the object at a dict's key -/
def keyAt (K : PySem.W.Frag) (d : Addr) (x : Str) : Addr := match PySem.W.nsIn K d x with
  | some (some (.ref a)) => a
  | _ => 0
def alB (K : PySem.W.Frag) : Bool := states.all fun e => eqO (PySem.W.nsIn K (ga K "ALLOWED") e) (some (some (.ref (keyAt K (ga K "ALLOWED") e)))) && tupAt K (keyAt K (ga K "ALLOWED") e) (allowedL e)
def beB (K : PySem.W.Frag) : Bool := kinds.all fun k => match PySem.W.nsIn K (ga K "BEHIND") k with
  | some (some (.str z _)) => decide (z = behindL k)
  | _ => false
theorem tbl_ok {w : World} {K : PySem.W.Frag} {mg : Str → Option Value} (ga_ : mg "ALLOWED" = some (.ref (ga K "ALLOWED"))) (gb : mg "BEHIND" = some (.ref (ga K "BEHIND")))
    (da : ∃ es n, KDict K w (ga K "ALLOWED") es n) (db : ∃ es n, KDict K w (ga K "BEHIND") es n) (ha : alB K = true) (hb : beB K = true) : Tbl w K mg := by
  obtain ⟨ea, na, Da⟩ := da
  obtain ⟨eb, nb, Db⟩ := db
  refine ⟨⟨_, ga_, fun e he => ?_⟩, ⟨_, gb, fun k hk => ?_⟩⟩
  · obtain ⟨h1, h2⟩ := ba (List.all_eq_true.mp ha e he)
    exact ⟨_, ⟨ea, na, _, Da.at_, Da.lit, eqO_ok h1, rfl⟩, fun H => tupAt_ok h2 H⟩
  · have h1 := List.all_eq_true.mp hb k hk
    cases q : PySem.W.nsIn K (ga K "BEHIND") k with
    | none =>
      simp only [q] at h1
      cases h1
    | some o =>
      simp only [q] at h1
      cases o with
      | none => cases h1
      | some u =>
        cases u with
        | str z t => exact ⟨eb, nb, _, Db.at_, Db.lit, q, t, by rw [of_decide_eq_true h1]⟩
        | _ => cases h1
/-! keywords -/
def g1 : List Value → List Value → List Value := fun us zs => match us, zs with
  | [], [x] => [x]
  | _, _ => []
def gm1 : List Value → List Value → List Value := fun us zs => match us, zs with
  | [s], [x] => [s, x]
  | _, _ => []
def gm2 : List Value → List Value → List Value := fun us zs => match us, zs with
  | [s], [o, n] => [s, n, o]
  | _, _ => []
section
variable {K : PySem.W.Frag} {x qual p p2 : Str} {st : Stmt} {f : Addr} {fd : FuncData}
theorem kb1 (F : L2.Fun K x qual st f fd) (h : ∀ (kV doc pm : Value) (an : Option Addr) (cdv ct a : Value), bindArgs (PySem.W.fnOf x qual (defArgs st) (defBody st) (defScope st) .none kV doc pm an cdv ct) ⟨[], [(p, a)]⟩ = pure [(p, a)]) : KBinds K fd [p] [p] g1 kw1 := by
  obtain ⟨oc, od, kV, doc, pm, an, cdv, ct, osl, rfl, lk, hcd⟩ := F.ex
  refine ⟨fun s us ws X hl => ?_, fun {vs us zs ws} r1 r2 => ?_⟩
  · match us, ws, hl with
    | [], [a], _ => exact .of_eq (h kV doc pm an cdv ct a)
  · cases r1 with
    | cons b1 r1 => exact .nil
    | nil =>
      cases r2 with
      | nil => exact .nil
      | cons a0 r2 =>
        cases r2 with
        | cons b2 r2 => exact .nil
        | nil => exact .cons a0 .nil
theorem kbm1 (F : L2.Fun K x qual st f fd) (h : ∀ (kV doc pm : Value) (an : Option Addr) (cdv ct s a : Value), bindArgs (PySem.W.fnOf x qual (defArgs st) (defBody st) (defScope st) .none kV doc pm an cdv ct) ⟨[s], [(p, a)]⟩ = pure [(("self" : Str), s), (p, a)]) : KBinds K fd ["self", p] [p] gm1 km1 := by
  obtain ⟨oc, od, kV, doc, pm, an, cdv, ct, osl, rfl, lk, hcd⟩ := F.ex
  refine ⟨fun s us ws X hl => ?_, fun {vs us zs ws} r1 r2 => ?_⟩
  · match us, ws, hl with
    | [s], [a], _ => exact .of_eq (h kV doc pm an cdv ct s a)
  · cases r1 with
    | nil => exact .nil
    | cons b1 r1 =>
      cases r1 with
      | cons b3 r1 => exact .nil
      | nil =>
        cases r2 with
        | nil => exact .nil
        | cons a0 r2 =>
          cases r2 with
          | cons b2 r2 => exact .nil
          | nil => exact .cons b1 (.cons a0 .nil)
theorem kbm2 (F : L2.Fun K x qual st f fd) (h : ∀ (kV doc pm : Value) (an : Option Addr) (cdv ct s o n : Value), bindArgs (PySem.W.fnOf x qual (defArgs st) (defBody st) (defScope st) .none kV doc pm an cdv ct) ⟨[s], [(p2, o), (p, n)]⟩ = pure [(("self" : Str), s), (p, n), (p2, o)]) : KBinds K fd ["self", p, p2] [p2, p] gm2 km2 := by
  obtain ⟨oc, od, kV, doc, pm, an, cdv, ct, osl, rfl, lk, hcd⟩ := F.ex
  refine ⟨fun s us ws X hl => ?_, fun {vs us zs ws} r1 r2 => ?_⟩
  · match us, ws, hl with
    | [s], [o, n], _ => exact .of_eq (h kV doc pm an cdv ct s o n)
  · cases r1 with
    | nil => exact .nil
    | cons b1 r1 =>
      cases r1 with
      | cons b3 r1 => exact .nil
      | nil =>
        cases r2 with
        | nil => exact .nil
        | cons a0 r2 =>
          cases r2 with
          | nil => exact .nil
          | cons a1 r2 =>
            cases r2 with
            | cons b2 r2 => exact .nil
            | nil => exact .cons b1 (.cons a1 (.cons a0 .nil))
end
def fnR : List DefD := [dX ("is_whole", none) "is_whole" "is_whole" sIsWhole,
  dX ("is_letter", none) "is_letter" "is_letter" sIsLetter,
  dX ("is_values", none) "is_values" "is_values" sIsValues,
  dX ("letter", none) "letter" "letter" sLetter,
  dX ("number", none) "number" "number" sNumber,
  dX ("right_side", none) "right_side" "right_side" sRightSide,
  dX ("without_noughts", none) "without_noughts" "without_noughts" sWithout,
  dX ("product_at", none) "product_at" "product_at" sProductAt,
  dX ("lowest", none) "lowest" "lowest" sLowest,
  dX ("fraction_sum", none) "fraction_sum" "fraction_sum" sFracSum,
  dX ("fraction_product", none) "fraction_product" "fraction_product" sFracProd,
  dX ("read", none) "read" "read" sRead,
  dX ("write", none) "write" "write" sWrite,
  dX ("term_text", none) "term_text" "term_text" sTermText,
  dX ("split_words", none) "split_words" "split_words" sSplitWords,
  dX ("word_end", none) "word_end" "word_end" sWordEnd,
  dX ("is_digit", none) "is_digit" "is_digit" sIsDigit,
  dX ("is_small", none) "is_small" "is_small" sIsSmall,
  dX ("kind_of", none) "kind_of" "kind_of" sKindOf,
  dX ("is_expression", none) "is_expression" "is_expression" sIsExpression,
  dX ("work_out", none) "work_out" "work_out" sWorkOut,
  dX ("factor_of", none) "factor_of" "factor_of" sFactorOf,
  dX ("number_of", none) "number_of" "number_of" sNumberOf,
  dX ("digits_of", none) "digits_of" "digits_of" sDigitsOf,
  dX ("_law_purse", none) "_law_purse" "_law_purse" sPurse,
  dX ("_law_mixed", none) "_law_mixed" "_law_mixed" sMixed,
  dX ("_law_draw", none) "_law_draw" "_law_draw" sDraw,
  dX ("_law_purses", none) "_law_purses" "_law_purses" sPurses,
  dX ("law", none) "law" "law" sLaw,
  dX ("Form", some "__init__") "__init__" "Form.__init__" sInit,
  dX ("Form", some "__add__") "__add__" "Form.__add__" sAdd,
  dX ("Form", some "__mul__") "__mul__" "Form.__mul__" sMul,
  dX ("Form", some "__eq__") "__eq__" "Form.__eq__" sEq,
  dX ("Form", some "over") "over" "Form.over" sOver,
  dX ("Form", some "terms") "terms" "Form.terms" sTerms,
  dX ("Form", some "letters") "letters" "Form.letters" sLetters,
  dX ("Form", some "at") "at" "Form.at" sAt,
  dX ("Form", some "put") "put" "Form.put" sPut,
  dX ("Form", some "by_powers") "by_powers" "Form.by_powers" sPow]
def faR : List Fa := [.glo "is_whole", .glo "is_letter", .glo "is_values", .glo "letter", .glo "number", .glo "right_side", .glo "without_noughts", .glo "product_at", .glo "lowest", .glo "fraction_sum", .glo "fraction_product", .glo "read", .glo "write", .glo "term_text", .glo "split_words", .glo "word_end", .glo "is_digit", .glo "is_small", .glo "kind_of", .glo "is_expression", .glo "work_out", .glo "factor_of", .glo "number_of", .glo "digits_of", .glo "_law_purse", .glo "_law_mixed", .glo "_law_draw", .glo "_law_purses", .glo "law", .glo "Form", .glo "ALLOWED", .glo "BEHIND", .free "isinstance", .free "int", .free "bool", .free "str", .free "len", .free "all", .free "tuple", .free "sorted", .free "dict", .free "sum", .free "max", .free "min", .free "range", .free "list", .free "abs", .free "divmod", .free "reversed", .cls "Form", .noat "Form" "_parts", .mkr "Form", .meth "Form" "over", .meth "Form" "terms", .meth "Form" "letters", .meth "Form" "at", .meth "Form" "put", .meth "Form" "by_powers"]
def bsR (K : PySem.W.Frag) : List Bool := [bltB K "gcd" "math.gcd", bltB K "lcm" "math.lcm", ownB K (ga K "Form") "__add__", ownB K (ga K "Form") "__mul__", ownIB K (ga K "Form") "add", ownIB K (ga K "Form") "mul", insB K (ga K "Form"), decide (PySem.W.kitOne K (.ref (ga K "Form")) (.type "int") = some false), neB K (ga K "Form"), alB K, beB K]
def exR (K : PySem.W.Frag) : Bool := (bsR K).all id
def tsR : List Tab := [(fun K => ga K "ALLOWED", states), (fun K => ga K "BEHIND", ["number", "letter", ")", "(", "+", "-", "*", "/"])]
def pT : Defn := ("Form", some "terms")
def qT : Str := "Form.terms.<locals>.<lambda>"
section
variable {P : Program} {w : World} {K : PySem.W.Frag} {mg : Str → Option Value} {base : Heap}
theorem cal_of {x : Str} {f : Addr} {fd : FuncData} {ps : List Str} {k : Nat} {sp : Sp} (kp : PySem.W.keepIn K (.ref f) = true) (g : mg x = some (.ref f)) (b : Binds K fd ps []) (O : FnOk P w K mg base CX0 k f fd ps sp) : Cal P w K mg base k x sp [] := ⟨f, fd, ps, [], O, g, kp, b, .nil⟩
end
theorem code_of {K : PySem.W.Frag} {x qual : Str} {st : Stmt} {p : Defn} {fd : FuncData} (F : L2.Fun K x qual st (fAd K p) fd) : fd.code = .ref (cT K p).1 := by
  obtain ⟨oc, od, kV, doc, pm, an, cdv, ct, osl, rfl, lk, hcd⟩ := F.ex
  obtain ⟨c, rfl⟩ := codeIn_ref hcd
  show Value.ref c = Value.ref (codeOf K p)
  rw [codeOf_eq lk rfl]
theorem facts {P : Program} {w : World} {K : PySem.W.Frag} {h : Heap} {mg : Str → Option Value} {fl : Addr} (X : K.In h) (G : h.Ns mainGlobals mg) (hfa : mg "law" = some (.ref fl)) (c : SaysX faR fnR tsR [pT] exR w h K) :
    ∃ fd : FuncData, (∀ (s : Shared) (u : Value), BindsTo s fd ⟨[u], []⟩ [("_law_script", u)]) ∧ ∀ base : Heap, K.In base → base.Ns mainGlobals mg → (∀ p ∈ [cT K pT], TabB base mg p.1 p.2) → FnOk P w K mg base CX0 8 fl fd ["_law_script"] (spLaw [((cT K pT).2, qT)] K) := by
  have cd := c.t.d
  have cc : ((bsR K).all id) = true := c.more
  obtain ⟨d_is_whole, F_is_whole⟩ := funX cd 0 (at_ := ("is_whole", none)) (name := "is_whole") (qual := "is_whole") (st := sIsWhole) rfl
  have g_is_whole : mg "is_whole" = some (.ref (ga K "is_whole")) := glo_ok X G (cd.fact 0 (f := .glo "is_whole") rfl)
  have b_is_whole := F_is_whole.binds (ps := ["value"]) fun _ _ _ _ _ _ us hl => match us, hl with | [_], _ => rfl
  obtain ⟨d_is_letter, F_is_letter⟩ := funX cd 1 (at_ := ("is_letter", none)) (name := "is_letter") (qual := "is_letter") (st := sIsLetter) rfl
  have g_is_letter : mg "is_letter" = some (.ref (ga K "is_letter")) := glo_ok X G (cd.fact 1 (f := .glo "is_letter") rfl)
  have b_is_letter := F_is_letter.binds (ps := ["name"]) fun _ _ _ _ _ _ us hl => match us, hl with | [_], _ => rfl
  obtain ⟨d_is_values, F_is_values⟩ := funX cd 2 (at_ := ("is_values", none)) (name := "is_values") (qual := "is_values") (st := sIsValues) rfl
  have g_is_values : mg "is_values" = some (.ref (ga K "is_values")) := glo_ok X G (cd.fact 2 (f := .glo "is_values") rfl)
  have b_is_values := F_is_values.binds (ps := ["values", "names"]) fun _ _ _ _ _ _ us hl => match us, hl with | [_, _], _ => rfl
  obtain ⟨d_letter, F_letter⟩ := funX cd 3 (at_ := ("letter", none)) (name := "letter") (qual := "letter") (st := sLetter) rfl
  have g_letter : mg "letter" = some (.ref (ga K "letter")) := glo_ok X G (cd.fact 3 (f := .glo "letter") rfl)
  have b_letter := F_letter.binds (ps := ["name"]) fun _ _ _ _ _ _ us hl => match us, hl with | [_], _ => rfl
  obtain ⟨d_number, F_number⟩ := funX cd 4 (at_ := ("number", none)) (name := "number") (qual := "number") (st := sNumber) rfl
  have g_number : mg "number" = some (.ref (ga K "number")) := glo_ok X G (cd.fact 4 (f := .glo "number") rfl)
  have b_number := F_number.binds (ps := ["value"]) fun _ _ _ _ _ _ us hl => match us, hl with | [_], _ => rfl
  obtain ⟨d_right_side, F_right_side⟩ := funX cd 5 (at_ := ("right_side", none)) (name := "right_side") (qual := "right_side") (st := sRightSide) rfl
  have g_right_side : mg "right_side" = some (.ref (ga K "right_side")) := glo_ok X G (cd.fact 5 (f := .glo "right_side") rfl)
  have b_right_side := F_right_side.binds (ps := ["other"]) fun _ _ _ _ _ _ us hl => match us, hl with | [_], _ => rfl
  obtain ⟨d_without_noughts, F_without_noughts⟩ := funX cd 6 (at_ := ("without_noughts", none)) (name := "without_noughts") (qual := "without_noughts") (st := sWithout) rfl
  have g_without_noughts : mg "without_noughts" = some (.ref (ga K "without_noughts")) := glo_ok X G (cd.fact 6 (f := .glo "without_noughts") rfl)
  have b_without_noughts := F_without_noughts.binds (ps := ["parts"]) fun _ _ _ _ _ _ us hl => match us, hl with | [_], _ => rfl
  obtain ⟨d_product_at, F_product_at⟩ := funX cd 7 (at_ := ("product_at", none)) (name := "product_at") (qual := "product_at") (st := sProductAt) rfl
  have g_product_at : mg "product_at" = some (.ref (ga K "product_at")) := glo_ok X G (cd.fact 7 (f := .glo "product_at") rfl)
  have b_product_at := F_product_at.binds (ps := ["names", "values"]) fun _ _ _ _ _ _ us hl => match us, hl with | [_, _], _ => rfl
  obtain ⟨d_lowest, F_lowest⟩ := funX cd 8 (at_ := ("lowest", none)) (name := "lowest") (qual := "lowest") (st := sLowest) rfl
  have g_lowest : mg "lowest" = some (.ref (ga K "lowest")) := glo_ok X G (cd.fact 8 (f := .glo "lowest") rfl)
  have b_lowest := F_lowest.binds (ps := ["top", "bottom"]) fun _ _ _ _ _ _ us hl => match us, hl with | [_, _], _ => rfl
  obtain ⟨d_fraction_sum, F_fraction_sum⟩ := funX cd 9 (at_ := ("fraction_sum", none)) (name := "fraction_sum") (qual := "fraction_sum") (st := sFracSum) rfl
  have g_fraction_sum : mg "fraction_sum" = some (.ref (ga K "fraction_sum")) := glo_ok X G (cd.fact 9 (f := .glo "fraction_sum") rfl)
  have b_fraction_sum := F_fraction_sum.binds (ps := ["one", "other"]) fun _ _ _ _ _ _ us hl => match us, hl with | [_, _], _ => rfl
  obtain ⟨d_fraction_product, F_fraction_product⟩ := funX cd 10 (at_ := ("fraction_product", none)) (name := "fraction_product") (qual := "fraction_product") (st := sFracProd) rfl
  have g_fraction_product : mg "fraction_product" = some (.ref (ga K "fraction_product")) := glo_ok X G (cd.fact 10 (f := .glo "fraction_product") rfl)
  have b_fraction_product := F_fraction_product.binds (ps := ["one", "other"]) fun _ _ _ _ _ _ us hl => match us, hl with | [_, _], _ => rfl
  obtain ⟨d_read, F_read⟩ := funX cd 11 (at_ := ("read", none)) (name := "read") (qual := "read") (st := sRead) rfl
  have g_read : mg "read" = some (.ref (ga K "read")) := glo_ok X G (cd.fact 11 (f := .glo "read") rfl)
  have b_read := F_read.binds (ps := ["text"]) fun _ _ _ _ _ _ us hl => match us, hl with | [_], _ => rfl
  obtain ⟨d_write, F_write⟩ := funX cd 12 (at_ := ("write", none)) (name := "write") (qual := "write") (st := sWrite) rfl
  have g_write : mg "write" = some (.ref (ga K "write")) := glo_ok X G (cd.fact 12 (f := .glo "write") rfl)
  have b_write := F_write.binds (ps := ["form"]) fun _ _ _ _ _ _ us hl => match us, hl with | [_], _ => rfl
  obtain ⟨d_term_text, F_term_text⟩ := funX cd 13 (at_ := ("term_text", none)) (name := "term_text") (qual := "term_text") (st := sTermText) rfl
  have g_term_text : mg "term_text" = some (.ref (ga K "term_text")) := glo_ok X G (cd.fact 13 (f := .glo "term_text") rfl)
  have b_term_text := F_term_text.binds (ps := ["top", "bottom", "names"]) fun _ _ _ _ _ _ us hl => match us, hl with | [_, _, _], _ => rfl
  obtain ⟨d_split_words, F_split_words⟩ := funX cd 14 (at_ := ("split_words", none)) (name := "split_words") (qual := "split_words") (st := sSplitWords) rfl
  have g_split_words : mg "split_words" = some (.ref (ga K "split_words")) := glo_ok X G (cd.fact 14 (f := .glo "split_words") rfl)
  have b_split_words := F_split_words.binds (ps := ["text"]) fun _ _ _ _ _ _ us hl => match us, hl with | [_], _ => rfl
  obtain ⟨d_word_end, F_word_end⟩ := funX cd 15 (at_ := ("word_end", none)) (name := "word_end") (qual := "word_end") (st := sWordEnd) rfl
  have g_word_end : mg "word_end" = some (.ref (ga K "word_end")) := glo_ok X G (cd.fact 15 (f := .glo "word_end") rfl)
  have b_word_end := F_word_end.binds (ps := ["text", "start"]) fun _ _ _ _ _ _ us hl => match us, hl with | [_, _], _ => rfl
  obtain ⟨d_is_digit, F_is_digit⟩ := funX cd 16 (at_ := ("is_digit", none)) (name := "is_digit") (qual := "is_digit") (st := sIsDigit) rfl
  have g_is_digit : mg "is_digit" = some (.ref (ga K "is_digit")) := glo_ok X G (cd.fact 16 (f := .glo "is_digit") rfl)
  have b_is_digit := F_is_digit.binds (ps := ["sign"]) fun _ _ _ _ _ _ us hl => match us, hl with | [_], _ => rfl
  obtain ⟨d_is_small, F_is_small⟩ := funX cd 17 (at_ := ("is_small", none)) (name := "is_small") (qual := "is_small") (st := sIsSmall) rfl
  have g_is_small : mg "is_small" = some (.ref (ga K "is_small")) := glo_ok X G (cd.fact 17 (f := .glo "is_small") rfl)
  have b_is_small := F_is_small.binds (ps := ["sign"]) fun _ _ _ _ _ _ us hl => match us, hl with | [_], _ => rfl
  obtain ⟨d_kind_of, F_kind_of⟩ := funX cd 18 (at_ := ("kind_of", none)) (name := "kind_of") (qual := "kind_of") (st := sKindOf) rfl
  have g_kind_of : mg "kind_of" = some (.ref (ga K "kind_of")) := glo_ok X G (cd.fact 18 (f := .glo "kind_of") rfl)
  have b_kind_of := F_kind_of.binds (ps := ["word"]) fun _ _ _ _ _ _ us hl => match us, hl with | [_], _ => rfl
  obtain ⟨d_is_expression, F_is_expression⟩ := funX cd 19 (at_ := ("is_expression", none)) (name := "is_expression") (qual := "is_expression") (st := sIsExpression) rfl
  have g_is_expression : mg "is_expression" = some (.ref (ga K "is_expression")) := glo_ok X G (cd.fact 19 (f := .glo "is_expression") rfl)
  have b_is_expression := F_is_expression.binds (ps := ["words"]) fun _ _ _ _ _ _ us hl => match us, hl with | [_], _ => rfl
  obtain ⟨d_work_out, F_work_out⟩ := funX cd 20 (at_ := ("work_out", none)) (name := "work_out") (qual := "work_out") (st := sWorkOut) rfl
  have g_work_out : mg "work_out" = some (.ref (ga K "work_out")) := glo_ok X G (cd.fact 20 (f := .glo "work_out") rfl)
  have b_work_out := F_work_out.binds (ps := ["words"]) fun _ _ _ _ _ _ us hl => match us, hl with | [_], _ => rfl
  obtain ⟨d_factor_of, F_factor_of⟩ := funX cd 21 (at_ := ("factor_of", none)) (name := "factor_of") (qual := "factor_of") (st := sFactorOf) rfl
  have g_factor_of : mg "factor_of" = some (.ref (ga K "factor_of")) := glo_ok X G (cd.fact 21 (f := .glo "factor_of") rfl)
  have b_factor_of := F_factor_of.binds (ps := ["word"]) fun _ _ _ _ _ _ us hl => match us, hl with | [_], _ => rfl
  obtain ⟨d_number_of, F_number_of⟩ := funX cd 22 (at_ := ("number_of", none)) (name := "number_of") (qual := "number_of") (st := sNumberOf) rfl
  have g_number_of : mg "number_of" = some (.ref (ga K "number_of")) := glo_ok X G (cd.fact 22 (f := .glo "number_of") rfl)
  have b_number_of := F_number_of.binds (ps := ["digits"]) fun _ _ _ _ _ _ us hl => match us, hl with | [_], _ => rfl
  obtain ⟨d_digits_of, F_digits_of⟩ := funX cd 23 (at_ := ("digits_of", none)) (name := "digits_of") (qual := "digits_of") (st := sDigitsOf) rfl
  have g_digits_of : mg "digits_of" = some (.ref (ga K "digits_of")) := glo_ok X G (cd.fact 23 (f := .glo "digits_of") rfl)
  have b_digits_of := F_digits_of.binds (ps := ["value"]) fun _ _ _ _ _ _ us hl => match us, hl with | [_], _ => rfl
  obtain ⟨d__law_purse, F__law_purse⟩ := funX cd 24 (at_ := ("_law_purse", none)) (name := "_law_purse") (qual := "_law_purse") (st := sPurse) rfl
  have g__law_purse : mg "_law_purse" = some (.ref (ga K "_law_purse")) := glo_ok X G (cd.fact 24 (f := .glo "_law_purse") rfl)
  have b__law_purse := F__law_purse.binds (ps := ["_law_script", "_law_at"]) fun _ _ _ _ _ _ us hl => match us, hl with | [_, _], _ => rfl
  obtain ⟨d__law_mixed, F__law_mixed⟩ := funX cd 25 (at_ := ("_law_mixed", none)) (name := "_law_mixed") (qual := "_law_mixed") (st := sMixed) rfl
  have g__law_mixed : mg "_law_mixed" = some (.ref (ga K "_law_mixed")) := glo_ok X G (cd.fact 25 (f := .glo "_law_mixed") rfl)
  have b__law_mixed := F__law_mixed.binds (ps := ["_law_seed", "_law_turn", "_law_at"]) fun _ _ _ _ _ _ us hl => match us, hl with | [_, _, _], _ => rfl
  obtain ⟨d__law_draw, F__law_draw⟩ := funX cd 26 (at_ := ("_law_draw", none)) (name := "_law_draw") (qual := "_law_draw") (st := sDraw) rfl
  have g__law_draw : mg "_law_draw" = some (.ref (ga K "_law_draw")) := glo_ok X G (cd.fact 26 (f := .glo "_law_draw") rfl)
  have b__law_draw := F__law_draw.binds (ps := ["_law_purse_here", "_law_many"]) fun _ _ _ _ _ _ us hl => match us, hl with | [_, _], _ => rfl
  obtain ⟨d__law_purses, F__law_purses⟩ := funX cd 27 (at_ := ("_law_purses", none)) (name := "_law_purses") (qual := "_law_purses") (st := sPurses) rfl
  have g__law_purses : mg "_law_purses" = some (.ref (ga K "_law_purses")) := glo_ok X G (cd.fact 27 (f := .glo "_law_purses") rfl)
  have b__law_purses := F__law_purses.binds (ps := ["_law_script", "_law_few"]) fun _ _ _ _ _ _ us hl => match us, hl with | [_, _], _ => rfl
  obtain ⟨d_law, F_law⟩ := funX cd 28 (at_ := ("law", none)) (name := "law") (qual := "law") (st := sLaw) rfl
  have g_law : mg "law" = some (.ref (ga K "law")) := glo_ok X G (cd.fact 28 (f := .glo "law") rfl)
  have b_law := F_law.binds (ps := ["_law_script"]) fun _ _ _ _ _ _ us hl => match us, hl with | [_], _ => rfl
  obtain ⟨d_Form___init__, F_Form___init__⟩ := funX cd 29 (at_ := ("Form", some "__init__")) (name := "__init__") (qual := "Form.__init__") (st := sInit) rfl
  have b_Form___init__ := F_Form___init__.binds (ps := ["self", "parts"]) fun _ _ _ _ _ _ us hl => match us, hl with | [_, _], _ => rfl
  obtain ⟨d_Form___add__, F_Form___add__⟩ := funX cd 30 (at_ := ("Form", some "__add__")) (name := "__add__") (qual := "Form.__add__") (st := sAdd) rfl
  have b_Form___add__ := F_Form___add__.binds (ps := ["self", "other"]) fun _ _ _ _ _ _ us hl => match us, hl with | [_, _], _ => rfl
  obtain ⟨d_Form___mul__, F_Form___mul__⟩ := funX cd 31 (at_ := ("Form", some "__mul__")) (name := "__mul__") (qual := "Form.__mul__") (st := sMul) rfl
  have b_Form___mul__ := F_Form___mul__.binds (ps := ["self", "other"]) fun _ _ _ _ _ _ us hl => match us, hl with | [_, _], _ => rfl
  obtain ⟨d_Form___eq__, F_Form___eq__⟩ := funX cd 32 (at_ := ("Form", some "__eq__")) (name := "__eq__") (qual := "Form.__eq__") (st := sEq) rfl
  have b_Form___eq__ := F_Form___eq__.binds (ps := ["self", "other"]) fun _ _ _ _ _ _ us hl => match us, hl with | [_, _], _ => rfl
  obtain ⟨d_Form_over, F_Form_over⟩ := funX cd 33 (at_ := ("Form", some "over")) (name := "over") (qual := "Form.over") (st := sOver) rfl
  have b_Form_over := F_Form_over.binds (ps := ["self", "divisor"]) fun _ _ _ _ _ _ us hl => match us, hl with | [_, _], _ => rfl
  obtain ⟨d_Form_terms, F_Form_terms⟩ := funX cd 34 (at_ := ("Form", some "terms")) (name := "terms") (qual := "Form.terms") (st := sTerms) rfl
  have b_Form_terms := F_Form_terms.binds (ps := ["self"]) fun _ _ _ _ _ _ us hl => match us, hl with | [_], _ => rfl
  obtain ⟨d_Form_letters, F_Form_letters⟩ := funX cd 35 (at_ := ("Form", some "letters")) (name := "letters") (qual := "Form.letters") (st := sLetters) rfl
  have b_Form_letters := F_Form_letters.binds (ps := ["self"]) fun _ _ _ _ _ _ us hl => match us, hl with | [_], _ => rfl
  obtain ⟨d_Form_at, F_Form_at⟩ := funX cd 36 (at_ := ("Form", some "at")) (name := "at") (qual := "Form.at") (st := sAt) rfl
  have b_Form_at := F_Form_at.binds (ps := ["self", "values"]) fun _ _ _ _ _ _ us hl => match us, hl with | [_, _], _ => rfl
  obtain ⟨d_Form_put, F_Form_put⟩ := funX cd 37 (at_ := ("Form", some "put")) (name := "put") (qual := "Form.put") (st := sPut) rfl
  have b_Form_put := F_Form_put.binds (ps := ["self", "name", "other"]) fun _ _ _ _ _ _ us hl => match us, hl with | [_, _, _], _ => rfl
  obtain ⟨d_Form_by_powers, F_Form_by_powers⟩ := funX cd 38 (at_ := ("Form", some "by_powers")) (name := "by_powers") (qual := "Form.by_powers") (st := sPow) rfl
  have b_Form_by_powers := F_Form_by_powers.binds (ps := ["self", "name"]) fun _ _ _ _ _ _ us hl => match us, hl with | [_, _], _ => rfl
  have g_Form : mg "Form" = some (.ref (ga K "Form")) := glo_ok X G (cd.fact 29 (f := .glo "Form") rfl)
  have g_ALLOWED : mg "ALLOWED" = some (.ref (ga K "ALLOWED")) := glo_ok X G (cd.fact 30 (f := .glo "ALLOWED") rfl)
  have g_BEHIND : mg "BEHIND" = some (.ref (ga K "BEHIND")) := glo_ok X G (cd.fact 31 (f := .glo "BEHIND") rfl)
  have z_isinstance : mg "isinstance" = none := free_ok X G (cd.fact 32 (f := .free "isinstance") rfl)
  have z_int : mg "int" = none := free_ok X G (cd.fact 33 (f := .free "int") rfl)
  have z_bool : mg "bool" = none := free_ok X G (cd.fact 34 (f := .free "bool") rfl)
  have z_str : mg "str" = none := free_ok X G (cd.fact 35 (f := .free "str") rfl)
  have z_len : mg "len" = none := free_ok X G (cd.fact 36 (f := .free "len") rfl)
  have z_all : mg "all" = none := free_ok X G (cd.fact 37 (f := .free "all") rfl)
  have z_tuple : mg "tuple" = none := free_ok X G (cd.fact 38 (f := .free "tuple") rfl)
  have z_sorted : mg "sorted" = none := free_ok X G (cd.fact 39 (f := .free "sorted") rfl)
  have z_dict : mg "dict" = none := free_ok X G (cd.fact 40 (f := .free "dict") rfl)
  have z_sum : mg "sum" = none := free_ok X G (cd.fact 41 (f := .free "sum") rfl)
  have z_max : mg "max" = none := free_ok X G (cd.fact 42 (f := .free "max") rfl)
  have z_min : mg "min" = none := free_ok X G (cd.fact 43 (f := .free "min") rfl)
  have z_range : mg "range" = none := free_ok X G (cd.fact 44 (f := .free "range") rfl)
  have z_list : mg "list" = none := free_ok X G (cd.fact 45 (f := .free "list") rfl)
  have z_abs : mg "abs" = none := free_ok X G (cd.fact 46 (f := .free "abs") rfl)
  have z_divmod : mg "divmod" = none := free_ok X G (cd.fact 47 (f := .free "divmod") rfl)
  have z_reversed : mg "reversed" = none := free_ok X G (cd.fact 48 (f := .free "reversed") rfl)
  have cl : Cls K (ga K "Form") := cls_ok (cd.fact 49 (f := .cls "Form") rfl)
  have na : NoAttr K (ga K "Form") "_parts" := noat_ok (cd.fact 50 (f := .noat "Form" "_parts") rfl)
  have mk : Mk K (ga K "Form") (ma K (ga K "Form") "__init__") := mkr_ok (cd.fact 51 (f := .mkr "Form") rfl)
  have m_over := meth_ok (cd.fact 52 (f := .meth "Form" "over") rfl)
  have m_terms := meth_ok (cd.fact 53 (f := .meth "Form" "terms") rfl)
  have m_letters := meth_ok (cd.fact 54 (f := .meth "Form" "letters") rfl)
  have m_at := meth_ok (cd.fact 55 (f := .meth "Form" "at") rfl)
  have m_put := meth_ok (cd.fact 56 (f := .meth "Form" "put") rfl)
  have m_by_powers := meth_ok (cd.fact 57 (f := .meth "Form" "by_powers") rfl)
  have hgcd : mg "gcd" = some (.builtin "math.gcd") := bltB_ok X G (bool_ok cc 0 rfl)
  have hlcm : mg "lcm" = some (.builtin "math.lcm") := bltB_ok X G (bool_ok cc 1 rfl)
  have oadd := ownB_ok (bool_ok cc 2 (b := ownB K (ga K "Form") "__add__") rfl)
  have omul := ownB_ok (bool_ok cc 3 (b := ownB K (ga K "Form") "__mul__") rfl)
  have iadd := ownIB_ok (bool_ok cc 4 (b := ownIB K (ga K "Form") "add") rfl)
  have imul := ownIB_ok (bool_ok cc 5 (b := ownIB K (ga K "Form") "mul") rfl)
  have ins := insB_ok cl (bool_ok cc 6 (b := insB K (ga K "Form")) rfl)
  have ki : PySem.W.kitOne K (.ref (ga K "Form")) (.type "int") = some false := of_decide_eq_true (bool_ok cc 7 rfl)
  have none_ := neB_ok (bool_ok cc 8 (b := neB K (ga K "Form")) rfl)
  have tbl : Tbl w K mg := tbl_ok g_ALLOWED g_BEHIND (c.t.tab 0 rfl) (c.t.tab 1 rfl) (bool_ok cc 9 rfl) (bool_ok cc 10 rfl)
  rw [show PySem.dunder "add" = ("__add__" : Str) from rfl] at iadd
  rw [show PySem.dunder "mul" = ("__mul__" : Str) from rfl] at imul
  have e := hfa.symm.trans g_law
  cases e
  have hcode := code_of (p := pT) F_Form_terms
  refine ⟨d_law, fun s u => bindsA (ps := ["_law_script"]) F_law (fun _ _ _ _ _ _ us hl => match us, hl with | [_], _ => rfl) s [u] rfl, fun base _ _ TBs => ?_⟩
  have TB := TBs _ List.mem_cons_self
  have B : Bt K mg (ga K "Form") := ⟨z_isinstance, z_int, z_bool, ins, ki, g_Form⟩
  have B2 : Bt2 mg := ⟨z_str, z_len, z_all⟩
  have B3 : Bt3 mg := ⟨z_tuple, z_sorted⟩
  have B4 : Bt4 mg := ⟨z_sum, z_max, z_min, z_range, z_len⟩
  have B5 : Bt5 mg := ⟨z_int, z_str, z_len, z_range, z_divmod, z_abs⟩
  have T : Fx P w K mg base (ga K "Form") := ⟨cl, na, ⟨_, d_Form___init__, _, [], mk, ok_init F_Form___init__ cl na, g_Form, b_Form___init__, .nil⟩⟩
  have Wh : Cal P w K mg base 1 "is_whole" (spWhole (ga K "Form")) [] := cal_of F_is_whole.kp g_is_whole b_is_whole (ok_whole F_is_whole B)
  have Il : Cal P w K mg base 1 "is_letter" spIsLet [] := cal_of F_is_letter.kp g_is_letter b_is_letter (ok_isLet F_is_letter B B2)
  have Lb : Cal P w K mg base 1 "is_letter" spLetB [] := cal_of F_is_letter.kp g_is_letter b_is_letter (ok_isLetB F_is_letter B B2)
  have Iv : Cal P w K mg base 2 "is_values" (spIsVals P w K) [] := cal_of F_is_values.kp g_is_values b_is_values (ok_isVals F_is_values B B2 z_dict Il Wh)
  have Wo : Cal P w K mg base 1 "without_noughts" (spWithout P w K) [] := cal_of F_without_noughts.kp g_without_noughts b_without_noughts (ok_without F_without_noughts)
  have fLe := ok_letter (P := P) (w := w) (base := base) F_letter T Il
  have Le : Cal P w K mg base 3 "letter" (spLetter P w K (ga K "Form")) [] := cal_of F_letter.kp g_letter b_letter (fLe)
  have fNu := ok_number (P := P) (w := w) (base := base) F_number T Wh Wo
  have Nu : Cal P w K mg base 3 "number" (spNumber P w K (ga K "Form")) [] := cal_of F_number.kp g_number b_number (fNu)
  have Ri : Cal P w K mg base 4 "right_side" (spRight P w K (ga K "Form")) [] := cal_of F_right_side.kp g_right_side b_right_side (ok_right F_right_side B Wh Nu)
  have Pr : Cal P w K mg base 1 "product_at" (spProd P w K) [] := cal_of F_product_at.kp g_product_at b_product_at (ok_prod F_product_at)
  have Lo : Cal P w K mg base 1 "lowest" spLowest [] := cal_of F_lowest.kp g_lowest b_lowest (ok_lowest F_lowest hgcd)
  have Fs : Cal P w K mg base 2 "fraction_sum" (spFrac K (· + ·)) [] := cal_of F_fraction_sum.kp g_fraction_sum b_fraction_sum (ok_fracSum F_fraction_sum Lo)
  have Fp : Cal P w K mg base 2 "fraction_product" (spFrac K (· * ·)) [] := cal_of F_fraction_product.kp g_fraction_product b_fraction_product (ok_fracProd F_fraction_product Lo)
  have fOv := ok_over (P := P) (w := w) (base := base) F_Form_over T Lo Fp Wh
  have Ov : Met P w K mg base 4 (ga K "Form") "over" (spOver P w K (ga K "Form")) [] := ⟨_, d_Form_over, _, [], cl, m_over, fOv, b_Form_over, .nil⟩
  have Ls : Met P w K mg base 2 (ga K "Form") "letters" (spLetters P w K (ga K "Form")) [] := ⟨_, d_Form_letters, _, [], cl, m_letters, ok_letters F_Form_letters T B3, b_Form_letters, .nil⟩
  have fAt := ok_at (P := P) (w := w) (base := base) F_Form_at T hlcm Iv Ls Pr
  have At : Met P w K mg base 3 (ga K "Form") "at" (spAt P w K (ga K "Form")) [] := ⟨_, d_Form_at, _, [], cl, m_at, fAt, b_Form_at, .nil⟩
  have fOa : FnOk P w K mg base CX0 5 (ma K (ga K "Form") "__add__") d_Form___add__ _ (spAdd P w K (ga K "Form")) := ok_add F_Form___add__ T Ri Fs Wo
  have Oa : OpM P w K mg base 5 (ga K "Form") "__add__" (spAdd P w K (ga K "Form")) := ⟨_, d_Form___add__, _, oadd, fOa, b_Form___add__⟩
  have fOm : FnOk P w K mg base CX0 5 (ma K (ga K "Form") "__mul__") d_Form___mul__ _ (spMul P w K (ga K "Form")) := ok_mul F_Form___mul__ T B3 Ri Fs Fp Wo
  have Om : OpM P w K mg base 5 (ga K "Form") "__mul__" (spMul P w K (ga K "Form")) := ⟨_, d_Form___mul__, _, omul, fOm, b_Form___mul__⟩
  have Ia : OpI P w K mg base 5 (ga K "Form") "add" (spAdd P w K (ga K "Form")) := ⟨_, d_Form___add__, _, iadd, fOa, b_Form___add__⟩
  have Im : OpI P w K mg base 5 (ga K "Form") "mul" (spMul P w K (ga K "Form")) := ⟨_, d_Form___mul__, _, imul, fOm, b_Form___mul__⟩
  have Ne : EqM P w K mg base 1 (ga K "Form") := ⟨_, d_Form___eq__, _, none_, ok_eq F_Form___eq__ T B, b_Form___eq__⟩
  have Te : Met P w K mg base 2 (ga K "Form") "terms" (spTerms [((cT K pT).2, qT)] P w K (ga K "Form")) [] := ⟨_, d_Form_terms, _, [], cl, m_terms, ok_terms F_Form_terms hcode T B3 z_list z_len TB List.mem_cons_self (fun p hp _ => by rw [List.mem_singleton.mp hp]; rfl), b_Form_terms, .nil⟩
  have Pw : Met P w K mg base 3 (ga K "Form") "by_powers" (spPow P w K (ga K "Form")) [] := ⟨_, d_Form_by_powers, _, [], cl, m_by_powers, ok_pow F_Form_by_powers T B3 z_max z_range, b_Form_by_powers, .nil⟩
  have fPu := ok_put (P := P) (w := w) (base := base) F_Form_put T B z_reversed Il Pw Oa Om
  have Pt : Met P w K mg base 6 (ga K "Form") "put" (spPut P w K (ga K "Form")) [] := ⟨_, d_Form_put, _, [], cl, m_put, fPu, b_Form_put, .nil⟩
  have Dg : Cal P w K mg base 1 "is_digit" (spIs digS) [] := cal_of F_is_digit.kp g_is_digit b_is_digit (ok_isDigit F_is_digit)
  have Sm_ : Cal P w K mg base 1 "is_small" (spIs smlS) [] := cal_of F_is_small.kp g_is_small b_is_small (ok_isSmall F_is_small)
  have We : Cal P w K mg base 2 "word_end" spWEnd [] := cal_of F_word_end.kp g_word_end b_word_end (ok_wordEnd F_word_end B2 Dg Sm_)
  have Sw : Cal P w K mg base 3 "split_words" spSplit [] := cal_of F_split_words.kp g_split_words b_split_words (ok_split F_split_words B2 We)
  have Kd : Cal P w K mg base 2 "kind_of" spKind [] := cal_of F_kind_of.kp g_kind_of b_kind_of (ok_kind F_kind_of Dg Lb)
  have Ie : Cal P w K mg base 3 "is_expression" (spIsEx K) [] := cal_of F_is_expression.kp g_is_expression b_is_expression (ok_isEx F_is_expression tbl Kd)
  have No : Cal P w K mg base 1 "number_of" spNumOf [] := cal_of F_number_of.kp g_number_of b_number_of (ok_numOf F_number_of B5)
  have Fc : Cal P w K mg base 4 "factor_of" (spFactor P w K (ga K "Form")) [] := cal_of F_factor_of.kp g_factor_of b_factor_of (ok_factor F_factor_of Dg No Nu Le)
  have Wk : Cal P w K mg base 6 "work_out" (spWork P w K (ga K "Form")) [] := cal_of F_work_out.kp g_work_out b_work_out (ok_work F_work_out No Nu Fc Ov Oa Om)
  have Do : Cal P w K mg base 1 "digits_of" spDigits [] := cal_of F_digits_of.kp g_digits_of b_digits_of (ok_digits F_digits_of B5)
  have Tt : Cal P w K mg base 2 "term_text" (spTT K) [] := cal_of F_term_text.kp g_term_text b_term_text (ok_termText F_term_text Do)
  have fRd := ok_read (P := P) (w := w) (base := base) F_read B B2 Sw Ie Wk
  have fWr := ok_write (P := P) (w := w) (base := base) F_write B z_abs Te Tt
  have Wr : Cal P w K mg base 3 "write" (spWrite P w [((cT K pT).2, qT)] K (ga K "Form")) [] := cal_of F_write.kp g_write b_write (fWr)
  have LeK : CalK P w K mg base 3 "letter" (spLetter P w K (ga K "Form")) ["name"] kw1 := ⟨_, _, _, _, fLe, g_letter, F_letter.kp, kb1 F_letter fun _ _ _ _ _ _ _ => rfl⟩
  have NuK : CalK P w K mg base 3 "number" (spNumber P w K (ga K "Form")) ["value"] kw1 := ⟨_, _, _, _, fNu, g_number, F_number.kp, kb1 F_number fun _ _ _ _ _ _ _ => rfl⟩
  have RdK : CalK P w K mg base 7 "read" (spRead P w K (ga K "Form")) ["text"] kw1 := ⟨_, _, _, _, fRd, g_read, F_read.kp, kb1 F_read fun _ _ _ _ _ _ _ => rfl⟩
  have WrK : CalK P w K mg base 3 "write" (spWrite P w [((cT K pT).2, qT)] K (ga K "Form")) ["form"] kw1 := ⟨_, _, _, _, fWr, g_write, F_write.kp, kb1 F_write fun _ _ _ _ _ _ _ => rfl⟩
  have OvK : MetK P w K mg base 4 (ga K "Form") "over" (spOver P w K (ga K "Form")) ["divisor"] km1 := ⟨_, _, _, _, cl, m_over, fOv, kbm1 F_Form_over fun _ _ _ _ _ _ _ _ => rfl⟩
  have AtK : MetK P w K mg base 3 (ga K "Form") "at" (spAt P w K (ga K "Form")) ["values"] km1 := ⟨_, _, _, _, cl, m_at, fAt, kbm1 F_Form_at fun _ _ _ _ _ _ _ _ => rfl⟩
  have PuK : MetK P w K mg base 6 (ga K "Form") "put" (spPut P w K (ga K "Form")) ["other", "name"] km2 := ⟨_, _, _, _, cl, m_put, fPu, kbm2 F_Form_put fun _ _ _ _ _ _ _ _ _ => rfl⟩
  have Pu : Cal P w K mg base 1 "_law_purse" (spPurse K) [] := cal_of F__law_purse.kp g__law_purse b__law_purse (ok_purse F__law_purse B4)
  have Mi : Cal P w K mg base 1 "_law_mixed" spMixed [] := cal_of F__law_mixed.kp g__law_mixed b__law_mixed (ok_mixed F__law_mixed)
  have D : Cal P w K mg base 2 "_law_draw" spDraw [] := cal_of F__law_draw.kp g__law_draw b__law_draw (ok_draw F__law_draw B4 Mi)
  have Ps : Cal P w K mg base 2 "_law_purses" (spPurses K) [] := cal_of F__law_purses.kp g__law_purses b__law_purses (ok_purses F__law_purses B4 Pu)
  exact ok_law F_law Ps D Le LeK Nu NuK Oa Om Ia Im Ne Ov OvK At AtK Pt PuK RdK Wr WrK
end E2

set_option Elab.async false
set_option linter.all false
set_option maxRecDepth 100000
set_option maxHeartbeats 0
/-! the head: the top's run, and the law -/
namespace E2
open PySem PySem.Spec PyProof.Rows L2 He
abbrev R : PySem.W.OpenRow := PySem.W.OpenLaw.row PySem.Challenge.rw_cellplaces_k05_forms_by_name
abbrev hk : PySem.W.Hook := He.hookX 6 faR fnR tsR [pT] exR
def ob (s : PySem.W.SharedT) : He.AlX := He.obsX 6 faR fnR tsR [pT] exR (HandSHeadRun.getT s)
theorem ob_eq (s : PySem.W.SharedT) : ob s = hk.obs s.abs := He.obsX_eq (HandSHeadRun.getT_eq s)
def loose0 : List PySem.Str := ["_wall", "CellError", "InvalidText", "InvalidForm", "InvalidLetter", "InvalidNumber", "InvalidValues", "is_whole", "is_letter", "is_values", "Form", "letter"]
def loose1 : List PySem.Str := ["number", "right_side", "without_noughts", "product_at", "lowest", "fraction_sum", "fraction_product", "ALLOWED", "BEHIND", "read", "write", "term_text"]
def loose2 : List PySem.Str := ["split_words", "word_end", "is_digit", "is_small", "kind_of", "is_expression", "work_out", "factor_of", "number_of", "digits_of", "_law_purse", "_law_mixed"]
def loose3 : List PySem.Str := ["_law_draw", "_law_purses"]
def looseAll : List PySem.Str := loose0 ++ loose1 ++ loose2 ++ loose3
theorem runF (w : World) : HandSHeadRun.RunEqI R (PySem.W.view R.prog [0, 44]) hk ob 20000 looseAll (w.withFollow "special-get-raises" false) := by
  unfold HandSHeadRun.RunEqI; kernel_rfl
theorem runT (w : World) : HandSHeadRun.RunEqI R (PySem.W.view R.prog [0, 44]) hk ob 20000 looseAll (w.withFollow "special-get-raises" true) := by
  unfold HandSHeadRun.RunEqI; kernel_rfl
theorem run (w : World) : HandSHeadRun.RunEqI R (PySem.W.view R.prog [0, 44]) hk ob 20000 looseAll w := PySem.W.byRow2 "special-get-raises" (P := fun w => HandSHeadRun.RunEqI R (PySem.W.view R.prog [0, 44]) hk ob 20000 looseAll w) runF runT w
end E2
open PySem PySem.W PySem.Calls PyProof.Rows
set_option maxRecDepth 100000 in
set_option maxHeartbeats 0 in
theorem PySem.Challenge.cw_cellplaces_k05_forms_by_name_holds : PySem.Challenge.rw_cellplaces_k05_forms_by_name.Holds := by
  w_on; o_law
  refine HandSHeadRun.head_imp (r := OpenLaw.row PySem.Challenge.rw_cellplaces_k05_forms_by_name) (q := view (OpenLaw.row PySem.Challenge.rw_cellplaces_k05_forms_by_name).prog [0, 44]) (H := E2.hk) (ob := E2.ob) (M := 20000) (loose := E2.looseAll) (d := HandSHeadRun.topDef (OpenLaw.row PySem.Challenge.rw_cellplaces_k05_forms_by_name).prog 44) (kwd := []) E2.ob_eq
    E2.run (by kernel_rfl) (by kernel_rfl) (by kernel_rfl) (by rfl) (by first | assumption | decide +kernel) (by decide +kernel) ⟨rfl, rfl, rfl, rfl, rfl, by decide +kernel⟩ ?hw ?hc
  case hw => w_witness2
  case hc =>
    refine LamX.walk_ofTsE (l := PySem.Challenge.rw_cellplaces_k05_forms_by_name) (n := 63) (k := 8) (x := "_law_script") (CX := fun _ => L2.CX0) rfl (by decide) (by kernel_rfl) ⟨rfl, by decide, by decide⟩ ?F (fun _ _ _ _ _ z => z)
    intro w mg fa h Y G hmg0
    obtain ⟨K, KX, c⟩ := Y
    have hmg : mg ("law" : PySem.Str) = some (.ref fa) := by
      have e : (HandSHeadRun.topDef (OpenLaw.row PySem.Challenge.rw_cellplaces_k05_forms_by_name).prog 44).name = ("law" : PySem.Str) := by kernel_rfl
      rw [← e]
      exact hmg0
    obtain ⟨fd, hb, hF⟩ := E2.facts (P := (PySem.Challenge.rw_cellplaces_k05_forms_by_name).prog) (w := w) KX G hmg c
    have one : ∀ p ∈ [He.cT K E2.pT], p = He.cT K E2.pT := fun p hp => List.mem_singleton.mp hp
    refine ⟨K, KX, fd, [He.cT K E2.pT], E2.spLaw [((He.cT K E2.pT).2, E2.qT)] K, fun p hp => ?_, fun p hp => ?_, fun p hp => ?_, hb, fun H a ns hl _ hT hS => ⟨a, ns, rfl, hS, hl, fun p hp => ?_, fun _ => rfl⟩, hF⟩
    · rw [one p hp]; exact c.empty _ List.mem_cons_self
    · rw [one p hp]; exact c.out _ List.mem_cons_self
    · rw [one p hp]; exact PySem.W.codeHd_of_K KX (c.hd _ List.mem_cons_self)
    · rw [List.mem_singleton.mp hp]
      exact ⟨#[], hT _ List.mem_cons_self, trivial, fun pos cv e => by cases e⟩
