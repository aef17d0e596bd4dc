import PyProof.Rows.All
import Wide.All
import OpenK.AllK
import Wide.FinOn
import HandS.ForExc
import HandS.ExcInit
import HandS.ExcIs
import HandS.ExcField
import HandS.Defaults
import HandS.IsInst
import HandS.ExcValue
import HandS.ForMost
import KE.KOpsOwn
import HandS.Wide
import HandS.WideBits
import HandS.Conv
import HandS.Codes
import HandS.Walk
import HandS.Comp
import HandS.SetFor
import HandS.DictComp
import HandS.More
import HandS.Iter
import KE.KDictWalk
import KE.KDictDisplayH
import HandS.Gcd
import HandS.WordsDict
import HandS.Lambda
import KE.SortKeyHeap
import KE.KLam
import HandS.DictEq
import HandS.List
import PyProof.InstNe
import HandS.Flow
import HandS.Text
import PyProof.TupleOfSeq
import PyProof.Rows.SortShellAny
import HandS.TupAny
import HandS.Star
import KE.DatumOrd
import PyProof.SeqRoads2
import HandS.SetBool
import HandS.Style
import KE.SortData
import HandS.Deep
import PyProof.ReprHeadsEmpty
import PyProof.StrLawsRepr
import PyProof.FitsInt
import HandS.HeadEnd
import HandS.EndTab
import HandS.HeadWalk
import HandS.Ends
import HandS.Words
import HandS.Head0
import HandS.Head1
import HandS.Head2
import HandS.HeadHook1
import HandS.HeadHook4
import KE.KStateDown
import HandS.Head3
import PySem.Challenge.RW_cellplaces_k03_whole_terms
set_option Elab.async false
set_option linter.all false
set_option maxRecDepth 100000
set_option maxHeartbeats 4000000
/-! An own exception class called with one keyword: the maker takes it and lets it be, the own __init__ gets it. -/
namespace KwE
open PySem PySem.W PySem.Calls PyProof.Rows PySem.HandSPX
section
variable {prog : Program} {w : World} {A : Around} {E : Value → Shared → Prop} {R : Result → Shared → Prop} {hp : Heap} {gs : Array GenState} {dr : Drawn} {tk : Nat} {os : OsState}
variable {nm q : Str} {C N fI : Addr} {bs bm bmB : List Value} {hd : Bool} {sn : List Str} {sub : List Value} {ab : Bool} {col : Option Bool} {dd : Option Addr} {k0 k1 k2 k3 k5 : Option Value} {B new_ init_ : String} {us : List Value} {kn : Str} {kv : Value}
/-- what the class's line says of the base's names -/
structure Line (B : String) (C : Addr) (bm : List Value) : Prop where
  b : (Value.ref C :: bm).contains (.type B) = true
  a : (Value.ref C :: bm).contains (.type "AttributeError") = false
  n : (Value.ref C :: bm).contains (.type "NameError") = false
theorem Line.of (F : ExcBaseFacts B new_ init_ bmB) (same : ∀ X : String, bm.contains (.type X) = bmB.contains (.type X)) : Line B C bm := by
  constructor <;> rw [List.contains_cons, same]
  · rw [F.hasB, Bool.or_true]
  · rw [F.noAttr]; rfl
  · rw [F.noName]; rfl
/-- the maker's own check -/
theorem maker_ok {M : Model} {Q : Unit → Shared → Prop} (F : ExcBaseFacts B new_ init_ bmB) (L : Line B C bm) (at_ : hp.get? C = some (excClassObj nm q C N bs bm hd sn sub ab col dd k0 k1 k2 k3 k5 new_)) (h : Q () ⟨hp, gs, dr, tk, os⟩) :
    wpAny M A (checkBuiltinCall new_ ⟨.ref C :: us, [(kn, kv)]⟩) Q E ⟨hp, gs, dr, tk, os⟩ := by
  have star := F.noStar
  simp only [checkBuiltinCall, F.newKind, F.newSplit, F.newRow]
  repeat' first
    | refine wpAny_loadPart_at at_ ?_
    | (refine wpAny_isSubtype_exc at_ ?_
       rw [L.b])
    | refine wpAny_staticBase_exc at_ ?_
    | refine wpAny_madeBy_exc at_ ?_
    | simp only [bne_self_eq_false, Bool.false_eq_true, if_false]
    | wp_step
  exact h
/-- the maker: a tuple of the plain arguments, then the exception over it -/
theorem maker_does (F : ExcBaseFacts B new_ init_ bmB) (L : Line B C bm) (at_ : hp.get? C = some (excClassObj nm q C N bs bm hd sn sub ab col dd k0 k1 k2 k3 k5 new_)) (short : us.length ≤ sizeLine)
    (h : R (.ok (.ret (.ref (hp.objs.size + 1)))) ⟨(hp.push (kdv_tup us)).push (excO C hp.objs.size), gs, dr, tk, os⟩) : codeAny (model prog w) A (.builtin new_ ⟨.ref C :: us, [(kn, kv)]⟩) R ⟨hp, gs, dr, tk, os⟩ := by
  have ends := F.ends
  refine codeAny_builtinAt F.entry ?_
  unfold Builtin.«BaseException.__new__»
  refine PySem.wpAt_bind ?_
  show PySem.wpAt _ _ _ (stack >>= _) _ _ _
  refine PySem.wpAt_bind (PySem.wpAt_stack ?_)
  intro _ _
  refine PySem.wpAt_of_wpAny ?_
  wp_walk
  refine PySem.wpAt_of_wpAny ?_
  rw [F.owner]
  repeat' first
    | with_reducible refine wpAny_madeHere_exc F.canon at_ ?_
    | with_reducible refine wpAny_loadPart_at at_ ?_
    | (with_reducible refine wpAny_isSubtype_exc at_ ?_
       first
         | rw [L.b]
         | rw [L.a]
         | rw [L.n])
    | wp_step
  show R _ _
  rw [Heap.size_push]
  exact h
/-- type.__call__: the maker, then the own __init__ -/
theorem class_does {Q : PySem.Fin → Shared → Prop} (F : ExcBaseFacts B new_ init_ bmB) (L : Line B C bm) (at_ : hp.get? C = some (excClassObj nm q C N bs bm hd sn sub ab col dd k0 k1 k2 k3 k5 new_)) (short : us.length ≤ sizeLine)
    (ini : W.Looks (model prog w) hp (typeLookup (.ref C) "__init__") (some (.ref fI))) (bind : ∀ self, W.Looks (model prog w) hp (bindSpecial (.ref fI) self) (.ref fI, [self]))
    (h : codeAny (model prog w) A (.call (.ref fI) ⟨.ref (hp.objs.size + 1) :: us, [(kn, kv)]⟩)
      (fun r s' => match r with | .ok (.ret v) => v = .none ∧ Q (.done (.ret (.ref (hp.objs.size + 1)))) s' | .ok _ => False | .error e => E e s') ⟨(hp.push (kdv_tup us)).push (excO C hp.objs.size), gs, dr, tk, os⟩) :
    wpAny (model prog w) A (Builtin.«type.__call__» ⟨.ref C :: us, [(kn, kv)]⟩) Q E ⟨hp, gs, dr, tk, os⟩ := by
  have kept : ∀ b o, hp.get? b = some o → ((hp.push (kdv_tup us)).push (excO C hp.objs.size)).get? b = some o := fun _ _ z => Heap.get?_push_of_some _ (Heap.get?_push_of_some _ z)
  have there : ((hp.push (kdv_tup us)).push (excO C hp.objs.size)).get? (hp.objs.size + 1) = some (excO C hp.objs.size) := by heap_get
  have own_ : (Value.ref C :: bm).contains (.ref C) = true := by simp
  repeat' first
    | with_reducible refine wpAny_loadPart_at at_ ?_
    | with_reducible refine wpAny_madeBy_exc at_ ?_
    | wp_step
  refine codeAny_call_builtin_code (Code.quiet_builtin _ F.quiet) (maker_ok F L at_ (maker_does F L at_ short ?_))
  show wpAny _ _ _ _ _ _
  unfold isInstance
  repeat' first
    | with_reducible refine wpAny_loadPart_at there ?_
    | (with_reducible refine wpAny_isSubtype_exc (kept _ _ at_) ?_
       rw [own_])
    | wp_step
  show wpAny _ _ (typeLookup (.ref C) _) _ _ _
  refine (ini.keeps kept).at (wpAny_holding (wpAny_bind (((bind _).keeps kept).at (wpAny_bind (wpAny_call (codeAny_mono h ?_))))))
  intro r s' z
  match r, z with
  | .error _, z => exact z
  | .ok (.ret _), ⟨rfl, z⟩ =>
    first
      | exact wpAny_pure (wpAny_pure z)
      | (wp_walk; exact z)
/-- C(.., kn=kv) -/
theorem call_kw (F : ExcBaseFacts B new_ init_ bmB) (same : ∀ X : String, bm.contains (.type X) = bmB.contains (.type X)) (at_ : hp.get? C = some (excClassObj nm q C N bs bm hd sn sub ab col dd k0 k1 k2 k3 k5 new_)) (short : us.length ≤ sizeLine)
    (ini : W.Looks (model prog w) hp (typeLookup (.ref C) "__init__") (some (.ref fI))) (bind : ∀ self, W.Looks (model prog w) hp (bindSpecial (.ref fI) self) (.ref fI, [self]))
    (h : codeAny (model prog w) (A.under (.builtin "type.__call__" ⟨.ref C :: us, [(kn, kv)]⟩)) (.call (.ref fI) ⟨.ref (hp.objs.size + 1) :: us, [(kn, kv)]⟩) (InitBack (hp.objs.size + 1) R) ⟨(hp.push (kdv_tup us)).push (excO C hp.objs.size), gs, dr, tk, os⟩) :
    codeAny (model prog w) A (.call (.ref C) ⟨us, [(kn, kv)]⟩) R ⟨hp, gs, dr, tk, os⟩ := by
  have g1 := tc_lookup
  have g2 := tc_bind (.ref C)
  have g3 := tc_sub
  have ty : (⟨hp, gs, dr, tk, os⟩ : Shared).TypeIs (.ref C) "type" := ⟨_, at_, rfl⟩
  have chk : ∀ {A' : Around} {E' : Value → Shared → Prop} {Q : Unit → Shared → Prop}, Q () ⟨hp, gs, dr, tk, os⟩ → wpAny (model prog w) A' (checkBuiltinCall "type.__call__" ⟨.ref C :: us, [(kn, kv)]⟩) Q E' ⟨hp, gs, dr, tk, os⟩ := by
    intro A' E' Q z
    simp only [checkBuiltinCall, tc_kind, tc_split]
    repeat (any_goals (first | assumption | with_reducible refine wpAny_loadPart_at at_ ?_ | with_reducible refine wpAny_onRaise ?_ | with_reducible refine wpAny_map ?_ | wp_step))
  refine codeAny_of_tree ?_
  show wpAny _ _ (callAny (.ref C) _) _ _ _
  repeat (any_goals (first | assumption | with_reducible refine wpAny_loadPart_at at_ ?_ | wp_step))
  refine ⟨rfl, codeAny_call_builtin_at (Code.quiet_builtin _ (by decide +kernel)) entry_typeCall (chk (class_does F (.of F same) at_ short ini bind (codeAny_mono h ?_)))⟩
  intro r s' z
  rcases r with _ | (_ | _ | _ | _) <;> exact z
end
end KwE

set_option Elab.async false
set_option linter.all false
set_option maxRecDepth 100000
set_option maxHeartbeats 4000000
namespace PySem.W
open PySem PySem.Spec PySem.Calls PyProof.Rows
section
variable {prog : Program} {w : World} {A : Around} {E : Value → Shared → Prop} {s : Shared} {K : Frag} {x D : Addr} {ox : Obj} {od : Option Obj}
/-- a data descriptor of the class goes ahead of the object's own dict -/
theorem found_data {C : Addr} {name : Str} {at_ get : Value} (hc : (clsIn K C).isSome = true) (h1 : findIn K (.ref C) name = some (some at_)) (h2 : specialIn K at_ "__get__" = some (some get)) (h3 : takesIn K at_ = some true) : findObj K C od name = some (.bind get at_) := by
  cases z : clsIn K C with
  | none => rw [z] at hc; cases hc
  | some cd => simp [findObj, z, h1, h2, h3]
/-- x.__class__ of an exception of an own class, whatever attributes it has -/
theorem class_of_exc {Q : Option Value → Shared → Prop} (T : L2.ExcC K D) (X : K.In s.heap) (I : InstAt s.heap x ox D od) (h : Q (some (.ref D)) { s with toks := s.toks + 1 }) : wpAny (model prog w) A (getAttr? (.ref x) "__class__") Q E s := by
  have has : (clsIn K D).isSome = true := by
    obtain ⟨cd, z, _⟩ := any_some T.hd
    rw [z]
    rfl
  obtain ⟨hp, gs, dr, tk, os⟩ := s
  have kind := I.type (M := model prog w)
  have get_ := looks_findIn (M := model prog w) X T.hg
  have hook := looks_findIn (M := model prog w) X T.hk
  have find_ := looks_find (M := model prog w) X I (found_data (od := od) has T.ha T.hn T.ht)
  have base_ : Looks (model prog w) hp (isInstance (.ref x) (.type "BaseException")) true := kind.andThen (looks_subIn X T.hs)
  have other : (Value.builtin "BaseException.__getattribute__" == Value.builtin "object.__getattribute__") = false := by decide +kernel
  unfold getAttr? getAttrBy? getAttrBy
  refine wpAny_bind (wpAny_mkText (wpAny_bind (wpAny_attempt (wpAny_holding (wpAny_bind (kind.at (wpAny_bind (get_.at ?_))))))))
  show wpAny _ _ (if (onTheHeap (Value.ref D) && Value.builtin "BaseException.__getattribute__" == Value.builtin "object.__getattribute__") = true then _ else _) _ _ _
  rw [other, Bool.and_false, if_neg Bool.false_ne_true]
  unfold getAttrByItsOwn hookBefore
  rw [if_pos (show onTheHeap (Value.ref D) = true from rfl)]
  refine wpAny_bind (hook.at (wpAny_bind (wpAny_attempt (wpAny_holding ?_))))
  unfold callGetattribute
  rw [show (false && onTheHeap (Value.builtin "BaseException.__getattribute__")) = false from rfl, if_neg Bool.false_ne_true]
  unfold boundAndCalled
  rw [PySem.F.excAttr_ValueError.ga.bind (.ref x)]
  refine wpAny_bind (wpAny_pure ?_)
  show wpAny _ _ (call (.builtin "BaseException.__getattribute__") [.ref x, .str "__class__" tk]) _ _ _
  refine wpAny_call (codeAny_call_builtin PySem.F.excAttr_ValueError.ga.plain PySem.F.entry_bexc_ga (@check_slot (model prog w) _ _ ⟨hp, gs, dr, tk + 1, os⟩ "BaseException.__getattribute__" "BaseException" "__getattribute__" (.ref x) [.str "__class__" tk] [] _ (by decide +kernel) (by decide +kernel) base_ (PySem.F.args_bexc_ga (.ref x) (.str "__class__" tk)) ?_))
  unfold Builtin.«object.__getattribute__»
  refine wpAny_bind (wpAny_of_eq (a := ((Value.ref x : Value), [Value.str "__class__" tk])) (by first | rfl | (simp only [slotArgs]; rfl)) (wpAny_bind (wpAny_pure (wpAny_bind (kind.at (wpAny_bind (find_.at ?_)))))))
  show wpAny _ _ (holding [Value.builtin "object.__class__"] (call (.builtin "getset_descriptor.__get__") [.builtin "object.__class__", .ref x, .ref D]) >>= ret) _ _ _
  refine wpAny_bind (wpAny_holding (wpAny_call (class_get (s := ⟨hp, gs, dr, tk + 1, os⟩) (ox := ox) (od := od) X I T.hm (wpAny_pure ?_))))
  show wpAny _ _ (handedOut (.ref D)) _ _ _
  rw [handedOut_of (v := .ref D) rfl]
  first
    | exact wpAny_pure (wpAny_pure h)
    | exact wpAny_pure (wpAny_bind (wpAny_pure (wpAny_pure h)))
    | exact wpAny_pure h
/-- isinstance may ask such an exception -/
theorem kit_exc (T : L2.ExcC K D) : KitX K (.ref x) (.ref D) (fun h => InstAt h x ox D od) := by
  have written : ∃ o, K.lookup D = some o ∧ ∀ h : Heap, K.In h → h.get? D = some o := by
    obtain ⟨cd, z, _⟩ := any_some T.hd
    unfold clsIn at z
    split at z
    · exact ⟨_, by assumption, fun h X => X _ _ (by assumption)⟩
    · cases z
  have plain : ∀ {M : Model} {h : Heap}, K.In h → Looks M h (isType (.ref D)) true := by
    intro M h X A' Q' E' s' k q
    obtain ⟨cd, z, _⟩ := any_some T.hd
    unfold clsIn at z
    split at z
    · rename_i ho
      unfold isType loadHead
      exact wpAny_bind (wpAny_loadPart (k _ _ (X _ _ ho)) (wpAny_pure q))
    · cases z
  refine ⟨fun _ _ _ I => I.type, fun _ _ X _ => plain X, fun h tp dd its n sl X htp => ?_, fun X I k => class_of_exc T X I k⟩
  refine Bool.eq_false_iff.mpr fun q => ?_
  obtain rfl : D = tp := Value.ref.inj (beq_iff_eq.mp q)
  obtain ⟨cd, z, _⟩ := any_some T.hd
  unfold clsIn at z
  split at z
  · rename_i ho
    cases (X _ _ ho).symm.trans htp
  · cases z
end
end PySem.W
namespace L2
open PySem PySem.Spec PyProof.Rows
/-- an exception object of the own class at C: with its attributes, or bare -/
inductive ExT (H : Hp) (e C : Addr) : List (Str × V) → Prop where
  | own {d : Addr} {fs : List (Str × V)} (h1 : H e = some (exo e C (some d))) (h2 : H d = some (exd d fs)) : ExT H e C fs
  | bare (h : H e = some (ExO (.ref C) e)) : ExT H e C []
theorem ExT.same {H H' : Hp} {e C : Addr} {fs : List (Str × V)} (S : Same H H') : ExT H e C fs → ExT H' e C fs
  | .own h1 h2 => .own (S _ _ h1) (S _ _ h2)
  | .bare h => .bare (S _ _ h)
section
variable {X : Cx} {pins : List (Addr × Obj)} {σ : St} {H : Hp} {s : Shared} {e C : Addr} {fs : List (Str × V)}
theorem ExT.inst (I : Inv X pins σ H s) (h : ExT H e C fs) : ∃ ox od, PySem.W.InstAt s.heap e ox C od ∧ (∀ f v, fs.lookup f = some v → ∃ o u, od = some o ∧ PySem.W.lookIn f o = some (some u) ∧ RelV v u) := by
  cases h with
  | own h1 h2 =>
    obtain ⟨t1, ho⟩ := exo_at I.hok h1
    obtain ⟨mA, hns, rel⟩ := exd_at I.hok h2
    obtain ⟨od, hod, hl⟩ := lookIn_ns hns
    refine ⟨_, some od, ⟨ho, rfl, rfl, hod⟩, fun f v hf => ?_⟩
    obtain ⟨u, hu, ru⟩ := RelO.some_of (v := v) (o := mA f) (by rw [← hf]; exact rel f)
    exact ⟨od, u, rfl, by rw [hl, hu], ru⟩
  | bare h =>
    have z : ObjOk X.prog X.w H s.heap e (ExO (.ref C) e) := I.hok _ _ h
    obtain ⟨⟨oe, vs, ho, hz, hd, _, _, _⟩, _, _⟩ := z
    refine ⟨oe, none, ⟨ho, hz.1, by unfold PySem.W.notCls; rw [hd], by rw [hz.2]; trivial⟩, fun f v hf => by cases hf⟩
end
/-- isinstance(e, c) of an exception that is a value -/
def rIsX (K : PySem.W.Frag) : List V → Hp → VK → Prop := fun xs H Q => ∃ (e D : Addr) (fs : List (Str × V)) (c : V) (u : Value) (b : Bool), xs = [.ref e, c] ∧ ClsV c u ∧ ExT H e D fs ∧ ExcC K D ∧ PySem.W.kitOne K (.ref D) u = some b ∧ Q (.bl b) H
theorem call_isX {X : Cx} : CallR X (.builtin "isinstance") (rIsX X.K) := by
  intro pins s σ H xs us Q I r h
  obtain ⟨e, D, fs, c, u, b, rfl, k, ex, T, hk, q⟩ := h
  obtain ⟨u1, u2, rfl, r1, r2⟩ := vals2 r
  have e2 := k.eq r2
  subst e2
  obtain rfl : u1 = Value.ref e := r1
  obtain ⟨ox, od, J, _⟩ := ex.inst I
  exact PySem.W.kia_one (PySem.W.kit_exc T) I.kIn J hk (fun z => nomatch z) fun tk => ⟨.bl b, H, I.tok tk, rfl, q⟩
/-- e.f of an exception that is a value -/
def tFldE (K : PySem.W.Frag) (te : TE) (f : Str) : TE := fun σ H Q => te σ H fun x H1 => ∃ (e C : Addr) (fs : List (Str × V)) (v : V), x = .ref e ∧ ExT H1 e C fs ∧ ExcC K C ∧ PySem.W.findIn K (.ref C) f = some none ∧ fs.lookup f = some v ∧ Q v H1
theorem pe_fldE {X : Cx} {e : Expr} {te : TE} {pos : Pos} {n : Str} (he : PE X e te) (hb : attributeBase e n X.env (eval e X.env) = eval e X.env := by rfl) : PE X (.Attribute e n pos) (tFldE X.K te n) := by
  refine ⟨fun pins s σ H Q I h => ?_⟩
  refine attr_of hb (thn (he.run pins s σ H _ I h) fun u s1 hh => ?_)
  obtain ⟨x, H1, I1, rx, e, C, fs, v, rfl, ex, T, hno, l, q⟩ := hh
  obtain rfl : u = Value.ref e := rx
  obtain ⟨ox, od, J, lk⟩ := ex.inst I1
  obtain ⟨o, u, rfl, hu, ru⟩ := lk _ _ l
  exact HandSPX.exc_get I1.kIn J T.hg T.hk T.hs (PySem.W.findObj_own T.hd hno rfl hu) (handed_of ru) ⟨v, H1, I1.tok _, ru, q⟩
/-- __init__(self, f): self.f = f -/
def spExI (K : PySem.W.Frag) (f : Str) : Sp := fun vs H Q _ => ∃ (a C : Addr) (y : V), vs = [.ref a, y] ∧ OexC K C ∧ PySem.W.findIn K (.ref C) f = some none ∧ H a = some (exo a C none) ∧
  ∀ dx, H dx = none → dx ≠ a → Q .non (upd (upd H dx (exd dx [(f, y)])) a (exo a C (some dx)))
/-- C called, its __init__ as above: the new exception's one attribute is y -/
theorem run_mko {X : Cx} {C fI : Addr} {f : Str} {k : Nat} {fd : FuncData} {ps : List Str} {pins : List (Addr × Obj)} {σ : St} {H1 : Hp} {s1 : Shared} {Q : VK} {us : List Value} {kw : List (Str × Value)} {y : V} {u : Value} (T : OexC X.K C) (iC : PySem.W.findIn X.K (.ref C) "__init__" = some (some (.ref fI)))
    (tI : PySem.W.typeIn X.K (.ref fI) = some (.type "function")) (noF : PySem.W.findIn X.K (.ref C) f = some none) (F1 : FnOk X.prog X.w X.K X.mg X.base CX0 k fI fd ps (spExI X.K f)) (hr : Room (k + 1) X.A) (hkw : kw = [] ∨ ∃ q, kw = [q]) (hus : us.length ≤ sizeLine)
    (hb : ∀ (self : Value) (s' : Shared), X.K.In s'.heap → BindsTo s' fd ⟨self :: us, kw⟩ (ps.zip [self, u])) (ry : RelV y u) (I1 : Inv X pins σ H1 s1)
    (q : ∀ a H', Same H1 H' → H1 a = none → ExT H' a C [(f, y)] → Q (.ref a) H') : wpAny (model X.prog X.w) X.A (call (.ref C) us kw) (EP X pins σ Q) X.xe s1 := by
  obtain ⟨nm, qn, N, bs, bm, sn, sub, ab, col, dd, k0, k1, k2, k3, k5, hC, hbm⟩ := T.cls
  obtain ⟨hp, g, dr, tk, os⟩ := s1
  have hsz : hp.objs.size ≤ hp.objs.size + 1 := Nat.le_succ _
  have hn : H1 (hp.objs.size + 1) = none := I1.hok.fresh hsz
  have kk : ∀ b o, hp.get? b = some o → ((hp.push (PySem.W.kdv_tup us)).push (PySem.HandSPX.excO C hp.objs.size)).get? b = some o := fun b o e => Heap.get?_push_of_some _ (Heap.get?_push_of_some _ e)
  have hget : ((hp.push (PySem.W.kdv_tup us)).push (PySem.HandSPX.excO C hp.objs.size)).get? (hp.objs.size + 1) = some (PySem.HandSPX.excO C hp.objs.size) := by heap_get
  have I2 : Inv X pins σ (upd H1 (hp.objs.size + 1) (exo (hp.objs.size + 1) C none)) ⟨(hp.push (PySem.W.kdv_tup us)).push (PySem.HandSPX.excO C hp.objs.size), g, dr, tk, os⟩ :=
    I1.laid (t' := tk) (a := hp.objs.size + 1) (o := exo (hp.objs.size + 1) C none) (h' := (hp.push (PySem.W.kdv_tup us)).push (PySem.HandSPX.excO C hp.objs.size)) kk hsz (exo_ok hget)
  have hq : spExI X.K f [V.ref (hp.objs.size + 1), y] (upd H1 (hp.objs.size + 1) (exo (hp.objs.size + 1) C none)) (fun v H2 => v = .non ∧ Q (.ref (hp.objs.size + 1)) H2) E0 := by
    refine ⟨_, C, y, rfl, T, noF, upd_same, fun dx hd ne => ⟨rfl, q _ _ (fun b o e => ?_) hn (.own upd_same (by rw [upd_ne ne, upd_same]))⟩⟩
    have hb1 : b ≠ hp.objs.size + 1 := ne_of_none e hn
    have hd1 : H1 dx = none := by
      rw [upd_ne ne] at hd
      exact hd
    rw [upd_ne hb1, upd_ne (ne_of_none e hd1), upd_ne hb1]
    exact e
  have r2 : Vals [V.ref (hp.objs.size + 1), y] [Value.ref (hp.objs.size + 1), u] := .cons rfl (.cons ry .nil)
  have fin : ∀ (r : Result) (s' : Shared), CR CX0 X.stack X.prog X.w (upd H1 (hp.objs.size + 1) (exo (hp.objs.size + 1) C none)) ⟨(hp.push (PySem.W.kdv_tup us)).push (PySem.HandSPX.excO C hp.objs.size), g, dr, tk, os⟩ (fun v H2 => v = .non ∧ Q (.ref (hp.objs.size + 1)) H2) E0 r s' →
      PySem.W.InitBack (hp.objs.size + 1) (fun r s' => match r with | .ok (.ret v) => EP X pins σ Q v s' | .ok _ => False | .error er => X.xe er s') r s' := fun r s' hq' => by
    cases r with
    | error er => exact False.elim hq'
    | ok fl =>
      cases fl with
      | ret uu =>
        obtain ⟨v, H', I3, rv, ev, q3⟩ := I2.after hq'
        subst ev
        exact ⟨rv, ⟨V.ref (hp.objs.size + 1), H', I3, rfl, q3⟩⟩
      | next => exact False.elim hq'
      | brk => exact False.elim hq'
      | cont => exact False.elim hq'
  rcases hkw with rfl | ⟨⟨kn, kv⟩, rfl⟩
  · refine wpAny_call (codeAny_mono (PySem.HandSPX.call_own F.excBase_ValueError (fun Y => PySem.HandSPX.refsVE_contains Y bm hbm) (I1.kIn _ _ hC) (PySem.W.looks_findIn I1.kIn iC) (fun self => PySem.W.bind_fn I1.kIn self tI) hus
      (codeAny_mono (F1.run _ X.stack _ _ ⟨Value.ref (hp.objs.size + 1) :: us, []⟩ [Value.ref (hp.objs.size + 1), u] _ _ E0 (hr.make C us []) (I2.env0.make C us []) (hb _ _ I2.kIn) r2 hq) fin)) fun r s' z => ?_)
    rcases r with e | (v | _ | _ | _) <;> exact z
  · refine wpAny_call (codeAny_mono (KwE.call_kw F.excBase_ValueError (fun Y => PySem.HandSPX.refsVE_contains Y bm hbm) (I1.kIn _ _ hC) hus (PySem.W.looks_findIn I1.kIn iC) (fun self => PySem.W.bind_fn I1.kIn self tI)
      (codeAny_mono (F1.run _ X.stack _ _ ⟨Value.ref (hp.objs.size + 1) :: us, [(kn, kv)]⟩ [Value.ref (hp.objs.size + 1), u] _ _ E0 (hr.make C us [(kn, kv)]) (I2.env0.make C us [(kn, kv)]) (hb _ _ I2.kIn) r2 hq) fin)) fun r s' z => ?_)
    rcases r with e | (v | _ | _ | _) <;> exact z
end L2

set_option Elab.async false
set_option linter.all false
set_option maxRecDepth 100000
set_option maxHeartbeats 4000000
namespace L2
open PySem PySem.Spec PyProof.Rows
/-- an own exception class at C, called x, whose __init__ sets the one attribute f (None where it is not given) -/
structure ExM (P : Program) (w : World) (K : PySem.W.Frag) (mg : Str → Option Value) (base : Heap) (x : Str) (C : Addr) (f : Str) : Prop where
  mgC : mg x = some (.ref C)
  oex : OexC K C
  xc : ExcC K C
  noF : PySem.W.findIn K (.ref C) f = some none
  hmk : ∃ (fI : Addr) (fd : FuncData) (ps : List Str), PySem.W.findIn K (.ref C) "__init__" = some (some (.ref fI)) ∧ PySem.W.typeIn K (.ref fI) = some (.type "function") ∧ FnOk P w K mg base CX0 1 fI fd ps (spExI K f) ∧
    (∀ (self u : Value) (s' : Shared), K.In s'.heap → BindsTo s' fd ⟨[self, u], []⟩ (ps.zip [self, u])) ∧ (∀ (self u : Value) (s' : Shared), K.In s'.heap → BindsTo s' fd ⟨[self], [(f, u)]⟩ (ps.zip [self, u])) ∧
    (∀ (self : Value) (s' : Shared), K.In s'.heap → BindsTo s' fd ⟨[self], []⟩ (ps.zip [self, .none]))
/-- an own exception class at C, called x, without an __init__ of its own -/
structure ExB (K : PySem.W.Frag) (mg : Str → Option Value) (x : Str) (C : Addr) : Prop where
  mgC : mg x = some (.ref C)
  xc : ExcC K C
  kC : PySem.W.keepIn K (.ref C) = true
  is : ∃ bmB, ExcBaseFacts "ValueError" "ValueError.__new__" "ValueError.__init__" bmB ∧ PySem.W.excIn K C bmB "ValueError.__new__" = true
/-- the new exception's one attribute -/
def tMk1 (C : Addr) (f : Str) (te : TE) : TE := fun σ H Q => te σ H fun y H1 => ∀ a H', Same H1 H' → H1 a = none → ExT H' a C [(f, y)] → Q (.ref a) H'
def tMk0 (C : Addr) : TE := fun _ H Q => ∀ a H', Same H H' → H a = none → ExT H' a C [] → Q (.ref a) H'
theorem one_line : (1 : Nat) ≤ sizeLine := by rw [sizeLine_eq]; omega
section
variable {X : Cx} {x f : Str} {C : Addr} {e : Expr} {te : TE} {p pos kpos : Pos}
theorem pe_ex1 (T : ExM X.prog X.w X.K X.mg X.base x C f) (hr : Room 2 X.A) (hg : Gl X x) (he : PE X e te) (hdb : (x == ("__debug__" : Str)) = false := by decide) (hs : starEach [e] X.env = (false, eval e X.env) :: starEach [] X.env := by rfl)
    (hpl : (backTo pos (starEach [] X.env)).any (·.1) = false := by rfl) : PE X (.Call (.Name x p) [e] [] pos) (tMk1 C f te) := by
  obtain ⟨fI, fd, ps, iC, tI, F1, b2, bK, b1⟩ := T.hmk
  refine ⟨fun pins s σ H Q I h => ?_⟩
  refine wpAny_Call_Name_kw (ld_glob I hg T.mgC ?_ hdb)
  refine PySem.W.callWith_K (h₀ := X.base) I.ok.mod.kin T.oex.kC ?_ hs hpl
  rw [hs]
  show wpAny _ _ (spliced ((false, eval e X.env) :: backTo pos (starEach [] X.env))) _ _ s
  refine Calls.spliced_cons (thn (he.run pins s σ H _ I h) fun u s1 hh => ?_)
  obtain ⟨y, H1, I1, ry, q⟩ := hh
  refine Calls.spliced_nil ⟨I1.kIn, ?_⟩
  show wpAny _ _ (call (.ref C) [u]) _ _ _
  exact run_mko T.oex iC tI T.noF F1 hr (.inl rfl) one_line (fun self s' X' => b2 self u s' X') ry I1 q
theorem pe_exK (T : ExM X.prog X.w X.K X.mg X.base x C f) (hr : Room 2 X.A) (hg : Gl X x) (he : PE X e te) (hdb : (x == ("__debug__" : Str)) = false := by decide)
    (hall : (backToKw pos (keywordEach [⟨some f, e, kpos⟩] X.env)).all (·.1.isSome) = true := by rfl) (hks : (backToKw pos (keywordEach [⟨some f, e, kpos⟩] X.env)).filterMap (·.1) = [f] := by rfl)
    (hpl : ((backTo pos (starEach [] X.env)).any (·.1) || (backToKw pos (keywordEach [⟨some f, e, kpos⟩] X.env)).any (·.1.isNone)) = false := by rfl) : PE X (.Call (.Name x p) [] [⟨some f, e, kpos⟩] pos) (tMk1 C f te) := by
  obtain ⟨fI, fd, ps, iC, tI, F1, b2, bK, b1⟩ := T.hmk
  refine ⟨fun pins s σ H Q I h => ?_⟩
  refine wpAny_Call_Name_kw (ld_glob I hg T.mgC ?_ hdb)
  refine PySem.W.callWith_KW0 (h₀ := X.base) I.ok.mod.kin T.oex.kC hall ?_ hpl
  show wpAny _ _ (evalAll ((do let v ← eval e X.env; standAt pos; pure v) :: [])) _ _ s
  refine wpAny_evalAll_cons (wpAny_bind (thn (he.run pins s σ H _ I h) fun u s1 hh => wpAny_bind (wpAny_standAt (wpAny_pure ?_))))
  obtain ⟨y, H1, I1, ry, q⟩ := hh
  refine wpAny_evalAll_nil ⟨I1.kIn, ?_⟩
  rw [hks]
  show wpAny _ _ (call (.ref C) [] [(f, u)]) _ _ _
  exact run_mko (us := []) T.oex iC tI T.noF F1 hr (.inr ⟨_, rfl⟩) (Nat.zero_le _) (fun self s' X' => bK self u s' X') ry I1 q
theorem pe_ex0 (T : ExM X.prog X.w X.K X.mg X.base x C f) (hr : Room 2 X.A) (hg : Gl X x) (hdb : (x == ("__debug__" : Str)) = false := by decide) : PE X (.Call (.Name x p) [] [] pos) (tMk1 C f (tC .non)) := by
  obtain ⟨fI, fd, ps, iC, tI, F1, b2, bK, b1⟩ := T.hmk
  refine ⟨fun pins s σ H Q I h => ?_⟩
  refine wpAny_Call_Name_kw (ld_glob I hg T.mgC ?_ hdb)
  exact PySem.W.callWith_K0 I.kIn T.oex.kC (run_mko (us := []) (y := .non) (u := .none) T.oex iC tI T.noF F1 hr (.inl rfl) (Nat.zero_le _) (fun self s' X' => b1 self s' X') rfl I h)
theorem pe_exB (T : ExB X.K X.mg x C) (hg : Gl X x) (hdb : (x == ("__debug__" : Str)) = false := by decide) : PE X (.Call (.Name x p) [] [] pos) (tMk0 C) := by
  obtain ⟨bmB, F, q⟩ := T.is
  refine ⟨fun pins s σ H Q I h => ?_⟩
  refine wpAny_Call_Name_kw (ld_glob I hg T.mgC ?_ hdb)
  refine PySem.W.callWith_K0 I.kIn T.kC ?_
  show wpAny _ _ (call (.ref C) []) _ _ _
  obtain ⟨bm, N, nm, qn, bs, hdct, sn, sub, ab, col, dd, k0, k1, k2, k3, k5, mN, hC, hN, hni, T'⟩ := exc_obj I.kIn q
  refine wpAny_call_exc_subT F T' hC hN hni (fun h' a hm => ?_) (Nat.zero_le _)
  have hn : H a = none := I.hok.gone hm.new
  obtain ⟨t, ht, _, _⟩ := hm.there
  exact ⟨.ref a, upd H a (ExO (.ref C) a), I.laidN hm.keeps hm.new hn (exO_ok ht ⟨rfl, rfl⟩ rfl rfl rfl (show 4 < 6 by decide)), rfl, h a _ (fun b o q => by rw [upd_ne (ne_of_none q hn)]; exact q) hn (.bare upd_same)⟩
end

end L2

set_option Elab.async false
set_option linter.all false
set_option maxRecDepth 100000
set_option maxHeartbeats 400000
namespace L2
open PySem PySem.Spec PyProof.Rows
def exArgs (f : Str) (p1 p2 p3 : Pos) : Arguments := { posonlyargs := [], args := [{ arg := "self", annotation := none, pos := p1 }, { arg := f, annotation := none, pos := p2 }], vararg := none, kwonlyargs := [], kw_defaults := [], kwarg := none, defaults := [.Constant .none 0 p3] }
def exBody (f : Str) (q1 q2 q3 q4 : Pos) : List Stmt := [.Assign [.Attribute (.Name "self" q1) f q2] (.Name f q3) q4]
def exScope (f : Str) : Scope := { kind := .function, names := [(PySem.Str.ofString "self", .local), (f, .local)], isGenerator := false, isCoroutine := false, more := [] }
section
variable {P : Program} {w : World} {K : PySem.W.Frag} {mg : Str → Option Value} {base : Heap} {x qual : Str} {C fI : Addr} {fd : FuncData} {p1 p2 p3 q1 q2 q3 q4 : Pos}
theorem one_none {its : List Value} (h : Vals [.non] its) : its = [.none] := by
  cases h with
  | cons r n =>
    cases n
    cases r
    rfl

theorem scEx_value : FnScope ["self", "value"] ["self", "value"] (exScope "value") := ⟨rfl, rfl, rfl, by decide +kernel, rfl, by decide +kernel, by decide +kernel⟩
theorem okEx_value (F : FunD K "__init__" qual (exArgs "value" p1 p2 p3) (exBody "value" q1 q2 q3 q4) (exScope "value") [.non] [] fI fd) : FnOk P w K mg base CX0 1 fI fd ["self", "value"] (spExI K "value") := by
  refine F.ok scEx_value (fun vs H Q E h => ?_) (fun cdv A outer s H vs Q E hr h => ?_)
  · obtain ⟨a, C, y, rfl, _⟩ := h
    rfl
  · obtain ⟨a, C, y, rfl, T, noF, ha, k⟩ := h
    exact ⟨_, pss_one (ps_ost (pv 0) (pv 1)), ⟨_, rfl, _, rfl, a, C, rfl, T, noF, .inl ⟨ha, k⟩⟩⟩
theorem bindEx_value (F : FunD K "__init__" qual (exArgs "value" p1 p2 p3) (exBody "value" q1 q2 q3 q4) (exScope "value") [.non] [] fI fd) :
    (∀ (self u : Value) (s' : Shared), K.In s'.heap → BindsTo s' fd ⟨[self, u], []⟩ ((["self", "value"] : List Str).zip [self, u])) ∧ (∀ (self u : Value) (s' : Shared), K.In s'.heap → BindsTo s' fd ⟨[self], [("value", u)]⟩ ((["self", "value"] : List Str).zip [self, u])) ∧
    (∀ (self : Value) (s' : Shared), K.In s'.heap → BindsTo s' fd ⟨[self], []⟩ ((["self", "value"] : List Str).zip [self, .none])) := by
  obtain ⟨oc, od, dV, kV, doc, pm, an, cdv, ct, osl, rfl, lk, hcd, hD, hK⟩ := F.ex
  rcases hD with ⟨e, _⟩ | ⟨_, T, o, its, m, rfl, lT, oT, rT⟩
  · cases e
  · obtain rfl := one_none rT
    refine ⟨fun self u s' X => BindsTo.of_looks fun M => ?_, fun self u s' X => BindsTo.of_looks fun M => ?_, fun self s' X => BindsTo.of_looks fun M => ?_⟩
    · have e : ∃ k, bindArgs (PySem.W.fnOf "__init__" qual (exArgs "value" p1 p2 p3) (exBody "value" q1 q2 q3 q4) (exScope "value") (.ref T) kV doc pm an cdv ct) ⟨[self, u], []⟩ = seqItems? (.ref T) >>= k ∧ k (some [Value.none].toArray) = pure ((["self", "value"] : List Str).zip [self, u]) := ⟨_, rfl, rfl⟩
      obtain ⟨k, e1, e2⟩ := e
      rw [e1]
      exact looks_items X lT oT (.of_pure e2)
    · have e : ∃ k, bindArgs (PySem.W.fnOf "__init__" qual (exArgs "value" p1 p2 p3) (exBody "value" q1 q2 q3 q4) (exScope "value") (.ref T) kV doc pm an cdv ct) ⟨[self], [("value", u)]⟩ = seqItems? (.ref T) >>= k ∧ k (some [Value.none].toArray) = pure ((["self", "value"] : List Str).zip [self, u]) := ⟨_, rfl, rfl⟩
      obtain ⟨k, e1, e2⟩ := e
      rw [e1]
      exact looks_items X lT oT (.of_pure e2)
    · have e : ∃ k, bindArgs (PySem.W.fnOf "__init__" qual (exArgs "value" p1 p2 p3) (exBody "value" q1 q2 q3 q4) (exScope "value") (.ref T) kV doc pm an cdv ct) ⟨[self], []⟩ = seqItems? (.ref T) >>= k ∧ k (some [Value.none].toArray) = pure ((["self", "value"] : List Str).zip [self, .none]) := ⟨_, rfl, rfl⟩
      obtain ⟨k, e1, e2⟩ := e
      rw [e1]
      exact looks_items X lT oT (.of_pure e2)
theorem exm_value (gC : mg x = some (.ref C)) (oex : OexC K C) (xc : ExcC K C) (noF : PySem.W.findIn K (.ref C) "value" = some none) (iC : PySem.W.findIn K (.ref C) "__init__" = some (some (.ref fI))) (tI : PySem.W.typeIn K (.ref fI) = some (.type "function"))
    (F : FunD K "__init__" qual (exArgs "value" p1 p2 p3) (exBody "value" q1 q2 q3 q4) (exScope "value") [.non] [] fI fd) : ExM P w K mg base x C "value" :=
  ⟨gC, oex, xc, noF, fI, fd, _, iC, tI, okEx_value F, bindEx_value F⟩

theorem scEx_name : FnScope ["self", "name"] ["self", "name"] (exScope "name") := ⟨rfl, rfl, rfl, by decide +kernel, rfl, by decide +kernel, by decide +kernel⟩
theorem okEx_name (F : FunD K "__init__" qual (exArgs "name" p1 p2 p3) (exBody "name" q1 q2 q3 q4) (exScope "name") [.non] [] fI fd) : FnOk P w K mg base CX0 1 fI fd ["self", "name"] (spExI K "name") := by
  refine F.ok scEx_name (fun vs H Q E h => ?_) (fun cdv A outer s H vs Q E hr h => ?_)
  · obtain ⟨a, C, y, rfl, _⟩ := h
    rfl
  · obtain ⟨a, C, y, rfl, T, noF, ha, k⟩ := h
    exact ⟨_, pss_one (ps_ost (pv 0) (pv 1)), ⟨_, rfl, _, rfl, a, C, rfl, T, noF, .inl ⟨ha, k⟩⟩⟩
theorem bindEx_name (F : FunD K "__init__" qual (exArgs "name" p1 p2 p3) (exBody "name" q1 q2 q3 q4) (exScope "name") [.non] [] fI fd) :
    (∀ (self u : Value) (s' : Shared), K.In s'.heap → BindsTo s' fd ⟨[self, u], []⟩ ((["self", "name"] : List Str).zip [self, u])) ∧ (∀ (self u : Value) (s' : Shared), K.In s'.heap → BindsTo s' fd ⟨[self], [("name", u)]⟩ ((["self", "name"] : List Str).zip [self, u])) ∧
    (∀ (self : Value) (s' : Shared), K.In s'.heap → BindsTo s' fd ⟨[self], []⟩ ((["self", "name"] : List Str).zip [self, .none])) := by
  obtain ⟨oc, od, dV, kV, doc, pm, an, cdv, ct, osl, rfl, lk, hcd, hD, hK⟩ := F.ex
  rcases hD with ⟨e, _⟩ | ⟨_, T, o, its, m, rfl, lT, oT, rT⟩
  · cases e
  · obtain rfl := one_none rT
    refine ⟨fun self u s' X => BindsTo.of_looks fun M => ?_, fun self u s' X => BindsTo.of_looks fun M => ?_, fun self s' X => BindsTo.of_looks fun M => ?_⟩
    · have e : ∃ k, bindArgs (PySem.W.fnOf "__init__" qual (exArgs "name" p1 p2 p3) (exBody "name" q1 q2 q3 q4) (exScope "name") (.ref T) kV doc pm an cdv ct) ⟨[self, u], []⟩ = seqItems? (.ref T) >>= k ∧ k (some [Value.none].toArray) = pure ((["self", "name"] : List Str).zip [self, u]) := ⟨_, rfl, rfl⟩
      obtain ⟨k, e1, e2⟩ := e
      rw [e1]
      exact looks_items X lT oT (.of_pure e2)
    · have e : ∃ k, bindArgs (PySem.W.fnOf "__init__" qual (exArgs "name" p1 p2 p3) (exBody "name" q1 q2 q3 q4) (exScope "name") (.ref T) kV doc pm an cdv ct) ⟨[self], [("name", u)]⟩ = seqItems? (.ref T) >>= k ∧ k (some [Value.none].toArray) = pure ((["self", "name"] : List Str).zip [self, u]) := ⟨_, rfl, rfl⟩
      obtain ⟨k, e1, e2⟩ := e
      rw [e1]
      exact looks_items X lT oT (.of_pure e2)
    · have e : ∃ k, bindArgs (PySem.W.fnOf "__init__" qual (exArgs "name" p1 p2 p3) (exBody "name" q1 q2 q3 q4) (exScope "name") (.ref T) kV doc pm an cdv ct) ⟨[self], []⟩ = seqItems? (.ref T) >>= k ∧ k (some [Value.none].toArray) = pure ((["self", "name"] : List Str).zip [self, .none]) := ⟨_, rfl, rfl⟩
      obtain ⟨k, e1, e2⟩ := e
      rw [e1]
      exact looks_items X lT oT (.of_pure e2)
theorem exm_name (gC : mg x = some (.ref C)) (oex : OexC K C) (xc : ExcC K C) (noF : PySem.W.findIn K (.ref C) "name" = some none) (iC : PySem.W.findIn K (.ref C) "__init__" = some (some (.ref fI))) (tI : PySem.W.typeIn K (.ref fI) = some (.type "function"))
    (F : FunD K "__init__" qual (exArgs "name" p1 p2 p3) (exBody "name" q1 q2 q3 q4) (exScope "name") [.non] [] fI fd) : ExM P w K mg base x C "name" :=
  ⟨gC, oex, xc, noF, fI, fd, _, iC, tI, okEx_name F, bindEx_name F⟩

theorem scEx_place : FnScope ["self", "place"] ["self", "place"] (exScope "place") := ⟨rfl, rfl, rfl, by decide +kernel, rfl, by decide +kernel, by decide +kernel⟩
theorem okEx_place (F : FunD K "__init__" qual (exArgs "place" p1 p2 p3) (exBody "place" q1 q2 q3 q4) (exScope "place") [.non] [] fI fd) : FnOk P w K mg base CX0 1 fI fd ["self", "place"] (spExI K "place") := by
  refine F.ok scEx_place (fun vs H Q E h => ?_) (fun cdv A outer s H vs Q E hr h => ?_)
  · obtain ⟨a, C, y, rfl, _⟩ := h
    rfl
  · obtain ⟨a, C, y, rfl, T, noF, ha, k⟩ := h
    exact ⟨_, pss_one (ps_ost (pv 0) (pv 1)), ⟨_, rfl, _, rfl, a, C, rfl, T, noF, .inl ⟨ha, k⟩⟩⟩
theorem bindEx_place (F : FunD K "__init__" qual (exArgs "place" p1 p2 p3) (exBody "place" q1 q2 q3 q4) (exScope "place") [.non] [] fI fd) :
    (∀ (self u : Value) (s' : Shared), K.In s'.heap → BindsTo s' fd ⟨[self, u], []⟩ ((["self", "place"] : List Str).zip [self, u])) ∧ (∀ (self u : Value) (s' : Shared), K.In s'.heap → BindsTo s' fd ⟨[self], [("place", u)]⟩ ((["self", "place"] : List Str).zip [self, u])) ∧
    (∀ (self : Value) (s' : Shared), K.In s'.heap → BindsTo s' fd ⟨[self], []⟩ ((["self", "place"] : List Str).zip [self, .none])) := by
  obtain ⟨oc, od, dV, kV, doc, pm, an, cdv, ct, osl, rfl, lk, hcd, hD, hK⟩ := F.ex
  rcases hD with ⟨e, _⟩ | ⟨_, T, o, its, m, rfl, lT, oT, rT⟩
  · cases e
  · obtain rfl := one_none rT
    refine ⟨fun self u s' X => BindsTo.of_looks fun M => ?_, fun self u s' X => BindsTo.of_looks fun M => ?_, fun self s' X => BindsTo.of_looks fun M => ?_⟩
    · have e : ∃ k, bindArgs (PySem.W.fnOf "__init__" qual (exArgs "place" p1 p2 p3) (exBody "place" q1 q2 q3 q4) (exScope "place") (.ref T) kV doc pm an cdv ct) ⟨[self, u], []⟩ = seqItems? (.ref T) >>= k ∧ k (some [Value.none].toArray) = pure ((["self", "place"] : List Str).zip [self, u]) := ⟨_, rfl, rfl⟩
      obtain ⟨k, e1, e2⟩ := e
      rw [e1]
      exact looks_items X lT oT (.of_pure e2)
    · have e : ∃ k, bindArgs (PySem.W.fnOf "__init__" qual (exArgs "place" p1 p2 p3) (exBody "place" q1 q2 q3 q4) (exScope "place") (.ref T) kV doc pm an cdv ct) ⟨[self], [("place", u)]⟩ = seqItems? (.ref T) >>= k ∧ k (some [Value.none].toArray) = pure ((["self", "place"] : List Str).zip [self, u]) := ⟨_, rfl, rfl⟩
      obtain ⟨k, e1, e2⟩ := e
      rw [e1]
      exact looks_items X lT oT (.of_pure e2)
    · have e : ∃ k, bindArgs (PySem.W.fnOf "__init__" qual (exArgs "place" p1 p2 p3) (exBody "place" q1 q2 q3 q4) (exScope "place") (.ref T) kV doc pm an cdv ct) ⟨[self], []⟩ = seqItems? (.ref T) >>= k ∧ k (some [Value.none].toArray) = pure ((["self", "place"] : List Str).zip [self, .none]) := ⟨_, rfl, rfl⟩
      obtain ⟨k, e1, e2⟩ := e
      rw [e1]
      exact looks_items X lT oT (.of_pure e2)
theorem exm_place (gC : mg x = some (.ref C)) (oex : OexC K C) (xc : ExcC K C) (noF : PySem.W.findIn K (.ref C) "place" = some none) (iC : PySem.W.findIn K (.ref C) "__init__" = some (some (.ref fI))) (tI : PySem.W.typeIn K (.ref fI) = some (.type "function"))
    (F : FunD K "__init__" qual (exArgs "place" p1 p2 p3) (exBody "place" q1 q2 q3 q4) (exScope "place") [.non] [] fI fd) : ExM P w K mg base x C "place" :=
  ⟨gC, oex, xc, noF, fI, fd, _, iC, tI, okEx_place F, bindEx_place F⟩
end
end L2

set_option Elab.async false
set_option linter.all false
set_option maxRecDepth 100000
set_option maxHeartbeats 1000000
namespace L2
open PySem PySem.Spec PyProof.Rows
/-- a def's promise where no repr is under way around it -/
structure FnG (P : Program) (w : World) (K : PySem.W.Frag) (mg : Str → Option Value) (base : Heap) (k : Nat) (f : Addr) (fd : FuncData) (ps : List Str) (sp : Sp) : Prop where
  len : ∀ vs H Q E, sp vs H Q E → vs.length = ps.length
  go : ∀ (A : Around) (outer : List Env) (s : Shared) (H : Hp) (args : Args) (us : List Value) (vs : List V) (Q : VK) (E : XK), A.guards = some [] → Room k A → Env0 P w K mg base A outer s H → BindsTo s fd args (ps.zip us) → Vals vs us →
    sp vs H Q E → codeAny (model P w) A (.call (.ref f) args) (CR CX0 outer P w H s Q E) s
theorem FnOk.toG {P : Program} {w : World} {K : PySem.W.Frag} {mg : Str → Option Value} {base : Heap} {k : Nat} {f : Addr} {fd : FuncData} {ps : List Str} {sp : Sp} (F : FnOk P w K mg base CX0 k f fd ps sp) : FnG P w K mg base k f fd ps sp :=
  ⟨F.len, fun A outer s H args us vs Q E _ => F.run A outer s H args us vs Q E⟩
section
variable {P : Program} {w : World} {K : PySem.W.Frag} {mg : Str → Option Value} {base : Heap}
theorem Fun.okG {x qual : Str} {st : Stmt} {f : Addr} {fd : FuncData} {N ps : List Str} {k : Nat} {sp : Sp} (F : Fun K x qual st f fd) (S : FnScope N ps (defScope st)) (len : ∀ vs H Q E, sp vs H Q E → vs.length = ps.length)
    (body : ∀ (cdv : Value) (A : Around) (outer : List Env) (s : Shared) (H : Hp) (vs : List V) (Q : VK) (E : XK), A.guards = some [] → Room k (A.deeper (envOfC qual (defScope st) s.heap.objs.size f cdv)) → sp vs H Q E →
      ∃ t, PSs (cxOf CX0 P w K mg base N qual (defScope st) f cdv A outer s H E).nox (defBody st) t ∧ t { nx := fun _ H' => Q .non H', rt := Q } (start N vs) H) : FnG P w K mg base (k + 1) f fd ps sp := by
  obtain ⟨oc, od, kV, doc, pm, an, cdv, ct, osl, rfl, lk, hcd⟩ := F.ex
  refine ⟨len, fun A outer s H args us vs Q E gA hr e0 hb r hsp => ?_⟩
  have kept : ∀ b o, base.get? b = some o → s.heap.get? b = some o := fun b o e => (e0.bs b o e).1
  have kinds : ∀ y ∈ ps.zip us, (defScope st).names.lookup y.1 = some .local ∨ ((defScope st).names.lookup y.1 = some .cell ∧ ((cellsFrom (s.heap.objs.size + 1) (defScope st).names []).lookup y.1).isSome = true) := by
    rintro ⟨n, v⟩ hy
    exact (S.par n (List.of_mem_zip hy).1).imp id fun q => ⟨q, PySem.W.cellsFrom_some _ _ _ (.inl q)⟩
  obtain ⟨t, ht, hq⟩ := body cdv A outer s H vs Q E gA (hr.deeper _) hsp
  refine codeAny_call_function hr.depth (e0.mod.kin.keeps kept _ _ lk) rfl S.co S.gen rfl (PySem.W.codeRec_of (e0.mod.kin.keeps kept) hcd) (hb _ _ _ _ (wpAny_newFunctionEnv_cells S.kind kinds ?_))
  intro env he s1 x
  subst he
  refine ⟨(e0.mod.nolimit.keeps kept).keeps x.toInCall.keep, codeAny_func (wpAny_mono (ht.nox.run [] s1 (start N vs) H _ (inv_start S hr.hd e0 (len _ _ _ _ hsp) r x) hq) (fun fl s' hs => ?_) fun _ _ z => z)⟩
  have done : ∀ {σ' : St} {H' : Hp} {v : V} {u : Value}, Inv (cxOf CX0 P w K mg base N qual (defScope st) f cdv A outer s H E) [] σ' H' s' → RelV v u → Q v H' → CE outer P w H s Q u s' :=
    fun {σ' H' v u} J rv q => ⟨v, H', J.os, J.bare, J.base, J.hok, rv, q⟩
  match fl, hs with
  | .ret _, ⟨_, _, _, J, rv, q⟩ => exact done J rv q
  | .next, ⟨_, _, J, q⟩ => exact done (v := V.non) (u := Value.none) J rfl q
  | .brk, ⟨_, _, _, q⟩ => exact q.elim
  | .cont, ⟨_, _, _, q⟩ => exact q.elim
end
/-- the script alone may be tracked, as a thing known to the object; then the law's call -/
theorem call_lawG {P : Program} {w : World} {K : PySem.W.Frag} {mg mb : Str → Option Value} {k : Nat} {fa a : Addr} {fd : FuncData} {x : Str} {sp : Sp} {s₁ : Shared} {vs : List Value} {ns : List Int}
    (KX : K.In s₁.heap) (hns : s₁.heap.Ns mainGlobals mg) (hb : s₁.heap.Ns builtinsNs mb) (hbb : ∀ x : Str, x ≠ "__name__" → mb x = bootBuiltins x) (hlim : s₁.heap.NoLimit) (hg : s₁.gens = #[])
    (ha : s₁.heap.get? a = some { cls := .type "list", data := .seq vs.toArray }) (hi : IntsAre vs ns) (hl : ns.length ≤ sizeLine) (hr : Room k callerA)
    (F : ∀ base : Heap, K.In base → base.Ns mainGlobals mg → FnG P w K mg base k fa fd [x] sp) (hbind : ∀ (s : Shared) (u : Value), BindsTo s fd ⟨[u], []⟩ [(x, u)])
    (hsp : ∀ H : Hp, SqL K H a (ns.map V.int) → (∀ b u, H b = some u → ∃ o xs, u = .frz o (.lst xs)) → sp [.ref a] H (fun v _ => v = .bl true) fun _ _ _ => False) :
    codeAny (model P w) callerA (.call (.ref fa) ⟨[.ref a], []⟩) (fun r s' => r = .ok (.ret (.bool true)) ∧ OldK s₁.heap s'.heap ∧ s'.os = s₁.os ∧ AllBare s'.gens) s₁ := by
  have rv := vals_ints hi
  have from_ : ∀ H : Hp, SqL K H a (ns.map V.int) → HOk P w H s₁.heap → (∀ b u, H b = some u → b = a ∧ K.lookup a = none ∧ ∃ o xs, u = .frz o (.lst xs)) →
      codeAny (model P w) callerA (.call (.ref fa) ⟨[.ref a], []⟩) (fun r s' => r = .ok (.ret (.bool true)) ∧ OldK s₁.heap s'.heap ∧ s'.os = s₁.os ∧ AllBare s'.gens) s₁ := by
    intro H hS hok only
    have un_ : ∀ {b : Addr}, b ≠ a → H b = none := fun {b} n => by
      rcases q : H b with _ | u
      · rfl
      · exact absurd (only b u q).1 n
    have nsK : ∀ {b : Addr} {m : Str → Option Value}, s₁.heap.Ns b m → (hidT s₁.heap H).Ns b m := fun {b m} hn => by
      obtain ⟨o, es, ep, e, d, r⟩ := hn
      refine ⟨o, es, ep, hidT_get e (un_ fun z => ?_), d, r⟩
      rw [z, ha] at e
      obtain rfl := Option.some.inj e
      cases d
    have hKb : K.In (hidT s₁.heap H) := fun b o e => hidT_get (KX b o e) (by
      rcases q : H b with _ | u
      · rfl
      · obtain ⟨z, n, _⟩ := only b u q
        rw [z, n] at e
        cases e)
    obtain ⟨mc, c1, c2⟩ := hlim
    have e0 : Env0 P w K mg (hidT s₁.heap H) callerA [] s₁ H :=
      ⟨rfl, ⟨hKb, nsK hns, ⟨mb, nsK hb, hbb⟩, ⟨mc, nsK c1, c2⟩⟩, fun b o e => of_hidT e, Nat.le_of_eq (hidT_size _ _), trivial, fun b z => (List.not_mem_nil z).elim, hok, .of_eq hg⟩
    refine codeAny_mono ((F _ hKb (nsK hns)).go callerA [] s₁ H ⟨[.ref a], []⟩ [.ref a] [.ref a] _ _ rfl hr e0 (hbind s₁ (.ref a)) (.cons rfl .nil) (hsp H hS fun b u q => (only b u q).2.2)) fun r s' h => ?_
    match r, h with
    | .ok (.ret u), ⟨v, H', os, bare, un, hok', r', q⟩ =>
      obtain rfl : v = .bl true := q
      obtain rfl : u = Value.bool true := r'
      refine ⟨rfl, OldK.of_keep fun b o e => ?_, os, bare⟩
      rcases z : H b with _ | u
      · exact un.keep b o e z (fun y => List.not_mem_nil y) (fun y => List.not_mem_nil y)
      · obtain ⟨_, _, ob, xs, rfl⟩ := only b u z
        have e1 := (hok b _ z).1
        rw [e] at e1
        obtain rfl := Option.some.inj e1
        exact (hok' b _ (un.frzs b o _ z)).1
  rcases hk : K.lookup a with _ | o
  · refine from_ (fun b => if b = a then some (.frz { cls := .type "list", data := .seq vs.toArray } (.lst (ns.map V.int))) else none) (.inl (.inr ⟨_, if_pos rfl⟩)) (fun b u z => ?_) fun b u z => ?_
    all_goals
      (try dsimp only at z)
      by_cases n : b = a
      · rw [if_pos n] at z
        obtain rfl := Option.some.inj z
        first
          | exact ⟨n, hk, _, _, rfl⟩
          | (subst n; exact ⟨ha, by rw [List.length_map]; exact hl, vs, _, rv, ha⟩)
      · rw [if_neg n] at z
        cases z
  · have e := KX a o hk
    rw [ha] at e
    obtain rfl := Option.some.inj e
    exact from_ (fun _ => none) (.inr ⟨_, vs.toArray, _, hk, rfl, rfl, rfl, by rw [List.size_toArray, hi.length]; exact hl, by simpa using rv⟩) (fun b u z => by cases (show (none : Option HO) = some u from z)) fun b u z => by cases z
/-- the goal that the head leaves, from the law's promise -/
theorem walk_ofG {l : PySem.W.OpenLaw} {n k : Nat} {q : Program} {loose : List Str} {XP : (Str → Option Value) → Heap → Prop} {YP : World → Heap → Prop} {d : DefRec} {K : Params → PySem.W.Frag} {sp : World → Sp} {x : Str}
    (hn : l.most = some n) (hn2 : n ≤ sizeLine) (hdf : d.params.defaults = []) (hr : Room k callerA) (hY : ∀ (w : World) (h : Heap), YP w h → (K w.params).In h)
    (F : ∀ (w : World) (mg : Str → Option Value) (fa : Addr) (h : Heap), (K w.params).In h → h.Ns mainGlobals mg → mg d.name = some (.ref fa) →
      ∃ fd : FuncData, (∀ (s : Shared) (u : Value), BindsTo s fd ⟨[u], []⟩ [(x, u)]) ∧ ∀ base : Heap, (K w.params).In base → base.Ns mainGlobals mg → FnG l.prog w (K w.params) mg base k fa fd [x] (sp w))
    (hsp : ∀ (w : World) (H : Hp) (a : Addr) (ns : List Int), ns.length ≤ n → SqL (K w.params) H a (ns.map V.int) → (∀ b u, H b = some u → ∃ o xs, u = .frz o (.lst xs)) → sp w [.ref a] H (fun v _ => v = .bl true) fun _ _ _ => False) :
    PySem.W.WalkO q loose XP YP l.row.toRowW d [] (fun f vs => PySem.call f vs) := by
  refine Att.attach_call hn hdf ?_
  intro w s₀ s₁ mg mb fa o pm cd doc a vs ns G Y ho hd hcd hmg hobj hints hlen hg
  obtain ⟨fd, hb, hF⟩ := F w mg fa _ (hY w _ Y) G.T.g hmg
  exact call_lawG (hY w _ Y) G.T.g G.T.b G.T.builtins G.T.nolimit hg hobj hints (Nat.le_trans hlen hn2) hr hF hb fun H hS o => hsp w H a ns hlen hS o
end L2

set_option Elab.async false
set_option linter.all false
set_option maxRecDepth 100000
set_option maxHeartbeats 1000000
namespace L2
open PySem PySem.Spec PyProof.Rows
/-- the looks that ExcC and OexC want, as one Bool each -/
def xcB (K : PySem.W.Frag) (D : Addr) : Bool :=
  decide (PySem.W.findIn K (.ref D) "__getattribute__" = some (some (.builtin "BaseException.__getattribute__"))) && decide (PySem.W.findIn K (.ref D) "__getattr__" = some none) && decide (PySem.W.subIn K (.ref D) (.type "BaseException") = some true) && PySem.W.hasDictIn K D &&
  decide (PySem.W.findIn K (.ref D) "__class__" = some (some (.builtin "object.__class__"))) && decide (PySem.W.specialIn K (.builtin "object.__class__") "__get__" = some (some (.builtin "getset_descriptor.__get__"))) && decide (PySem.W.takesIn K (.builtin "object.__class__") = some true) && decide (PySem.W.mroIn K D (.type "object") = some true)
theorem xc_of {K : PySem.W.Frag} {D : Addr} (h : xcB K D = true) : ExcC K D := by
  simp only [xcB, Bool.and_eq_true, decide_eq_true_eq] at h
  obtain ⟨⟨⟨⟨⟨⟨⟨h1, h2⟩, h3⟩, h4⟩, h5⟩, h6⟩, h7⟩, h8⟩ := h
  exact ⟨h1, h2, h3, h4, h5, h6, h7, h8⟩
def oexB (K : PySem.W.Frag) (C : Addr) : Bool :=
  (match K.lookup C with
  | some ⟨.type "type", _, .cls cd, sl⟩ => (match cd.mro, sl.toList with
    | .ref C' :: bm, [_, _, _, _, some (.builtin n), _] => C' == C && n == "ValueError.__new__" && cd.hasDict && !cd.hasDel && PySem.HandSPX.refsVE bm
    | _, _ => false)
  | _ => false) && decide (PySem.W.findIn K (.ref C) "__setattr__" = some (some (.builtin "object.__setattr__"))) && decide (PySem.W.subIn K (.ref C) (.type "BaseException") = some true) && decide (PySem.W.typeIn K (.ref C) = some (.type "type")) && PySem.W.keepIn K (.ref C)
theorem oex_of {K : PySem.W.Frag} {C : Addr} (h : oexB K C = true) : OexC K C := by
  simp only [oexB, Bool.and_eq_true, decide_eq_true_eq] at h
  obtain ⟨⟨⟨⟨q, h2⟩, h3⟩, h4⟩, h5⟩ := h
  refine ⟨?_, h2, h3, h4, h5⟩
  split at q
  · rename_i dd cd sl ho
    split at q
    · rename_i C' bm k0 k1 k2 k3 n k5 hm hs
      simp only [Bool.and_eq_true, beq_iff_eq, Bool.not_eq_true'] at q
      obtain ⟨⟨⟨⟨rfl, rfl⟩, hd⟩, hdel⟩, ht⟩ := q
      obtain ⟨nm, bs, mro, ns, qn, hD, sn, sub, ab, col, del⟩ := cd
      obtain ⟨l⟩ := sl
      dsimp only at hm hdel hd hs
      subst hm hdel hd hs
      exact ⟨nm, qn, ns, bs, bm, sn, sub, ab, col, dd, k0, k1, k2, k3, k5, ho, ht⟩
    · cases q
  · cases q
/-- isinstance between own classes at cs: each is of itself alone -/
def apartB (K : PySem.W.Frag) (cs : List Addr) : Bool :=
  (List.range cs.length).all fun i => (List.range cs.length).all fun j => match cs[i]?, cs[j]? with
    | some c, some d => decide (PySem.W.kitOne K (.ref c) (.ref d) = some (decide (j = i)))
    | _, _ => false
theorem apart_of {K : PySem.W.Frag} {cs : List Addr} (h : apartB K cs = true) {i j : Nat} {c d : Addr} (hi : cs[i]? = some c) (hj : cs[j]? = some d) : PySem.W.kitOne K (.ref c) (.ref d) = some (decide (j = i)) := by
  have li := (List.getElem?_eq_some_iff.mp hi).1
  have lj := (List.getElem?_eq_some_iff.mp hj).1
  have h1 := List.all_eq_true.mp (List.all_eq_true.mp h i (List.mem_range.mpr li)) j (List.mem_range.mpr lj)
  rw [hi, hj] at h1
  exact of_decide_eq_true h1
def allB (cs : List Addr) (f : Addr → Bool) : Bool := cs.all f
theorem allB_of {cs : List Addr} {f : Addr → Bool} (h : allB cs f = true) {i : Nat} {c : Addr} (hi : cs[i]? = some c) : f c = true := List.all_eq_true.mp h c (List.mem_of_getElem? hi)
theorem Same.upd {H : Hp} {p : Addr} {o : HO} (h : H p = none) : Same H (L2.upd H p o) := fun b u q => by
  rw [upd_ne (ne_of_none q h)]
  exact q
/-- isinstance(x, C), x a name that holds an exception, C an own class or a built-in type -/
def tIsi (K : PySem.W.Frag) (i : Nat) (u : Value) : TE := fun σ H Q => ∃ e D fs b, σ[i]? = some (some (V.ref e)) ∧ ExT H e D fs ∧ ExcC K D ∧ PySem.W.kitOne K (.ref D) u = some b ∧ Q (.bl b) H
section
variable {X : Cx} {x y : Str} {C : Addr} {p q r pos : Pos} {i : Nat}
theorem pe_isi (hm : X.mg "isinstance" = none) (gC : X.mg y = some (.ref C)) (hN : X.N[i]? = some x := by rfl) (hv : Vis X.env.scope x := by first | exact Or.inl rfl | exact Or.inr (Or.inl rfl) | exact Or.inr (Or.inr rfl)) (hg : Gl X "isinstance" := by rfl) (hy : Gl X y := by rfl)
    (hd : (x == ("__debug__" : Str)) = false := by decide) (hcd : (x == ("__classdict__" : Str)) = false := by decide) (hd2 : (y == ("__debug__" : Str)) = false := by decide)
    (he : starEach (Expr.Name x q :: [Expr.Name y r]) X.env = (false, eval (Expr.Name x q) X.env) :: starEach [Expr.Name y r] X.env := by rfl) (hpl : (backTo pos (starEach [Expr.Name y r] X.env)).any (·.1) = false := by rfl)
    (he2 : starEach [Expr.Name y r] X.env = (false, eval (Expr.Name y r) X.env) :: starEach [] X.env := by rfl) :
    PE X (.Call (.Name "isinstance" p) [.Name x q, .Name y r] [] pos) (tIsi X.K i (.ref C)) := by
  refine ⟨fun pins s σ H Q I h => ?_⟩
  obtain ⟨e, D, fs, b, hs, ex, T, hk, hq⟩ := h
  exact (pe_callB (t := tCons (tVar i) (tCons (tC (.ref C)) tNil)) call_isX hg hm (by decide +kernel) (pa_cons (pv i hN hv hd hcd) (pa_cons (pe_glob hy gC rfl hd2) pa_nil) )).run pins s σ H Q I ⟨_, hs, e, D, fs, _, _, b, rfl, .own C, ex, T, hk, hq⟩
theorem pe_isiT {n : String} (hm : X.mg "isinstance" = none) (hmy : X.mg y = none) (hvy : bootBuiltins y = some (.type n)) (hN : X.N[i]? = some x := by rfl) (hv : Vis X.env.scope x := by first | exact Or.inl rfl | exact Or.inr (Or.inl rfl) | exact Or.inr (Or.inr rfl)) (hg : Gl X "isinstance" := by rfl) (hy : Gl X y := by rfl)
    (hd : (x == ("__debug__" : Str)) = false := by decide) (hcd : (x == ("__classdict__" : Str)) = false := by decide) (hn2 : y ≠ "__name__" := by decide) (hd2 : (y == ("__debug__" : Str)) = false := by decide)
    (he : starEach (Expr.Name x q :: [Expr.Name y r]) X.env = (false, eval (Expr.Name x q) X.env) :: starEach [Expr.Name y r] X.env := by rfl) (hpl : (backTo pos (starEach [Expr.Name y r] X.env)).any (·.1) = false := by rfl)
    (he2 : starEach [Expr.Name y r] X.env = (false, eval (Expr.Name y r) X.env) :: starEach [] X.env := by rfl) :
    PE X (.Call (.Name "isinstance" p) [.Name x q, .Name y r] [] pos) (tIsi X.K i (.type n)) := by
  refine ⟨fun pins s σ H Q I h => ?_⟩
  obtain ⟨e, D, fs, b, hs, ex, T, hk, hq⟩ := h
  exact (pe_callB (t := tCons (tVar i) (tCons (tC (.ty n)) tNil)) call_isX hg hm (by decide +kernel) (pa_cons (pv i hN hv hd hcd) (pa_cons (pe_bltn hy hmy hvy rfl hn2 hd2) pa_nil) )).run pins s σ H Q I ⟨_, hs, e, D, fs, _, _, b, rfl, .ty n, ex, T, hk, hq⟩
end
end L2

set_option Elab.async false
set_option linter.all false
set_option maxRecDepth 100000
set_option maxHeartbeats 1000000
namespace L2
open PySem PySem.Spec PyProof.Rows
/-- v shows as the data d: data without dicts, or a flat dict -/
inductive Shw (K : PySem.W.Frag) (H : Hp) : V → PyData → Prop where
  | dp {v : V} {d : PyData} (h : Dp K H v d) (n : d.hasDict = false) : Shw K H v d
  | d0 {q : Addr} (h : H q = some (.dK [])) : Shw K H (.ref q) (.dict [])
  | d1 {q : Addr} {x : Str} {i : Int} (h : H q = some (.dK [(.inr x, .int i)])) : Shw K H (.ref q) (.dict [(.str x, .int i)])
section
variable {X : Cx} {pins : List (Addr × Obj)} {σ : St} {H : Hp} {s : Shared}
theorem Shw.reads (I : Inv X pins σ H s) {v : V} {d : PyData} {u : Value} (h : Shw X.K H v d) (r : RelV v u) : ∃ as, Reads s.heap u d as ∧ (d.hasDict = true → sysModules ∉ as) := by
  cases h with
  | dp h n =>
    obtain ⟨as, q⟩ := Dp.reads I d v u h r
    exact ⟨as, q, fun z => by rw [n] at z; cases z⟩
  | @d0 q h =>
    obtain rfl : u = Value.ref q := r
    obtain ⟨_, ne, vs, kv, o, es, ep, ho, ex, hd, _, ps, _⟩ := dk_of I.hok h
    cases kv
    have e0 : es.toList = [] := by
      cases hl : es.toList with
      | nil => rfl
      | cons a l => rw [hl] at ps; cases ps
    refine ⟨_, Reads.dict (kvs := []) ho ex.1 hd (by rw [e0]; exact .nil) (by rw [e0]; exact .nil), fun _ hm => ?_⟩
    have hm' : sysModules ∈ [q] := by simpa using hm
    have e : sysModules = q := by simpa using hm'
    rw [← e] at ne
    exact absurd ne (by decide)
  | @d1 q x i h =>
    obtain rfl : u = Value.ref q := r
    obtain ⟨_, ne, vs, kv, o, es, ep, ho, ex, hd, _, ps, _⟩ := dk_of I.hok h
    cases kv with
    | @cons _ kw _ vs' hk kt =>
      cases kt
      obtain ⟨k, w'⟩ := kw
      obtain ⟨ek, ri⟩ := hk
      dsimp only at ek ri
      subst ek
      obtain ⟨t', rfl⟩ := (show ∃ t, w' = Value.int i t from ri)
      generalize hl : es.toList = l at ps
      cases ps with
      | @cons a _ l' _ k1 k2 pl =>
        cases pl
        rcases keyIs_shape (show keyIs (.inr x) a.key = true from k1) with ⟨_, _, z, _⟩ | ⟨y, ty, z, e2⟩
        · cases z
        · cases z
          refine ⟨_, Reads.dict (kvs := [(.str x, .int i)]) ho ex.1 hd (by rw [hl]; exact .cons (by show Reads s.heap a.key (.str x) _; rw [e2]; exact .str x ty) .nil) (by rw [hl]; exact .cons (by show Reads s.heap a.val (.int i) _; rw [k2]; exact .int i t') .nil), fun _ hm => ?_⟩
          have e : sysModules = q := by simpa using hm
          rw [← e] at ne
          exact absurd ne (by decide)
theorem Shw.readsAll (I : Inv X pins σ H s) {v : V} {d : PyData} (h : Shw X.K H v d) : ∀ (n : Nat) {us : List Value}, Vals (List.replicate n v) us → ∃ as, ReadsAll s.heap us (List.replicate n d) as ∧ (d.hasDict = true → sysModules ∉ as)
  | 0, _, .nil => ⟨_, .nil, fun _ hm => by cases hm⟩
  | n + 1, _, .cons r rs => by
    obtain ⟨as, q1, n1⟩ := Shw.reads I h r
    obtain ⟨bs, q2, n2⟩ := Shw.readsAll I h n rs
    exact ⟨_, .cons q1 q2, fun z hm => (List.mem_append.mp hm).elim (n1 z) (n2 z)⟩
end
theorem hasDict_rep (d : PyData) : ∀ n : Nat, PyData.hasDictAll (List.replicate n d) = true → d.hasDict = true
  | 0, h => by cases h
  | n + 1, h => by
    have h' : (d.hasDict || PyData.hasDictAll (List.replicate n d)) = true := h
    rcases Bool.or_eq_true_iff.mp h' with q | q
    · exact q
    · exact hasDict_rep d n q
theorem showable_rep {d : PyData} (h : d.showable = true) : ∀ n : Nat, PyData.showableAll (List.replicate n d) = true
  | 0 => rfl
  | n + 1 => by
    show (d.showable && PyData.showableAll (List.replicate n d)) = true
    rw [h, showable_rep h n]
    rfl
theorem depth_rep {d : PyData} : ∀ n : Nat, PyData.depthAll (List.replicate n d) ≤ d.depth
  | 0 => Nat.zero_le _
  | n + 1 => Nat.max_le.mpr ⟨Nat.le_refl _, depth_rep n⟩
/-- repr(xs), xs a list of one thing again and again -/
def rReprR (K : PySem.W.Frag) : List V → Hp → VK → Prop := fun xs H Q => ∃ (p : Addr) (n : Nat) (v : V) (d : PyData), xs = [.ref p] ∧ H p = some (.lst (List.replicate (n + 1) v)) ∧ Shw K H v d ∧ d.showable = true ∧ d.depth ≤ 20 ∧ (PyData.list (List.replicate (n + 1) d)).shown.length ≤ sizeLine ∧
  Q (.str (PyData.list (List.replicate (n + 1) d)).shown) H
theorem call_reprR {X : Cx} (hg : X.A.guards = some []) (hu : X.A.units + 64 < cLine) : CallR X (.builtin "repr") (rReprR X.K) := by
  intro pins s σ H xs us Q I r h
  obtain ⟨p, n, v, d, rfl, hp, hv, hs, hd, hz, q⟩ := h
  match us, r with
  | [_], .cons rp .nil =>
    obtain rfl := rp
    obtain ⟨_, its, m, rv, _, he⟩ := I.lstM hp
    obtain ⟨as, ra, na⟩ := Shw.readsAll I hv (n + 1) rv
    have hz' : (listText (PyData.shownAll (List.replicate (n + 1) d))).length ≤ sizeLine := by simpa only [PyData.shown] using hz
    obtain ⟨bs, hb, hk⟩ := ReprAllK.of_readsAll (prog := X.prog) (w := X.w) ra (showable_rep hs (n + 1)) (fun z => na (hasDict_rep d _ z)) (fun t ht => Nat.le_trans (listText_mem_le ht) hz')
    have out : Reads s.heap (.ref p) (.list (List.replicate (n + 1) d)) _ := .list he rfl rfl ra
    have dle : PyData.depthAll (List.replicate (n + 1) d) ≤ 20 := Nat.le_trans (depth_rep _) hd
    have hna : p ∉ bs := not_mem_of_deeper out (by simp only [PyData.depth]; omega) hb
    match its, rv, he, hk with
    | x :: l, _, he, hk =>
      refine call_repr_slot (T := "list") (idr := "list.__repr__") (by omega) ⟨_, he, rfl⟩ PySem.F.slot_list_repr.toG ?_
      refine call_list_reprK he rfl rfl hna (by simpa using hk.length_eq) (fun i y e => hk.item i y (by simpa using e)) hg (fun b _ => Clear.nil b) (by show X.A.units + 1 + _ < cLine; omega) (fun _ _ e => e) (fun h' u tk k => ?_) hz'
      exact ⟨_, _, rfl, .str (PyData.list (List.replicate (n + 1) d)).shown, H, I.kept (t' := tk) k, ⟨u, by simp only [PyData.shown]⟩, q⟩
/-- a text n times -/
def mulS (z : Str) (n : Int) : Str := if n < 1 then Str.empty else if (n == 1 || z.length == 0) = true then z else ⟨(List.replicate n.toNat z.cps).foldl (· ++ ·) #[]⟩
theorem op_mul_str {X : Cx} : OpR X (binaryOp .Mult) (fun x y H Q => ∃ (z : Str) (n : Int), x = .str z ∧ y = .int n ∧ 0 ≤ n ∧ n < 64 ∧ z.length ≤ 1000 ∧ (mulS z n).length ≤ sizeLine ∧ Q (.str (mulS z n)) H) := by
  intro pins s σ H x y v u Q I rx ry h
  obtain ⟨z, n, rfl, rfl, h0, h1, hz, hs, q⟩ := h
  obtain ⟨t, rfl⟩ := rx
  obtain ⟨t', rfl⟩ := ry
  refine PySem.P.mul_str (by rw [decide_eq_false (by omega), decide_eq_false (by omega)]; rfl) (fun h2 _ h3 => ?_) (fun h2 _ => ?_) ?_
  · have h4 : (2 ^ 63 - 1) / 64 ≤ ((2 ^ 63 - 1) / n : Int) := Int.le_ediv_of_mul_le (by omega) (by omega)
    omega
  · have h5 : z.length * n.toNat ≤ 1000 * 64 := Nat.mul_le_mul hz (by omega)
    unfold Builtin.Str.tooLong
    rw [sizeLine_eq]
    exact decide_eq_false (by omega)
  · unfold mulS at q hs
    by_cases c1 : n < 1
    · rw [if_pos c1] at q ⊢
      exact ⟨by decide, .str Str.empty, H, I.tok _, ⟨_, rfl⟩, q⟩
    · rw [if_neg c1] at q hs ⊢
      by_cases c2 : (n == 1 || z.length == 0) = true
      · rw [if_pos c2] at q ⊢
        exact ⟨.str z, H, I, ⟨_, rfl⟩, q⟩
      · rw [if_neg c2] at q hs ⊢
        exact ⟨hs, .str _, H, I.tok _, ⟨_, rfl⟩, q⟩
end L2

set_option Elab.async false
set_option linter.all false
set_option maxRecDepth 100000
set_option maxHeartbeats 1000000
namespace L2
open PySem PySem.Spec PyProof.Rows
/-- a new object at p, all else as it was: what is wanted of it -/
def NewQ (H : Hp) (o : HO) (Q : VK) : Prop := ∀ p H', Same H H' → H p = none → H' p = some o → Q (.ref p) H'
theorem NewQ.at {H : Hp} {o : HO} {Q : VK} (h : NewQ H o Q) {p : Addr} (n : H p = none) : Q (.ref p) (L2.upd H p o) := h p _ (Same.upd n) n upd_same
def tLstS (t : TA) : TE := fun σ H Q => t σ H fun xs H1 => xs.length ≤ sizeLine ∧ NewQ H1 (.lst xs) Q
def tTupS (t : TA) : TE := fun σ H Q => t σ H fun xs H1 => xs.length ≤ sizeLine ∧ NewQ H1 (.tup xs) Q
def rCatS : R2 := fun x y H Q => ∃ l b xs zs, x = .ref l ∧ y = .ref b ∧ H l = some (.lst xs) ∧ H b = some (.lst zs) ∧ xs.length + zs.length ≤ sizeLine ∧ NewQ H (.lst (xs ++ zs)) Q
def rRepS : R2 := fun x y H Q => ∃ l k xs, x = .ref l ∧ y = .int k ∧ H l = some (.lst xs) ∧ -(2 ^ 63) ≤ k ∧ k < 2 ^ 63 ∧ xs.length * k.toNat ≤ sizeLine ∧ NewQ H (.lst (List.replicate k.toNat xs).flatten) Q
def rSlW (K : PySem.W.Frag) : V → Option Int → Option Int → Hp → VK → Prop := fun x lo hi H Q => ∃ a xs, x = .ref a ∧ SqL K H a xs ∧ NewQ H (.lst (cutV xs lo hi)) Q
section
variable {X : Cx} {es : List Expr} {t : TA} {pos : Pos}
theorem pe_lstS (h : PA X es t) : PE X (.List es pos) (tLstS t) :=
  ⟨fun pins s σ H Q I hq => wpAny_List_spliced (thn (h.run pos pins s σ H _ I hq) fun us s1 ⟨xs, H1, I1, r, z, q⟩ => ⟨by rw [← r.length]; exact z,
    .ref s1.heap.objs.size, _, I1.laid (t' := s1.toks) (o := .lst xs) (fun _ _ e => Heap.get?_push_of_some _ e) (Nat.le_refl _) ⟨z, us, 0, r, Heap.get?_push_size _ rfl⟩, rfl, q.at I1.fresh⟩)⟩
theorem pe_tupS {x1} (h : PA X es t) : PE X (.Tuple es x1 pos) (tTupS t) :=
  ⟨fun pins s σ H Q I hq => wpAny_Tuple_spliced (thn (h.run pos pins s σ H _ I hq) fun us s1 ⟨xs, H1, I1, r, z, q⟩ => ⟨by rw [← r.length]; exact z,
    .ref s1.heap.objs.size, _, I1.laid (t' := s1.toks) (o := .tup xs) (fun _ _ e => Heap.get?_push_of_some _ e) (Nat.le_refl _) ⟨z, us, r, ⟨_, Heap.get?_push_size _ rfl, rfl, _, rfl⟩⟩, rfl, q.at I1.fresh⟩)⟩
theorem op_catS : OpR X (binaryOp .Add) rCatS := fun pins s σ H x y v u Q I rx ry ⟨l, b, xs, zs, e1, e2, h1, h2, hz, q⟩ => op_cat pins s σ H x y v u Q I rx ry ⟨l, b, xs, zs, e1, e2, h1, h2, hz, fun _ n => q.at n⟩
theorem op_repS : OpR X (binaryOp .Mult) rRepS := fun pins s σ H x y v u Q I rx ry ⟨l, k, xs, e1, e2, h1, h2, h3, hz, q⟩ => op_rep pins s σ H x y v u Q I rx ry ⟨l, k, xs, e1, e2, h1, h2, h3, hz, fun _ n => q.at n⟩
theorem sl_listS : SlR X (rSlW X.K) := fun pins s σ H x v vl vu lo hi sl Q I rx hs hl hh ⟨a, xs, e, h, q⟩ => sl_list pins s σ H x v vl vu lo hi sl Q I rx hs hl hh ⟨a, xs, e, h, fun _ n => q.at n⟩
/-- {} with text or int keys -/
theorem pe_dnewS : PE X (.Dict [] [] pos) (fun _ H Q => NewQ H (.dK []) Q) := ⟨fun pins s σ H Q I h => pe_dnewK.run pins s σ H Q I fun _ n => NewQ.at h n⟩
end
theorem Same.lst {H H' : Hp} {a : Addr} {o : HO} (S : Same H H') (h : H a = some o) : H' a = some o := S _ _ h
end L2

set_option Elab.async false
set_option linter.all false
set_option maxRecDepth 100000
set_option maxHeartbeats 1000000
/-! a + b, a * b, -a where a is an instance of an own class that says what they are. -/
namespace L2
open PySem PySem.Spec PyProof.Rows
theorem back_of {X : Cx} {pins : List (Addr × Obj)} {σ : St} {Q : VK} {u : Value} {s : Shared} (h : EP X pins σ Q u s) : PySem.W.CmpBack (EP X pins σ Q) u s := by
  obtain ⟨v, H, I, r, q⟩ := h
  have h : EP X pins σ Q u s := ⟨v, H, I, r, q⟩
  cases v with
  | non => obtain rfl := (show u = Value.none from r); exact h
  | bl b => obtain rfl := (show u = Value.bool b from r); exact h
  | int i => obtain ⟨t, rfl⟩ := (show ∃ t, u = Value.int i t from r); exact h
  | str i => obtain ⟨t, rfl⟩ := (show ∃ t, u = Value.str i t from r); exact h
  | byt i => obtain ⟨t, rfl⟩ := (show ∃ t, u = Value.bytes i t from r); exact h
  | flt i => obtain ⟨t, rfl⟩ := (show ∃ t, u = Value.float i t from r); exact h
  | ref a => obtain rfl := (show u = Value.ref a from r); exact h
  | ty n => obtain rfl := (show u = Value.type n from r); exact h
/-- what the class says of an operator's method -/
structure OwnOp (K : PySem.W.Frag) (C : Addr) (name : Str) (f : Addr) : Prop where
  first : PySem.W.selfFirst K C = true
  has : PySem.W.findIn K (.ref C) name = some (some (.ref f))
  fn : PySem.W.isFn K (.ref f) = true
/-- the same where the right side is a whole number: int's own slots, and no reflected method of the class's -/
structure OwnOpI (K : PySem.W.Frag) (C : Addr) (name : String) (f : Addr) : Prop where
  one : OwnOp K C (PySem.dunder name) f
  refl : ∃ rc, PySem.W.findIn K (.ref C) (dunderR name) = some rc ∧ (rc = none ∨ ∃ g : Addr, rc = some (.ref g))
  i1 : ∃ fo, PySem.W.findIn K (.type "int") (PySem.dunder name) = some fo
  i2 : ∃ ro, PySem.W.findIn K (.type "int") (dunderR name) = some ro
  sub : PySem.W.subIn K (.type "int") (.ref C) = some false
def rOwn (C : Addr) (sp : Sp) : R2 := fun x y H Q => ∃ p q dx fs dy gs, x = .ref p ∧ y = .ref q ∧ H p = some (.ins C dx fs) ∧ H q = some (.ins C dy gs) ∧ sp [x, y] H Q E0
def rOwnI (C : Addr) (sp : Sp) : R2 := fun x y H Q => ∃ p n dx fs, x = .ref p ∧ y = .int n ∧ H p = some (.ins C dx fs) ∧ sp [x, y] H Q E0
def rOwnN (C : Addr) (sp : Sp) : V → Hp → VK → Prop := fun x H Q => ∃ p dx fs, x = .ref p ∧ H p = some (.ins C dx fs) ∧ sp [x] H Q E0
section
variable {X : Cx} {op : Operator} {C f : Addr} {fd : FuncData} {ps : List Str} {sp : Sp} {k : Nat}
theorem inst_of {pins : List (Addr × Obj)} {σ : St} {H : Hp} {s : Shared} {p dx : Addr} {fs : List (Str × V)} (I : Inv X pins σ H s) (e : H p = some (.ins C dx fs)) : ∃ ox od, PySem.W.InstAt s.heap p ox C od := by
  obtain ⟨mA, O, _⟩ := ins_get I.hok e
  obtain ⟨od, J, _⟩ := O.look
  exact ⟨_, _, J⟩
theorem op_own (O : OwnOp X.K C (PySem.dunder op.info.2) f) (F : FnOk X.prog X.w X.K X.mg X.base CX0 k f fd ps sp) (hr : Room k X.A) (hb : Binds X.K fd ps []) : OpR X (binaryOp op) (rOwn C sp) := by
  intro pins s σ H x y v u Q I rx ry h
  obtain ⟨p, q, dx, fs, dy, gs, rfl, rfl, ep, eq, hq⟩ := h
  have run := run_fn (dvs := []) (E := E0) F hr hb .nil pass0 I (.cons rx (.cons ry .nil)) hq
  obtain rfl : v = Value.ref p := rx
  obtain rfl : u = Value.ref q := ry
  obtain ⟨ox, od, J⟩ := inst_of I ep
  obtain ⟨oy, oe, J2⟩ := inst_of I eq
  obtain ⟨m, fr⟩ := I.fr
  exact PySem.W.binop_K fr I.ok.mod.kin J J2.type O.first O.has O.fn (thn run fun _ _ z => back_of z)
theorem op_ownI (O : OwnOpI X.K C op.info.2 f) (F : FnOk X.prog X.w X.K X.mg X.base CX0 k f fd ps sp) (hr : Room k X.A) (hb : Binds X.K fd ps []) : OpR X (binaryOp op) (rOwnI C sp) := by
  intro pins s σ H x y v u Q I rx ry h
  obtain ⟨p, n, dx, fs, rfl, rfl, ep, hq⟩ := h
  have run := run_fn (dvs := []) (E := E0) F hr hb .nil pass0 I (.cons rx (.cons ry .nil)) hq
  obtain rfl : v = Value.ref p := rx
  obtain ⟨t, rfl⟩ := ry
  obtain ⟨ox, od, J⟩ := inst_of I ep
  obtain ⟨m, fr⟩ := I.fr
  obtain ⟨rc, r1, r2⟩ := O.refl
  obtain ⟨fo, i1⟩ := O.i1
  obtain ⟨ro, i2⟩ := O.i2
  exact PySem.W.ksp_binT fr I.ok.mod.kin J (T := "int") rfl O.one.first O.one.has O.one.fn r1 r2 i1 i2 O.sub (thn run fun _ _ z => back_of z)
theorem un_own (O : OwnOp X.K C "__neg__" f) (F : FnOk X.prog X.w X.K X.mg X.base CX0 k f fd ps sp) (hr : Room k X.A) (hb : Binds X.K fd ps []) : UnR X (unaryOp .USub) (rOwnN C sp) := by
  intro pins s σ H x v Q I rx h
  obtain ⟨p, dx, fs, rfl, ep, hq⟩ := h
  have run := run_fn (dvs := []) (E := E0) F hr hb .nil pass0 I (.cons rx .nil) hq
  obtain rfl : v = Value.ref p := rx
  obtain ⟨ox, od, J⟩ := inst_of I ep
  obtain ⟨m, fr⟩ := I.fr
  exact PySem.W.ksp_neg fr I.ok.mod.kin J O.has O.fn run
end
end L2

set_option Elab.async false
set_option linter.all false
set_option maxRecDepth 100000
set_option maxHeartbeats 1000000
/-! rows without forms: what is said of heaps, tests, powers -/
namespace L2
open PySem PySem.Spec PyProof.Rows
theorem iteD {p : Prop} [Decidable p] {A B : Prop} (h1 : p → A) (h2 : ¬ p → B) : if decide p = true then A else B := by
  by_cases h : p
  · rw [if_pos (decide_eq_true h)]; exact h1 h
  · rw [if_neg (by simpa using h)]; exact h2 h
theorem ifT {b : Bool} {A B : Prop} (h : b = true) (x : A) : if b = true then A else B := by rw [if_pos h]; exact x
theorem ifF {b : Bool} {A B : Prop} (h : b = false) (x : B) : if b = true then A else B := by rw [if_neg (by rw [h]; exact Bool.false_ne_true)]; exact x
def CPowX (i j : Int) : Prop := 0 ≤ j ∧ (Builtin.Int.intBits i : Int) * j ≤ 2 ^ 27
theorem op_powX {X : Cx} : OpR X (binaryOp .Pow) (rI CPowX fun i j => .int (i ^ j.toNat)) := opI fun _ _ _ _ _ _ _ hc q => pow_int hc.1 hc.2 q
/-- all but D as it was -/
def SameB (D : Addr) (H H' : Hp) : Prop := ∀ b o, b ≠ D → H b = some o → H' b = some o
theorem SameB.refl (D : Addr) (H : Hp) : SameB D H H := fun _ _ _ h => h
theorem SameB.to {D : Addr} {H H1 H2 : Hp} (S : SameB D H H1) (T : Same H1 H2) : SameB D H H2 := fun b o n h => T b o (S b o n h)
theorem SameB.trans {D : Addr} {H H1 H2 : Hp} (S : SameB D H H1) (T : SameB D H1 H2) : SameB D H H2 := fun b o n h => T b o n (S b o n h)
theorem SameB.upd {D : Addr} {H H1 : Hp} {o : HO} (S : SameB D H H1) : SameB D H (L2.upd H1 D o) := fun b u n h => by rw [upd_ne n]; exact S b u n h
theorem SqL.same {K : PySem.W.Frag} {H H' : Hp} {a : Addr} {xs : List V} (h : SqL K H a xs) (S : Same H H') : SqL K H' a xs := by
  rcases h with (h | ⟨o, h⟩) | h
  · exact .inl (.inl (S _ _ h))
  · exact .inl (.inr ⟨o, S _ _ h⟩)
  · exact .inr h
theorem SqL.sameB {K : PySem.W.Frag} {D : Addr} {H H' : Hp} {a : Addr} {xs : List V} (h : SqL K H a xs) (S : SameB D H H') (n : a ≠ D) : SqL K H' a xs := by
  rcases h with (h | ⟨o, h⟩) | h
  · exact .inl (.inl (S _ _ n h))
  · exact .inl (.inr ⟨o, S _ _ n h⟩)
  · exact .inr h
theorem seq_asg {te : TE} {i : Nat} {u : TS} {D : Ends} {σ : St} {H : Hp} (h : te σ H fun x H1 => u D (σ.set i (some x)) H1) : tSeq (tAsg te (gName i)) u D σ H := h
theorem te_mid {t : TE} {σ : St} {H : Hp} {Q : VK} (G : V → Hp → Prop) (h : ∀ R : VK, (∀ x H', G x H' → R x H') → t σ H R) (k : ∀ x H', G x H' → Q x H') : t σ H Q := h Q k
theorem ts_mid {t u : TS} {D : Ends} {σ : St} {H : Hp} (G : St → Hp → Prop) (h : ∀ N : St → Hp → Prop, (∀ σ' H', G σ' H' → N σ' H') → t { D with nx := N } σ H) (k : ∀ σ' H', G σ' H' → u D σ' H') : tSeq t u D σ H := h _ k
theorem cut_ints (ns : List Int) (lo hi : Option Int) : ∃ ms : List Int, cutV (ns.map V.int) lo hi = ms.map V.int :=
  ⟨(ns.drop (HT.sIx (ns.map V.int).length 0 lo)).take (HT.sIx (ns.map V.int).length (ns.map V.int).length hi - HT.sIx (ns.map V.int).length 0 lo), by unfold cutV; rw [← List.map_drop, ← List.map_take]⟩
end L2

set_option Elab.async false
set_option linter.all false
set_option maxRecDepth 100000
set_option maxHeartbeats 1000000
/-! tuples whose object is known to have no dict: made, and called by their methods -/
namespace L2
open PySem PySem.Spec PyProof.Rows
/-- a tuple that this program made: its object bears no dict -/
def TupN (H : Hp) (q : Addr) (xs : List V) : Prop := ∃ o : Obj, H q = some (.frz o (.tup xs)) ∧ o.dict = none
theorem TupN.sq {K : PySem.W.Frag} {H : Hp} {q : Addr} {xs : List V} (h : TupN H q xs) : SqT K H q xs := let ⟨o, h1, _⟩ := h; .inl (.inr ⟨o, h1⟩)
theorem TupN.same {H H' : Hp} {q : Addr} {xs : List V} (h : TupN H q xs) (S : Same H H') : TupN H' q xs := let ⟨o, h1, h2⟩ := h; ⟨o, S _ _ h1, h2⟩
theorem TupN.sameB {D : Addr} {H H' : Hp} {q : Addr} {xs : List V} (h : TupN H q xs) (S : SameB D H H') (n : q ≠ D) : TupN H' q xs := let ⟨o, h1, h2⟩ := h; ⟨o, S _ _ n h1, h2⟩
/-- a new one, all else as it was -/
def NewN (H : Hp) (xs : List V) (Q : VK) : Prop := ∀ p H', Same H H' → H p = none → TupN H' p xs → Q (.ref p) H'
theorem tupN_laid {X : Cx} {pins : List (Addr × Obj)} {σ : St} {H : Hp} {s : Shared} {xs : List V} {its : List Value} (I : Inv X pins σ H s) (rv : Vals xs its) (hz : xs.length ≤ sizeLine) : 
    Inv X pins σ (upd H s.heap.objs.size (.frz { cls := .type "tuple", data := .seq its.toArray } (.tup xs))) { s with heap := s.heap.push { cls := .type "tuple", data := .seq its.toArray } } :=
  I.laid (t' := s.toks) (fun _ _ e => Heap.get?_push_of_some _ e) (Nat.le_refl _) ⟨Heap.get?_push_size _ rfl, hz, its, rv, IsTup.new _ _⟩
/-- tuple(xs), xs a list -/
def rTupN (K : PySem.W.Frag) : List V → Hp → VK → Prop := fun vs H Q => ∃ p ys, vs = [.ref p] ∧ SqL K H p ys ∧ NewN H ys Q
theorem cr_tupN {X : Cx} : CallR X (.type "tuple") (rTupN X.K) := by
  intro pins s σ H vs us Q I r h
  obtain ⟨p, ys, rfl, hs, q⟩ := h
  rw [Vals.ref1 r]
  obtain ⟨its, rv, pl, hz⟩ := I.list hs
  have ln := rv.length
  refine call_tuple_list pl.isList (fun h' kp => ?_) (by rw [List.size_toArray]; omega)
  have I1 : Inv X pins σ H { s with heap := h' } := I.kept (t' := s.toks) kp
  have n1 : H h'.objs.size = none := I1.hok.fresh (Nat.le_refl _)
  exact ⟨.ref h'.objs.size, _, tupN_laid I1 rv hz, rfl, q _ _ (Same.upd n1) n1 ⟨_, upd_same, rfl⟩⟩
/-- o.m(e, ..), o such a tuple -/
def tTM (r : V → List V → Hp → VK → Prop) (to : TE) (t : TA) : TE := fun σ H Q => to σ H fun x H1 => ∃ q xs, x = .ref q ∧ TupN H1 q xs ∧ t σ H1 fun vs H2 => r x vs H2 Q
section
variable {X : Cx} {o e : Expr} {es : List Expr} {to : TE} {t : TA} {name : Str} {apos cpos : Pos} {id : String} {r : V → List V → Hp → VK → Prop}
theorem pe_tm (pa : PlainAttrs "tuple") (slot : Slot "tuple" name id) (hty : typeOf (.builtin id) = pure (.type "method_descriptor")) (hm : MtM X id r) (ho : PE X o to) (ha : PA X (e :: es) t)
    (hbase : attributeBase o name X.env (eval o X.env) = eval o X.env := by rfl) (hfew : ((backTo cpos (starEach (e :: es) X.env)).all (fun x => !x.1) && (backToKw cpos (keywordEach [] X.env)).all (fun x => x.1.isSome) && decide ((e :: es).length + ([] : List Keyword).length + (if ([] : List Keyword).isEmpty then 0 else 1) < 30)) = true := by rfl)
    (hline : (apos.endLine == cpos.line) = true := by rfl) (hs : starEach (e :: es) X.env = (false, eval e X.env) :: starEach es X.env := by rfl)
    (hplain : (backTo cpos (starEach es X.env)).any (·.1) = false := by rfl) :
    PE X (.Call (.Attribute o name apos) (e :: es) [] cpos) (tTM r to t) := by
  refine ⟨fun pins s σ H Q I h => wpAny_Call_method_late hbase hfew hline rfl (thn (ho.run pins s σ H _ I h) fun v s1 hh => ?_)⟩
  obtain ⟨x, H1, I1, r1, q, xs, rfl, ⟨ob, hq, hd⟩, q1⟩ := hh
  obtain rfl : v = Value.ref q := r1
  have okq := I1.hok q _ hq
  have hget : s1.heap.get? q = some ob := okq.1
  obtain ⟨its, _, tp, _⟩ := I1.tuple (TupN.sq (K := X.K) ⟨ob, hq, hd⟩)
  have hcls : ob.cls = .type "tuple" := by
    obtain ⟨o2, h2, c2, _⟩ := tp
    rw [hget] at h2
    rw [Option.some.inj h2]
    exact c2
  refine ⟨"tuple", id, pa, slot, hty, ⟨ob, hget, hcls⟩, fun a ea => ?_, ?_⟩
  · cases ea
    exact ⟨ob, hget, hd⟩
  · have hA := ha.run cpos pins s1 σ H1 _ I1 q1
    rw [hs] at hA ⊢
    have e0 : (false || (backTo cpos (starEach es X.env)).any (·.1)) = false := by rw [hplain]; rfl
    refine Calls.callWith_builtin e0 (Calls.evalArgs_plain (thn hA fun us s2 h2 => ?_))
    obtain ⟨vs, H2, I2, r2, q2⟩ := h2
    exact hm pins s2 σ H2 (.ref q) vs _ us Q I2 rfl r2 q2
end
end L2

set_option Elab.async false
set_option linter.all false
set_option maxRecDepth 100000
set_option maxHeartbeats 1000000
/-! dicts whose keys are such tuples: found, stored, made -/
namespace L2
open PySem PySem.Spec PyProof.Rows
abbrev KAV := List (List Key × Addr × Value)
def DnR (P : Program) (w : World) (h : Heap) (d : Addr) (xs : KAV) : Prop := xs.length ≤ sizeLine ∧ (d == sysModules) = false ∧ (xs.map (·.1)).Nodup ∧
  ∃ o es ep, h.get? d = some o ∧ o.ExactDict ∧ o.data = .dict es ep ∧ es.toList = xs.map (entryOfKey (tupleKind (mixKind P w)))
/-- such a dict at d -/
def DnO (P : Program) (w : World) (d : Addr) (xs : KAV) : HO := .ext fun h => DnR P w h d xs
theorem DnR.at {P : Program} {w : World} {h h' : Heap} {d : Addr} {xs : KAV} (R : DnR P w h d xs) (k : ∀ o, h.get? d = some o → h'.get? d = some o) : DnR P w h' d xs :=
  let ⟨a, b, c, o, es, ep, e1, e2⟩ := R
  ⟨a, b, c, o, es, ep, k _ e1, e2⟩
theorem dn_ok {P : Program} {w : World} {H : Hp} {h : Heap} {d : Addr} {xs : KAV} (R : DnR P w h d xs) : ObjOk P w H h d (DnO P w d xs) :=
  ⟨R, let ⟨_, _, _, o, _, _, e, _⟩ := R; ⟨o, e⟩, fun _ _ r k => r.at k⟩
/-- the keys stand as tuples without a dict of their own -/
def KeysN (H : Hp) (xs : KAV) : Prop := ∀ x ∈ xs, TupN H x.2.1 (x.1.map kV)
theorem KeysN.same {H H' : Hp} {xs : KAV} (h : KeysN H xs) (S : Same H H') : KeysN H' xs := fun x hx => (h x hx).same S
section
variable {X : Cx} {pins : List (Addr × Obj)} {σ : St} {H : Hp} {s : Shared} {d b : Addr} {xs : KAV} {k : List Key}
theorem dn_get (I : Inv X pins σ H s) (e : Rd H d (DnO X.prog X.w d xs)) : DnR X.prog X.w s.heap d xs := by
  rcases e with e | ⟨o, e⟩
  · exact (I.hok d _ e).1
  · exact (I.hok d _ e).2.1
theorem key_N (I : Inv X pins σ H s) (h : SqT X.K H b (k.map kV)) : (tupleKind (mixKind X.prog X.w)).is s.heap k b := by
  obtain ⟨its, rv, ⟨o, h1, h2, n, h3⟩, _⟩ := I.tuple h
  exact ⟨o, its.toArray, n, h1, h2, h3, by simpa using items_are rv⟩
theorem dn_of (I : Inv X pins σ H s) (e : Rd H d (DnO X.prog X.w d xs)) (ks : KeysN H xs) : s.heap.DictOfH (tupleKind (mixKind X.prog X.w)) d xs := by
  obtain ⟨_, _, nd, o, es, ep, h1, h2, h3, h4⟩ := dn_get I e
  exact ⟨o, es, ep, h1, h2, h3, h4, fun x hx => key_N I (ks x hx).sq, nd⟩
end
section
variable {X : Cx}
def rDnGet (X : Cx) : R2 := fun x y H Q => ∃ (d : Addr) (xs : KAV) (b : Addr) (k : List Key) (p : Addr × Value) (v : V), x = .ref d ∧ y = .ref b ∧ Rd H d (DnO X.prog X.w d xs) ∧ KeysN H xs ∧ SqT X.K H b (k.map kV) ∧ atKey xs k = some p ∧ RelV v p.2 ∧ Q v H
theorem ix_dn (hu : X.A.units + 1 < cLine) : IxR X (rDnGet X) := by
  intro value slice pins s σ H x y v u Q I rx ry h hs
  obtain ⟨d, xs, b, k, p, z, rfl, rfl, e, ks, sb, hp, rz, q⟩ := h
  obtain rfl : v = Value.ref d := rx
  obtain rfl : u = Value.ref b := ry
  have dd := dn_of I e ks
  exact tail_any dd.typeIs slot_dict_getitem.lookup (wpAny_getItem_heap (tupleKind_room_in1 hu) (key_N I sb) dd hp ⟨z, H, I.tok _, rz, q⟩) hs
def rDnPut (X : Cx) : TSet := fun o i v H Q => ∃ (d : Addr) (xs : KAV) (b a : Addr) (k : List Key), o = .ref d ∧ i = .ref b ∧ v = .ref a ∧ H d = some (DnO X.prog X.w d xs) ∧ KeysN H xs ∧ SqT X.K H b (k.map kV) ∧ xs.length < sizeLine ∧ Q (upd H d (DnO X.prog X.w d (storedH xs k b (.ref a))))
theorem set_dn (hu : X.A.units + 1 < cLine) : PSet X (rDnPut X) := by
  intro pins s σ H o i v ov iv u Q I ro ri rv h
  obtain ⟨d, xs, b, a, k, rfl, rfl, rfl, e, ks, sb, hl, q⟩ := h
  obtain rfl : ov = Value.ref d := ro
  obtain rfl : iv = Value.ref b := ri
  obtain rfl : u = Value.ref a := rv
  have dd := dn_of I (.inl e) ks
  obtain ⟨hz, hm, _⟩ := dn_get I (.inl e)
  refine wpAny_setItem_heap (hsz := hz) (tupleKind_room_in1 hu) (key_N I sb) dd fun h' dd' hs => ⟨_, ?_, q⟩
  obtain ⟨o', es, ep, h1, h2, h3, h4, _, h5⟩ := dd'
  have ln : (storedH xs k b (Value.ref a)).length ≤ sizeLine := by
    unfold storedH
    split
    · rw [List.length_map]; exact hz
    · rw [List.length_append]; exact hl
  exact d_write I (by rw [e]; exact True.intro) hs ⟨o', h1⟩ (dn_ok ⟨ln, hm, h5, o', es, ep, h1, h2, h3, h4⟩)
def tDNewN (X : Cx) : TE := fun _ H Q => ∀ p, H p = none → Q (.ref p) (upd H p (DnO X.prog X.w p []))
theorem pe_dnewN {pos : Pos} : PE X (.Dict [] [] pos) (tDNewN X) := ⟨fun pins s σ H Q I h => by
  have R : DnR X.prog X.w (s.heap.push { cls := .type "dict", data := .dict #[] }) s.heap.objs.size [] :=
    ⟨Nat.zero_le _, beq_eq_false_iff_ne.mpr (Ne.symm (Nat.ne_of_lt I.big)), List.nodup_nil, _, #[], 0, Heap.get?_push_size _ rfl, ⟨rfl, rfl, rfl⟩, rfl, rfl⟩
  exact wpAny_Dict_empty ⟨.ref s.heap.objs.size, _, I.laid (t' := s.toks) (fun _ _ z => Heap.get?_push_of_some _ z) (Nat.le_refl _) (dn_ok R), rfl, h _ (I.hok.fresh (Nat.le_refl _))⟩⟩
end
end L2

set_option Elab.async false
set_option linter.all false
set_option maxRecDepth 100000
set_option maxHeartbeats 2000000
/-! for .. in d, d.values(), d.items(): d a dict whose keys are tuples without a dict of their own -/
namespace L2
open PySem PySem.Spec PyProof.Rows
/-- keys, their places, the places of the values -/
abbrev NAV := List (List Key × Addr × Addr)
def toV (x : List Key × Addr × Addr) : List Key × Addr × Value := (x.1, x.2.1, Value.ref x.2.2)
def DfO (P : Program) (w : World) (d : Addr) (l : NAV) : HO := DnO P w d (l.map toV)
section
variable {X : Cx} {pins : List (Addr × Obj)} {σ : St} {H : Hp} {s : Shared} {d : Addr} {o : Obj} {l : NAV}
theorem Inv.frzN (I : Inv X pins σ H s) (h : H d = some (.frz o (DfO X.prog X.w d l))) :
    (d == sysModules) = false ∧ s.heap.get? d = some o ∧ o.ExactDict ∧ ∃ (es : Array DictEntry) (ep : Nat), o.data = .dict es ep ∧ s.heap.DictRaw d es ep ∧ es.size = l.length ∧
      ∀ (i : Nat) (k : List Key) (q a : Addr) (hi : i < es.size), l[i]? = some (k, q, a) → es[i].key = .ref q ∧ es[i].val = .ref a := by
  obtain ⟨hd, ⟨_, hs, _, o', es, ep, ho, hx, hdt, he⟩, _⟩ := I.hok d _ h
  rw [hd] at ho
  cases ho
  have l1 := size_of_entries he
  rw [List.length_map] at l1
  refine ⟨hs, hd, hx, es, ep, hdt, ⟨o, hd, hx, hdt⟩, l1, fun i k q a hi e => ?_⟩
  have z := entry_at he i
  rw [List.getElem?_map, e, Array.getElem?_eq_getElem hi] at z
  have z2 := Option.some.inj z
  rw [z2]
  exact ⟨rfl, rfl⟩
end
def ItkN (P : Program) (w : World) (d : Addr) (o : Obj) (l : NAV) : It :=
  ⟨fun i H => H d = some (.frz o (DfO P w d l)) ∧ i < l.length, fun i H x H' => H' = H ∧ ∃ k q a, l[i]? = some (k, q, a) ∧ x = .ref q, fun i H => H d = some (.frz o (DfO P w d l)) ∧ l.length ≤ i⟩
def ItdN (P : Program) (w : World) (d : Addr) (o : Obj) (l : NAV) : It :=
  ⟨fun i H => H d = some (.frz o (DfO P w d l)) ∧ i < l.length, fun i H x H' => H' = H ∧ ∃ k q a, l[i]? = some (k, q, a) ∧ x = .ref a, fun i H => H d = some (.frz o (DfO P w d l)) ∧ l.length ≤ i⟩
def ItiN (P : Program) (w : World) (d : Addr) (o : Obj) (l : NAV) : It :=
  ⟨fun i H => H d = some (.frz o (DfO P w d l)) ∧ i < l.length, fun i H x H' => ∃ T k q a, l[i]? = some (k, q, a) ∧ x = .ref T ∧ H T = none ∧ H' = upd H T (.tup [.ref q, .ref a]), fun i H => H d = some (.frz o (DfO P w d l)) ∧ l.length ≤ i⟩
section
variable {P : Program} {w : World} {K : PySem.W.Frag} {tg : Expr} {d : Addr} {o : Obj} {es : Array DictEntry} {ep : Nat} {l : NAV}
theorem turn_keysN (it : Addr) (hod : o.data = .dict es ep) : Turn P w K tg (ItkN P w d o l) [it] it (fun i h => h.IsKeyIter it d i l.length ep) where
  mem := by simp
  obj := fun i h st b hb => by
    obtain rfl : b = it := by simpa using hb
    obtain ⟨oi, e, c, dd⟩ := st
    exact ⟨oi, e, fun v z => by rw [dd] at z; cases z⟩
  keep := fun i h h' st k => st.at fun oi e => k it (by simp) oi e
  item := by
    intro X hP hw hK hc i pins s σ H E I hf st hg
    subst hP hw hK
    obtain ⟨hd, hi⟩ := hg
    obtain ⟨f0, f1, f2, f3, f4, f5⟩ := hf it (by simp)
    obtain ⟨hs, hgd, hx, es', ep', hdt, raw, hsz, ent⟩ := I.frzN hd
    obtain ⟨rfl, rfl⟩ := dict_ep hod hdt
    obtain ⟨⟨k, q, a⟩, hkv⟩ : ∃ p, l[i]? = some p := ⟨l[i], List.getElem?_eq_getElem hi⟩
    have hi' : i < es'.size := by omega
    obtain ⟨ek, ev⟩ := ent i k q a hi' hkv
    refine next_key_item st hgd hdt hsz (Array.getElem?_eq_getElem hi') fun h' st' sb => ?_
    have I1 : Inv X pins σ H { s with heap := h' } := I.turned (t' := s.toks) (fun b ob hb e => (sb.2 b hb).trans e) f0 f1 f3 f4 f5
    obtain ⟨oi, e, c, dd⟩ := id st'
    exact ⟨es'[i].key, rfl, go_of (s := { s with heap := h' }) e c dd (by decide) ⟨.ref q, H, I1, ek, ⟨rfl, k, q, a, hkv, rfl⟩, st', fun b hb => (hf b hb).1⟩⟩
  done := by
    intro X hP hw hK hc i pins s σ H E I hf st hg
    subst hP hw hK
    obtain ⟨hd, hi⟩ := hg
    obtain ⟨f0, f1, f2, f3, f4, f5⟩ := hf it (by simp)
    obtain ⟨hs, hgd, hx, es', ep', hdt, raw, hsz, ent⟩ := I.frzN hd
    obtain ⟨rfl, rfl⟩ := dict_ep hod hdt
    exact next_key_end (I.ok.hd hc) st hgd hdt hsz hi fun h' eb => ⟨rfl, I.turned (t' := s.toks) (fun b ob hb e => eb b ob hb e) f0 f1 f3 f4 f5⟩
  self := fun A i s Q E st h => by
    refine wpAny_pyIter_slot st.typeIs F.slot_dict_keyiterator_iter (wpAny_call_entry F.slot_dict_keyiterator_iter st.typeIs F.entry_dict_keyiterator_iter ?_ (F.args_dict_keyiterator_iter_1 _))
    exact wpAny_pure ⟨_, rfl, "dict_keyiterator", _, st.typeIs, F.slot_dict_keyiterator_next.lookup, h⟩
theorem turn_valsN (it : Addr) (hod : o.data = .dict es ep) : Turn P w K tg (ItdN P w d o l) [it] it (fun i h => h.IsValIter it d i l.length ep) where
  mem := by simp
  obj := fun i h st b hb => by
    obtain rfl : b = it := by simpa using hb
    obtain ⟨oi, e, c, dd⟩ := st
    exact ⟨oi, e, fun v z => by rw [dd] at z; cases z⟩
  keep := fun i h h' st k => st.at fun oi e => k it (by simp) oi e
  item := by
    intro X hP hw hK hc i pins s σ H E I hf st hg
    subst hP hw hK
    obtain ⟨hd, hi⟩ := hg
    obtain ⟨f0, f1, f2, f3, f4, f5⟩ := hf it (by simp)
    obtain ⟨hs, hgd, hx, es', ep', hdt, raw, hsz, ent⟩ := I.frzN hd
    obtain ⟨rfl, rfl⟩ := dict_ep hod hdt
    obtain ⟨⟨k, q, a⟩, hkv⟩ : ∃ p, l[i]? = some p := ⟨l[i], List.getElem?_eq_getElem hi⟩
    have hi' : i < es'.size := by omega
    obtain ⟨ek, ev⟩ := ent i k q a hi' hkv
    rw [← hsz] at st
    refine wpAny_pyNext_values_item_raw st raw hi' fun h' st' sb => ?_
    have I1 : Inv X pins σ H { s with heap := h' } := I.turned (t' := s.toks) (fun b ob hb e => (sb.2 b hb).trans e) f0 f1 f3 f4 f5
    obtain ⟨oi, e, c, dd⟩ := id st'
    refine ⟨_, rfl, go_of (s := { s with heap := h' }) e c dd (by decide) ⟨.ref a, H, I1, ev, ⟨rfl, k, q, a, hkv, rfl⟩, ?_, fun b hb => (hf b hb).1⟩⟩
    show h'.IsValIter it d (i + 1) l.length _
    rw [← hsz]
    exact st'
  done := by
    intro X hP hw hK hc i pins s σ H E I hf st hg
    subst hP hw hK
    obtain ⟨hd, hi⟩ := hg
    obtain ⟨f0, f1, f2, f3, f4, f5⟩ := hf it (by simp)
    obtain ⟨hs, hgd, hx, es', ep', hdt, raw, hsz, ent⟩ := I.frzN hd
    obtain ⟨rfl, rfl⟩ := dict_ep hod hdt
    rw [← hsz] at st hi
    exact wpAny_pyNext_values_end_raw (I.ok.hd hc) st raw hi fun h' eb => ⟨rfl, I.turned (t' := s.toks) (fun b ob hb e => eb b ob hb e) f0 f1 f3 f4 f5⟩
  self := fun A i s Q E st h => wpAny_pyIter_valiter st h
theorem turn_itemsN {elts : List Expr} {kk : Nat} {tpos : Pos} (it : Addr) (hod : o.data = .dict es ep) :
    Turn P w K (.Tuple elts kk tpos) (ItiN P w d o l) [it] it (fun i h => ∃ ok ov, IsItemIter h it d i l.length ep ok ov) where
  mem := by simp
  obj := fun i h st b hb => by
    obtain rfl : b = it := by simpa using hb
    obtain ⟨ok, ov, e⟩ := st
    exact ⟨_, e, fun v z => nomatch z⟩
  keep := fun i h h' st k => let ⟨ok, ov, e⟩ := st; ⟨ok, ov, k it (by simp) _ e⟩
  item := by
    intro X hP hw hK hc i pins s σ H E I hf st hg
    subst hP hw hK
    obtain ⟨hd, hi⟩ := hg
    obtain ⟨hs, hgd, hx, es', ep', hdt, raw, hsz, ent⟩ := I.frzN hd
    obtain ⟨rfl, rfl⟩ := dict_ep hod hdt
    obtain ⟨⟨k, q, a⟩, hkv⟩ : ∃ p, l[i]? = some p := ⟨l[i], List.getElem?_eq_getElem hi⟩
    have hi' : i < es'.size := by omega
    obtain ⟨ek, ev⟩ := ent i k q a hi' hkv
    obtain ⟨ok, ov, he⟩ := st
    rw [← hsz] at he
    have hlt : it < s.heap.objs.size := Heap.lt_size he
    refine wpAny_pyNext_items_item_raw he raw hi' fun h' ho hT hz hk => ?_
    refine ⟨_, rfl, wpAny_letOwnedTupleGo_items (s := { s with heap := h' }) ho fun h'' he' sb => ?_⟩
    have hT2 : h''.get? s.heap.objs.size = some { cls := .type "tuple", data := .seq #[.ref q, .ref a] } := by rw [← ek, ← ev]; exact (sb.2 _ (Nat.ne_of_gt hlt)).trans hT
    have new : ObjOk X.prog X.w (upd H s.heap.objs.size (.tup [.ref q, .ref a])) h'' s.heap.objs.size (.tup [.ref q, .ref a]) :=
      ⟨by show 2 ≤ sizeLine; decide, [.ref q, .ref a], .cons rfl (.cons rfl .nil), ⟨_, hT2, rfl, _, rfl⟩⟩
    have I1 : Inv X pins σ (upd H s.heap.objs.size (.tup [.ref q, .ref a])) { s with heap := h'' } :=
      I.turnedNew (t' := s.toks) (ch := [it]) (fun b ob hb e => (sb.2 b (by simpa using hb)).trans (hk b ob (by simpa using hb) e)) hf (Nat.le_refl _) new
    refine ⟨.ref s.heap.objs.size, _, I1, rfl, ⟨_, k, q, a, hkv, rfl, I.hok.fresh (Nat.le_refl _), rfl⟩, ⟨es'[i].key, es'[i].val, ?_⟩, fun b hb => ?_⟩
    · rw [← hsz]; exact he'
    · have e : b = it := by simpa using hb
      rw [e, upd_ne (Nat.ne_of_lt hlt)]
      exact (hf it (by simp)).1
  done := by
    intro X hP hw hK hc i pins s σ H E I hf st hg
    subst hP hw hK
    obtain ⟨hd, hi⟩ := hg
    obtain ⟨f0, f1, f2, f3, f4, f5⟩ := hf it (by simp)
    obtain ⟨hs, hgd, hx, es', ep', hdt, raw, hsz, ent⟩ := I.frzN hd
    obtain ⟨rfl, rfl⟩ := dict_ep hod hdt
    obtain ⟨ok, ov, he⟩ := st
    rw [← hsz] at he hi
    exact wpAny_pyNext_items_end_raw (I.ok.hd hc) he raw hi fun h' eb => ⟨rfl, I.turned (t' := s.toks) (fun b ob hb e => eb b ob hb e) f0 f1 f3 f4 f5⟩
  self := fun A i s Q E st h => let ⟨_, _, e⟩ := st; PySem.W.kcp_self e h
end
def iKeysN (P : Program) (w : World) (td : TE) : TI := fun σ H R => td σ H fun x H1 => ∃ d o l, x = .ref d ∧ H1 d = some (.frz o (DfO P w d l)) ∧ R (ItkN P w d o l) H1
def iValsN (P : Program) (w : World) (td : TE) : TI := fun σ H R => td σ H fun x H1 => ∃ d o l, x = .ref d ∧ H1 d = some (.frz o (DfO P w d l)) ∧ R (ItdN P w d o l) H1
def iItemsN (P : Program) (w : World) (td : TE) : TI := fun σ H R => td σ H fun x H1 => ∃ d o l, x = .ref d ∧ H1 d = some (.frz o (DfO P w d l)) ∧ R (ItiN P w d o l) H1
section
variable {X : Cx} {tg e : Expr} {td : TE} {apos cpos : Pos}
theorem noDict_raw {s : Shared} {d : Addr} {es : Array DictEntry} {ep : Nat} (x : s.heap.DictRaw d es ep) : ∀ a : Addr, Value.ref d = Value.ref a → ∃ ob, s.heap.get? a = some ob ∧ ob.dict = none := by
  obtain ⟨o, h, c, _⟩ := x
  intro a e
  cases e
  exact ⟨o, h, c.2.1⟩
theorem pi_keysN (he : PE X e td) : PI X tg e (iKeysN X.prog X.w td) := by
  refine ⟨fun pins s σ H R I h => thn (he.run pins s σ H _ I h) fun u s1 hh => ?_⟩
  obtain ⟨x, H1, I1, rx, d, o, l, rfl, hd, q⟩ := hh
  obtain rfl : u = Value.ref d := rx
  obtain ⟨hs, hgd, hx, es, ep, hdt, raw, hsz, ent⟩ := I1.frzN hd
  refine iter_keys hs hgd hx hdt (pi_one (tk := s1.toks) I1 _ (turn_keysN _ hdt) ⟨_, Heap.get?_push_size _ rfl, rfl, ?_⟩ q)
  rw [hsz] <;> rfl
theorem pi_valuesN (he : PE X e td) (hbase : attributeBase e "values" X.env (eval e X.env) = eval e X.env := by rfl) (hline : (apos.endLine == cpos.line) = true := by rfl) : PI X tg (.Call (.Attribute e "values" apos) [] [] cpos) (iValsN X.prog X.w td) := by
  refine ⟨fun pins s σ H R I h => wpAny_Call_method (T := "dict") (id := "dict.values") hbase rfl hline F.plainAttrs_dict F.slot_dict_values F.type_dict_values (thn (he.run pins s σ H _ I h) fun u s1 hh => ?_)⟩
  obtain ⟨x, H1, I1, rx, d, o, l, rfl, hd, q⟩ := hh
  obtain rfl : u = Value.ref d := rx
  obtain ⟨hs, hgd, hx, es, ep, hdt, raw, hsz, ent⟩ := I1.frzN hd
  refine ⟨raw.typeIs, noDict_raw raw, ?_⟩
  have I2 : Inv X pins σ H1 { s1 with heap := s1.heap.push { cls := .type "dict_values", data := .fields #[.ref d] } } := I1.kept (t' := s1.toks) fun b ob q => Heap.get?_push_of_some _ q
  have fin : wpAny (model X.prog X.w) X.A (pyIter (.ref s1.heap.objs.size)) (PIE X pins σ tg R) X.xe { s1 with heap := s1.heap.push { cls := .type "dict_values", data := .fields #[.ref d] } } := by
    refine wpAny_pyIter_values_raw (d := d) ⟨_, Heap.get?_push_size _ rfl, rfl, rfl⟩ (raw.at fun _ e => Heap.get?_push_of_some _ e) (pi_one (tk := s1.toks) I2 _ (turn_valsN _ hdt) ⟨_, Heap.get?_push_size _ rfl, rfl, ?_⟩ q)
    rw [hsz] <;> rfl
  show wpAny _ _ (callWith cpos (.builtin "dict.values") [.ref d] [] []) _ X.xe s1
  exact method_meetsIn F.slot_dict_values F.entry_dict_values rfl (PySem.evalArgs_none ⟨rfl, raw.typeIs, F.args_dict_values_1 _, _, meets_dict_values_raw d hs, ⟨es, ep, raw⟩, fin⟩)
theorem pi_itemsN {elts : List Expr} {kk : Nat} {tpos : Pos} (he : PE X e td) (hbase : attributeBase e "items" X.env (eval e X.env) = eval e X.env := by rfl) (hline : (apos.endLine == cpos.line) = true := by rfl) :
    PI X (.Tuple elts kk tpos) (.Call (.Attribute e "items" apos) [] [] cpos) (iItemsN X.prog X.w td) := by
  refine ⟨fun pins s σ H R I h => wpAny_Call_method (T := "dict") (id := "dict.items") hbase rfl hline F.plainAttrs_dict F.slot_dict_items F.type_dict_items (thn (he.run pins s σ H _ I h) fun u s1 hh => ?_)⟩
  obtain ⟨x, H1, I1, rx, d, o, l, rfl, hd, q⟩ := hh
  obtain rfl : u = Value.ref d := rx
  obtain ⟨hs, hgd, hx, es, ep, hdt, raw, hsz, ent⟩ := I1.frzN hd
  refine ⟨raw.typeIs, noDict_raw raw, ?_⟩
  have I2 : Inv X pins σ H1 { s1 with heap := s1.heap.push { cls := .type "dict_items", data := .fields #[.ref d] } } := I1.kept (t' := s1.toks) fun b ob q => Heap.get?_push_of_some _ q
  have fin : wpAny (model X.prog X.w) X.A (pyIter (.ref s1.heap.objs.size)) (PIE X pins σ (.Tuple elts kk tpos) R) X.xe { s1 with heap := s1.heap.push { cls := .type "dict_items", data := .fields #[.ref d] } } := by
    refine wpAny_pyIter_items_raw (d := d) ⟨_, Heap.get?_push_size _ rfl, rfl, rfl⟩ (raw.at fun _ e => Heap.get?_push_of_some _ e) (pi_one (tk := s1.toks) I2 _ (turn_itemsN _ hdt) ⟨.none, .none, ?_⟩ q)
    rw [← hsz]
    exact Heap.get?_push_size _ rfl
  show wpAny _ _ (callWith cpos (.builtin "dict.items") [.ref d] [] []) _ X.xe s1
  exact method_meetsIn F.slot_dict_items F.entry_dict_items rfl (PySem.evalArgs_none ⟨rfl, raw.typeIs, F.args_dict_items_1 _, _, meets_dict_items_raw d hs, ⟨es, ep, raw⟩, fin⟩)
end
section
variable {P : Program} {w : World} {d : Addr} {o : Obj} {l : NAV}
theorem walk_keysN : Walk (ItkN P w d o l) l.length (fun H => H d = some (.frz o (DfO P w d l))) (fun i H x H' => H' = H ∧ ∃ k q a, l[i]? = some (k, q, a) ∧ x = .ref q) :=
  ⟨fun _ _ hi q => ⟨q, hi⟩, fun _ q => ⟨q, Nat.le_refl _⟩, fun _ _ _ _ _ _ y => y⟩
theorem walk_valuesN : Walk (ItdN P w d o l) l.length (fun H => H d = some (.frz o (DfO P w d l))) (fun i H x H' => H' = H ∧ ∃ k q a, l[i]? = some (k, q, a) ∧ x = .ref a) :=
  ⟨fun _ _ hi q => ⟨q, hi⟩, fun _ q => ⟨q, Nat.le_refl _⟩, fun _ _ _ _ _ _ y => y⟩
theorem walk_itemsN : Walk (ItiN P w d o l) l.length (fun H => H d = some (.frz o (DfO P w d l)))
    (fun i H x H' => ∃ T k q a, l[i]? = some (k, q, a) ∧ x = .ref T ∧ H T = none ∧ H' = upd H T (.tup [.ref q, .ref a])) :=
  ⟨fun _ _ hi q => ⟨q, hi⟩, fun _ q => ⟨q, Nat.le_refl _⟩, fun _ _ _ _ _ _ y => y⟩
end
end L2

set_option Elab.async false
set_option linter.all false
set_option maxRecDepth 100000
set_option maxHeartbeats 1000000
/-! such dicts: d[k], d.get(k, x), d[k] = v, {} -/
namespace L2
open PySem PySem.Spec PyProof.Rows
def findN (l : NAV) (k : List Key) : Option (Addr × Addr) := (l.find? fun x => decide (x.1 = k)).map (·.2)
def putN (l : NAV) (k : List Key) (b a : Addr) : NAV := if (findN l k).isSome = true then l.map (fun x => if x.1 = k then (x.1, x.2.1, a) else x) else l ++ [(k, b, a)]
theorem atKey_toV (l : NAV) (k : List Key) : atKey (l.map toV) k = (findN l k).map fun p => (p.1, Value.ref p.2) := by
  unfold atKey findN
  induction l with
  | nil => rfl
  | cons x r ih =>
    rw [List.map_cons, List.find?_cons, List.find?_cons]
    by_cases c : x.1 = k
    · rw [decide_eq_true c, decide_eq_true (show (toV x).1 = k from c)]
      rfl
    · rw [decide_eq_false c, decide_eq_false (show ¬ (toV x).1 = k from c)]
      exact ih
theorem storedH_toV (l : NAV) (k : List Key) (b a : Addr) : storedH (l.map toV) k b (.ref a) = (putN l k b a).map toV := by
  unfold storedH putN
  rw [atKey_toV, Option.isSome_map]
  by_cases c : (findN l k).isSome = true
  · rw [if_pos c, if_pos c, List.map_map, List.map_map]
    refine List.map_congr_left fun x _ => ?_
    show putAt k (Value.ref a) (toV x) = toV (if x.1 = k then (x.1, x.2.1, a) else x)
    unfold putAt
    by_cases e : x.1 = k
    · rw [if_pos e, if_pos (show (toV x).1 = k from e)]
      rfl
    · rw [if_neg e, if_neg (show ¬ (toV x).1 = k from e)]
  · rw [if_neg c, if_neg c, List.map_append]
    rfl
/-- the keys stand -/
def KeysD (H : Hp) (l : NAV) : Prop := ∀ x ∈ l, TupN H x.2.1 (x.1.map kV)
theorem KeysD.same {H H' : Hp} {l : NAV} (h : KeysD H l) (S : Same H H') : KeysD H' l := fun x hx => (h x hx).same S
theorem KeysD.sameB {D : Addr} {H H' : Hp} {l : NAV} {P : Program} {w : World} {m : KAV} (h : KeysD H l) (S : SameB D H H') (hD : H D = some (DnO P w D m)) : KeysD H' l := fun x hx => (h x hx).sameB S fun e => by
  obtain ⟨o, h1, _⟩ := h x hx
  rw [e, hD] at h1
  cases h1
theorem KeysD.toN {H : Hp} {l : NAV} (h : KeysD H l) : KeysN H (l.map toV) := fun x hx => by
  obtain ⟨y, hy, rfl⟩ := List.mem_map.mp hx
  exact h y hy
theorem KeysD.put {H : Hp} {l : NAV} {k : List Key} {b a : Addr} (h : KeysD H l) (hb : TupN H b (k.map kV)) : KeysD H (putN l k b a) := by
  unfold putN
  split
  · intro x hx
    obtain ⟨y, hy, rfl⟩ := List.mem_map.mp hx
    by_cases e : y.1 = k
    · rw [if_pos e]; exact h y hy
    · rw [if_neg e]; exact h y hy
  · intro x hx
    rcases List.mem_append.mp hx with hx | hx
    · exact h x hx
    · rw [List.mem_singleton.mp hx]; exact hb
/-- what the dict at d holds at y -/
def GetN (P : Program) (w : World) (K : PySem.W.Frag) (H : Hp) (d : Addr) (y : V) (r : Option Addr) : Prop := ∃ (l : NAV) (b : Addr) (k : List Key), Rd H d (DfO P w d l) ∧ KeysD H l ∧ y = .ref b ∧ SqT K H b (k.map kV) ∧ r = (findN l k).map (·.2)
def orV (r : Option Addr) (z : V) : V := match r with
  | some a => .ref a
  | none => z
def rDf (P : Program) (w : World) (K : PySem.W.Frag) : R2 := fun x y H Q => ∃ (d a : Addr), x = .ref d ∧ GetN P w K H d y (some a) ∧ Q (.ref a) H
def rDfPut (X : Cx) : TSet := fun o i v H Q => ∃ (d b a : Addr) (l : NAV) (k : List Key), o = .ref d ∧ i = .ref b ∧ v = .ref a ∧ H d = some (DfO X.prog X.w d l) ∧ KeysD H l ∧ SqT X.K H b (k.map kV) ∧ l.length < sizeLine ∧ Q (upd H d (DfO X.prog X.w d (putN l k b a)))
def tGet2N (X : Cx) (td ty tx : TE) : TE := fun σ H Q => td σ H fun x H1 => ∃ (d : Addr) (m : NAV), x = .ref d ∧ Rd H1 d (DfO X.prog X.w d m) ∧ ty σ H1 fun y H2 => tx σ H2 fun z H3 => ∃ r, GetN X.prog X.w X.K H3 d y r ∧ Q (orV r z) H3
def tNewD (X : Cx) : TE := fun _ H Q => ∀ p, H p = none → Q (.ref p) (upd H p (DfO X.prog X.w p []))
section
variable {X : Cx} {o e f : Expr} {apos cpos pos : Pos} {td ty tx : TE}
theorem ix_df (hu : X.A.units + 1 < cLine) : IxR X (rDf X.prog X.w X.K) := by
  intro value slice pins s σ H x y v u Q I rx ry h hs
  obtain ⟨d, a, rfl, ⟨l, b, k, hd, ks, rfl, sb, hr⟩, q⟩ := h
  obtain ⟨p, hp, rfl⟩ := Option.map_eq_some_iff.mp hr.symm
  exact ix_dn hu value slice pins s σ H _ _ v u Q I rx ry ⟨d, l.map toV, b, k, (p.1, .ref p.2), .ref p.2, rfl, rfl, hd, ks.toN, sb, by rw [atKey_toV, hp]; rfl, rfl, q⟩ hs
theorem set_df (hu : X.A.units + 1 < cLine) : PSet X (rDfPut X) := by
  intro pins s σ H o i v ov iv u Q I ro ri rv h
  obtain ⟨d, b, a, l, k, e1, e2, e3, hd, ks, sb, hl, q⟩ := h
  refine set_dn hu pins s σ H o i v ov iv u Q I ro ri rv ⟨d, l.map toV, b, a, k, e1, e2, e3, hd, ks.toN, sb, by rw [List.length_map]; exact hl, ?_⟩
  rw [storedH_toV]
  exact q
theorem pe_newD : PE X (.Dict [] [] pos) (tNewD X) := pe_dnewN
theorem dfo_is {pins : List (Addr × Obj)} {σ : St} {H : Hp} {s : Shared} {d : Addr} {l : NAV} (I : Inv X pins σ H s) (h : Rd H d (DfO X.prog X.w d l)) : s.TypeIs (.ref d) "dict" ∧ ∀ a : Addr, Value.ref d = .ref a → ∃ ob, s.heap.get? a = some ob ∧ ob.dict = none := by
  obtain ⟨_, _, _, ob, es, ep, h1, h2, _⟩ := dn_get I h
  refine ⟨⟨ob, h1, h2.1⟩, fun a ea => ?_⟩
  cases ea
  exact ⟨ob, h1, h2.2.1⟩
theorem pe_get2N (hu : X.A.units + 1 < cLine) (ho : PE X o td) (he : PE X e ty) (hf : PE X f tx) (m : M2 X o "get" apos e f cpos) : PE X (.Call (.Attribute o "get" apos) [e, f] [] cpos) (tGet2N X td ty tx) := by
  refine ⟨fun pins s σ H Q I h => wpAny_Call_method m.base m.few m.line PySem.F.plainAttrs_dict PySem.F.slot_dict_get PySem.F.type_dict_get (thn (ho.run pins s σ H _ I h) fun u s1 hh => ?_)⟩
  obtain ⟨x, H1, I1, rx, d, m', rfl, hd1, q1⟩ := hh
  obtain rfl : u = Value.ref d := rx
  obtain ⟨t1, t2⟩ := dfo_is I1 hd1
  refine ⟨t1, t2, ?_⟩
  rw [m.trees]
  refine Calls.callWith_builtin rfl (Calls.evalArgs_plain (Calls.spliced_cons (thn (he.run pins s1 σ H1 _ I1 q1) fun iv s2 h2 => ?_)))
  obtain ⟨y, H2, I2, ry, q2⟩ := h2
  refine Calls.spliced_cons (thn (hf.run pins s2 σ H2 _ I2 q2) fun fv s3 h3 => Calls.spliced_nil ?_)
  obtain ⟨z, H3, I3, rz, r, ⟨l, b, k, hd, ks, rfl, sb, hr⟩, q3⟩ := h3
  obtain rfl : iv = Value.ref b := ry
  have dd := dn_of I3 hd ks.toN
  obtain ⟨_, hm, _⟩ := dn_get I3 hd
  refine call_meetsIn PySem.F.slot_dict_get dd.typeIs PySem.F.entry_dict_get (PySem.F.args_dict_get_3 _ _ _) (meetsH_dict_get_default (tupleKind (mixKind X.prog X.w)) d b hm fv) ⟨tupleKind_room_in1 hu, k, l.map toV, key_N I3 sb, dd, orV r z, H3, I3.tok _, ?_, q3⟩
  rw [atKey_toV, hr]
  cases findN l k with
  | none => exact rz
  | some p => rfl
end
end L2

set_option Elab.async false
set_option linter.all false
set_option maxRecDepth 100000
set_option maxHeartbeats 2000000
/-! {k: v for target in iter if ..} whose keys are tuples; items() of such a dict. -/
namespace L2
open PySem PySem.Spec PyProof.Rows
theorem dn_empty {P : Program} {w : World} {H : Hp} (h : Heap) (hb : sysModules < h.objs.size) : ObjOk P w H (h.push { cls := .type "dict", data := .dict #[] }) h.objs.size (DfO P w h.objs.size []) :=
  dn_ok ⟨Nat.zero_le _, beq_eq_false_iff_ne.mpr (Ne.symm (Nat.ne_of_lt hb)), List.nodup_nil, _, #[], 0, Heap.get?_push_size _ rfl, ⟨rfl, rfl, rfl⟩, rfl, rfl⟩
/-- d[y] = z by a comprehension -/
theorem dN_set {X : Cx} {pins : List (Addr × Obj)} {σ : St} {H : Hp} {s : Shared} {D b a : Addr} {l : NAV} {k : List Key} {u r : Value} {Q : Unit → Shared → Prop} {E : Value → Shared → Prop} (hu : X.A.units < cLine) (I : Inv X pins σ H s) (hD : H D = some (DfO X.prog X.w D l)) (ks : KeysD H l) (hb : SqT X.K H b (k.map kV))
    (hz : l.length < sizeLine) (ry : RelV (.ref b) u) (rv : RelV (.ref a) r) (h : ∀ s', Inv X pins σ (upd H D (DfO X.prog X.w D (putN l k b a))) s' → Q () s') : wpAny (model X.prog X.w) X.A (dictSet D u r) Q E s := by
  obtain rfl : u = Value.ref b := ry
  obtain rfl : r = Value.ref a := rv
  have dd := dn_of I (.inl hD) ks.toN
  obtain ⟨z0, hm, _⟩ := dn_get I (.inl hD)
  refine wpAny_dictSet_heap (hsz := z0) hu (key_N I hb) dd fun h' dd' hs => h _ ?_
  rw [storedH_toV] at dd'
  obtain ⟨o, es, ep, ho, h2, h3, h4, _, h5⟩ := dd'
  have ln : ((putN l k b a).map toV).length ≤ sizeLine := by
    rw [List.length_map]
    unfold putN
    split
    · rw [List.length_map]; omega
    · rw [List.length_append]; exact hz
  exact d_write I (by rw [hD]; exact True.intro) hs ⟨o, ho⟩ (dn_ok ⟨ln, hm, h5, o, es, ep, ho, h2, h3, h4⟩)
/-- what a turn of such a comprehension leaves -/
def TurnN (P : Program) (w : World) (K : PySem.W.Frag) (D : Addr) (Nx : Hp → Prop) (y z : V) (H : Hp) : Prop := ∃ l k b a, y = .ref b ∧ z = .ref a ∧ SqT K H b (k.map kV) ∧ H D = some (DfO P w D l) ∧ KeysD H l ∧ l.length < sizeLine ∧ Nx (upd H D (DfO P w D (putN l k b a)))
/-- its reading: D the new dict -/
def tDcN (P : Program) (w : World) (K : PySem.W.Frag) (wi : TI) (g : TG) (tt : TT) (tk tv : TE) (vs : List Nat) : TE := fun σ H Q => wi σ H fun J H1 => ∀ D, H1 D = none → ∃ W : Nat → Nat → Hp → Prop, (∃ m, W 0 m (upd H1 D (DfO P w D []))) ∧ ∀ i m H, W i m H →
  (J.stop i H ∧ Q (.ref D) H) ∨ (J.go i H ∧ ∃ Nx : Hp → Prop, (∀ H', Nx H' → ∃ m', m' < m ∧ W (i + 1) m' H') ∧ ∀ x H', J.yld i H x H' → g x (wipe σ vs) H' fun σ2 H2 => wipe σ2 vs = wipe σ vs ∧ tt σ2 H2 fun b H3 =>
    if b = true then tk σ2 H3 fun y H4 => tv σ2 H4 fun z H5 => TurnN P w K D Nx y z H5 else Nx H3)
section
variable {X : Cx} {kx vx tg iter : Expr} {ifs : List Expr} {scope : Scope} {own : List (Str × Nat)} {pos : Pos} {wi : TI} {g : TG} {tt : TT} {tk tv : TE}
/-- a comprehension's block may be read in any state of the block's own context -/
structure BlkRN (X : Cx) (tg kx vx : Expr) (ifs : List Expr) (scope : Scope) (g : TG) (tt : TT) (tk tv : TE) : Prop where
  tg : ∀ (s : Shared) (H : Hp) (C : Addr) (cl : List (Str × Addr)) (fp : List Addr), PG (X.blk s H scope (compEnvC scope cl C X.env) fp) tg g
  ifs : ∀ (s : Shared) (H : Hp) (C : Addr) (cl : List (Str × Addr)) (fp : List Addr), PTs (X.blk s H scope (compEnvC scope cl C X.env) fp) ifs tt
  key : ∀ (s : Shared) (H : Hp) (C : Addr) (cl : List (Str × Addr)) (fp : List Addr), PE (X.blk s H scope (compEnvC scope cl C X.env) fp) kx tk
  val : ∀ (s : Shared) (H : Hp) (C : Addr) (cl : List (Str × Addr)) (fp : List Addr), PE (X.blk s H scope (compEnvC scope cl C X.env) fp) vx tv
theorem dcN_core {pins : List (Addr × Obj)} {s : Shared} {σ : St} {H : Hp} {Q : VK} {pos' : Pos} {use : Option (Value → Sem Unit)} {Qf : Value → Shared → Prop} (hu : X.A.units < cLine) (hc : X.calm = true) (hN : X.N.Nodup) (I : Inv X pins σ H s) (hi : PI X tg iter wi) (ok : BlkOk X.N X.env.scope scope own) (B : BlkRN X tg kx vx ifs scope g tt tk tv) (hs : ∀ x, foldedSetIterable iter X.env x = pure x)
    (h : tDcN X.prog X.w X.K wi g tt tk tv (own.map (·.2)) σ H Q)
    (fin : ∀ D C s' m H', Inv X pins σ H' s' → Q (.ref D) H' → s'.heap.Ns C m → FpOk X pins H' C → compPost (model X.prog X.w) X.A X.xe use Qf (.ref D) C (.ok .next) s') :
    wpAny (model X.prog X.w) X.A (comprehension (.DictComp kx vx [⟨tg, iter, ifs, 0⟩] scope pos) scope X.env pos' newDict false (eval iter X.env) use) Qf X.xe s := by
  have cells : ∀ y ∈ scope.names, y.2 = .free → ∃ c, X.env.cells.lookup y.1 = some c := fun y hy e => I.ok.has _ (ok.free y hy e)
  refine wpAny_comprehension_free (use := use) rfl hs (closure_ok cells) ok.kind (fun y hy e => by rw [ok.uniq y hy, e]) (thn (hi.run pins s σ H _ I h) fun xv s1 hx => thn hx fun itv s2 h2 => ?_)
  obtain ⟨it, fp, tn, J, H2, rfl, I2, T, st2, f2, q⟩ := h2
  refine wpAny_newObj_type (newEnv_comp ?_)
  -- the new dict, at D
  generalize hD : s2.heap.objs.size = D
  have Dn : H2 D = none := I2.hok.fresh (Nat.le_of_eq hD)
  obtain ⟨W, ⟨m0, w0⟩, turn⟩ := q D Dn
  generalize hs3 : ({ s2 with heap := s2.heap.push { cls := .type "dict", data := .dict #[] } } : Shared) = s3
  have h3 : s3.heap = s2.heap.push { cls := .type "dict", data := .dict #[] } := by rw [← hs3]
  have I3 : Inv X pins σ (upd H2 D (DfO X.prog X.w D [])) s3 := by
    subst hs3 hD
    exact I2.laid (t' := s2.toks) (fun _ _ e => Heap.get?_push_of_some _ e) (Nat.le_refl _) (dn_empty s2.heap I2.big)
  have below : ∀ b ∈ fp, b < s2.heap.objs.size := fun b hb => let ⟨o, e, _⟩ := T.obj _ _ st2 b hb; Heap.lt_size e
  have f3 : ∀ b ∈ fp, FpOk X pins (upd H2 D (DfO X.prog X.w D [])) b ∧ b < s3.heap.objs.size := fun b hb =>
    ⟨⟨by rw [upd_ne (by rw [← hD]; exact Nat.ne_of_lt (below b hb))]; exact (f2 b hb).1, (f2 b hb).2⟩, by rw [h3, Heap.size_push]; exact Nat.lt_succ_of_lt (below b hb)⟩
  have st3 : tn 0 s3.heap := T.keep _ _ _ st2 fun b _ o e => by rw [h3]; exact Heap.get?_push_of_some _ e
  have I4 := block_start I3 ok hN f3
  show codeAny _ _ (.compStart (.DictComp kx vx [⟨tg, iter, ifs, 0⟩] scope pos) 0 (.ref it) (.ref D) (compEnvC scope (cellsFrom (s3.heap.objs.size + 1) scope.names (cloFrom X.env.cells scope.names [])) s3.heap.objs.size X.env)) (compPost (model X.prog X.w) X.A X.xe use Qf (.ref D) s3.heap.objs.size) { s3 with heap := pushCells (s3.heap.push { cls := .type "dict", data := .dict #[] }) scope.names }
  have B1 := B.tg s3 (upd H2 D (DfO X.prog X.w D [])) s3.heap.objs.size (cellsFrom (s3.heap.objs.size + 1) scope.names (cloFrom X.env.cells scope.names [])) fp
  have B2 := B.ifs s3 (upd H2 D (DfO X.prog X.w D [])) s3.heap.objs.size (cellsFrom (s3.heap.objs.size + 1) scope.names (cloFrom X.env.cells scope.names [])) fp
  have B3 := B.key s3 (upd H2 D (DfO X.prog X.w D [])) s3.heap.objs.size (cellsFrom (s3.heap.objs.size + 1) scope.names (cloFrom X.env.cells scope.names [])) fp
  have B4 := B.val s3 (upd H2 D (DfO X.prog X.w D [])) s3.heap.objs.size (cellsFrom (s3.heap.objs.size + 1) scope.names (cloFrom X.env.cells scope.names [])) fp
  generalize hce : compEnvC scope (cellsFrom (s3.heap.objs.size + 1) scope.names (cloFrom X.env.cells scope.names [])) s3.heap.objs.size X.env = ce at I4 B1 B2 B3 B4 ⊢
  have cL : ce.locals = s3.heap.objs.size := by subst hce; rfl
  generalize hH3 : upd H2 D (DfO X.prog X.w D []) = H3 at I3 I4 B1 B2 B3 B4 w0 f3
  generalize hs4 : ({ s3 with heap := pushCells (s3.heap.push { cls := .type "dict", data := .dict #[] }) scope.names } : Shared) = s4 at I4 ⊢
  have st4 : tn 0 s4.heap := T.keep _ _ _ st3 fun b _ o e => by rw [← hs4]; exact pushCells_keeps _ _ _ _ (Heap.get?_push_of_some _ e)
  -- the iterator's objects are nobody's else
  have mine : ∀ {σ' : St} {H' : Hp} {s' : Shared}, Inv (X.blk s3 H3 scope ce fp) [] σ' H' s' → (∀ b ∈ fp, H' b = none) → ∀ b ∈ fp, FpOk (X.blk s3 H3 scope ce fp) [] H' b := fun {σ' H' s'} I' hn b hb =>
    ⟨hn b hb, (I'.ok.exf b hb).1, I'.ok.exfs b hb, .inl hb, fun x c e => (I'.ok.exf b hb).2 x c e, fun p hp => (List.not_mem_nil (show p ∈ ([] : List (Addr × Obj)) from hp)).elim⟩
  refine codeAny_compStart_dict ?loop (T.self X.A 0 _ _ _ st4 ?loop)
  refine compLoop_anyD (fun n s' => ∃ i H', Inv (X.blk s3 H3 scope ce fp) [] (wipe σ (own.map (·.2))) H' s' ∧ tn i s'.heap ∧ (∀ b ∈ fp, H' b = none) ∧ W i n H') ?_ m0 ⟨0, H3, I4, st4, fun b hb => (f3 b hb).1.1, w0⟩
  rintro n s5 ⟨i, H5, I5, st5, n5, w5⟩
  rcases turn i n H5 w5 with ⟨stop, fq⟩ | ⟨go, Nx, next, step⟩
  · -- no item is left: back to the def
    refine thnF (T.done (X.blk s3 H3 scope ce fp) rfl rfl rfl hc i [] s5 _ H5 (fun _ _ => False) I5 (mine I5 n5) st5 stop) fun r s6 hr => ?_
    obtain ⟨rfl, I6⟩ := hr
    have I7 : Inv X pins σ H5 s6 := I3.call' (ch := fp) I6.os I6.base I6.hok I6.bare fun b hb => ⟨(f3 b hb).1.2.2.2.1, (f3 b hb).1.2.1, (f3 b hb).1.2.2.2.2.1, (f3 b hb).1.2.2.2.2.2⟩
    obtain ⟨m, hn, _⟩ := I6.loc
    have nC : H5 s3.heap.objs.size = none := cL ▸ (show H5 ce.locals = none from I6.free)
    have hn' : s6.heap.Ns s3.heap.objs.size m := cL ▸ (show s6.heap.Ns ce.locals m from hn)
    exact fin D s3.heap.objs.size s6 m H5 I7 fq hn' (I3.fpOk (Nat.le_refl _) nC)
  · -- a turn
    refine thnF (T.item (X.blk s3 H3 scope ce fp) rfl rfl rfl hc i [] s5 _ H5 (fun _ _ => False) I5 (mine I5 n5) st5 go) fun r s6 hr => ?_
    obtain ⟨u, rfl, h6⟩ := hr
    refine thnF h6 fun _ s7 hh => ?_
    obtain ⟨x, H7, I7, r7, y7, st7, n7⟩ := hh
    have P7 := I7.pinned (mine I7 n7) (T.obj _ _ st7)
    refine thnF (B1.run _ s7 _ H7 x u _ P7 r7 (step x H7 y7)) fun _ s8 hh => ?_
    obtain ⟨σ8, H8, I8, hw8, q8⟩ := hh
    refine thnF (B2.run _ s8 σ8 H8 _ I8 q8) fun b s9 hh => ?_
    obtain ⟨H9, I9, q9⟩ := hh
    have close : ∀ {s' : Shared} {H' : Hp}, Inv (X.blk s3 H3 scope ce fp) ([] ++ pinsAt fp s7.heap) σ8 H' s' → Nx H' → ∃ m, m < n ∧ ∃ i H', Inv (X.blk s3 H3 scope ce fp) [] (wipe σ (own.map (·.2))) H' s' ∧ tn i s'.heap ∧ (∀ b ∈ fp, H' b = none) ∧ W i m H' := by
      intro s' H' I' nx
      obtain ⟨m', hm, w'⟩ := next H' nx
      have pin' : ∀ b ∈ fp, ∀ o, s7.heap.get? b = some o → s'.heap.get? b = some o ∧ H' b = none := fun b hb o e =>
        let z := I'.pin (b, o) (List.mem_append_right _ (List.mem_append_right _ (mem_pinsAt hb e)))
        ⟨z.1, z.2.1⟩
      refine ⟨m', hm, i + 1, H', (I'.unpinned (pins := [])).weak (by rw [← hw8, wipe_length]) (fun j v e => (wipe_some (hw8 ▸ e)).1), T.keep _ _ _ st7 fun b hb o e => (pin' b hb o e).1, fun b hb => ?_, w'⟩
      obtain ⟨o, e, _⟩ := T.obj _ _ st7 b hb
      exact (pin' b hb o e).2
    cases b with
    | false => exact close I9 (by simpa using q9)
    | true =>
      have q9' : tk σ8 H9 fun y H4 => tv σ8 H4 fun z H5 => TurnN X.prog X.w X.K D Nx y z H5 := by simpa using q9
      show wpAny _ _ (eval kx ce) _ _ _
      refine thnF (B3.run _ s9 σ8 H9 _ I9 q9') fun kv s10 hh => ?_
      obtain ⟨y, H10, I10, r10, q10⟩ := hh
      refine thnF (B4.run _ s10 σ8 H10 _ I10 q10) fun vv s11 hh => ?_
      obtain ⟨z, H11, I11, r11, l, k, b, a, rfl, rfl, hb, hD11, ksd, hz, nx⟩ := hh
      exact dN_set (X := X.blk s3 H3 scope ce fp) hu I11 hD11 ksd hb hz r10 r11 fun s12 I12 => close I12 nx
/-- as a value -/
theorem pe_dcN (hu : X.A.units < cLine) (hc : X.calm = true) (hN : X.N.Nodup) (hi : PI X tg iter wi) (ok : BlkOk X.N X.env.scope scope own) (B : BlkRN X tg kx vx ifs scope g tt tk tv) (hs : ∀ x, foldedSetIterable iter X.env x = pure x := by intro _; rfl) :
    PE X (.DictComp kx vx [⟨tg, iter, ifs, 0⟩] scope pos) (tDcN X.prog X.w X.K wi g tt tk tv (own.map (·.2))) := by
  refine ⟨fun pins s σ H Q I h => ?_⟩
  rw [arm_eval_DictComp]
  exact dcN_core hu hc hN I hi ok B hs h fun D C s' m H' I' q hn f => ⟨m, hn, fun h'' sb => ⟨.ref D, H', I'.turned (t' := s'.toks) (fun b o hb e => (sb.2 b hb).trans e) f.1 f.2.1 f.2.2.2.1 f.2.2.2.2.1 f.2.2.2.2.2, rfl, q⟩⟩
/-- name = {..} on one line, the name a local of the def's own -/
theorem ps_dcN {i : Nat} {y : Str} {py spos : Pos} (hsw : swapsWith (.DictComp kx vx [⟨tg, iter, ifs, 0⟩] scope pos) (some (.Name y py)) spos.line X.env = pure true) (hu : X.A.units < cLine) (hc : X.calm = true) (hN : X.N.Nodup) (hy : X.N[i]? = some y) (hyl : X.env.scope.names.lookup y = some .local)
    (hi : PI X tg iter wi) (ok : BlkOk X.N X.env.scope scope own) (B : BlkRN X tg kx vx ifs scope g tt tk tv) (hs : ∀ x, foldedSetIterable iter X.env x = pure x := by intro _; rfl) :
    PS X (.Assign [.Name y py] (.DictComp kx vx [⟨tg, iter, ifs, 0⟩] scope pos) spos) (tAsg (tDcN X.prog X.w X.K wi g tt tk tv (own.map (·.2))) (gName i)) := by
  refine ⟨fun pins s σ H D I h => ?_⟩
  rw [exec_Assign_Name_used _ _ _ _ hsw]
  refine wpAny_bind (wpAny_standAt (wpAny_bind ?_))
  show wpAny _ X.A (do let _ ← comprehension (.DictComp kx vx [⟨tg, iter, ifs, 0⟩] scope pos) scope X.env (firstIterPos [⟨tg, iter, ifs, 0⟩] pos) newDict false (eval iter X.env) (some (assign (.Name y py) X.env))) _ _ s
  refine wpAny_bind (thn (dcN_core (Q := fun x H1 => gName i x σ H1 D.nx) (Qf := fun _ s' => SP X pins D .next s') hu hc hN I hi ok B hs h fun L C s' m H' I' q hn f => ?_) fun _ s' hq => wpAny_pure (wpAny_pure hq))
  refine wpAny_assign_Name (store_ok2 (v := V.ref L) I' hN hy (.inl hyl) rfl (fun s2 I2 ⟨a, sb, ha⟩ => ?_) (.inr hyl))
  have ne : C ≠ a := by
    rcases ha with z | z
    · rw [z]; exact f.2.1
    · exact fun e => f.2.2.2.2.1 y a z e.symm
  exact ⟨m, hn.sameBut sb ne, fun h3 sb3 => ⟨_, H', I2.turned (t' := s2.toks) (fun b o hb e => (sb3.2 b hb).trans e) f.1 f.2.1 f.2.2.2.1 f.2.2.2.2.1 f.2.2.2.2.2, q⟩⟩
theorem swD_true {y : Str} {gs : List Comprehension} {py : Pos} {l : Nat} {env : Env} (hk : env.scope.kind = .function) (hy : env.scope.names.lookup y = some .local) (hl : (py.line == pos.line) = true)
    (ha : (scope.names.any fun (n, k) => n == y && (k == .local || k == .cell)) = false) : swapsWith (.DictComp kx vx gs scope pos) (some (.Name y py)) l env = pure true := by
  have ky : env.kindOf y = some .local := hy
  have hb : env.blockKind = .function := by unfold Env.blockKind; rw [hk]; rfl
  unfold swapsWith
  simp only [hb, ky, ha, Expr.pos, hl]
  rfl
end
end L2

set_option Elab.async false
set_option linter.all false
set_option maxRecDepth 100000
set_option maxHeartbeats 1000000
/-! {k: v}, k a tuple without a dict of its own; (a, b) as such a tuple -/
namespace L2
open PySem PySem.Spec PyProof.Rows
def tTupN (t : TA) : TE := fun σ H Q => t σ H fun xs H1 => xs.length ≤ sizeLine ∧ NewN H1 xs Q
theorem pe_tupN {X : Cx} {es : List Expr} {t : TA} {pos : Pos} {x1} (h : PA X es t) : PE X (.Tuple es x1 pos) (tTupN t) := by
  refine ⟨fun pins s σ H Q I hq => wpAny_Tuple_spliced (thn (h.run pos pins s σ H _ I hq) fun us s1 hh => ?_)⟩
  obtain ⟨xs, H1, I1, r, z, q⟩ := hh
  have n1 : H1 s1.heap.objs.size = none := I1.hok.fresh (Nat.le_refl _)
  exact ⟨by rw [← r.length]; exact z, .ref s1.heap.objs.size, _, tupN_laid I1 r z, rfl, q _ _ (Same.upd n1) n1 ⟨_, upd_same, rfl⟩⟩
def tDispN (X : Cx) (tk tv : TE) : TE := fun σ H Q => ∀ p, H p = none → tk σ (upd H p (DfO X.prog X.w p [])) fun x H1 => tv σ H1 fun y H2 => H2 p = some (DfO X.prog X.w p []) ∧ ∃ k b a, x = .ref b ∧ y = .ref a ∧ SqT X.K H2 b (k.map kV) ∧ Q (.ref p) (upd H2 p (DfO X.prog X.w p [(k, b, a)]))
section
variable {X : Cx} {k v : Expr} {tk tv : TE} {pos : Pos}
theorem pe_dispN (hu : X.A.units < cLine) (hk : PE X k tk) (hv : PE X v tv) : PE X (.Dict [some k] [v] pos) (tDispN X tk tv) := by
  refine ⟨fun pins s σ H Q I q => ?_⟩
  have hn := I.hok.fresh (Nat.le_refl s.heap.objs.size)
  generalize hp : s.heap.objs.size = p at hn
  have I1 : Inv X pins σ (upd H p (DfO X.prog X.w p [])) { s with heap := s.heap.push { cls := .type "dict", data := .dict #[] } } := by
    subst hp
    exact I.laid (t' := s.toks) (fun _ _ e => Heap.get?_push_of_some _ e) (Nat.le_refl _) (dn_empty s.heap I.big)
  have one : (pairTrees [some k] [v] X.env pos).length = 1 := rfl
  rw [arm_eval_Dict, zip_pairTrees [some k] [v] X.env pos rfl rfl, dictDisplay_pairs _ (by intro e; rw [e] at one; cases one) (by rw [one]; decide)]
  refine wpAny_bind (wpAny_standAt (wpAny_bind (wpAny_subDictH (knd := tupleKind (mixKind X.prog X.w)) (Q := fun d s' => wpAny (model X.prog X.w) X.A (pure (Value.ref d)) (EP X pins σ Q) X.xe s') hu (by rw [one]; decide) ?_)))
  refine thn ((pps_cons (pos := pos) hk hv pps_nil).run pins _ σ _ (fun ps H2 => match ps with
    | [(x, y)] => H2 p = some (DfO X.prog X.w p []) ∧ ∃ k b a, x = .ref b ∧ y = .ref a ∧ SqT X.K H2 b (k.map kV) ∧ Q (.ref p) (upd H2 p (DfO X.prog X.w p [(k, b, a)]))
    | _ => False) I1 (q p hn)) fun ws s2 hh => ?_
  obtain ⟨ps, H2, I2, rel, hh⟩ := hh
  match ps, hh with
  | [(x, y)], ⟨hD, kk, b, a, ex, ey, hb, hq⟩ =>
    subst ex ey
    unfold VV at rel
    cases rel with
    | @cons _ w1 _ _ h t =>
    cases t
    obtain ⟨w1a, w1b⟩ := w1
    obtain ⟨rx, ry⟩ := h
    obtain rfl : w1a = Value.ref b := rx
    obtain rfl : w1b = Value.ref a := ry
    have dd := dn_of I2 (.inl hD) (fun x hx => absurd hx List.not_mem_nil)
    rw [hp]
    refine ⟨[(kk, b, .ref a)], ⟨rfl, rfl, key_N I2 hb, trivial⟩, dd, fun h' tk dd' hs => wpAny_pure ⟨.ref p, _, ?_, rfl, hq⟩⟩
    obtain ⟨_, hm, _⟩ := dn_get I2 (.inl hD)
    obtain ⟨o, es, ep, ho, h2, h3, h4, _, h5⟩ := dd'
    exact d_write I2 (by rw [hD]; exact True.intro) hs ⟨o, ho⟩ (dn_ok ⟨by show 1 ≤ sizeLine; decide, hm, List.nodup_cons.mpr ⟨List.not_mem_nil, List.nodup_nil⟩, o, es, ep, ho, h2, h3, h4⟩)
end
end L2

set_option Elab.async false
set_option linter.all false
set_option maxRecDepth 100000
/-! Forms as lists of (letters, coefficient): the mathematics. -/
namespace L2
open PySem PySem.Spec PyProof.Rows
/-- the pair that lowest makes -/
def loq (a b : Int) : Int × Int :=
  let g : Int := ((Nat.gcd a.natAbs b.natAbs : Nat) : Int)
  let s := if b > 0 then g else -g
  (a.fdiv s, b.fdiv s)
theorem fdiv_dvd {a s : Int} (hs : s ≠ 0) (h : s ∣ a) : a.fdiv s = a / s := by
  obtain ⟨k, rfl⟩ := h
  rw [Int.mul_fdiv_cancel_left _ hs, Int.mul_ediv_cancel_left _ hs]
theorem loq_eq {a b : Int} (hb : b ≠ 0) : loq a b = ((Rat.divInt a b).num, ((Rat.divInt a b).den : Int)) := by
  have gp : 0 < Nat.gcd a.natAbs b.natAbs := Nat.gcd_pos_of_pos_right _ (by omega)
  have d1 : ((Nat.gcd a.natAbs b.natAbs : Nat) : Int) ∣ a := PySem.W.mg_dvd_left a b
  have d2 : ((Nat.gcd a.natAbs b.natAbs : Nat) : Int) ∣ b := PySem.W.mg_dvd_right a b
  unfold loq
  rw [Rat.num_divInt, Rat.den_divInt, if_neg hb]
  have gc : b.gcd a = Nat.gcd a.natAbs b.natAbs := by unfold Int.gcd; exact Nat.gcd_comm _ _
  rw [gc]
  generalize Nat.gcd a.natAbs b.natAbs = g at gp d1 d2
  have hg : (g : Int) ≠ 0 := by omega
  rcases Int.lt_or_gt_of_ne hb with h | h
  · have s1 : b.sign = -1 := Int.sign_eq_neg_one_of_neg h
    have e1 : a.fdiv (-(g : Int)) = b.sign * a / (g : Int) := by
      rw [fdiv_dvd (by omega) (Int.neg_dvd.mpr d1), s1]
      rw [Int.ediv_neg, show (-1 : Int) * a = -a by omega, Int.neg_ediv_of_dvd d1]
    have e2 : b.fdiv (-(g : Int)) = ((b.natAbs / g : Nat) : Int) := by
      rw [fdiv_dvd (by omega) (Int.neg_dvd.mpr d2), Int.ediv_neg, ← Int.neg_ediv_of_dvd d2]
      rw [Int.natCast_ediv]
      congr 1
      omega
    simp only [show ¬ (b > 0) by omega, if_false]
    rw [e1, e2]
  · have s1 : b.sign = 1 := Int.sign_eq_one_of_pos h
    have e1 : a.fdiv (g : Int) = b.sign * a / (g : Int) := by
      rw [fdiv_dvd hg d1, s1, Int.one_mul]
    have e2 : b.fdiv (g : Int) = ((b.natAbs / g : Nat) : Int) := by
      rw [fdiv_dvd hg d2, Int.natCast_ediv]
      congr 1
      omega
    simp only [show b > 0 from h, if_true]
    rw [e1, e2]
theorem loq_add (p q : Rat) : loq (p.num * (q.den : Int) + q.num * (p.den : Int)) ((p.den : Int) * (q.den : Int)) = ((p + q).num, ((p + q).den : Int)) := by
  have hp : (p.den : Int) ≠ 0 := by have := p.den_nz; omega
  have hq : (q.den : Int) ≠ 0 := by have := q.den_nz; omega
  rw [loq_eq (by intro e; rcases Int.mul_eq_zero.mp e with h | h <;> contradiction)]
  have e : Rat.divInt (p.num * (q.den : Int) + q.num * (p.den : Int)) ((p.den : Int) * (q.den : Int)) = p + q := by
    rw [← Rat.divInt_add_divInt _ _ hp hq, Rat.num_divInt_den, Rat.num_divInt_den]
  rw [e]
theorem loq_mul (p q : Rat) : loq (p.num * q.num) ((p.den : Int) * (q.den : Int)) = ((p * q).num, ((p * q).den : Int)) := by
  have hp : (p.den : Int) ≠ 0 := by have := p.den_nz; omega
  have hq : (q.den : Int) ≠ 0 := by have := q.den_nz; omega
  rw [loq_eq (by intro e; rcases Int.mul_eq_zero.mp e with h | h <;> contradiction)]
  have e : Rat.divInt (p.num * q.num) ((p.den : Int) * (q.den : Int)) = p * q := by
    rw [← Rat.divInt_mul_divInt, Rat.num_divInt_den, Rat.num_divInt_den]
  rw [e]
theorem rat_num (q : Rat) : (q.num : Rat) = q * (q.den : Rat) := by
  have h := Rat.num_divInt_den q
  rw [Rat.divInt_eq_div] at h
  have hd : ((q.den : Int) : Rat) ≠ 0 := by
    intro e
    have := Rat.intCast_inj.mp (e.trans (by rfl : (0 : Rat) = ((0 : Int) : Rat)))
    have := q.den_nz
    omega
  rw [Rat.intCast_natCast] at h hd
  grind
/-- a fraction's tuple -/
def frac (x : Rat) : List V := [.int x.num, .int x.den]
/-- q is z over D, z no more than M -/
def Bq (D M : Nat) (q : Rat) : Prop := ∃ z : Int, q * (D : Rat) = (z : Rat) ∧ z.natAbs ≤ M
theorem Bq.den {D M : Nat} {q : Rat} (h : Bq D M q) : q.den ∣ D := by
  obtain ⟨z, e, _⟩ := h
  have h1 : q.num * (D : Int) = z * (q.den : Int) := by
    have e1 : (q.num : Rat) = q * (q.den : Rat) := rat_num q
    have : ((q.num * (D : Int) : Int) : Rat) = ((z * (q.den : Int) : Int) : Rat) := by
      rw [Rat.intCast_mul, Rat.intCast_mul, e1, Rat.intCast_natCast, Rat.intCast_natCast, ← e]
      grind
    exact Rat.intCast_inj.mp this
  have h2 : q.den ∣ q.num.natAbs * D := by
    have h3 : (q.den : Int) ∣ q.num * (D : Int) := ⟨z, by rw [h1, Int.mul_comm]⟩
    have h4 := Int.natAbs_dvd_natAbs.mpr h3
    rwa [Int.natAbs_mul, Int.natAbs_natCast, Int.natAbs_natCast] at h4
  exact Nat.Coprime.dvd_of_dvd_mul_left (Nat.Coprime.symm q.reduced) h2
theorem Bq.den_le {D M : Nat} {q : Rat} (h : Bq D M q) (hD : 0 < D) : q.den ≤ D := Nat.le_of_dvd hD h.den
theorem Bq.num_le {D M : Nat} {q : Rat} (h : Bq D M q) (hD : 0 < D) : q.num.natAbs ≤ M := by
  obtain ⟨k, hk⟩ := h.den
  obtain ⟨z, e, hz⟩ := h
  have hk0 : 0 < k := by
    rcases Nat.eq_zero_or_pos k with r | r
    · rw [r, Nat.mul_zero] at hk; omega
    · exact r
  have h1 : q.num * (k : Int) = z := by
    have e1 : (q.num : Rat) = q * (q.den : Rat) := rat_num q
    have : ((q.num * (k : Int) : Int) : Rat) = (z : Rat) := by
      rw [Rat.intCast_mul, e1, Rat.intCast_natCast, ← e, hk, Rat.natCast_mul]
      grind
    exact Rat.intCast_inj.mp this
  have h2 : z.natAbs = q.num.natAbs * k := by rw [← h1, Int.natAbs_mul, Int.natAbs_natCast]
  rw [h2] at hz
  exact Nat.le_trans (Nat.le_mul_of_pos_right _ hk0) hz
theorem Bq.mono {D M M' : Nat} {q : Rat} (h : Bq D M q) (hM : M ≤ M') : Bq D M' q := let ⟨z, e, l⟩ := h; ⟨z, e, Nat.le_trans l hM⟩
theorem Bq.scale {D M k : Nat} {q : Rat} (h : Bq D M q) : Bq (D * k) (M * k) q := by
  obtain ⟨z, e, l⟩ := h
  refine ⟨z * k, ?_, ?_⟩
  · rw [Rat.natCast_mul, Rat.intCast_mul, Rat.intCast_natCast, ← e]; grind
  · rw [Int.natAbs_mul, Int.natAbs_natCast]; exact Nat.mul_le_mul_right _ l
theorem Bq.add {D M N : Nat} {p q : Rat} (h : Bq D M p) (k : Bq D N q) : Bq D (M + N) (p + q) := by
  obtain ⟨z, e, l⟩ := h
  obtain ⟨y, f, m⟩ := k
  refine ⟨z + y, ?_, ?_⟩
  · rw [Rat.intCast_add, ← e, ← f]; grind
  · have := Int.natAbs_add_le z y; omega
theorem Bq.mul {D E M N : Nat} {p q : Rat} (h : Bq D M p) (k : Bq E N q) : Bq (D * E) (M * N) (p * q) := by
  obtain ⟨z, e, l⟩ := h
  obtain ⟨y, f, m⟩ := k
  refine ⟨z * y, ?_, ?_⟩
  · rw [Rat.intCast_mul, Rat.natCast_mul, ← e, ← f]; grind
  · rw [Int.natAbs_mul]; exact Nat.mul_le_mul l m
theorem Bq.neg {D M : Nat} {q : Rat} (h : Bq D M q) : Bq D M (-q) := by
  obtain ⟨z, e, l⟩ := h
  refine ⟨-z, ?_, ?_⟩
  · rw [Rat.intCast_neg, ← e]; grind
  · omega
theorem Bq.zero {D : Nat} : Bq D 0 0 := ⟨0, by rw [Rat.zero_mul]; rfl, Nat.le_refl _⟩
theorem Bq.int {n : Int} : Bq 1 n.natAbs (n : Rat) := ⟨n, by grind, Nat.le_refl _⟩
end L2

set_option Elab.async false
set_option linter.all false
set_option maxRecDepth 100000
set_option maxHeartbeats 1000000
/-! A form's dict: keys and fractions. -/
namespace L2
open PySem PySem.Spec PyProof.Rows
abbrev Mon := List Str
abbrev Fm := List (Mon × Rat)
def kS (m : Mon) : List Key := m.map Sum.inr
theorem kS_inj {m n : Mon} (h : kS m = kS n) : m = n := by
  unfold kS at h
  exact (List.map_inj_right (fun a b e => Sum.inr.inj e)).mp h
theorem kS_kV (m : Mon) : (kS m).map kV = m.map V.str := by
  unfold kS
  rw [List.map_map]
  rfl
/-- what holds of tuples in H holds in H' -/
structure Mv (K : PySem.W.Frag) (H H' : Hp) : Prop where
  sq : ∀ a xs, SqT K H a xs → SqT K H' a xs
  tn : ∀ q xs, TupN H q xs → TupN H' q xs
/-- the dict's items are the form's terms -/
def FmKv (K : PySem.W.Frag) (H : Hp) (l : NAV) (fm : Fm) : Prop := Paired (fun e mq => e.1 = kS mq.1 ∧ TupN H e.2.1 (e.1.map kV) ∧ SqT K H e.2.2 (frac mq.2)) l fm
def valM (fm : Fm) (m : Mon) : Option Rat := (fm.find? fun x => decide (x.1 = m)).map (·.2)
def putM (fm : Fm) (m : Mon) (q : Rat) : Fm := if (fm.any fun x => decide (x.1 = m)) = true then fm.map (fun x => if x.1 = m then (x.1, q) else x) else fm ++ [(m, q)]
theorem SqT.same {K : PySem.W.Frag} {H H' : Hp} {a : Addr} {xs : List V} (h : SqT K H a xs) (S : Same H H') : SqT K H' a xs := by
  rcases h with (h | ⟨o, h⟩) | h
  · exact .inl (.inl (S _ _ h))
  · exact .inl (.inr ⟨o, S _ _ h⟩)
  · exact .inr h
theorem SqT.off {K : PySem.W.Frag} {H : Hp} {a d : Addr} {xs : List V} {u v : HO} (h : SqT K H a xs) (hd : H d = some u) (n1 : u ≠ .tup xs) (n2 : ∀ o, u ≠ .frz o (.tup xs)) : SqT K (upd H d v) a xs := by
  rcases h with (h | ⟨o, h⟩) | h
  · refine .inl (.inl ?_)
    rw [upd_ne]
    · exact h
    · rintro rfl
      rw [hd] at h
      exact n1 (Option.some.inj h)
  · refine .inl (.inr ⟨o, ?_⟩)
    rw [upd_ne]
    · exact h
    · rintro rfl
      rw [hd] at h
      exact n2 o (Option.some.inj h)
  · exact .inr h
theorem TupN.off {H : Hp} {q d : Addr} {xs : List V} {u v : HO} (h : TupN H q xs) (hd : H d = some u) (n2 : ∀ o, u ≠ .frz o (.tup xs)) : TupN (upd H d v) q xs := by
  obtain ⟨o, h1, h2⟩ := h
  refine ⟨o, ?_, h2⟩
  rw [upd_ne]
  · exact h1
  · rintro rfl
    rw [hd] at h1
    exact n2 o (Option.some.inj h1)
/-- no tuple, locked or not -/
def NoTup (u : HO) : Prop := (∀ xs, u ≠ .tup xs) ∧ ∀ o xs, u ≠ .frz o (.tup xs)
theorem noTup_df {P : Program} {w : World} {d : Addr} {l : NAV} : NoTup (DfO P w d l) := ⟨fun _ z => (nomatch (show HO.ext _ = _ from z)), fun _ _ z => (nomatch (show HO.ext _ = _ from z))⟩
theorem noTup_fz {P : Program} {w : World} {d : Addr} {o : Obj} {l : NAV} : NoTup (.frz o (DfO P w d l)) := ⟨fun _ z => (nomatch z), fun _ _ z => by
  injection z with _ e
  exact (nomatch (show HO.ext _ = _ from e))⟩
theorem Mv.refl {K : PySem.W.Frag} (H : Hp) : Mv K H H := ⟨fun _ _ h => h, fun _ _ h => h⟩
theorem Mv.trans {K : PySem.W.Frag} {H H' H'' : Hp} (a : Mv K H H') (b : Mv K H' H'') : Mv K H H'' := ⟨fun x y h => b.sq x y (a.sq x y h), fun x y h => b.tn x y (a.tn x y h)⟩
theorem Mv.same {K : PySem.W.Frag} {H H' : Hp} (S : Same H H') : Mv K H H' := ⟨fun _ _ h => h.same S, fun _ _ h => h.same S⟩
theorem Mv.off {K : PySem.W.Frag} {H : Hp} {d : Addr} {u v : HO} (hd : H d = some u) (n : NoTup u) : Mv K H (upd H d v) := ⟨fun _ xs h => h.off hd (n.1 xs) fun o => n.2 o xs, fun _ xs h => h.off hd fun o => n.2 o xs⟩
theorem Mv.sameB {K : PySem.W.Frag} {D : Addr} {H H' : Hp} {u : HO} (S : SameB D H H') (hD : H D = some u) (n : NoTup u) : Mv K H H' := ⟨fun a xs h => by
  rcases h with (h | ⟨o, h⟩) | h
  · exact .inl (.inl (S _ _ (fun e => by rw [e, hD] at h; exact n.1 xs (Option.some.inj h)) h))
  · exact .inl (.inr ⟨o, S _ _ (fun e => by rw [e, hD] at h; exact n.2 o xs (Option.some.inj h)) h⟩)
  · exact .inr h, fun q xs h => by
  obtain ⟨o, h1, h2⟩ := h
  exact ⟨o, S _ _ (fun e => by rw [e, hD] at h1; exact n.2 o xs (Option.some.inj h1)) h1, h2⟩⟩
theorem Mv.agree {K : PySem.W.Frag} {H H' : Hp} {d : Addr} {u : HO} (hd : H d = some u) (n : NoTup u) (A : ∀ b, b ≠ d → H' b = H b) : Mv K H H' := ⟨fun a xs h => by
  rcases h with (h | ⟨o, h⟩) | h
  · exact .inl (.inl (by rw [A a fun e => by rw [e, hd] at h; exact n.1 xs (Option.some.inj h)]; exact h))
  · exact .inl (.inr ⟨o, by rw [A a fun e => by rw [e, hd] at h; exact n.2 o xs (Option.some.inj h)]; exact h⟩)
  · exact .inr h, fun q xs h => by
  obtain ⟨o, h1, h2⟩ := h
  exact ⟨o, by rw [A q fun e => by rw [e, hd] at h1; exact n.2 o xs (Option.some.inj h1)]; exact h1, h2⟩⟩
section
variable {K : PySem.W.Frag} {H H' : Hp} {l : NAV} {fm : Fm}
theorem FmKv.imp (h : FmKv K H l fm) (f : Mv K H H') : FmKv K H' l fm := Paired.mapP h fun _ _ z => ⟨z.1, f.tn _ _ z.2.1, f.sq _ _ z.2.2⟩
theorem FmKv.same (h : FmKv K H l fm) (S : Same H H') : FmKv K H' l fm := h.imp (.same S)
theorem FmKv.length (h : FmKv K H l fm) : l.length = fm.length := Paired.length h
theorem FmKv.keys (h : FmKv K H l fm) : KeysD H l := by
  unfold FmKv at h
  induction h with
  | nil => intro x hx; exact absurd hx List.not_mem_nil
  | cons r t ih =>
    intro x hx
    rcases List.mem_cons.mp hx with rfl | hx
    · exact r.2.1
    · exact ih x hx
theorem findN_hit {x : List Key × Addr × Addr} {r : NAV} {k : List Key} (e : x.1 = k) : findN (x :: r) k = some x.2 := by simp [findN, List.find?_cons, e]
theorem findN_miss {x : List Key × Addr × Addr} {r : NAV} {k : List Key} (e : ¬ x.1 = k) : findN (x :: r) k = findN r k := by simp [findN, List.find?_cons, e]
theorem FmKv.val (h : FmKv K H l fm) (m : Mon) : (findN l (kS m) = none ∧ valM fm m = none) ∨ ∃ b a q, findN l (kS m) = some (b, a) ∧ valM fm m = some q ∧ SqT K H a (frac q) := by
  unfold FmKv at h
  induction h with
  | nil => exact .inl ⟨rfl, rfl⟩
  | @cons p x ps xs r t ih =>
    obtain ⟨e, _, sa⟩ := r
    by_cases c : x.1 = m
    · exact .inr ⟨p.2.1, p.2.2, x.2, findN_hit (by rw [e, c]), by simp [valM, List.find?_cons, c], sa⟩
    · rw [findN_miss fun z => c (kS_inj (e.symm.trans z)), show valM (x :: xs) m = valM xs m by simp [valM, List.find?_cons, c]]
      exact ih
theorem FmKv.any (h : FmKv K H l fm) (m : Mon) : (findN l (kS m)).isSome = (fm.any fun x => decide (x.1 = m)) := by
  unfold FmKv at h
  induction h with
  | nil => rfl
  | @cons p x ps xs r t ih =>
    rw [List.any_cons]
    by_cases c : x.1 = m
    · rw [findN_hit (by rw [r.1, c]), decide_eq_true c]
      rfl
    · rw [findN_miss fun z => c (kS_inj (r.1.symm.trans z)), ih, decide_eq_false c, Bool.false_or]
theorem FmKv.put (h : FmKv K H l fm) (m : Mon) {q : Rat} {b a : Addr} (hb : TupN H b ((kS m).map kV)) (sa : SqT K H a (frac q)) : FmKv K H (putN l (kS m) b a) (putM fm m q) := by
  unfold putN putM
  rw [h.any m]
  split
  · have e : ∀ {l : NAV} {n : Fm}, FmKv K H l n → FmKv K H (l.map fun x => if x.1 = kS m then (x.1, x.2.1, a) else x) (n.map fun x => if x.1 = m then (x.1, q) else x) := by
      intro l n g
      unfold FmKv at g ⊢
      induction g with
      | nil => exact .nil
      | @cons p x ps xs r t ih =>
        rw [List.map_cons, List.map_cons]
        refine .cons ?_ ih
        by_cases c : x.1 = m
        · rw [if_pos c, if_pos (by rw [r.1, c])]
          exact ⟨r.1, r.2.1, sa⟩
        · rw [if_neg c, if_neg fun z => c (kS_inj (r.1.symm.trans z))]
          exact r
    exact e h
  · exact Paired.snoc h ⟨rfl, hb, sa⟩
theorem FmKv.get (h : FmKv K H l fm) {i : Nat} {e : List Key × Addr × Addr} (g : l[i]? = some e) : ∃ m q b a, fm[i]? = some (m, q) ∧ e = (kS m, b, a) ∧ TupN H b ((kS m).map kV) ∧ SqT K H a (frac q) := by
  obtain ⟨b, hb, e1, e2, sa⟩ := paired_get h g
  exact ⟨b.1, b.2, e.2.1, e.2.2, hb, Prod.ext e1 rfl, by rw [← e1]; exact e2, sa⟩
end
theorem putM_new {fm : Fm} {m : Mon} (q : Rat) (h : m ∉ fm.map (·.1)) : putM fm m q = fm ++ [(m, q)] := by
  unfold putM
  rw [if_neg]
  intro z
  obtain ⟨x, hx, e⟩ := List.any_eq_true.mp z
  exact h (List.mem_map.mpr ⟨x, hx, of_decide_eq_true e⟩)
theorem same_back {H H' : Hp} {d : Addr} {u z : HO} (hd : H d = some u) (S : Same (upd H d z) H') : Same H (upd H' d u) := by
  intro b o e
  by_cases c : b = d
  · subst c
    rw [upd_same]
    rw [hd] at e
    exact e
  · rw [upd_ne c]
    exact S b o (by rw [upd_ne c]; exact e)
end L2

set_option Elab.async false
set_option linter.all false
set_option maxRecDepth 100000
set_option maxHeartbeats 1000000
/-! lambda x: (len(x), x), called with a tuple of texts -/
namespace L2
open PySem PySem.Spec PySem.Calls PyProof.Rows PySem.W
abbrev lmPar (p : Pos) : Arguments := { posonlyargs := [], args := [{ arg := "names", annotation := none, pos := p }], vararg := none, kwonlyargs := [], kw_defaults := [], kwarg := none, defaults := [] }
abbrev lmBody (p1 p2 p3 p4 p5 : Pos) : Expr := .Tuple [.Call (.Name "len" p1) [.Name "names" p2] [] p3, .Name "names" p4] 0 p5
abbrev lmScope : Scope := { kind := .function, names := [("names", .local), ("len", .globalImplicit)], isGenerator := false, isCoroutine := false, more := [] }
/-- its key -/
def kM (m : Mon) : PyData := .tuple [.int (m.length : Int), .tuple (m.map PyData.str)]
theorem readsAll_strs {h : Heap} : ∀ {vs : List Value} {xs : List Str}, StrsAre vs xs → ReadsAll h vs (xs.map PyData.str) []
  | _, _, .nil => .nil
  | _, _, .cons x t r => .cons (as := []) (.str x t) (readsAll_strs r)
section
variable {prog : Program} {w : World} {A : Around} {s : Shared}
theorem lam_key {p p1 p2 p3 p4 p5 : Pos} {f c' t : Addr} {qual : Str} {pm ctv : Value} {mg mb : Str → Option Value} {its : List Value} {m : Mon}
    (hroom : A.depth < recursionLimit) (hf : s.heap.get? f = some (kla_obj "<lambda>" qual (lmPar p) (lmBody p1 p2 p3 p4 p5) lmScope [] pm c' ctv)) (hcd : s.heap.CodeRec (.ref c') qual) (hnl : s.heap.NoLimit)
    (hg : s.heap.Ns mainGlobals mg) (hlen : mg "len" = none) (hb : s.heap.Ns builtinsNs mb) (hmb : mb "len" = some (.builtin "len")) (ht : s.heap.IsTuple t its.toArray) (hs : StrsAre its m) (small : m.length ≤ sizeLine) :
    wpAny (model prog w) A (call (.ref f) [.ref t]) (KeyPure (kM m) s) (fun _ _ => False) s := by
  refine wpAny_call (kla_callFunE hroom hf rfl rfl rfl rfl hcd ?_)
  rw [show bindArgs (kla_fn "<lambda>" qual (lmPar p) (lmBody p1 p2 p3 p4 p5) lmScope [] pm (.ref c') ctv) ⟨[Value.ref t], []⟩ = pure [(("names" : Str), Value.ref t)] from rfl]
  refine wpAny_pure (wpAny_newFunctionEnv (fun y hy => ?_) (fun y hy => ?_) (fun h₁ hns hsb => ⟨hnl.fresh _ hsb, ?_⟩) rfl)
  · intro z
    simp only [List.mem_cons, List.not_mem_nil, or_false] at hy
    rcases hy with rfl | rfl <;> cases z
  · rw [List.mem_singleton.mp hy]
    rfl
  have kp : ∀ b o, s.heap.get? b = some o → h₁.get? b = some o := fun b o e => (hsb.2 b (Nat.ne_of_lt (Heap.lt_size e))).trans (Heap.get?_push_of_some _ e)
  refine kla_codeExpr ?_
  generalize henv : newEnv (kla_fn "<lambda>" qual (lmPar p) (lmBody p1 p2 p3 p4 p5) lmScope [] pm (.ref c') ctv).scope s.heap.objs.size _ _ _ _ _ _ _ = env
  have name : ∀ {A' : Around} {pos : Pos} {s1 : Shared} {Q : Value → Shared → Prop} {E : Value → Shared → Prop}, s1.heap = h₁ → Q (.ref t) s1 → wpAny (model prog w) A' (eval (.Name "names" pos) env) Q E s1 := fun e q =>
    wpAny_Name (wpAny_loadName_local (by rw [← henv]; rfl) (by rw [← henv]; rfl) (by rw [e, ← henv]; exact hns) (by rfl) q) (by decide)
  have sl : m.length < 2 ^ 63 := Nat.lt_of_le_of_lt small (by rw [sizeLine_eq]; decide)
  have ln := hs.len_eq
  refine wpAny_Tuple_spliced ?_
  show wpAny _ _ (spliced [(false, eval (.Call (.Name "len" p1) [.Name "names" p2] [] p3) env), (false, eval (.Name "names" p4) env)]) _ _ _
  refine spliced_cons (wpAny_Call_Name_kw (Name_function_global (by rw [← henv]; rfl) (by rw [← henv]; rfl) (loadGlobal_builtin (mg := mg) (mb := mb) (by rw [← henv]; exact hg.keeps kp) hlen (by rw [← henv]; exact hb.keeps kp) hmb ?_)))
  refine callWith_builtin1 (name rfl ?_)
  refine len_tuple (items := its.toArray) (let ⟨o, ho, r⟩ := ht; ⟨o, kp _ _ ho, r⟩) (by simp only [List.size_toArray]; omega) ?_
  refine spliced_cons (name rfl (spliced_nil ⟨by show 2 ≤ sizeLine; decide, ?_⟩))
  refine ⟨_, _, rfl, fun b o e => Heap.get?_push_of_some _ (kp b o e), ?_⟩
  refine Reads.tuple (as := []) (Heap.get?_push_size _ rfl) rfl rfl ?_
  obtain ⟨o, ho, hc, n, hd⟩ := ht
  have r1 : ∀ u : Obj, Reads (h₁.push u) (.ref t) (.tuple (m.map PyData.str)) [] := fun u => Reads.tuple (as := []) (Heap.get?_push_of_some _ (kp _ _ ho)) hc hd (by rw [List.toList_toArray]; exact readsAll_strs hs)
  have e : ((its.toArray.size : Nat) : Int) = (m.length : Int) := by rw [List.size_toArray, ln]
  rw [← e]
  exact .cons (as := []) (.int _ _) (.cons (as := []) (r1 _) .nil)
end
end L2

set_option Elab.async false
set_option linter.all false
set_option maxRecDepth 100000
set_option maxHeartbeats 1000000
/-! {names: .. for .. in a form's dict} -/
namespace L2
open PySem PySem.Spec PyProof.Rows
/-- a comprehension over n turns: Pv by the turn and the heap (the new dict at D within) -/
theorem dcN_it {P : Program} {w : World} {K : PySem.W.Frag} {J : It} {n : Nat} {G : Hp → Prop} {Y : Nat → Hp → V → Hp → Prop} (wk : Walk J n G Y) {g : TG} {tt : TT} {tk tv : TE} {vs : List Nat} {σ : St} {H1 : Hp} {D : Addr} {Qd : Hp → Prop} (Pv : Nat → Hp → Prop) (h0 : Pv 0 (upd H1 D (DfO P w D [])))
    (hG : ∀ i H, i ≤ n → Pv i H → G H) (hs : ∀ i x H H', i < n → Pv i H → Y i H x H' → g x (wipe σ vs) H' fun σ2 H2 => wipe σ2 vs = wipe σ vs ∧ tt σ2 H2 fun b H3 =>
      if b = true then tk σ2 H3 fun y H4 => tv σ2 H4 fun z H5 => TurnN P w K D (Pv (i + 1)) y z H5 else Pv (i + 1) H3) (hd : ∀ H, Pv n H → Qd H) :
    ∃ W : Nat → Nat → Hp → Prop, (∃ m, W 0 m (upd H1 D (DfO P w D []))) ∧ ∀ i m H, W i m H →
      (J.stop i H ∧ Qd H) ∨ (J.go i H ∧ ∃ Nx : Hp → Prop, (∀ H', Nx H' → ∃ m', m' < m ∧ W (i + 1) m' H') ∧ ∀ x H', J.yld i H x H' → g x (wipe σ vs) H' fun σ2 H2 => wipe σ2 vs = wipe σ vs ∧ tt σ2 H2 fun b H3 =>
        if b = true then tk σ2 H3 fun y H4 => tv σ2 H4 fun z H5 => TurnN P w K D Nx y z H5 else Nx H3) := by
  refine ⟨fun i m H => m + i = n ∧ Pv i H, ⟨n, rfl, h0⟩, fun i m H hw => ?_⟩
  obtain ⟨hm, p⟩ := hw
  have q := hG i H (by omega) p
  cases m with
  | zero =>
    have hi : i = n := by omega
    subst hi
    exact .inl ⟨wk.stops H q, hd H p⟩
  | succ k => exact .inr ⟨wk.goes i H (by omega) q, Pv (i + 1), fun H' p' => ⟨k, Nat.lt_succ_self k, by omega, p'⟩, fun x H' y => hs i x H H' (by omega) p (wk.yields i H x H' (by omega) q y)⟩
/-- the terms that p keeps, their coefficients by f -/
def mapM (p : Rat → Bool) (f : Rat → Rat) (fm : Fm) : Fm := (fm.filter fun x => p x.2).map fun x => (x.1, f x.2)
theorem mapM_keys {p : Rat → Bool} {f : Rat → Rat} {fm : Fm} {m : Mon} (h : m ∈ (mapM p f fm).map (·.1)) : m ∈ fm.map (·.1) := by
  unfold mapM at h
  rw [List.map_map] at h
  obtain ⟨x, hx, e⟩ := List.mem_map.mp h
  exact List.mem_map.mpr ⟨x, (List.mem_filter.mp hx).1, e⟩
theorem mapM_snoc {p : Rat → Bool} {f : Rat → Rat} {fm : Fm} {m : Mon} {q : Rat} : mapM p f (fm ++ [(m, q)]) = if p q = true then mapM p f fm ++ [(m, f q)] else mapM p f fm := by
  unfold mapM
  rw [List.filter_append]
  by_cases c : p q = true
  · rw [if_pos c, List.filter_cons, if_pos c, List.filter_nil, List.map_append]
    rfl
  · rw [if_neg c, List.filter_cons, if_neg c, List.filter_nil, List.append_nil]
theorem mapM_nodup {p : Rat → Bool} {f : Rat → Rat} {fm : Fm} (h : (fm.map (·.1)).Nodup) : ((mapM p f fm).map (·.1)).Nodup := by
  unfold mapM
  rw [List.map_map]
  exact List.Nodup.sublist ((List.filter_sublist).map _) h
theorem take_snoc {α : Type} {l : List α} {i : Nat} {x : α} (h : l[i]? = some x) : l.take (i + 1) = l.take i ++ [x] := by
  rw [List.take_succ, h]
  rfl
theorem nodup_new {fm : Fm} (h : (fm.map (·.1)).Nodup) {i : Nat} {m : Mon} {q : Rat} (e : fm[i]? = some (m, q)) : m ∉ (fm.take i).map (·.1) := by
  intro z
  rw [List.map_take] at z
  obtain ⟨j, hj⟩ := List.getElem?_of_mem z
  have hji : j < i := by
    rcases Nat.lt_or_ge j i with c | c
    · exact c
    · rw [List.getElem?_eq_none (by rw [List.length_take]; omega)] at hj
      cases hj
  rw [List.getElem?_take_of_lt hji] at hj
  have e' : (fm.map (·.1))[i]? = some m := by rw [List.getElem?_map, e]; rfl
  obtain ⟨li, ei⟩ := List.getElem?_eq_some_iff.mp e'
  obtain ⟨lj, ej⟩ := List.getElem?_eq_some_iff.mp hj
  have := (List.getElem_inj (xs := fm.map (·.1)) h).mp (ej.trans ei.symm)
  omega
/-- over d.items(): what a turn does with a term -/
theorem dcN_fm {P : Program} {w : World} {K : PySem.W.Frag} {H1 : Hp} {d D : Addr} {o : Obj} {l : NAV} {fm : Fm} {p : Rat → Bool} {f : Rat → Rat} {g : TG} {tt : TT} {tk tv : TE} {vs : List Nat} {σ : St} {Qd : Hp → Prop}
    (hd : H1 d = some (.frz o (DfO P w d l))) (hD : H1 D = none) (hf : FmKv K H1 l fm) (hn : (fm.map (·.1)).Nodup) (hz : fm.length ≤ sizeLine)
    (hs : ∀ (i : Nat) (m : Mon) (q : Rat) (H' : Hp) (T b a : Addr) (put : V → V → Hp → Prop) (skip : Hp → Prop), fm[i]? = some (m, q) → Same H1 H' → H' T = some (.tup [.ref b, .ref a]) → TupN H' b ((kS m).map kV) → SqT K H' a (frac q) →
      (p q = true → ∀ H5 (b' a' : Addr), Same H' H5 → TupN H5 b' ((kS m).map kV) → SqT K H5 a' (frac (f q)) → put (.ref b') (.ref a') H5) → (p q = false → ∀ H5, Same H' H5 → skip H5) →
      g (.ref T) (wipe σ vs) H' fun σ2 H2 => wipe σ2 vs = wipe σ vs ∧ tt σ2 H2 fun c H3 => if c = true then tk σ2 H3 fun y H4 => tv σ2 H4 fun z H5 => put y z H5 else skip H3)
    (hq : ∀ H' l', Same H1 H' → H' D = some (DfO P w D l') → FmKv K H' l' (mapM p f fm) → Qd H') :
    ∃ W : Nat → Nat → Hp → Prop, (∃ m, W 0 m (upd H1 D (DfO P w D []))) ∧ ∀ i m H, W i m H →
      ((ItiN P w d o l).stop i H ∧ Qd H) ∨ ((ItiN P w d o l).go i H ∧ ∃ Nx : Hp → Prop, (∀ H', Nx H' → ∃ m', m' < m ∧ W (i + 1) m' H') ∧ ∀ x H', (ItiN P w d o l).yld i H x H' → g x (wipe σ vs) H' fun σ2 H2 => wipe σ2 vs = wipe σ vs ∧ tt σ2 H2 fun b H3 =>
        if b = true then tk σ2 H3 fun y H4 => tv σ2 H4 fun z H5 => TurnN P w K D Nx y z H5 else Nx H3) := by
  refine dcN_it walk_itemsN (fun i H' => Same H1 H' ∧ ∃ l', H' D = some (DfO P w D l') ∧ FmKv K H' l' (mapM p f (fm.take i))) ⟨Same.upd hD, [], upd_same, .nil⟩ (fun i H _ q => q.1 _ _ hd) ?_ ?_
  · rintro i x H H' hi ⟨S, l', hD', kv'⟩ ⟨T, k, qb, av, hkv, rfl, nT, rfl⟩
    obtain ⟨m, q, b, a, hm, e, tb, sa⟩ := hf.get hkv
    obtain ⟨rfl, e2⟩ := Prod.mk.inj e
    obtain ⟨rfl, rfl⟩ := Prod.mk.inj e2
    have S2 : Same H (upd H T (.tup [.ref qb, .ref av])) := Same.upd nT
    have hD2 := S2 _ _ hD'
    have tk1 := take_snoc hm
    have ml : (mapM p f (fm.take i)).length ≤ i := by
      unfold mapM
      rw [List.length_map]
      exact Nat.le_trans (List.length_filter_le _ _) (by rw [List.length_take]; exact Nat.min_le_left _ _)
    have hil : i < fm.length := by rw [← hf.length]; exact hi
    refine hs i m q _ T qb av _ _ hm (S.trans S2) upd_same ((tb.same S).same S2) ((sa.same S).same S2) (fun pq H5 b' a' S5 hb' sa' => ?_) (fun pq H5 S5 => ?_)
    · have k5 : FmKv K H5 l' (mapM p f (fm.take i)) := (kv'.same S2).same S5
      refine ⟨l', kS m, b', a', rfl, rfl, hb'.sq, S5 _ _ hD2, k5.keys, ?_, ?_, ?_⟩
      · rw [kv'.length]
        omega
      · intro c u e
        rw [upd_ne (ne_of_none e hD)]
        exact S5 _ _ (S2 _ _ (S _ _ e))
      · refine ⟨_, upd_same, ?_⟩
        rw [tk1, mapM_snoc, if_pos pq]
        have n5 : m ∉ (mapM p f (fm.take i)).map (·.1) := fun z => nodup_new hn hm (mapM_keys z)
        have k6 := k5.put m hb' sa'
        rw [putM_new _ n5] at k6
        exact k6.imp (.off (S5 _ _ hD2) noTup_df)
    · refine ⟨(S.trans S2).trans S5, l', S5 _ _ hD2, ?_⟩
      rw [tk1, mapM_snoc, if_neg (by rw [pq]; exact Bool.false_ne_true)]
      exact (kv'.same S2).same S5
  · rintro H ⟨S, l', hD', kv'⟩
    rw [hf.length, List.take_length] at kv'
    exact hq H l' S hD' kv'
/-- the dict locked, its items walked by a dict comprehension, the dict open again -/
theorem lock_items {P : Program} {w : World} {K : PySem.W.Frag} {H : Hp} {d : Addr} {l : NAV} {fm : Fm} {p : Rat → Bool} {f : Rat → Rat} {td : TE} {g : TG} {tt : TT} {tk tv : TE} {vs : List Nat} {σ : St} {Q : VK}
    (hd : H d = some (DfO P w d l)) (hf : FmKv K H l fm) (hn : (fm.map (·.1)).Nodup) (hz : fm.length ≤ sizeLine)
    (hte : ∀ (od : Obj) (R : VK), R (.ref d) (upd H d (.frz od (DfO P w d l))) → td σ (upd H d (.frz od (DfO P w d l))) R)
    (hs : ∀ (H1 : Hp), Mv K H H1 → ∀ (i : Nat) (m : Mon) (q : Rat) (H' : Hp) (T b a : Addr) (put : V → V → Hp → Prop) (skip : Hp → Prop), fm[i]? = some (m, q) → Same H1 H' → H' T = some (.tup [.ref b, .ref a]) → TupN H' b ((kS m).map kV) → SqT K H' a (frac q) →
      (p q = true → ∀ H5 (b' a' : Addr), Same H' H5 → TupN H5 b' ((kS m).map kV) → SqT K H5 a' (frac (f q)) → put (.ref b') (.ref a') H5) → (p q = false → ∀ H5, Same H' H5 → skip H5) →
      g (.ref T) (wipe σ vs) H' fun σ2 H2 => wipe σ2 vs = wipe σ vs ∧ tt σ2 H2 fun c H3 => if c = true then tk σ2 H3 fun y H4 => tv σ2 H4 fun z H5 => put y z H5 else skip H3)
    (hq : ∀ H' D l', Same H H' → H D = none → H' D = some (DfO P w D l') → FmKv K H' l' (mapM p f fm) → Q (.ref D) H') :
    tLockE (tDcN P w K (iItemsN P w td) g tt tk tv vs) σ H Q := by
  refine ⟨d, DfO P w d l, hd, trivial, fun od => ?_⟩
  have M1 : Mv K H (upd H d (.frz od (DfO P w d l))) := .off hd noTup_df
  refine hte od _ ⟨d, od, l, rfl, upd_same, fun D nD => ?_⟩
  have neD : D ≠ d := by
    rintro rfl
    rw [upd_same] at nD
    cases nD
  have nD' : H D = none := by rwa [upd_ne neD] at nD
  refine dcN_fm (p := p) (f := f) upd_same nD (hf.imp M1) hn hz (hs _ M1) fun H' l' S hD kv => ⟨S _ _ upd_same, ?_⟩
  exact hq _ D l' (same_back hd S) nD' (by rw [upd_ne neD]; exact hD) (kv.imp (.off (S _ _ upd_same) noTup_fz))
end L2

set_option Elab.async false
set_option linter.all false
set_option maxRecDepth 100000
set_option maxHeartbeats 1000000
/-! the row's statements, and what stands where -/
namespace L2
open PySem PySem.Spec PyProof.Rows
/-- // by any number but 0 -/
def CDivX (_ j : Int) : Prop := j ≠ 0 ∧ j.natAbs.log2 < 9000
section
variable {X : Cx}
theorem op_fdivX : OpR X (binaryOp .FloorDiv) (rI CDivX fun i j => .int (i.fdiv j)) := opI fun i j _ _ _ _ _ hc q => floordiv_int hc.1 q (.inl (PyProof.noPylong_of_log2 hc.2))
end
end L2
namespace E2
open PySem L2
def top (i : Nat) : Stmt := PySem.Challenge.pw_cellplaces_k03_whole_terms.main.body.getD i (.Pass ⟨0, 0, 0, 0⟩)
abbrev sIsWhole : Stmt := top 8
abbrev sIsLetter : Stmt := top 9
abbrev sIsValues : Stmt := top 10
abbrev sForm : Stmt := top 12
abbrev sLetter : Stmt := top 13
abbrev sNumber : Stmt := top 14
abbrev sRightSide : Stmt := top 15
abbrev sWithout : Stmt := top 16
abbrev sProductAt : Stmt := top 17
abbrev sLowest : Stmt := top 18
abbrev sFracSum : Stmt := top 19
abbrev sFracProd : Stmt := top 20
/-- a def of the module's, by its name -/
structure DefOk (P : Program) (w : World) (K : PySem.W.Frag) (mg : Str → Option Value) (base : Heap) (k : Nat) (x : Str) (ps : List Str) (sp : Sp) : Prop where
  ex : ∃ (f : Addr) (fd : FuncData), mg x = some (.ref f) ∧ PySem.W.keepIn K (.ref f) = true ∧ FnOk P w K mg base CX0 k f fd ps sp ∧ Binds K fd ps []
end E2

set_option Elab.async false
set_option linter.all false
set_option maxRecDepth 100000
set_option maxHeartbeats 1000000
/-! lowest, fraction_sum, fraction_product -/
namespace E2
open PySem PySem.Spec PyProof.Rows L2
open C8 (Cal Mak Met InsC pe_c pe_mt pe_mt0 call_isC clsBody)
theorem log2_mono {a b : Nat} (h : a ≤ b) : a.log2 ≤ b.log2 := by
  rcases Nat.eq_zero_or_pos a with r | r
  · rw [r]; exact Nat.zero_le _
  · rw [Nat.le_log2 (by omega)]
    exact Nat.le_trans (Nat.log2_self_le (by omega)) h
def spLowest : Sp := fun vs H Q _ => ∃ a b : Int, vs = [.int a, .int b] ∧ b ≠ 0 ∧ b.natAbs.log2 < 9000 ∧ NewQ H (.tup [.int (loq a b).1, .int (loq a b).2]) Q
section
variable {P : Program} {w : World} {K : PySem.W.Frag} {mg : Str → Option Value} {base : Heap}
theorem scLowest : FnScope ["top", "bottom", "shared"] ["top", "bottom"] (defScope sLowest) := ⟨rfl, rfl, rfl, by decide +kernel, rfl, by decide +kernel, by decide +kernel⟩
theorem ok_lowest {f : Addr} {fd : FuncData} (F : Fun K "lowest" "lowest" sLowest f fd) (hgcd : mg "gcd" = some (.builtin "math.gcd")) : FnOk P w K mg base CX0 1 f fd ["top", "bottom"] spLowest := by
  refine F.ok scLowest (fun vs H Q E h => ?_) (fun cdv A outer s H vs Q E hr h => ?_)
  · obtain ⟨a, b, rfl, _⟩ := h
    rfl
  · obtain ⟨a, b, rfl, hb, hl, k⟩ := h
    refine ⟨_, pss_cons (ps_set (i := 2) scLowest.nd rfl (Or.inl rfl) (pe_ifExp (pt_cmpR op_gt (pv 1) pe_int (by rfl))
        (pe_callBfun cr_gcd rfl hgcd (pa_cons (pv 0) (pa_cons (pv 1) pa_nil))) (pe_un un_neg (pe_callBfun cr_gcd rfl hgcd (pa_cons (pv 0) (pa_cons (pv 1) pa_nil))))))
      (pss_one (ps_ret (pe_tupS (pa_cons (pe_op op_fdivX (pv 0) (pv 2)) (pa_cons (pe_op op_fdivX (pv 1) (pv 2)) pa_nil))))), ?_⟩
    have gp : 0 < Nat.gcd a.natAbs b.natAbs := Nat.gcd_pos_of_pos_right _ (by omega)
    have gl : (Nat.gcd a.natAbs b.natAbs).log2 < 9000 := Nat.lt_of_le_of_lt (log2_mono (Nat.gcd_le_right _ (by omega))) hl
    refine ⟨_, rfl, b, 0, rfl, rfl, _, rfl, ?_⟩
    refine iteD (fun h => ?_) (fun h => ?_)
    · refine ⟨_, rfl, _, rfl, a, b, rfl, ?_⟩
      have c : CDivX a ((Nat.gcd a.natAbs b.natAbs : Nat) : Int) := ⟨by omega, by simpa using gl⟩
      refine ⟨_, rfl, _, rfl, _, _, rfl, rfl, c, _, rfl, _, rfl, _, _, rfl, rfl, c, (by show 2 ≤ sizeLine; decide), ?_⟩
      have e : loq a b = (a.fdiv ((Nat.gcd a.natAbs b.natAbs : Nat) : Int), b.fdiv ((Nat.gcd a.natAbs b.natAbs : Nat) : Int)) := by
        unfold loq
        simp only [show b > 0 from h, if_true]
      rw [e] at k
      exact k
    · refine ⟨_, rfl, _, rfl, a, b, rfl, _, rfl, ?_⟩
      have c : CDivX a (-((Nat.gcd a.natAbs b.natAbs : Nat) : Int)) := ⟨by omega, by simpa using gl⟩
      refine ⟨_, rfl, _, rfl, _, _, rfl, rfl, c, _, rfl, _, rfl, _, _, rfl, rfl, c, (by show 2 ≤ sizeLine; decide), ?_⟩
      have e : loq a b = (a.fdiv (-((Nat.gcd a.natAbs b.natAbs : Nat) : Int)), b.fdiv (-((Nat.gcd a.natAbs b.natAbs : Nat) : Int))) := by
        unfold loq
        simp only [show ¬ (b > 0) from h, if_false]
      rw [e] at k
      exact k

/-- two fractions, each a tuple; the third, a new one -/
def spFrac (K : PySem.W.Frag) (g : Rat → Rat → Rat) : Sp := fun vs H Q _ => ∃ (p q : Addr) (x y : Rat), vs = [.ref p, .ref q] ∧ SqT K H p (frac x) ∧ SqT K H q (frac y) ∧ x.num.natAbs < 2 ^ 400000 ∧ y.num.natAbs < 2 ^ 400000 ∧ x.den < 2 ^ 4000 ∧ y.den < 2 ^ 4000 ∧ NewQ H (.tup (frac (g x y))) Q
theorem cmw {i j : Int} {a b : Nat} (ha : i.natAbs < 2 ^ a) (hb : j.natAbs < 2 ^ b) (h0 : 0 < a) (h1 : 0 < b) (h : a + b ≤ 1000000) : CMulW i j := wide_mul ha hb h0 h1 h
theorem den_log {a b : Nat} (ha : a < 2 ^ 4000) (hb : b < 2 ^ 4000) : ((a : Int) * (b : Int)).natAbs.log2 < 9000 := by
  have e : ((a : Int) * (b : Int)).natAbs < 2 ^ (4000 + 4000) := wide_lt (a := 4000) (b := 4000) (by rw [Int.natAbs_natCast]; exact ha) (by rw [Int.natAbs_natCast]; exact hb)
  exact Nat.lt_of_lt_of_le (PySem.Flt.log2_lt_of (by decide) e) (by decide)
theorem den_ne {x y : Rat} : (x.den : Int) * (y.den : Int) ≠ 0 := by
  have h1 := x.den_nz
  have h2 := y.den_nz
  intro e
  rcases Int.mul_eq_zero.mp e with h | h <;> omega
theorem scFracSum : FnScope ["one", "other"] ["one", "other"] (defScope sFracSum) := ⟨rfl, rfl, rfl, by decide +kernel, rfl, by decide +kernel, by decide +kernel⟩
theorem ok_fracSum {f : Addr} {fd : FuncData} (F : Fun K "fraction_sum" "fraction_sum" sFracSum f fd) (L : Cal P w K mg base 1 "lowest" spLowest []) : FnOk P w K mg base CX0 2 f fd ["one", "other"] (spFrac K (· + ·)) := by
  refine F.ok scFracSum (fun vs H Q E h => ?_) (fun cdv A outer s H vs Q E hr h => ?_)
  · obtain ⟨p, q, x, y, rfl, _⟩ := h
    rfl
  · obtain ⟨p, q, x, y, rfl, hp, hq, nx, ny, dx, dy, k⟩ := h
    refine ⟨_, pss_one (ps_ret (pe_c L hr (by decide) rfl (pa_cons (pe_op op_add (pe_op op_mulW (pe_ix ix_tup (pv 0) pe_int (fun _ _ => rfl)) (pe_ix ix_tup (pv 1) pe_int (fun _ _ => rfl))) (pe_op op_mulW (pe_ix ix_tup (pv 1) pe_int (fun _ _ => rfl)) (pe_ix ix_tup (pv 0) pe_int (fun _ _ => rfl))))
      (pa_cons (pe_op op_mulW (pe_ix ix_tup (pv 0) pe_int (fun _ _ => rfl)) (pe_ix ix_tup (pv 1) pe_int (fun _ _ => rfl))) pa_nil)))), ?_⟩
    have cx : (x.den : Int).natAbs < 2 ^ 4000 := by rw [Int.natAbs_natCast]; exact dx
    have cy : (y.den : Int).natAbs < 2 ^ 4000 := by rw [Int.natAbs_natCast]; exact dy
    refine ⟨_, rfl, p, _, 0, _, rfl, rfl, hp, rfl, _, rfl, q, _, 1, _, rfl, rfl, hq, rfl, _, _, rfl, rfl, cmw nx cy (by decide) (by decide) (by decide), ?_⟩
    refine ⟨_, rfl, q, _, 0, _, rfl, rfl, hq, rfl, _, rfl, p, _, 1, _, rfl, rfl, hp, rfl, _, _, rfl, rfl, cmw ny cx (by decide) (by decide) (by decide), ?_⟩
    refine ⟨_, _, rfl, rfl, ?_⟩
    refine ⟨_, rfl, p, _, 1, _, rfl, rfl, hp, rfl, _, rfl, q, _, 1, _, rfl, rfl, hq, rfl, _, _, rfl, rfl, cmw cx cy (by decide) (by decide) (by decide), ?_⟩
    refine ⟨_, _, rfl, den_ne, den_log dx dy, ?_⟩
    rw [loq_add]
    exact k
theorem scFracProd : FnScope ["one", "other"] ["one", "other"] (defScope sFracProd) := ⟨rfl, rfl, rfl, by decide +kernel, rfl, by decide +kernel, by decide +kernel⟩
theorem ok_fracProd {f : Addr} {fd : FuncData} (F : Fun K "fraction_product" "fraction_product" sFracProd f fd) (L : Cal P w K mg base 1 "lowest" spLowest []) : FnOk P w K mg base CX0 2 f fd ["one", "other"] (spFrac K (· * ·)) := by
  refine F.ok scFracProd (fun vs H Q E h => ?_) (fun cdv A outer s H vs Q E hr h => ?_)
  · obtain ⟨p, q, x, y, rfl, _⟩ := h
    rfl
  · obtain ⟨p, q, x, y, rfl, hp, hq, nx, ny, dx, dy, k⟩ := h
    refine ⟨_, pss_one (ps_ret (pe_c L hr (by decide) rfl (pa_cons (pe_op op_mulW (pe_ix ix_tup (pv 0) pe_int (fun _ _ => rfl)) (pe_ix ix_tup (pv 1) pe_int (fun _ _ => rfl)))
      (pa_cons (pe_op op_mulW (pe_ix ix_tup (pv 0) pe_int (fun _ _ => rfl)) (pe_ix ix_tup (pv 1) pe_int (fun _ _ => rfl))) pa_nil)))), ?_⟩
    have cx : (x.den : Int).natAbs < 2 ^ 4000 := by rw [Int.natAbs_natCast]; exact dx
    have cy : (y.den : Int).natAbs < 2 ^ 4000 := by rw [Int.natAbs_natCast]; exact dy
    refine ⟨_, rfl, p, _, 0, _, rfl, rfl, hp, rfl, _, rfl, q, _, 0, _, rfl, rfl, hq, rfl, _, _, rfl, rfl, cmw nx ny (by decide) (by decide) (by decide), ?_⟩
    refine ⟨_, rfl, p, _, 1, _, rfl, rfl, hp, rfl, _, rfl, q, _, 1, _, rfl, rfl, hq, rfl, _, _, rfl, rfl, cmw cx cy (by decide) (by decide) (by decide), ?_⟩
    refine ⟨_, _, rfl, den_ne, den_log dx dy, ?_⟩
    rw [loq_mul]
    exact k
end
end E2

set_option Elab.async false
set_option linter.all false
set_option maxRecDepth 100000
set_option maxHeartbeats 1000000
/-! Forms as objects: Form(..), -a, a.over(n), a + b, .. -/
namespace L2
open PySem PySem.Spec PyProof.Rows
open C8 (Cal Mak Met InsC)
/-- the form at a -/
def FmAt (P : Program) (w : World) (K : PySem.W.Frag) (C : Addr) (H : Hp) (a : Addr) (fm : Fm) : Prop := ∃ dx d kvs, H a = some (.ins C dx [("_parts", .ref d)]) ∧ H d = some (DfO P w d kvs) ∧ FmKv K H kvs fm
theorem FmAt.same {P : Program} {w : World} {K : PySem.W.Frag} {C : Addr} {H H' : Hp} {a : Addr} {fm : Fm} (h : FmAt P w K C H a fm) (S : Same H H') : FmAt P w K C H' a fm :=
  let ⟨dx, d, kvs, h1, h2, h3⟩ := h; ⟨dx, d, kvs, S _ _ h1, S _ _ h2, h3.same S⟩
def spInit (C : Addr) : Sp := fun vs H Q _ => ∃ a dx v, vs = [.ref a, v] ∧ H a = some (.ins C dx []) ∧ Q .non (upd H a (.ins C dx [("_parts", v)]))
def tMkF (C : Addr) (te : TE) : TE := fun σ H Q => te σ H fun v H1 => ∀ a dx H', Same H1 H' → H1 a = none → H' a = some (.ins C dx [("_parts", v)]) → Q (.ref a) H'
theorem seq_lockasg {te : TE} {i : Nat} {u : TS} {D : Ends} {σ : St} {H : Hp} (h : tLockE te σ H fun x H1 => u D (σ.set i (some x)) H1) : tSeq (tLock (tAsg te (gName i))) u D σ H :=
  let ⟨d, v, hd, mu, h⟩ := h; ⟨d, v, hd, mu, fun od => h od⟩
theorem call_one {sp : Sp} {E : XK} {i : Nat} {v : V} {σ : St} {H : Hp} {Q : VK} (hs : σ[i]? = some (some v)) (h : sp [v] H Q E) : tCall sp [] E (tCons (tVar i) tNil) σ H Q := ⟨v, hs, h⟩
/-- for .. in d.items(), d locked meanwhile -/
theorem seq_for_items {P : Program} {w : World} {K : PySem.W.Frag} {H : Hp} {d : Addr} {l : NAV} {fm : Fm} {td : TE} {g : TG} {tb u : TS} {D : Ends} {σ : St} (hd : H d = some (DfO P w d l)) (hf : FmKv K H l fm)
    (hte : ∀ (od : Obj) (R : VK), R (.ref d) (upd H d (.frz od (DfO P w d l))) → td σ (upd H d (.frz od (DfO P w d l))) R) (Pv : Obj → Nat → St → Hp → Prop) (h0 : ∀ od, Pv od 0 σ (upd H d (.frz od (DfO P w d l))))
    (hl : ∀ od i σ' H', Pv od i σ' H' → H' d = some (.frz od (DfO P w d l)) ∧ Mv K (upd H d (.frz od (DfO P w d l))) H')
    (hs : ∀ (od : Obj) (i : Nat) (m : Mon) (q : Rat) (σ' : St) (H' : Hp) (T b a : Addr) (rt : VK) (bk : St → Hp → Prop), fm[i]? = some (m, q) → Pv od i σ' H' → H' T = none → TupN H' b ((kS m).map kV) → SqT K H' a (frac q) →
      g (.ref T) σ' (upd H' T (.tup [.ref b, .ref a])) fun σ2 H2 => tb { nx := Pv od (i + 1), rt := rt, bk := bk, ct := Pv od (i + 1) } σ2 H2)
    (he : ∀ od σ' H', Pv od fm.length σ' H' → u D σ' (upd H' d (DfO P w d l))) : tSeq (tLock (tFor (iItemsN P w td) g tb)) u D σ H := by
  refine ⟨d, DfO P w d l, hd, trivial, fun od => ?_⟩
  have hf0 : FmKv K (upd H d (.frz od (DfO P w d l))) l fm := hf.imp (.off hd noTup_df)
  refine hte od _ ⟨d, od, l, rfl, upd_same, for_it walk_itemsN (Pv od) (h0 od) (fun i σ' H' _ p => (hl od i σ' H' p).1) ?_ ?_⟩
  · rintro i x σ' H' H'' hi p ⟨T, k, qb, av, hkv, rfl, nT, rfl⟩
    obtain ⟨m, q, b, a, hm, e, tb, sa⟩ := hf0.get hkv
    obtain ⟨rfl, e2⟩ := Prod.mk.inj e
    obtain ⟨rfl, rfl⟩ := Prod.mk.inj e2
    exact hs od i m q σ' H' T qb av _ _ hm p nT ((hl od i σ' H' p).2.tn _ _ tb) ((hl od i σ' H' p).2.sq _ _ sa)
  · intro σ' H' p
    rw [hf.length] at p
    exact ⟨(hl od _ σ' H' p).1, he od σ' H' p⟩
theorem ret_of {te : TE} {D : Ends} {σ : St} {H : Hp} (h : te σ H D.rt) : tRet te D σ H := h
theorem ret_mkF {C : Addr} {te : TE} {D : Ends} {σ : St} {H : Hp} (h : te σ H fun v H1 => ∀ a dx H', Same H1 H' → H1 a = none → H' a = some (.ins C dx [("_parts", v)]) → D.rt (.ref a) H') : tRet (tMkF C te) D σ H := h
section
variable {X : Cx} {C : Addr} {x : Str} {e : Expr} {te : TE} {p pos : Pos} {j : Nat}
theorem pe_mkF (c : Mak X.prog X.w X.K X.mg X.base 1 x C (spInit C) []) (hr : Room j X.A) (hk : 2 ≤ j) (hg : Gl X x) (he : PE X e te)
    (hdb : (x == ("__debug__" : Str)) = false := by decide) (hs : starEach [e] X.env = (false, eval e X.env) :: starEach [] X.env := by rfl) (hpl : (backTo pos (starEach [] X.env)).any (·.1) = false := by rfl) :
    PE X (.Call (.Name x p) [e] [] pos) (tMkF C te) := by
  obtain ⟨f, fd, ps, ds, M, F, hm, b, d⟩ := c.ex
  refine ⟨fun pins s σ H Q I h => ?_⟩
  refine wpAny_Call_Name_kw (ld_glob I hg hm ?_ hdb)
  refine PySem.W.callWith_K (h₀ := X.base) I.ok.mod.kin M.kp ?_ hs hpl
  rw [hs]
  show wpAny _ _ (spliced ((false, eval e X.env) :: backTo pos (starEach [] X.env))) _ _ s
  refine Calls.spliced_cons (thn (he.run pins s σ H _ I h) fun u s1 hh => ?_)
  obtain ⟨v, H1, I1, rv, q⟩ := hh
  refine Calls.spliced_nil ⟨I1.kIn, ?_⟩
  refine run_make (E := E0) M F (hr.mono hk) b d pass0 I1 (.cons rv .nil) fun y dx hy hdx ne => ?_
  refine ⟨y, dx, v, rfl, upd_same, rfl, ?_⟩
  refine q y dx _ ?_ hy upd_same
  intro c o e
  have n1 : c ≠ y := ne_of_none e hy
  have n2 : c ≠ dx := ne_of_none e hdx
  rw [upd_ne n1, upd_ne n1, upd_ne n2]
  exact e
end
end L2
namespace E2
open PySem PySem.Spec PyProof.Rows L2
open C8 (Cal Mak Met InsC pe_c pe_mt pe_mt0 call_isC clsBody)
def meth (i : Nat) : Stmt := (clsBody sForm).getD i (.Pass ⟨0, 0, 0, 0⟩)
abbrev sInit : Stmt := meth 0
abbrev sAdd : Stmt := meth 1
abbrev sSub : Stmt := meth 2
abbrev sMul : Stmt := meth 3
abbrev sNeg : Stmt := meth 4
abbrev sOver : Stmt := meth 6
abbrev sLetters : Stmt := meth 8
abbrev sAt : Stmt := meth 10
/-- the class Form, as the top left it -/
structure Fx (P : Program) (w : World) (K : PySem.W.Frag) (mg : Str → Option Value) (base : Heap) (C : Addr) : Prop where
  cl : Cls K C
  na : NoAttr K C "_parts"
  maks : Mak P w K mg base 1 "Form" C (spInit C) []
def spNeg (P : Program) (w : World) (K : PySem.W.Frag) (C : Addr) (f : Rat → Rat) : Sp := fun vs H Q _ => ∃ a fm, vs = [.ref a] ∧ FmAt P w K C H a fm ∧ (fm.map (·.1)).Nodup ∧ fm.length ≤ sizeLine ∧ ∀ H' b, Same H H' → H b = none → FmAt P w K C H' b (mapM (fun _ => true) f fm) → Q (.ref b) H'
section
variable {P : Program} {w : World} {K : PySem.W.Frag} {mg : Str → Option Value} {base : Heap} {C : Addr}
theorem scInit : FnScope ["self", "parts"] ["self", "parts"] (defScope sInit) := ⟨rfl, rfl, rfl, by decide +kernel, rfl, by decide +kernel, by decide +kernel⟩
theorem ok_init {f : Addr} {fd : FuncData} (F : Fun K "__init__" "Form.__init__" sInit f fd) (c : Cls K C) (n : NoAttr K C "_parts") : FnOk P w K mg base CX0 1 f fd ["self", "parts"] (spInit C) := by
  refine F.ok scInit (fun vs H Q E h => ?_) (fun cdv A outer s H vs Q E hr h => ?_)
  · obtain ⟨a, dx, v, rfl, _⟩ := h
    rfl
  · obtain ⟨a, dx, v, rfl, ha, k⟩ := h
    refine ⟨_, pss_one (ps_fld (pv 0) (pv 1) rfl), ?_⟩
    exact ⟨_, rfl, _, rfl, a, C, dx, [], rfl, ha, c, n, by decide, k⟩
theorem scNeg : FnScope ["self", "names", "top", "bottom"] ["self"] (defScope sNeg) := ⟨rfl, rfl, rfl, by decide +kernel, rfl, by decide +kernel, by decide +kernel⟩
theorem ok_neg {f : Addr} {fd : FuncData} (F : Fun K "__neg__" "Form.__neg__" sNeg f fd) (T : Fx P w K mg base C) : FnOk P w K mg base CX0 3 f fd ["self"] (spNeg P w K C (fun q => -q)) := by
  refine F.ok scNeg (fun vs H Q E h => ?_) (fun cdv A outer s H vs Q E hr h => ?_)
  · obtain ⟨a, fm, rfl, _⟩ := h
    rfl
  · obtain ⟨a, fm, rfl, ⟨dx, d, kvs, ha, hd, hf⟩, hn, hz, k⟩ := h
    refine ⟨_, pss_one (ps_ret (pe_mkF T.maks hr (by decide) rfl (pe_lock (pe_dcN (own := [("names", 1), ("top", 2), ("bottom", 3)]) (g := gTup K 2 (gCons (gName 1) (gCons (gTup K 2 (gCons (gName 2) (gCons (gName 3) gNil))) gNil))) (tt := tYes) (tk := tVar 1) (tv := tTupS (tCons (tUn (rU fun i => V.int (-i)) (tVar 2)) (tCons (tVar 3) tNil))) (Nat.lt_of_le_of_lt (Nat.le_add_right _ 64) hr.units) rfl scNeg.nd (pi_itemsN (pe_fld (pv 0) rfl))
      (blkOk_by (own := [("names", 1), ("top", 2), ("bottom", 3)]) (N := ["self", "names", "top", "bottom"]) (sc := defScope sNeg) (by decide +kernel))
      ⟨fun _ _ _ _ _ => pg_tup rfl (pgs_cons (pg_name (i := 1) scNeg.nd rfl (Or.inl rfl)) (pgs_cons (pg_tup rfl (pgs_cons (pg_name (i := 2) scNeg.nd rfl (Or.inl rfl)) (pgs_cons (pg_name (i := 3) scNeg.nd rfl (Or.inl rfl)) pgs_nil))) pgs_nil)),
       fun _ _ _ _ _ => pts_nil, fun _ _ _ _ _ => pv 1, fun _ _ _ _ _ => by exact pe_tupS (pa_cons (pe_un un_neg (pv 2)) (pa_cons (pv 3) pa_nil))⟩)))), ?_⟩
    refine ret_mkF (lock_items (p := fun _ => true) (f := fun q => -q) hd hf hn hz (fun od R h => ⟨_, rfl, a, C, dx, _, _, rfl, by rw [upd_ne (ne_of ha hd (by intro z; cases z))]; exact ha, T.cl, T.na, rfl, h⟩) ?_ ?_)
    · intro H1 lk i m q H' T b a put skip hm S hT hb sa hput hskip
      refine ⟨T, _, rfl, SqT.of hT, rfl, _, _, rfl, _, _, rfl, ⟨a, _, rfl, sa, rfl, _, _, rfl, _, _, rfl, rfl, rfl, rfl, ?_⟩⟩
      refine iteT (B := skip H') ?_
      exact ⟨_, rfl, _, rfl, _, rfl, _, rfl, (by show 2 ≤ sizeLine; decide), fun p2 H5 S5 n5 h5 => hput rfl H5 b p2 S5 (hb.same S5) (SqT.of h5)⟩
    · intro H' D kvs' S nD hD kv b dx' H2 S2 nb hb
      exact k _ _ (S.trans S2) (S.free nb) ⟨dx', D, kvs', hb, S2 _ _ hD, kv.same S2⟩
end
end E2

set_option Elab.async false
set_option linter.all false
set_option maxRecDepth 100000
set_option maxHeartbeats 1000000
/-! sorted(xs, key=lambda x: (len(x), x)), xs a list of tuples of texts -/
namespace L2
open PySem PySem.Spec PySem.Calls PyProof.Rows
open PySem.W (dataLe AllAlike Sortable EachIs)
open LamX (Tabs ExtN TabB CodeO)
/-- nothing that is followed stands there, but for a table of code objects -/
def NewT (H : Hp) (p : Addr) : Prop := ∀ o, H p = some o → ∃ ps, o = .tbl ps
/-- tuples of texts with their addresses, in the order of the keys -/
def sortA (ams : List (Addr × Mon)) : List (Addr × Mon) := ams.mergeSort (dataLe false fun x => kM x.2)
theorem alike_strs : ∀ xs ys : List Str, PySem.W.alikeAll (xs.map PyData.str) (ys.map PyData.str) = true
  | [], _ => by simp [PySem.W.alikeAll]
  | x :: xs, [] => by simp [PySem.W.alikeAll]
  | x :: xs, y :: ys => by simp [PySem.W.alikeAll, PySem.W.alike, alike_strs xs ys]
theorem alike_kM (m n : Mon) : PySem.W.alike (kM m) (kM n) = true := by simp [kM, PySem.W.alike, PySem.W.alikeAll, alike_strs]
theorem depthAll_strs : ∀ xs : List Str, PyData.depthAll (xs.map PyData.str) ≤ 4
  | [] => by simp [PyData.depthAll]
  | x :: xs => by
    have := depthAll_strs xs
    simp [PyData.depthAll, PyData.depth]
    try omega
theorem depth_kM (m : Mon) : PyData.depth (kM m) ≤ 16 := by
  have := depthAll_strs m
  simp [kM, PyData.depth, PyData.depthAll]
  try omega
def tSortL (T : List (Addr × Str)) (K : PySem.W.Frag) (te : TE) : TE := fun σ H Q => te σ H fun v H1 => ∃ (l : Addr) (ams : List (Addr × Mon)), v = .ref l ∧ SqL K H1 l (ams.map fun x => V.ref x.1) ∧ (∀ x ∈ ams, SqT K H1 x.1 (x.2.map V.str) ∧ x.2.length ≤ sizeLine) ∧ ams.length ≤ sizeLine ∧ Tabs T H1 ∧
  ∀ (H2 : Hp) (p : Addr), ExtN H1 H2 → Tabs T H2 → NewT H1 p → H2 p = some (.lst ((sortA ams).map fun x => V.ref x.1)) → Q (.ref p) H2
theorem SqL.extN {K : PySem.W.Frag} {H H' : Hp} {a : Addr} {xs : List V} (h : SqL K H a xs) (S : ExtN H H') : SqL K H' a xs := by
  rcases h with (h | ⟨o, h⟩) | h
  · exact .inl (.inl (S _ _ h fun _ z => nomatch z))
  · exact .inl (.inr ⟨o, S _ _ h fun _ z => nomatch z⟩)
  · exact .inr h
theorem SqT.extN {K : PySem.W.Frag} {H H' : Hp} {a : Addr} {xs : List V} (h : SqT K H a xs) (S : ExtN H H') : SqT K H' a xs := by
  rcases h with (h | ⟨o, h⟩) | h
  · exact .inl (.inl (S _ _ h fun _ z => nomatch z))
  · exact .inl (.inr ⟨o, S _ _ h fun _ z => nomatch z⟩)
  · exact .inr h
theorem each_of_vals {ams : List (Addr × Mon)} {its : List Value} (r : Vals (ams.map fun x => V.ref x.1) its) : EachIs (fun (v : Value) (x : Addr × Mon) => v = Value.ref x.1) its ams := by
  induction ams generalizing its with
  | nil => cases r; exact .nil
  | cons x xs ih =>
    cases r with
    | cons h t => exact .cons h (ih t)
theorem vals_of_each {ams : List (Addr × Mon)} {out : List Value} (e : EachIs (fun (v : Value) (x : Addr × Mon) => v = Value.ref x.1) out ams) : Vals (ams.map fun x => V.ref x.1) out := by
  induction e with
  | nil => exact .nil
  | cons h t ih => exact .cons h ih
section
variable {X : Cx} {e : Expr} {te : TE} {T : List (Addr × Str)} {c P : Addr} {p p1 p2 p3 p4 p5 p6 q kpos pos : Pos}
theorem pe_sortedL (hr : Room 0 X.A) (hg : Gl X "sorted") (hm : X.mg "sorted" = none) (hlen : X.mg "len" = none) (TB : TabB X.base X.mg c P) (hcode : X.env.code = .ref c) (hmT : (P, X.env.qual ++ "<lambda>") ∈ T) (hu : ∀ p ∈ T, p.1 = P → p.2 = X.env.qual ++ "<lambda>") (he : PE X e te)
    (hes : backTo pos (starEach [e] X.env) = (false, eval e X.env) :: backTo pos (starEach [] X.env) := by rfl) (hpl : (backTo pos (starEach [e] X.env)).any (·.1) = false := by rfl) :
    PE X (.Call (.Name "sorted" q) [e] [⟨some "key", .Lambda (lmPar p) (lmBody p1 p2 p3 p4 p5) lmScope p6, kpos⟩] pos) (tSortL T X.K te) := by
  refine ⟨fun pins s σ H Q I h => ?_⟩
  refine wpAny_Call_Name_kw (ld_blt (u := .builtin "sorted") I hg hm (by decide +kernel) ?_)
  refine callWith_kw ?_ hes hpl rfl rfl
  rw [hes]
  refine spliced_cons (thn (he.run pins s σ H _ I h) fun u s1 ⟨v, H1, I1, rv, l, ams, ev, hl, ht, hz, tb, q⟩ => spliced_nil ?_)
  subst ev
  obtain rfl : u = Value.ref l := rv
  show wpAny _ _ (evalAll [do let v ← eval (.Lambda (lmPar p) (lmBody p1 p2 p3 p4 p5) lmScope p6) X.env; standAt pos; pure v]) _ _ s1
  refine wpAny_evalAll_cons (wpAny_bind (LamX.lam_make2 I1 TB hcode hmT hu tb rfl (fun y hy z => ?_) fun f c' pm ctv H2 s2 I2 ex tb2 hf nf _ hc => wpAny_bind (wpAny_standAt (wpAny_pure (wpAny_evalAll_nil ?_)))))
  · simp only [List.mem_cons, List.not_mem_nil, or_false] at hy
    rcases hy with rfl | rfl <;> cases z
  show wpAny _ _ (call (.builtin "sorted") [.ref l] [(Str.ofString "key", .ref f)]) _ _ s2
  obtain ⟨its, rl, pl, hz2⟩ := I2.list (hl.extN ex)
  have lits := rl.length
  rw [List.length_map] at lits
  obtain ⟨⟨oc, vs, tq, hoc, hd, hv⟩, _, _⟩ := I2.hok c' _ hc
  obtain ⟨mb, hb1, hb2⟩ := I2.mod.blt
  refine PySem.W.sorted_key_data (b := false) (fun x : Addr × Mon => kM x.2) pl.isList (each_of_vals rl) (fun d hd d' hd' => ?_) (.inl fun d hd => ?_) hz (fun x _ => ?_) (PyProof.Rows.ksk_s1 _ _) (fun x => PyProof.Rows.ksk_l1 _ _) (fun x => PyProof.Rows.ksk_t1 _ _) (fun v x hR hx h tk kp => ?_) fun out cc h' tk kp n0 hp lo eo => ?_
  · obtain ⟨x, _, rfl⟩ := List.mem_map.mp hd
    obtain ⟨y, _, rfl⟩ := List.mem_map.mp hd'
    exact alike_kM _ _
  · obtain ⟨x, _, rfl⟩ := List.mem_map.mp hd
    exact ⟨_, _, rfl⟩
  · have := depth_kM x.2
    have := hr.un
    omega
  · subst hR
    obtain ⟨hx1, hx2⟩ := ht x hx
    have I3 : Inv X pins σ H2 { s2 with heap := h, toks := tk } := I2.kept kp
    obtain ⟨its2, rv2, tp, hz3⟩ := I3.tuple (hx1.extN ex)
    exact lam_key (s := { s2 with heap := h, toks := tk }) hr.depth (kp _ _ hf) ⟨c', oc, vs, tq, rfl, kp _ _ hoc, hd, hv⟩ I3.nolimit (I3.mod.glob.keeps I3.bk) hlen (hb1.keeps I3.bk) ((hb2 _ (by decide)).trans (by decide +kernel)) tp rv2.strs hx2
  · have lo2 : (sortA ams).length ≤ sizeLine := by unfold sortA; rw [List.length_mergeSort]; exact hz
    refine ⟨.ref (s2.heap.objs.size + 1), _, I2.laid (t' := tk) (o := .lst ((sortA ams).map fun x => V.ref x.1)) kp (Nat.le_succ _) ⟨by rw [List.length_map]; exact lo2, _, cc, vals_of_each eo, hp⟩, rfl, ?_⟩
    have np : H2 (s2.heap.objs.size + 1) = none := I2.hok.fresh (Nat.le_succ _)
    have up : ExtN H2 (upd H2 (s2.heap.objs.size + 1) (.lst ((sortA ams).map fun x => V.ref x.1))) := ExtN.of fun b o e => by rw [upd_ne (ne_of_none e np)]; exact e
    refine q _ _ (ex.trans up) (tb2.ext fun b o e => by rw [upd_ne (ne_of_none e np)]; exact e) ?_ upd_same
    intro o e1
    apply Classical.byContradiction
    intro no
    have z := ex _ _ e1 fun ps e2 => no ⟨ps, e2⟩
    rw [np] at z
    cases z
end
end L2

set_option Elab.async false
set_option linter.all false
set_option maxRecDepth 100000
set_option maxHeartbeats 1000000
/-! Sums of forms: the mathematics; {names: d[names] for names in d}. -/
namespace L2
open PySem PySem.Spec PyProof.Rows
def prodI : List Int → Int
  | [] => 1
  | x :: r => x * prodI r
theorem prodI_append : ∀ (l r : List Int), prodI (l ++ r) = prodI l * prodI r
  | [], r => by show prodI r = 1 * prodI r; omega
  | x :: l, r => by
    show x * prodI (l ++ r) = x * prodI l * prodI r
    rw [prodI_append l r, Int.mul_assoc]
theorem prodI_perm {l r : List Int} (h : l.Perm r) : prodI l = prodI r := by
  induction h with
  | nil => rfl
  | cons x _ ih => show x * _ = x * _; rw [ih]
  | swap x y l => show y * (x * prodI l) = x * (y * prodI l); rw [Int.mul_left_comm]
  | trans _ _ h1 h2 => rw [h1, h2]
def evM (σ : Str → Int) (m : Mon) : Int := prodI (m.map σ)
def ev (σ : Str → Int) : Fm → Rat
  | [] => 0
  | x :: r => x.2 * (evM σ x.1 : Rat) + ev σ r
theorem ev_append (σ : Str → Int) : ∀ (a b : Fm), ev σ (a ++ b) = ev σ a + ev σ b
  | [], b => by show ev σ b = 0 + ev σ b; grind
  | x :: a, b => by
    show x.2 * _ + ev σ (a ++ b) = x.2 * _ + ev σ a + ev σ b
    rw [ev_append σ a b]
    grind
theorem ev_mapM (σ : Str → Int) {p : Rat → Bool} (hp : ∀ q, p q = false → q = 0) : ∀ fm : Fm, ev σ (mapM p id fm) = ev σ fm
  | [] => rfl
  | x :: r => by
    have ih := ev_mapM σ hp r
    unfold mapM at ih ⊢
    rw [List.filter_cons]
    by_cases c : p x.2 = true
    · rw [if_pos c]
      show x.2 * _ + ev σ _ = x.2 * _ + ev σ r
      rw [ih]
    · rw [if_neg c, ih]
      show ev σ r = x.2 * _ + ev σ r
      rw [hp x.2 (by simpa using c)]
      grind
theorem ev_scale (σ : Str → Int) (c : Rat) : ∀ fm : Fm, ev σ (mapM (fun _ => true) (fun q => q * c) fm) = ev σ fm * c
  | [] => by show (0 : Rat) = 0 * c; grind
  | x :: r => by
    have ih := ev_scale σ c r
    unfold mapM at ih ⊢
    rw [List.filter_cons, if_pos rfl]
    show x.2 * c * _ + ev σ _ = (x.2 * _ + ev σ r) * c
    rw [ih]
    grind
theorem ev_neg (σ : Str → Int) : ∀ fm : Fm, ev σ (mapM (fun _ => true) (fun q => -q) fm) = -ev σ fm
  | [] => by show (0 : Rat) = -0; grind
  | x :: r => by
    have ih := ev_neg σ r
    unfold mapM at ih ⊢
    rw [List.filter_cons, if_pos rfl]
    show -x.2 * _ + ev σ _ = -(x.2 * _ + ev σ r)
    rw [ih]
    grind
theorem putM_hit {x : Mon × Rat} {r : Fm} {m : Mon} {q : Rat} (e : x.1 = m) (h : m ∉ r.map (·.1)) : putM (x :: r) m q = (m, q) :: r := by
  unfold putM
  rw [if_pos (by simp [e]), List.map_cons, if_pos e, e]
  congr 1
  have : ∀ l : Fm, m ∉ l.map (·.1) → l.map (fun y => if y.1 = m then (y.1, q) else y) = l := by
    intro l
    induction l with
    | nil => intro _; rfl
    | cons y l ih =>
      intro hl
      rw [List.map_cons] at hl
      rw [List.map_cons, if_neg fun z => hl (List.mem_cons.mpr (.inl z.symm)), ih fun z => hl (List.mem_cons.mpr (.inr z))]
  exact this r h
theorem putM_miss {x : Mon × Rat} {r : Fm} {m : Mon} {q : Rat} (e : ¬ x.1 = m) : putM (x :: r) m q = x :: putM r m q := by
  unfold putM
  rw [List.any_cons, decide_eq_false e, Bool.false_or]
  split
  · rw [List.map_cons, if_neg e]
  · rfl
theorem valM_hit {x : Mon × Rat} {r : Fm} {m : Mon} (e : x.1 = m) : valM (x :: r) m = some x.2 := by simp [valM, List.find?_cons, e]
theorem valM_miss {x : Mon × Rat} {r : Fm} {m : Mon} (e : ¬ x.1 = m) : valM (x :: r) m = valM r m := by simp [valM, List.find?_cons, e]
theorem keys_putM (m : Mon) (q : Rat) : ∀ fm : Fm, ∀ n ∈ (putM fm m q).map (·.1), n ∈ fm.map (·.1) ∨ n = m := by
  intro fm n hn
  unfold putM at hn
  split at hn
  · left
    rw [List.map_map] at hn
    obtain ⟨x, hx, e⟩ := List.mem_map.mp hn
    refine List.mem_map.mpr ⟨x, hx, ?_⟩
    by_cases c : x.1 = m
    · simpa [Function.comp, c] using e
    · simpa [Function.comp, c] using e
  · rw [List.map_append] at hn
    rcases List.mem_append.mp hn with h | h
    · exact .inl h
    · exact .inr (by simpa using h)
theorem nodup_putM (m : Mon) (q : Rat) : ∀ fm : Fm, (fm.map (·.1)).Nodup → ((putM fm m q).map (·.1)).Nodup
  | [], _ => by simp [putM]
  | x :: r, h => by
    rw [List.map_cons] at h
    obtain ⟨h1, h2⟩ := List.nodup_cons.mp h
    by_cases c : x.1 = m
    · rw [putM_hit c (by rw [← c]; exact h1), List.map_cons, ← c]
      exact List.nodup_cons.mpr ⟨h1, h2⟩
    · rw [putM_miss c, List.map_cons]
      refine List.nodup_cons.mpr ⟨fun z => ?_, nodup_putM m q r h2⟩
      rcases keys_putM m q r _ z with z | z
      · exact h1 z
      · exact c z
theorem mem_putM {m : Mon} {q : Rat} {fm : Fm} {x : Mon × Rat} (h : x ∈ putM fm m q) : x ∈ fm ∨ x = (m, q) := by
  unfold putM at h
  split at h
  · obtain ⟨y, hy, e⟩ := List.mem_map.mp h
    by_cases c : y.1 = m
    · rw [if_pos c] at e
      exact .inr (by rw [← e, c])
    · rw [if_neg c] at e
      exact .inl (e ▸ hy)
  · rcases List.mem_append.mp h with h | h
    · exact .inl h
    · exact .inr (by simpa using h)
theorem length_putM (m : Mon) (q : Rat) (fm : Fm) : (putM fm m q).length ≤ fm.length + 1 := by
  unfold putM
  split
  · rw [List.length_map]; omega
  · rw [List.length_append]; exact Nat.le_refl _
theorem mem_valM {m : Mon} {fm : Fm} {q : Rat} (h : valM fm m = some q) : (m, q) ∈ fm := by
  unfold valM at h
  obtain ⟨x, hx, e⟩ := Option.map_eq_some_iff.mp h
  have h1 := List.find?_some hx
  have h2 := List.mem_of_find?_eq_some hx
  have h3 : x = (m, q) := Prod.ext (of_decide_eq_true h1) e
  rwa [← h3]
/-- a term more -/
def add1 (acc : Fm) (x : Mon × Rat) : Fm := putM acc x.1 ((valM acc x.1).getD 0 + x.2)
def addTo (acc l : Fm) : Fm := l.foldl add1 acc
theorem addTo_snoc (acc l : Fm) (x : Mon × Rat) : addTo acc (l ++ [x]) = add1 (addTo acc l) x := by
  unfold addTo
  rw [List.foldl_append]
  rfl
theorem nodup_addTo : ∀ (l acc : Fm), (acc.map (·.1)).Nodup → ((addTo acc l).map (·.1)).Nodup
  | [], _, h => h
  | x :: l, acc, h => nodup_addTo l (add1 acc x) (nodup_putM _ _ _ h)
theorem length_addTo : ∀ (l acc : Fm), (addTo acc l).length ≤ acc.length + l.length
  | [], _ => Nat.le_refl _
  | x :: l, acc => by
    have h1 := length_addTo l (add1 acc x)
    have h2 : (add1 acc x).length ≤ acc.length + 1 := length_putM _ _ _
    rw [List.length_cons]
    show (addTo (add1 acc x) l).length ≤ _
    omega
theorem bq_add1 {D M N : Nat} {acc : Fm} {x : Mon × Rat} (h : ∀ y ∈ acc, Bq D M y.2) (hx : Bq D N x.2) : ∀ y ∈ add1 acc x, Bq D (M + N) y.2 := by
  intro y hy
  rcases mem_putM hy with hy | rfl
  · exact (h y hy).mono (Nat.le_add_right _ _)
  · rcases hv : valM acc x.1 with _ | q
    · refine Bq.mono (M := 0 + N) ?_ (by omega)
      rw [Option.getD_none]
      exact Bq.zero.add hx
    · rw [Option.getD_some]
      exact (h _ (mem_valM hv)).add hx
theorem bq_addTo {D N : Nat} : ∀ (l acc : Fm) (M : Nat), (∀ y ∈ acc, Bq D M y.2) → (∀ y ∈ l, Bq D N y.2) → ∀ y ∈ addTo acc l, Bq D (M + l.length * N) y.2
  | [], acc, M, h, _ => fun y hy => (h y hy).mono (Nat.le_add_right _ _)
  | x :: l, acc, M, h, hl => fun y hy => by
    have z := bq_addTo l (add1 acc x) (M + N) (bq_add1 h (hl x (List.mem_cons.mpr (.inl rfl)))) (fun y hy => hl y (List.mem_cons.mpr (.inr hy))) y hy
    refine z.mono ?_
    rw [List.length_cons, Nat.add_mul]
    omega
theorem ev_putM (σ : Str → Int) (m : Mon) (c : Rat) : ∀ fm : Fm, (fm.map (·.1)).Nodup → ev σ (putM fm m ((valM fm m).getD 0 + c)) = ev σ fm + c * (evM σ m : Rat)
  | [], _ => by
    show (0 + c) * _ + 0 = 0 + c * _
    grind
  | x :: r, h => by
    rw [List.map_cons] at h
    obtain ⟨h1, h2⟩ := List.nodup_cons.mp h
    by_cases e : x.1 = m
    · rw [valM_hit e, putM_hit e (by rw [← e]; exact h1), Option.getD_some]
      show (x.2 + c) * _ + ev σ r = x.2 * (evM σ x.1 : Rat) + ev σ r + c * _
      rw [e]
      grind
    · rw [valM_miss e, putM_miss e]
      show x.2 * _ + ev σ _ = x.2 * _ + ev σ r + c * _
      rw [ev_putM σ m c r h2]
      grind
theorem ev_addTo (σ : Str → Int) : ∀ (l acc : Fm), (acc.map (·.1)).Nodup → ev σ (addTo acc l) = ev σ acc + ev σ l
  | [], acc, _ => by show ev σ acc = ev σ acc + 0; grind
  | x :: l, acc, h => by
    show ev σ (addTo (add1 acc x) l) = ev σ acc + (x.2 * _ + ev σ l)
    rw [ev_addTo σ l (add1 acc x) (nodup_putM _ _ _ h)]
    unfold add1
    rw [ev_putM σ x.1 x.2 acc h]
    grind
theorem keys_addTo : ∀ (l acc : Fm) (n : Mon), n ∈ (addTo acc l).map (·.1) → n ∈ acc.map (·.1) ∨ n ∈ l.map (·.1)
  | [], _, _, h => .inl h
  | x :: l, acc, n, h => by
    rcases keys_addTo l (add1 acc x) n h with h | h
    · rcases keys_putM _ _ _ _ h with h | h
      · exact .inl h
      · exact .inr (List.mem_cons.mpr (.inl h))
    · exact .inr (List.mem_cons.mpr (.inr h))
theorem take_addTo {acc l : Fm} {i : Nat} {x : Mon × Rat} (h : l[i]? = some x) : addTo acc (l.take (i + 1)) = add1 (addTo acc (l.take i)) x := by
  rw [take_snoc h, addTo_snoc]
end L2

set_option Elab.async false
set_option linter.all false
set_option maxRecDepth 100000
set_option maxHeartbeats 2000000
/-! Two dicts whose keys are tuples: ==. -/
namespace L2
open PySem PySem.Spec PyProof.Rows
section
variable {prog : Program} {w : World} {K : Type} [DecidableEq K] {knd : HeapKind prog w K} {A : Around} {E : Value → Shared → Prop} {s : Shared}
/-- what the other dict has to show for an entry: f tells whether it does -/
def ShowsH (knd : HeapKind prog w K) (A : Around) (s : Shared) (xb : List (K × Addr × Value)) (f : K → Bool) (x : K × Addr × Value) : Prop :=
  (atKey xb x.1 = none ∧ f x.1 = false) ∨ ∃ p, atKey xb x.1 = some p ∧ SeqAt.EqP prog w A s x.2.2 p.2 (f x.1)
theorem take_all_succ {α : Type} {l : List α} {i : Nat} {x : α} {f : α → Bool} (h : l[i]? = some x) : (l.take (i + 1)).all f = ((l.take i).all f && f x) := by
  rw [take_snoc h, List.all_append]
  simp
theorem all_stop {α : Type} {l : List α} {i : Nat} {x : α} {f : α → Bool} (h : l[i]? = some x) (hf : f x = false) : l.all f = false := by
  rw [List.all_eq_false]
  exact ⟨x, List.mem_of_getElem? h, by rw [hf]; exact Bool.false_ne_true⟩
theorem samePairsH {nm : String} {a b : Addr} {xa xb : List (K × Addr × Value)} {f : K → Bool} {Q : Bool → Shared → Prop} (ha : (a == sysModules) = false) (hb : (b == sysModules) = false) (hu : knd.room A)
    (da : s.heap.DictOfH knd a xa) (db : s.heap.DictOfH knd b xb) (hits : ∀ x ∈ xa, ShowsH knd A s xb f x) (h : Q (xa.length == xb.length && xa.all fun x => f x.1) s) :
    wpAny (model prog w) A (Builtin.Dict.samePairs nm a b) Q E s := by
  obtain ⟨oa, es, ep, hoa, _, hda, hea, hia, hna⟩ := da
  obtain ⟨ob, es', ep', hob, _, hdb, heb, hib, hnb⟩ := db
  have hla := size_of_entries hea
  have hlb := size_of_entries heb
  unfold Builtin.Dict.samePairs Builtin.Dict.showsAll
  rw [if_neg (show ¬ (a == sysModules) = true by rw [ha]; exact Bool.false_ne_true), if_neg (show ¬ (b == sysModules) = true by rw [hb]; exact Bool.false_ne_true)]
  refine wpAny_bind (wpAny_pure (wpAny_bind (wpAny_pure (wpAny_bind (wpAny_dictEntries hoa hda ?_)))))
  dsimp only
  refine wpAny_bind (wpAny_dictEntries hob hdb ?_)
  by_cases hsz : es.size = es'.size
  case neg =>
    rw [if_pos (by simpa using hsz)]
    have hbf : (xa.length == xb.length) = false := by rw [← hla, ← hlb]; simpa using hsz
    rw [hbf, Bool.false_and] at h
    exact wpAny_bind (wpAny_rule (wpAny_pure h))
  case pos =>
    have hbt : (xa.length == xb.length) = true := by rw [← hla, ← hlb]; simpa using hsz
    rw [hbt, Bool.true_and] at h
    rw [if_neg (by rw [hsz]; simp)]
    refine wpAny_bind (wpAny_dictEpoch hoa hda (wpAny_bind ?_))
    rw [Std.Legacy.Range.forIn_eq_forIn_range']
    simp only [Std.Legacy.Range.size, Nat.sub_zero, Nat.add_sub_cancel, Nat.div_one]
    refine wpAny_forIn_list _ (fun rest q s' => s' = s ∧ q = (none, ()) ∧ ∃ i, rest = List.range' i (es.size - i) ∧ i ≤ es.size ∧ ((xa.take i).all fun x => f x.1) = true) _ ?_ ?_ _ _ ⟨rfl, rfl, 0, by simp, Nat.zero_le _, rfl⟩
    · rintro j rest q s' ⟨rfl, rfl, i, hr, hi, pre⟩
      have hlt : i < es.size := by
        rcases Nat.lt_or_ge i es.size with z | z
        · exact z
        · rw [Nat.sub_eq_zero_of_le z] at hr; simp at hr
      obtain ⟨rfl, hrest⟩ : j = i ∧ rest = List.range' (i + 1) (es.size - (i + 1)) := by
        have e : es.size - i = (es.size - (i + 1)) + 1 := by omega
        rw [e, List.range'_succ] at hr
        injection hr with h1 h2
        exact ⟨h1, h2⟩
      have hlx : j < xa.length := by omega
      obtain ⟨⟨k, ad, v⟩, hx⟩ : ∃ x, xa[j]? = some x := ⟨_, List.getElem?_eq_getElem hlx⟩
      have hes : es[j]? = some (entryOfKey knd (k, ad, v)) := by rw [entry_at hea j, hx]; rfl
      refine wpAny_bind (wpAny_dictEntries hoa hda ?_)
      rw [hes]
      have hmem := List.mem_of_getElem? hx
      have stop : f k = false → Q false s' := fun e => by
        have z := all_stop (f := fun x : K × Addr × Value => f x.1) hx e
        rw [z] at h
        exact h
      show wpAny _ _ (holding [.ref ad, v] _ >>= _) _ _ _
      refine wpAny_bind (wpAny_holding (wpAny_bind (wpAny_dictFind_heap hu (hia _ hmem) hob hdb heb hib hnb (fun no => ?_) (fun i' p hp => ?_))))
      · have hn : atKey xb k = none := atKey_none_of_get no
        rcases hits _ hmem with ⟨_, er⟩ | ⟨p, hy, _⟩
        · refine wpAny_pure ?_
          show wpAny _ _ (if (!false) = true then _ else _) _ _ _
          rw [if_pos (by decide)]
          exact wpAny_pure (wpAny_pure (stop er))
        · rw [show atKey xb k = some p from hy] at hn
          cases hn
      · have hv := atKey_of_get hnb hp
        refine wpAny_bind (wpAny_dictEntries hob hdb ?_)
        rw [entry_at heb i', hp]
        rcases hits _ hmem with ⟨hn, _⟩ | ⟨p', hy, he⟩
        · rw [show atKey xb k = none from hn] at hv
          cases hv
        · rw [show atKey xb k = some p' from hy] at hv
          cases hv
          refine wpAny_holding (he _ _ ?_)
          cases ef : f k with
          | false =>
            show wpAny _ _ (if (!false) = true then _ else _) _ _ _
            rw [if_pos (by decide)]
            exact wpAny_pure (wpAny_pure (stop ef))
          | true =>
            show wpAny _ _ (if (!true) = true then _ else _) _ _ _
            rw [if_neg (by decide)]
            refine wpAny_bind (wpAny_dictEpoch hoa hda ?_)
            rw [if_neg (by simp)]
            refine wpAny_pure ⟨rfl, rfl, j + 1, hrest, hlt, ?_⟩
            rw [take_all_succ hx, pre]
            exact ef
    · rintro q s' ⟨rfl, rfl, i, hr, hi, pre⟩
      have hin : i = es.size := by
        rcases Nat.lt_or_ge i es.size with z | z
        · have e : es.size - i = (es.size - (i + 1)) + 1 := by omega
          rw [e, List.range'_succ] at hr
          cases hr
        · exact Nat.le_antisymm hi z
      refine wpAny_pure ?_
      rw [hin, hla, List.take_length] at pre
      rw [pre] at h
      exact h
theorem rcP_dictsH {a b : Addr} {xa xb : List (K × Addr × Value)} {f : K → Bool} (ha : (a == sysModules) = false) (hb : (b == sysModules) = false) (hu : A.units < cLine) (hk : knd.room A.in1)
    (da : s.heap.DictOfH knd a xa) (db : s.heap.DictOfH knd b xb) (hits : ∀ x ∈ xa, ShowsH knd A.in1 s xb f x) (E Q : Value → Shared → Prop) (h : Q (.bool (xa.length == xb.length && xa.all fun x => f x.1)) s) : wpAny (model prog w) A (richCompare .Eq (.ref a) (.ref b)) Q E s := by
  refine wpAny_richCompare_same_room (op := .Eq) da.typeIs db.typeIs PySem.F.slot_dict_eq (wpAny_call_entry PySem.F.slot_dict_eq da.typeIs PySem.F.entry_dict_eq ?_ (PySem.F.args_dict_eq_2 _ _)) hu
  show wpAny _ _ (Builtin.Dict.dictSlotArgs "__eq__" ⟨[.ref a, .ref b], []⟩ >>= _) _ _ s
  refine wpAny_bind ?_
  unfold Builtin.Dict.dictSlotArgs
  refine wpAny_bind (PySem.wpAny_notOrdered_dict da.typeIs ?_)
  show wpAny _ _ (pure (Value.ref a, Value.ref b)) _ _ s
  refine wpAny_pure (wpAny_bind (wpAny_isInstance (T := "dict") db.typeIs PySem.F.sub_dict_dict ?_))
  simp only [Bool.not_true, Bool.false_eq_true, if_false]
  refine wpAny_bind (wpAny_pure (wpAny_bind (wpAny_pure (wpAny_bind (samePairsH ha hb hk da db hits ?_)))))
  refine wpAny_pure ⟨_, rfl, ?_, ?_⟩
  · exact fun z => nomatch z
  · simpa using h
end
end L2

set_option Elab.async false
set_option linter.all false
set_option maxRecDepth 100000
set_option maxHeartbeats 2000000
/-! Two forms' dicts: ==. -/
namespace L2
open PySem PySem.Spec PyProof.Rows
/-- the same terms, whatever their order -/
def eqFm (a b : Fm) : Bool := a.length == b.length && a.all fun x => decide (valM b x.1 = valM a x.1)
def kQ (fm : Fm) (k : List Key) : Option Rat := (fm.find? fun x => decide (kS x.1 = k)).map (·.2)
theorem kQ_kS (fm : Fm) (m : Mon) : kQ fm (kS m) = valM fm m := by
  unfold kQ valM
  congr 1
  congr 1
  funext x
  by_cases c : x.1 = m
  · rw [decide_eq_true c, decide_eq_true (by rw [c])]
  · rw [decide_eq_false c, decide_eq_false fun e => c (kS_inj e)]
theorem dp_frac {K : PySem.W.Frag} {H : Hp} {a : Addr} {q : Rat} (h : SqT K H a (frac q)) : Dp K H (.ref a) (.tuple [.int q.num, .int (q.den : Int)]) := .tup h (.cons (.int _) (.cons (.int _) .nil))
theorem eqv_frac (p q : Rat) : PyData.eqv (.tuple [.int p.num, .int (p.den : Int)]) (.tuple [.int q.num, .int (q.den : Int)]) = decide (p = q) := by
  have e : PyData.eqv (.tuple [.int p.num, .int (p.den : Int)]) (.tuple [.int q.num, .int (q.den : Int)]) = (decide (p.num = q.num) && decide ((p.den : Int) = (q.den : Int))) := by
    simp [PyData.eqv, PyData.eqvAll]
    try rfl
  rw [e]
  by_cases c : p = q
  · subst c
    simp
  · rw [decide_eq_false c]
    by_cases h1 : p.num = q.num
    · have h2 : ¬ p.den = q.den := fun z => c (Rat.ext h1 z)
      rw [decide_eq_true h1, Bool.true_and]
      exact decide_eq_false fun z => h2 (Int.ofNat.inj z)
    · rw [decide_eq_false h1, Bool.false_and]
theorem fm_keys {K : PySem.W.Frag} {H : Hp} {ks : NAV} {fm : Fm} (r : FmKv K H ks fm) : ks.map (·.1) = (fm.map (·.1)).map kS := by
  unfold FmKv at r
  induction r with
  | nil => rfl
  | cons h t ih => rw [List.map_cons, List.map_cons, List.map_cons, ih, h.1]
theorem valM_at {fm : Fm} {i : Nat} {m : Mon} {q : Rat} (nd : (fm.map (·.1)).Nodup) (h : fm[i]? = some (m, q)) : valM fm m = some q := by
  induction fm generalizing i with
  | nil => cases h
  | cons x xs ih =>
    rw [List.map_cons, List.nodup_cons] at nd
    cases i with
    | zero =>
      cases h
      simp [valM, List.find?_cons]
    | succ j =>
      have hj : xs[j]? = some (m, q) := h
      have ne : ¬ x.1 = m := fun e => nd.1 (e ▸ List.mem_map.mpr ⟨(m, q), List.mem_of_getElem? hj, rfl⟩)
      have z : valM (x :: xs) m = valM xs m := by simp [valM, List.find?_cons, ne]
      rw [z]
      exact ih nd.2 hj
theorem nodup_of_map {α β : Type} (f : α → β) {l : List α} (h : (l.map f).Nodup) : l.Nodup := by
  induction l with
  | nil => exact List.nodup_nil
  | cons x xs ih =>
    rw [List.map_cons, List.nodup_cons] at h
    exact List.nodup_cons.mpr ⟨fun z => h.1 (List.mem_map.mpr ⟨x, z, rfl⟩), ih h.2⟩
theorem depth_frac (a b : Int) : PyData.depth (.tuple [.int a, .int b]) ≤ 8 := by
  simp [PyData.depth, PyData.depthAll] <;> first | omega | decide
def rEqFm (P : Program) (w : World) (K : PySem.W.Frag) : R2 := fun x y H Q => ∃ d e ks ls fa fb, x = .ref d ∧ y = .ref e ∧ H d = some (DfO P w d ks) ∧ H e = some (DfO P w e ls) ∧ FmKv K H ks fa ∧ FmKv K H ls fb ∧ Q (.bl (eqFm fa fb)) H
theorem op_eqFm {X : Cx} (hu : X.A.units + 64 < cLine) : OpR X (compareOp .Eq) (rEqFm X.prog X.w X.K) := by
  intro pins s σ H x y v u Q I rx ry h
  obtain ⟨d, e, ks, ls, fa, fb, rfl, rfl, hd, he, ha, hb, q⟩ := h
  obtain rfl : v = Value.ref d := rx
  obtain rfl : u = Value.ref e := ry
  have da := dn_of I (.inl hd) ha.keys.toN
  have db := dn_of I (.inl he) hb.keys.toN
  obtain ⟨_, y1, nd1, _⟩ := dn_get I (.inl hd)
  obtain ⟨_, y2, _⟩ := dn_get I (.inl he)
  have nda : (fa.map (·.1)).Nodup := by
    rw [List.map_map] at nd1
    have e1 : ks.map ((fun x : List Key × Addr × Value => x.1) ∘ toV) = ks.map (·.1) := rfl
    rw [e1, fm_keys ha] at nd1
    exact nodup_of_map _ nd1
  have la : (ks.map toV).length = fa.length := by rw [List.length_map, ha.length]
  have lb : (ls.map toV).length = fb.length := by rw [List.length_map, hb.length]
  refine rcP_dictsH (f := fun k => decide (kQ fb k = kQ fa k)) y1 y2 (Nat.lt_of_le_of_lt (Nat.le_add_right _ 64) hu) (show X.A.in1.units < cLine from ?_) da db (fun x hx => ?_) _ _ ?_
  · show X.A.units + 1 < cLine
    omega
  · obtain ⟨kv, hkv, rfl⟩ := List.mem_map.mp hx
    obtain ⟨i, hi⟩ := List.mem_iff_getElem?.mp hkv
    obtain ⟨m, p, b1, a1, hm, rfl, _, sa⟩ := ha.get hi
    have va : valM fa m = some p := valM_at nda hm
    rw [show toV (kS m, b1, a1) = (kS m, b1, Value.ref a1) from rfl]
    unfold ShowsH
    dsimp only
    rw [kQ_kS, kQ_kS, va, atKey_toV]
    rcases hb.val m with ⟨f1, f2⟩ | ⟨b2, a2, p2, f1, f2, sb⟩
    · rw [f1, f2]
      exact .inl ⟨rfl, rfl⟩
    · rw [f1, f2]
      refine .inr ⟨(b2, .ref a2), rfl, ?_⟩
      obtain ⟨as, r1⟩ := Dp.reads I _ _ (Value.ref a1) (dp_frac sa) rfl
      obtain ⟨bs, r2⟩ := Dp.reads I _ _ (Value.ref a2) (dp_frac sb) rfl
      have q := SeqAt.eqAt_reads _ _ X.A.in1 s _ _ _ _ r1 r2 (by rfl) (by rfl) (by show X.A.units + 1 + _ < cLine; have : min (PyData.depth (.tuple [.int p.num, .int (p.den : Int)])) (PyData.depth (.tuple [.int p2.num, .int (p2.den : Int)])) ≤ 8 := Nat.le_trans (Nat.min_le_left _ _) (depth_frac _ _); omega)
      rw [eqv_frac] at q
      have e9 : decide (p = p2) = decide (some p2 = some p) := by
        by_cases c2 : p = p2
        · rw [c2]; simp
        · rw [decide_eq_false c2, decide_eq_false fun z => c2 (Option.some.inj z).symm]
      rw [← e9]
      exact q.eqP
  · refine ⟨.bl _, H, I, rfl, ?_⟩
    have e : ((ks.map toV).length == (ls.map toV).length && (ks.map toV).all fun x => decide (kQ fb x.1 = kQ fa x.1)) = eqFm fa fb := by
      unfold eqFm
      rw [la, lb]
      congr 1
      have all2 : ∀ {l : NAV} {n : Fm}, FmKv X.K H l n → ((l.map toV).all fun x => decide (kQ fb x.1 = kQ fa x.1)) = n.all fun x => decide (valM fb x.1 = valM fa x.1) := by
        intro l n r
        unfold FmKv at r
        induction r with
        | nil => rfl
        | @cons p x ps xs h t ih =>
          rw [List.map_cons, List.all_cons, List.all_cons, ih]
          congr 1
          rw [show (toV p).1 = kS x.1 from h.1, kQ_kS, kQ_kS]
      exact all2 ha
    rw [e]
    exact q
end L2

set_option Elab.async false
set_option linter.all false
set_option maxRecDepth 100000
set_option maxHeartbeats 1000000
/-! a != b, both of one own class that has __eq__ alone. -/
namespace PySem.W
open PySem PySem.Calls PyProof.Rows
section
variable {prog : Program} {w : World} {A : Around} {E : Value → Shared → Prop} {s : Shared} {K : Frag} {x y C L f : Addr} {h₀ : Heap} {m : Str → Option Value} {ox : Obj} {od : Option Obj}
/-- what the class says of != -/
structure NoNe (K : Frag) (C f : Addr) : Prop where
  ne : findIn K (.ref C) "__ne__" = some (some (.builtin "object.__ne__"))
  eq : findIn K (.ref C) "__eq__" = some (some (.ref f))
  fn : isFn K (.ref f) = true
  sub : subIn K (.ref C) (.type "object") = some true
theorem check_ne (X : K.In s.heap) (I : InstAt s.heap x ox C od) (N : NoNe K C f) {b : Value} {Q : Unit → Shared → Prop} (hq : Q () s) : wpAny (model prog w) A (checkBuiltinCall "object.__ne__" ⟨[.ref x, b], []⟩) Q E s := by
  simp only [checkBuiltinCall, F.cmpKind_ne, F.cmpSplit_ne]
  refine wpAny_bind ?_
  unfold isInstance
  refine wpAny_bind (I.type.here ?_)
  refine (looks_subIn X N.sub).here ?_
  have ha := F.cmpArgs_ne (.ref x) b
  cases hsig : Manifest.signature? "object.__ne__" with
  | none => exact wpAny_pure hq
  | some sig =>
    simp only [argsOk, hsig] at ha
    have h2 : Bind.checkArgs "object.__ne__" sig ⟨[.ref x, b], []⟩ = pure () := ha
    show wpAny _ A (Bind.checkArgs "object.__ne__" sig ⟨[.ref x, b], []⟩) Q E _
    rw [h2]
    exact wpAny_pure hq
theorem entry_ne (X : K.In s.heap) (I : InstAt s.heap x ox C od) (N : NoNe K C f) (hu : A.units < cLine) {b : Value} {Q : Fin → Shared → Prop}
    (h : wpAny (model prog w) A (call (.ref f) [.ref x, b]) (fun v s' => ∃ r, v = .bool r ∧ Q (.done (.ret (.bool (!r)))) s') E s) : wpAny (model prog w) A (Builtin.«object.__ne__» ⟨[.ref x, b], []⟩) Q E s := by
  unfold Builtin.«object.__ne__»
  repeat (first
    | with_reducible refine wpAny_cRoomFor hu ?_
    | (refine wpAny_bind (m := callSpecialIfBound? (.ref x) (Str.ofString "__eq__") [b])
        (ifBound_K X I N.eq N.fn (wpAny_mono h (fun r s' hr => by
          obtain ⟨b, rfl, hq⟩ := hr
          repeat (first | exact hq | exact wpAny_pure hq | exact wpAny_truthy_bool hq | (refine wpAny_bind (m := truthy (.bool _)) (wpAny_truthy_bool ?_)) | wp_step)) fun _ _ e => e)))
    | wp_step)
theorem try_ne (X : K.In s.heap) (I : InstAt s.heap x ox C od) (N : NoNe K C f) (hu : A.units + 1 < cLine) {b : Value} {Q : Option Value → Shared → Prop}
    (h : wpAny (model prog w) A.in1 (call (.ref f) [.ref x, b]) (fun v s' => ∃ r, v = .bool r ∧ Q (some (.bool (!r))) s') E s) : wpAny (model prog w) A (tryCompare (.ref x) "__ne__" b) Q E s := by
  simp only [tryCompare]
  refine wpAny_bind ?_
  simp only [callSpecialIfBound?, bindSpecialIfBound?]
  refine wpAny_holding (wpAny_bind (wpAny_bind (wpAny_bind (I.type.here ((looks_findIn X N.ne).here ?_)))))
  simp only [F.cmp_object.ne.bind]
  refine wpAny_bind (wpAny_askSetting (wpAny_ite ?_))
  have back : wpAny (model prog w) A (call (.builtin "object.__ne__") [.ref x, b]) (fun v s' => ∃ r, v = .bool r ∧ Q (some (.bool r)) s') E s :=
    wpAny_call (codeAny_call_builtin F.cmp_object.ne.plain F.cmpEntry_ne (check_ne X I N (entry_ne (A := A.in1) X I N hu (wpAny_mono h (fun v s' hv => by
      obtain ⟨r, rfl, hq⟩ := hv
      exact ⟨r, rfl, _, rfl, hq⟩) fun _ _ e => e))))
  split
  · refine wpAny_bind (wpAny_pure (wpAny_pure (wpAny_bind (wpAny_mono back (fun v s' hv => ?_) fun _ _ e => e))))
    obtain ⟨r, rfl, hq⟩ := hv
    exact wpAny_pure (wpAny_pure hq)
  · refine wpAny_tryCatch (wpAny_bind (wpAny_pure (wpAny_pure (wpAny_bind (wpAny_mono back (fun v s' hv => ?_) fun _ _ e => e)))))
    obtain ⟨r, rfl, hq⟩ := hv
    exact wpAny_pure (wpAny_pure hq)
theorem ne_K {Q : Value → Shared → Prop} (hu : A.units + 1 < cLine) (X : K.In s.heap) (I : InstAt s.heap x ox C od) (hb : Looks (model prog w) s.heap (typeOf (.ref y)) (.ref C)) (N : NoNe K C f)
    (h : wpAny (model prog w) A.in1 (call (.ref f) [.ref x, .ref y]) (fun v s' => ∃ r, v = .bool r ∧ Q (.bool (!r)) s') E s) : wpAny (model prog w) A (richCompare .NotEq (.ref x) (.ref y)) Q E s := by
  unfold richCompare
  simp only [oneThing_ref]
  refine wpAny_holding (wpAny_bind (wpAny_cRoomFor (Nat.lt_of_succ_lt hu) ?_))
  rw [cmpInfo_NotEq]
  dsimp only
  refine wpAny_bind (I.type.here (wpAny_bind (hb.here ?_)))
  rw [show (Value.ref C != Value.ref C) = false from by simp]
  simp only [Bool.false_eq_true, if_false]
  refine wpAny_bind (wpAny_pure ?_)
  simp only [Bool.false_eq_true, if_false]
  refine wpAny_bind (try_ne X I N hu (wpAny_mono h (fun v s' hv => ?_) fun _ _ e => e))
  obtain ⟨r, rfl, hq⟩ := hv
  exact ⟨r, rfl, wpAny_pure hq⟩
end
end PySem.W

set_option Elab.async false
set_option linter.all false
set_option maxRecDepth 100000
set_option maxHeartbeats 1000000
/-! is_whole, right_side, number, without_noughts, over -/
namespace E2
open PySem PySem.Spec PyProof.Rows L2
open C8 (Cal Mak Met InsC pe_c pe_mt pe_mt0 call_isC clsBody)
/-- builtin names that the module leaves alone, and the class for isinstance -/
structure Bt (K : PySem.W.Frag) (mg : Str → Option Value) (C : Addr) : Prop where
  isi : mg "isinstance" = none
  int_ : mg "int" = none
  bool_ : mg "bool" = none
  ins : InsC K C
  ki : PySem.W.kitOne K (.ref C) (.type "int") = some false
  mgF : mg "Form" = some (.ref C)
def spWhole (C : Addr) : Sp := fun vs H Q _ => ∃ v, vs = [v] ∧ ((∃ i : Int, v = .int i ∧ Q (.bl true) H) ∨ ∃ a dx fs, v = .ref a ∧ H a = some (.ins C dx fs) ∧ Q (.bl false) H)
section
variable {P : Program} {w : World} {K : PySem.W.Frag} {mg : Str → Option Value} {base : Heap} {C : Addr}
theorem kit_ii : PySem.W.kitOne K (.type "int") (.type "int") = some true := by kernel_rfl
theorem kit_ib : PySem.W.kitOne K (.type "int") (.type "bool") = some false := by kernel_rfl
theorem scWhole : FnScope ["value"] ["value"] (defScope sIsWhole) := ⟨rfl, rfl, rfl, by decide +kernel, rfl, by decide +kernel, by decide +kernel⟩
theorem ok_whole {f : Addr} {fd : FuncData} (F : Fun K "is_whole" "is_whole" sIsWhole f fd) (B : Bt K mg C) : FnOk P w K mg base CX0 1 f fd ["value"] (spWhole C) := by
  refine F.ok scWhole (fun vs H Q E h => ?_) (fun cdv A outer s H vs Q E hr h => ?_)
  · obtain ⟨v, rfl, _⟩ := h
    rfl
  · obtain ⟨v, rfl, k⟩ := h
    refine ⟨_, pss_one (ps_ret (pe_and (pe_callB call_isi (by rfl) B.isi (by decide +kernel) (pa_cons (pv 0) (pa_cons (pe_bltn (v := .ty "int") (by rfl) B.int_ (by decide +kernel) rfl) pa_nil)))
      (pe_one (pe_not (pe_callB call_isi (by rfl) B.isi (by decide +kernel) (pa_cons (pv 0) (pa_cons (pe_bltn (v := .ty "bool") (by rfl) B.bool_ (by decide +kernel) rfl) pa_nil))))))), ?_⟩
    rcases k with ⟨i, rfl, q⟩ | ⟨a, dx, fs, rfl, ha, q⟩
    · refine ⟨_, rfl, _, _, _, _, true, rfl, .ty "int", .base (.int i), kit_ii, true, rfl, iteT (B := False) ?_⟩
      exact ⟨_, rfl, _, _, _, _, false, rfl, .ty "bool", .base (.int i), kit_ib, false, rfl, q⟩
    · refine ⟨_, rfl, _, _, _, _, false, rfl, .ty "int", .base (.ins ha B.ins.cl B.ins.ha B.ins.hn B.ins.htk B.ins.hm), B.ki, false, rfl, iteF ?_⟩
      exact q
def spWithout (P : Program) (w : World) (K : PySem.W.Frag) : Sp := fun vs H Q _ => ∃ d kvs fm, vs = [.ref d] ∧ H d = some (DfO P w d kvs) ∧ FmKv K H kvs fm ∧ (fm.map (·.1)).Nodup ∧ fm.length ≤ sizeLine ∧ ∀ H' D kvs', Same H H' → H D = none → H' D = some (DfO P w D kvs') → FmKv K H' kvs' (mapM (fun q => !decide (q = 0)) id fm) → Q (.ref D) H'
theorem scWithout : FnScope ["parts", "names", "worth"] ["parts"] (defScope sWithout) := ⟨rfl, rfl, rfl, by decide +kernel, rfl, by decide +kernel, by decide +kernel⟩
theorem ok_without {f : Addr} {fd : FuncData} (F : Fun K "without_noughts" "without_noughts" sWithout f fd) : FnOk P w K mg base CX0 1 f fd ["parts"] (spWithout P w K) := by
  refine F.ok scWithout (fun vs H Q E h => ?_) (fun cdv A outer s H vs Q E hr h => ?_)
  · obtain ⟨d, kvs, fm, rfl, _⟩ := h
    rfl
  · obtain ⟨d, kvs, fm, rfl, hd, hf, hn, hz, k⟩ := h
    refine ⟨_, pss_one (ps_ret (pe_lock (pe_dcN (own := [("names", 1), ("worth", 2)]) (g := gTup K 2 (gCons (gName 1) (gCons (gName 2) gNil))) (tt := tTest (tOp rNe (tOp (rIxT K) (tVar 2) (tC (.int 0))) (tC (.int 0)))) (tk := tVar 1) (tv := tVar 2) (Nat.lt_of_le_of_lt (Nat.le_add_right _ 64) hr.units) rfl scWithout.nd (pi_itemsN (pv 0))
      (blkOk_by (own := [("names", 1), ("worth", 2)]) (N := ["parts", "names", "worth"]) (sc := defScope sWithout) (by decide +kernel))
      ⟨fun _ _ _ _ _ => pg_tup rfl (pgs_cons (pg_name (i := 1) scWithout.nd rfl (Or.inl rfl)) (pgs_cons (pg_name (i := 2) scWithout.nd rfl (Or.inl rfl)) pgs_nil)),
       fun _ _ _ _ _ => pts_one (by exact pt_cmpR op_ne (pe_ix ix_tup (pv 2) pe_int (fun _ _ => rfl)) pe_int (nomark _)), fun _ _ _ _ _ => pv 1, fun _ _ _ _ _ => pv 2⟩))), ?_⟩
    refine ret_of (lock_items (p := fun q => !decide (q = 0)) (f := id) hd hf hn hz (fun od R h => ⟨_, rfl, h⟩) ?_ fun H' D kvs' S nD hD kv => k H' D kvs' S nD hD kv)
    intro H1 lk i m q H' T b a put skip hm S hT hb sa hput hskip
    refine ⟨T, _, rfl, SqT.of hT, rfl, _, _, rfl, _, _, rfl, rfl, rfl, ?_⟩
    have e : (!decide (V.int q.num = V.int 0)) = (!decide (q = 0)) := by
      rw [dec_int]
      congr 1
      by_cases h : q = 0
      · rw [decide_eq_true h]
        exact beq_iff_eq.mpr (Rat.num_eq_zero.mpr h)
      · rw [decide_eq_false h]
        exact beq_eq_false_iff_ne.mpr fun z => h (Rat.num_eq_zero.mp z)
    refine ⟨_, rfl, a, _, 0, _, rfl, rfl, sa, rfl, rfl, !decide (q = 0), congrArg V.bl e, ?_⟩
    cases hc : (!decide (q = 0)) with
    | true => exact iteT (B := skip H') ⟨_, rfl, _, rfl, hput hc H' b a (Same.refl H') hb sa⟩
    | false => exact iteF (hskip hc H' (Same.refl H'))
theorem pow1 (n : Nat) : 1 < 2 ^ (n + 1) := Nat.one_lt_two_pow (Nat.succ_ne_zero n)

/-- the coefficients that the fractions' arithmetic takes -/
def Sm (fm : Fm) : Prop := ∀ x ∈ fm, x.2.num.natAbs < 2 ^ 400000 ∧ x.2.den < 2 ^ 4000
theorem inv_bq {n : Int} (h : n ≠ 0) : Bq n.natAbs 1 (Rat.divInt 1 n) := by
  have hn : (n : Rat) ≠ 0 := fun e => h (Rat.intCast_inj.mp (e.trans (by rfl : (0 : Rat) = ((0 : Int) : Rat))))
  rcases Int.lt_or_gt_of_ne h with c | c
  · refine ⟨-1, ?_, by decide⟩
    have e : ((n.natAbs : Nat) : Rat) = -(n : Rat) := by
      rw [← Rat.intCast_natCast, ← Rat.intCast_neg]
      congr 1
      omega
    rw [e, Rat.divInt_eq_div]
    have e1 : ((1 : Int) : Rat) = 1 := rfl
    have e2 : ((-1 : Int) : Rat) = -1 := rfl
    rw [e1, e2]
    grind
  · refine ⟨1, ?_, by decide⟩
    have e : ((n.natAbs : Nat) : Rat) = (n : Rat) := by
      rw [← Rat.intCast_natCast]
      congr 1
      omega
    rw [e, Rat.divInt_eq_div]
    have e1 : ((1 : Int) : Rat) = 1 := rfl
    rw [e1]
    grind
def spOver (P : Program) (w : World) (K : PySem.W.Frag) (C : Addr) : Sp := fun vs H Q _ => ∃ a n fm, vs = [.ref a, .int n] ∧ n ≠ 0 ∧ n.natAbs < 2 ^ 2000 ∧ FmAt P w K C H a fm ∧ (fm.map (·.1)).Nodup ∧ fm.length ≤ sizeLine ∧ Sm fm ∧ ∀ H' b, Same H H' → H b = none → FmAt P w K C H' b (mapM (fun _ => true) (fun q => q * Rat.divInt 1 n) fm) → Q (.ref b) H'
theorem scOver : FnScope ["self", "divisor", "factor", "names", "worth"] ["self", "divisor"] (defScope sOver) := ⟨rfl, rfl, rfl, by decide +kernel, rfl, by decide +kernel, by decide +kernel⟩
theorem ok_over {f : Addr} {fd : FuncData} (F : Fun K "over" "Form.over" sOver f fd) (T : Fx P w K mg base C) (L : Cal P w K mg base 1 "lowest" spLowest []) (M : Cal P w K mg base 2 "fraction_product" (spFrac K (· * ·)) []) (Wh : Cal P w K mg base 1 "is_whole" (spWhole C) []) : FnOk P w K mg base CX0 4 f fd ["self", "divisor"] (spOver P w K C) := by
  refine F.ok scOver (fun vs H Q E h => ?_) (fun cdv A outer s H vs Q E hr h => ?_)
  · obtain ⟨a, n, fm, rfl, _⟩ := h
    rfl
  · obtain ⟨a, n, fm, rfl, n0, nz, ⟨dx, d, kvs, ha, hd, hf⟩, hn, hz, sm, k⟩ := h
    refine ⟨_, pss_cons (ps_if (PW.pt (pw_or (pt_not (pt_val (pe_c Wh hr (by decide) rfl (pa_cons (pv 1) pa_nil)))) (pw_or1 (pt_cmpR op_eq (pv 1) pe_int (nomark _))))) (pss_one ps_never) pss_nil)
      (pss_cons (ps_set (i := 2) scOver.nd rfl (Or.inr rfl) (pe_c L hr (by decide) rfl (pa_cons pe_int (pa_cons (pv 1) pa_nil))))
      (pss_one (ps_ret (pe_mkF T.maks hr (by decide) rfl (pe_lock (pe_dcN (own := [("names", 3), ("worth", 4)]) (g := gTup K 2 (gCons (gName 3) (gCons (gName 4) gNil))) (tt := tYes) (tk := tVar 3) (tv := tCall (spFrac K (· * ·)) [] E0 (tCons (tVar 4) (tCons (tVar 2) tNil))) (Nat.lt_of_le_of_lt (Nat.le_add_right _ 64) hr.units) rfl scOver.nd (pi_itemsN (pe_fld (pv 0) rfl))
      (blkOk_by (own := [("names", 3), ("worth", 4)]) (N := ["self", "divisor", "factor", "names", "worth"]) (sc := defScope sOver) (by decide +kernel))
      ⟨fun _ _ _ _ _ => pg_tup rfl (pgs_cons (pg_name (i := 3) scOver.nd rfl (Or.inl rfl)) (pgs_cons (pg_name (i := 4) scOver.nd rfl (Or.inl rfl)) pgs_nil)),
       fun _ _ _ _ _ => pts_nil, fun _ _ _ _ _ => pv 3, fun _ _ _ _ _ => by exact pe_c M hr (by decide) rfl (pa_cons (pv 4) (pa_cons (pv 2) pa_nil))⟩)))))), ?_⟩
    have bq := inv_bq n0
    have np : 0 < n.natAbs := by omega
    refine ⟨_, rfl, _, rfl, .inl ⟨n, rfl, true, rfl, ?_⟩⟩
    refine iteF ⟨_, rfl, rfl, _, rfl, iteD (fun h => ?_) (fun _ => ?_)⟩
    · injection h with h
      exact (n0 h).elim
    refine ⟨_, rfl, 1, n, rfl, n0, Nat.lt_of_lt_of_le (PySem.Flt.log2_lt_of (by decide) nz) (by decide), fun p1 H0 S0 n1 h1 => ?_⟩
    rw [loq_eq n0] at h1
    have h1 : SqT K H0 p1 (frac (Rat.divInt 1 n)) := SqT.of h1
    have hf0 := hf.same S0
    have hd0 : H0 d = some (DfO P w d kvs) := S0 _ _ hd
    dsimp only [gName]
    refine ret_mkF ?_
    refine lock_items (p := fun _ => true) (f := fun q => q * Rat.divInt 1 n) hd0 hf0 hn hz (fun od R h => ⟨_, rfl, a, C, dx, _, _, rfl, by rw [upd_ne (ne_of ha hd (by intro z; cases z))]; exact S0 _ _ ha, T.cl, T.na, rfl, h⟩) ?_ ?_
    · intro H1 lk i m q H' T b a put skip hm S hT hb sa hput hskip
      have hq := sm _ (List.mem_of_getElem? hm)
      have hs1 : SqT K H' p1 (frac (Rat.divInt 1 n)) := SqT.same (lk.sq p1 (frac (Rat.divInt 1 n)) h1) S
      have hsa : SqT K H' a (frac q) := sa
      have bn := bq.num_le np
      have bd := bq.den_le np
      refine ⟨T, _, rfl, SqT.of hT, rfl, _, _, rfl, _, _, rfl, rfl, rfl, ?_⟩
      refine iteT (B := skip H') ?_
      exact ⟨_, rfl, _, rfl, _, rfl, a, p1, q, Rat.divInt 1 n, rfl, hsa, hs1, hq.1, Nat.lt_of_le_of_lt bn (pow1 _), hq.2, Nat.lt_of_le_of_lt bd (Nat.lt_of_lt_of_le nz (Nat.pow_le_pow_right (by decide) (by decide))), fun p2 H5 S5 n5 h5 => hput rfl H5 b p2 S5 (hb.same S5) (SqT.of h5)⟩
    · intro H' D kvs' S nD hD kv b dx' H2 S2 nb hb
      exact k _ _ ((S0.trans S).trans S2) ((S0.trans S).free nb) ⟨dx', D, kvs', hb, S2 _ _ hD, kv.same S2⟩
end
end E2

set_option Elab.async false
set_option linter.all false
set_option maxRecDepth 100000
set_option maxHeartbeats 1000000
/-! a == b, a != b of two forms -/
namespace L2
open PySem PySem.Spec PyProof.Rows
open C8 (Cal Mak Met InsC)
section
variable {X : Cx}
/-- an around where a def of this level may be called -/
structure SubA (X : Cx) (k : Nat) (A : Around) : Prop where
  room : Room k A
  fr : A.frames = X.A.frames
/-- a def called where the around is deeper -/
theorem run_sub {A : Around} {k : Nat} {f : Addr} {fd : FuncData} {ps : List Str} {sp : Sp} {pins : List (Addr × Obj)} {σ : L2.St} {H : Hp} {s : Shared} {Q : VK} {us : List Value} {vs : List V} (sb : SubA X k A) (F : FnOk X.prog X.w X.K X.mg X.base CX0 k f fd ps sp) (hb : Binds X.K fd ps [])
    (I : Inv X pins σ H s) (r : Vals vs us) (hsp : sp vs H Q E0) : wpAny (model X.prog X.w) A (call (.ref f) us) (EP X pins σ Q) X.xe s := by
  have e0 : Env0 X.prog X.w X.K X.mg X.base A X.stack s H := by
    have e := I.env0
    exact ⟨by rw [sb.fr]; exact e.frames, e.mod, e.bs, e.bsz, e.funs, e.frf, e.hok, e.bare⟩
  have hl := F.len _ _ _ _ hsp
  have hlu : us.length = ps.length := by rw [← r.length]; exact hl
  refine wpAny_call (codeAny_mono (F.run A X.stack s H ⟨us, []⟩ us vs _ E0 sb.room e0 (by
    have := hb s us I.kIn (by simpa using hlu)
    simpa using this) r hsp) fun r s' hq => ?_)
  cases r with
  | error e => exact pass0 pins σ H s e s' I hq
  | ok fl =>
    cases fl with
    | ret w =>
      obtain ⟨z, H', I', rz, q⟩ := I.after hq
      exact ⟨z, H', I', rz, q⟩
    | next => exact False.elim hq
    | brk => exact False.elim hq
    | cont => exact False.elim hq
end
def spEqF (P : Program) (w : World) (K : PySem.W.Frag) (C : Addr) : Sp := fun vs H Q _ => ∃ a b fa fb, vs = [.ref a, .ref b] ∧ FmAt P w K C H a fa ∧ FmAt P w K C H b fb ∧ Q (.bl (eqFm fa fb)) H
/-- what == and != of two forms lean on -/
structure EqM (P : Program) (w : World) (K : PySem.W.Frag) (mg : Str → Option Value) (base : Heap) (k : Nat) (C : Addr) : Prop where
  ex : ∃ (f : Addr) (fd : FuncData) (ps : List Str), PySem.W.NoNe K C f ∧ FnOk P w K mg base CX0 k f fd ps (spEqF P w K C) ∧ Binds K fd ps []
def rEqO (P : Program) (w : World) (K : PySem.W.Frag) (C : Addr) : R2 := fun x y H Q => ∃ a b fa fb, x = .ref a ∧ y = .ref b ∧ FmAt P w K C H a fa ∧ FmAt P w K C H b fb ∧ Q (.bl (eqFm fa fb)) H
def rNeO (P : Program) (w : World) (K : PySem.W.Frag) (C : Addr) : R2 := fun x y H Q => ∃ a b fa fb, x = .ref a ∧ y = .ref b ∧ FmAt P w K C H a fa ∧ FmAt P w K C H b fb ∧ Q (.bl (!eqFm fa fb)) H
section
variable {X : Cx} {C : Addr} {k j : Nat}
theorem op_eqO (O : EqM X.prog X.w X.K X.mg X.base k C) (hr : Room j X.A) (hk : k ≤ j) : OpR X (compareOp .Eq) (rEqO X.prog X.w X.K C) := by
  obtain ⟨f, fd, ps, N, F, hb⟩ := O.ex
  intro pins s σ H x y v u Q I rx ry h
  obtain ⟨a, b, fa, fb, rfl, rfl, ha, hb2, q⟩ := h
  obtain rfl : v = Value.ref a := rx
  obtain rfl : u = Value.ref b := ry
  have ha1 := ha
  have hb1 := hb2
  obtain ⟨dx, d, kvs, ea, _⟩ := ha1
  obtain ⟨dy, e, kvs2, eb, _⟩ := hb1
  obtain ⟨ox, od, J⟩ := inst_of I ea
  obtain ⟨oy, oe, J2⟩ := inst_of I eb
  obtain ⟨m, fr⟩ := I.fr
  have hrk := hr.mono hk
  refine PySem.W.cmp_K (op := .Eq) (tb := .ref C) hrk.units0 fr I.ok.mod.kin J J2.type (by simp [PySem.W.notFirst]) N.eq N.fn ?_
  exact thn (run_sub ⟨hrk, rfl⟩ (vs := [V.ref a, V.ref b]) F hb I (.cons rfl (.cons rfl .nil)) ⟨a, b, fa, fb, rfl, ha, hb2, q⟩) fun _ _ z => back_of z
theorem op_neO (O : EqM X.prog X.w X.K X.mg X.base k C) (hr : Room j X.A) (hk : k + 1 ≤ j) : OpR X (compareOp .NotEq) (rNeO X.prog X.w X.K C) := by
  obtain ⟨f, fd, ps, N, F, hb⟩ := O.ex
  intro pins s σ H x y v u Q I rx ry h
  obtain ⟨a, b, fa, fb, rfl, rfl, ha, hb2, q⟩ := h
  obtain rfl : v = Value.ref a := rx
  obtain rfl : u = Value.ref b := ry
  have ha1 := ha
  have hb1 := hb2
  obtain ⟨dx, d, kvs, ea, _⟩ := ha1
  obtain ⟨dy, e, kvs2, eb, _⟩ := hb1
  obtain ⟨ox, od, J⟩ := inst_of I ea
  obtain ⟨oy, oe, J2⟩ := inst_of I eb
  have hrk : Room (k + 1) X.A := hr.mono hk
  have sb : SubA X k X.A.in1 := ⟨hrk.in1, rfl⟩
  refine PySem.W.ne_K (A := X.A) (Nat.lt_of_le_of_lt (Nat.add_le_add_left (by decide : 1 ≤ 64) _) hrk.units) I.kIn J J2.type N ?_
  refine thn (run_sub (Q := fun v H' => v = .bl (eqFm fa fb) ∧ H' = H) (vs := [V.ref a, V.ref b]) sb F hb I (.cons rfl (.cons rfl .nil)) ⟨a, b, fa, fb, rfl, ha, hb2, rfl, rfl⟩) fun r s' z => ?_
  obtain ⟨z, H', I', rz, rfl, rfl⟩ := z
  obtain rfl : r = Value.bool (eqFm fa fb) := rz
  exact ⟨_, rfl, .bl (!eqFm fa fb), H', I', rfl, q⟩
end
end L2
namespace E2
open PySem PySem.Spec PyProof.Rows L2
open C8 (Cal Mak Met InsC pe_c pe_mt pe_mt0 call_isC clsBody)
abbrev sEq : Stmt := meth 5
section
variable {P : Program} {w : World} {K : PySem.W.Frag} {mg : Str → Option Value} {base : Heap} {C : Addr}
theorem scEq : FnScope ["self", "other"] ["self", "other"] (defScope sEq) := ⟨rfl, rfl, rfl, by decide +kernel, rfl, by decide +kernel, by decide +kernel⟩
theorem ok_eq {f : Addr} {fd : FuncData} (F : Fun K "__eq__" "Form.__eq__" sEq f fd) (T : Fx P w K mg base C) (B : Bt K mg C) : FnOk P w K mg base CX0 1 f fd ["self", "other"] (spEqF P w K C) := by
  refine F.ok scEq (fun vs H Q E h => ?_) (fun cdv A outer s H vs Q E hr h => ?_)
  · obtain ⟨a, b, fa, fb, rfl, _⟩ := h
    rfl
  · obtain ⟨a, b, fa, fb, rfl, ⟨dx, d, kvs, ha, hd, hf⟩, ⟨dy, e, kvs2, hb, he, hf2⟩, k⟩ := h
    refine ⟨_, pss_one (ps_ret (pe_and (pe_callB (call_isC B.ins) (by rfl) B.isi (by decide +kernel) (pa_cons (pv 1) (pa_cons (pe_glob (v := .ref C) (by rfl) B.mgF rfl) pa_nil))) (pe_one (pe_cmpR (op_eqFm hr.units) (pe_fld (pv 0) rfl) (pe_fld (pv 1) rfl) (nomark _))))), ?_⟩
    exact ⟨_, rfl, b, dy, _, rfl, hb, true, rfl, iteT (B := False) ⟨_, rfl, a, C, dx, _, _, rfl, ha, T.cl, T.na, rfl, _, rfl, b, C, dy, _, _, rfl, hb, T.cl, T.na, rfl, d, e, kvs, kvs2, fa, fb, rfl, rfl, hd, he, hf, hf2, k⟩⟩
end
end E2

set_option Elab.async false
set_option linter.all false
set_option maxRecDepth 100000
set_option maxHeartbeats 1000000
/-! is_letter, letter, number, right_side -/
namespace E2
open PySem PySem.Spec PyProof.Rows L2
open C8 (Cal Mak Met InsC pe_c pe_mt pe_mt0 call_isC clsBody)
theorem iteP {p : Prop} [Decidable p] {A B : Prop} (hp : p) (h : B) : if (!decide p) = true then A else B := by
  rw [decide_eq_true hp]
  exact h
theorem iteN {p : Prop} [Decidable p] {A B : Prop} (hp : ¬ p) (h : A) : if (!decide p) = true then A else B := by
  rw [decide_eq_false hp]
  exact h
/-- a letter -/
def LetOk (z : Str) : Prop := 1 ≤ z.length ∧ z.length ≤ 10 ∧ ∀ c ∈ z.cps.toList, 97 ≤ c ∧ c ≤ 122
/-- more names that the module leaves alone -/
structure Bt2 (mg : Str → Option Value) : Prop where
  str_ : mg "str" = none
  len_ : mg "len" = none
  all_ : mg "all" = none
def spIsLet : Sp := fun vs H Q _ => ∃ z : Str, vs = [.str z] ∧ LetOk z ∧ ∀ H', Same H H' → Q (.bl true) H'
section
variable {P : Program} {w : World} {K : PySem.W.Frag} {mg : Str → Option Value} {base : Heap} {C : Addr}
theorem kit_ss : PySem.W.kitOne K (.type "str") (.type "str") = some true := by kernel_rfl
theorem scIsLet : FnScope ["name", "sign"] ["name"] (defScope sIsLetter) := ⟨rfl, rfl, rfl, by decide +kernel, rfl, by decide +kernel, by decide +kernel⟩
abbrev rLeS : R2 := fun x y H Q => ∃ i j, x = .str i ∧ y = .str j ∧ Q (.bl (!decide (j.cps.toList < i.cps.toList))) H
theorem ok_isLet {f : Addr} {fd : FuncData} (F : Fun K "is_letter" "is_letter" sIsLetter f fd) (B : Bt K mg C) (B2 : Bt2 mg) : FnOk P w K mg base CX0 1 f fd ["name"] spIsLet := by
  refine F.ok scIsLet (fun vs H Q E h => ?_) (fun cdv A outer s H vs Q E hr h => ?_)
  · obtain ⟨z, rfl, _⟩ := h
    rfl
  · obtain ⟨z, rfl, ⟨l1, l2, hc⟩, k⟩ := h
    refine ⟨_, pss_cons (ps_if (PW.pt (pw_or (pt_not (pt_val (pe_callB call_isi (by rfl) B.isi (by decide +kernel) (pa_cons (pv 0) (pa_cons (pe_bltn (v := .ty "str") (by rfl) B2.str_ (by decide +kernel) rfl) pa_nil)))))
        (pw_or1 (pt_not (pt_chain op_le op_le pe_int (pe_callB call_len_str (by rfl) B2.len_ PySem.boot_len (pa_cons (pv 0) pa_nil)) pe_int))))) (pss_one (ps_ret pe_bl)) pss_nil)
      (pss_one (ps_ret (pe_callB (cr_all rfl) (by rfl) B2.all_ (by decide +kernel) (pa_cons (pe_lc (own := [("sign", 1)]) (g := gName 1) (tt := tYes) (te := tChain rLeS rLeS (tC (.str "a")) (tVar 1) (tC (.str "z"))) rfl scIsLet.nd (pi_str (pv 0))
        (blkOk_by (own := [("sign", 1)]) (N := ["name", "sign"]) (sc := defScope sIsLetter) (by decide +kernel))
        (fun _ _ _ _ _ => pg_name (i := 1) scIsLet.nd rfl (Or.inl rfl)) (fun _ _ _ _ _ => pts_nil) (fun _ _ _ _ _ => by exact pe_chain op_le_str op_le_str pe_str (pv 1) pe_str)) pa_nil)))), ?_⟩
    have hz : z.length ≤ sizeLine := by rw [sizeLine_eq]; omega
    refine ⟨_, rfl, _, _, _, _, true, rfl, .ty "str", .base (.str z), kit_ss, true, rfl, iteF ?_⟩
    refine ⟨_, rfl, z, rfl, hz, _, _, rfl, rfl, _, rfl, iteD (fun _ => ?_) (fun h => absurd (by omega) h)⟩
    refine ⟨_, _, rfl, rfl, _, rfl, iteP (by omega) ?_⟩
    refine ⟨_, rfl, z, rfl, fun D nD => lc_it walk_str (fun i H' => Same H H' ∧ H' D = some (.lst (List.replicate i (V.bl true)))) ⟨Same.upd nD, upd_same⟩ (fun _ _ _ _ => trivial) ?_ ?_⟩
    · rintro i x H1 H1' hi ⟨S, hD⟩ ⟨rfl, c, hcz, rfl⟩
      have hm : c ∈ z.cps.toList := by
        rw [← Array.getElem?_toList] at hcz
        exact List.mem_of_getElem? hcz
      obtain ⟨c1, c2⟩ := hc c hm
      have n1 : ¬ ((⟨#[c]⟩ : Str).cps.toList < ("a" : Str).cps.toList) := by
        show ¬ ([c] < [97])
        rw [List.cons_lt_cons_iff]
        rintro (h | ⟨_, h⟩)
        · omega
        · exact absurd h (by decide)
      have n2 : ¬ (("z" : Str).cps.toList < (⟨#[c]⟩ : Str).cps.toList) := by
        show ¬ ([122] < [c])
        rw [List.cons_lt_cons_iff]
        rintro (h | ⟨_, h⟩)
        · omega
        · exact absurd h (by decide)
      refine ⟨rfl, iteT (B := False) ⟨_, rfl, _, _, rfl, rfl, _, rfl, iteN n1 ⟨_, _, rfl, rfl, _, hD, ?_, ?_, ?_⟩⟩⟩
      · rw [List.length_replicate]
        have : i < z.length := hi
        omega
      · intro b o hb
        rw [upd_ne (ne_of_none hb nD)]
        exact S _ _ hb
      · rw [upd_same, decide_eq_false n2, List.replicate_succ']
        rfl
    · rintro H1 ⟨S, hD⟩
      refine ⟨D, List.replicate z.cps.size true, rfl, SqL.of ?_, ?_⟩
      · rw [List.map_replicate]
        exact hD
      · rw [show (List.replicate z.cps.size true).all id = true by simp]
        exact k H1 S
def spLetter (P : Program) (w : World) (K : PySem.W.Frag) (C : Addr) : Sp := fun vs H Q _ => ∃ z : Str, vs = [.str z] ∧ LetOk z ∧ ∀ H' b, Same H H' → H b = none → FmAt P w K C H' b [([z], 1)] → Q (.ref b) H'
theorem scLetter : FnScope ["name"] ["name"] (defScope sLetter) := ⟨rfl, rfl, rfl, by decide +kernel, rfl, by decide +kernel, by decide +kernel⟩
theorem ok_letter {f : Addr} {fd : FuncData} (F : Fun K "letter" "letter" sLetter f fd) (T : Fx P w K mg base C) (L : Cal P w K mg base 1 "is_letter" spIsLet []) : FnOk P w K mg base CX0 3 f fd ["name"] (spLetter P w K C) := by
  refine F.ok scLetter (fun vs H Q E h => ?_) (fun cdv A outer s H vs Q E hr h => ?_)
  · obtain ⟨z, rfl, _⟩ := h
    rfl
  · obtain ⟨z, rfl, hz, k⟩ := h
    refine ⟨_, pss_cons (ps_if (pt_not (pt_val (pe_c L hr (by decide) rfl (pa_cons (pv 0) pa_nil)))) (pss_one ps_never) pss_nil)
      (pss_one (ps_ret (pe_mkF T.maks hr (by decide) rfl (pe_dispN (Nat.lt_of_le_of_lt (Nat.le_add_right _ 64) hr.units) (pe_tupN (pa_cons (pv 0) pa_nil)) (pe_tupS (pa_cons pe_int (pa_cons pe_int pa_nil))))))), ?_⟩
    refine ⟨_, rfl, z, rfl, hz, fun H0 S0 => ⟨true, rfl, iteF ?_⟩⟩
    refine fun p np => ⟨_, rfl, (by show 1 ≤ sizeLine; decide), fun t H1 S1 n1 h1 => ⟨(by show 2 ≤ sizeLine; decide), fun u H2 S2 n2 h2 => ?_⟩⟩
    have hp := S2 _ _ (S1 _ _ (upd_same (H := H0) (a := p) (o := DfO P w p [])))
    refine ⟨hp, [Sum.inr z], t, u, rfl, rfl, (h1.same S2).sq, fun a dx H3 S3 na ha => ?_⟩
    have SA : Same H0 (upd H2 p (DfO P w p [([Sum.inr z], t, u)])) := by
      intro b o hb
      rw [upd_ne (ne_of_none hb np)]
      exact S2 _ _ (S1 _ _ (Same.upd np _ _ hb))
    refine k H3 a ((S0.trans SA).trans S3) ((S0.trans SA).free na) ⟨dx, p, _, ha, S3 _ _ upd_same, .cons ⟨rfl, ((h1.same S2).off hp fun o => noTup_df.2 o _).same S3, ?_⟩ .nil⟩
    exact (SqT.off (SqT.of h2) hp (noTup_df.1 _) (fun o => noTup_df.2 o _)).same S3
def spNumber (P : Program) (w : World) (K : PySem.W.Frag) (C : Addr) : Sp := fun vs H Q _ => ∃ n : Int, vs = [.int n] ∧ ∀ H' b, Same H H' → H b = none → FmAt P w K C H' b (if n = 0 then [] else [([], (n : Rat))]) → Q (.ref b) H'
theorem scNumber : FnScope ["value"] ["value"] (defScope sNumber) := ⟨rfl, rfl, rfl, by decide +kernel, rfl, by decide +kernel, by decide +kernel⟩
theorem ok_number {f : Addr} {fd : FuncData} (F : Fun K "number" "number" sNumber f fd) (T : Fx P w K mg base C) (Wh : Cal P w K mg base 1 "is_whole" (spWhole C) []) (Wo : Cal P w K mg base 1 "without_noughts" (spWithout P w K) []) : FnOk P w K mg base CX0 3 f fd ["value"] (spNumber P w K C) := by
  refine F.ok scNumber (fun vs H Q E h => ?_) (fun cdv A outer s H vs Q E hr h => ?_)
  · obtain ⟨n, rfl, _⟩ := h
    rfl
  · obtain ⟨n, rfl, k⟩ := h
    refine ⟨_, pss_cons (ps_if (pt_not (pt_val (pe_c Wh hr (by decide) rfl (pa_cons (pv 0) pa_nil)))) (pss_one ps_never) pss_nil)
      (pss_one (ps_ret (pe_mkF T.maks hr (by decide) rfl (pe_c Wo hr (by decide) rfl (pa_cons (pe_dispN (Nat.lt_of_le_of_lt (Nat.le_add_right _ 64) hr.units) (pe_tupN pa_nil) (pe_tupS (pa_cons (pv 0) (pa_cons pe_int pa_nil)))) pa_nil))))), ?_⟩
    refine ⟨_, rfl, _, rfl, .inl ⟨n, rfl, true, rfl, iteF ?_⟩⟩
    refine fun p np => ⟨(by show 0 ≤ sizeLine; decide), fun t H1 S1 n1 h1 => ⟨_, rfl, (by show 2 ≤ sizeLine; decide), fun u H2 S2 n2 h2 => ?_⟩⟩
    have hp := S2 _ _ (S1 _ _ (upd_same (H := H) (a := p) (o := DfO P w p [])))
    refine ⟨hp, [], t, u, rfl, rfl, (h1.same S2).sq, ?_⟩
    have SA : Same H (upd H2 p (DfO P w p [([], t, u)])) := by
      intro b o hb
      rw [upd_ne (ne_of_none hb np)]
      exact S2 _ _ (S1 _ _ (Same.upd np _ _ hb))
    refine ⟨p, _, [([], (n : Rat))], rfl, upd_same, .cons ⟨rfl, (h1.same S2).off hp (fun o => noTup_df.2 o _), SqT.off (SqT.of h2) hp (noTup_df.1 _) (fun o => noTup_df.2 o _)⟩ .nil, ?_, by show 1 ≤ sizeLine; decide, fun H3 D kvs' S3 nD hD kv a dx H4 S4 na ha => ?_⟩
    · exact List.nodup_cons.mpr ⟨List.not_mem_nil, List.nodup_nil⟩
    · refine k H4 a ((SA.trans S3).trans S4) ((SA.trans S3).free na) ⟨dx, D, kvs', ha, S4 _ _ hD, ?_⟩
      have e : mapM (fun q => !decide (q = 0)) id [([], (n : Rat))] = if n = 0 then [] else [([], (n : Rat))] := by
        by_cases h : n = 0
        · subst h
          rfl
        · have h2 : ¬ ((n : Rat) = 0) := fun e => h (Rat.intCast_inj.mp (e.trans (by rfl : (0 : Rat) = ((0 : Int) : Rat))))
          rw [if_neg h]
          unfold mapM
          rw [List.filter_cons, if_pos (by show (!decide ((n : Rat) = 0)) = true; rw [decide_eq_false h2]; rfl)]
          rfl
      rw [e] at kv
      exact kv.same S4
/-- the terms of a whole number -/
def numM (n : Int) : Fm := if n = 0 then [] else [([], (n : Rat))]
def spRight (P : Program) (w : World) (K : PySem.W.Frag) (C : Addr) : Sp := fun vs H Q _ => ∃ v, vs = [v] ∧ ((∃ n : Int, v = .int n ∧ ∀ H' b, Same H H' → H b = none → FmAt P w K C H' b (numM n) → Q (.ref b) H') ∨ ∃ a dx fs, v = .ref a ∧ H a = some (.ins C dx fs) ∧ Q (.ref a) H)
theorem scRight : FnScope ["other"] ["other"] (defScope sRightSide) := ⟨rfl, rfl, rfl, by decide +kernel, rfl, by decide +kernel, by decide +kernel⟩
theorem ok_right {f : Addr} {fd : FuncData} (F : Fun K "right_side" "right_side" sRightSide f fd) (B : Bt K mg C) (Wh : Cal P w K mg base 1 "is_whole" (spWhole C) []) (Nu : Cal P w K mg base 3 "number" (spNumber P w K C) []) : FnOk P w K mg base CX0 4 f fd ["other"] (spRight P w K C) := by
  refine F.ok scRight (fun vs H Q E h => ?_) (fun cdv A outer s H vs Q E hr h => ?_)
  · obtain ⟨v, rfl, _⟩ := h
    rfl
  · obtain ⟨v, rfl, k⟩ := h
    refine ⟨_, pss_cons (ps_if (pt_val (pe_c Wh hr (by decide) rfl (pa_cons (pv 0) pa_nil))) (pss_one (ps_ret (pe_c Nu hr (by decide) rfl (pa_cons (pv 0) pa_nil)))) pss_nil)
      (pss_cons (ps_if (pt_not (pt_val (pe_callB (call_isC B.ins) (by rfl) B.isi (by decide +kernel) (pa_cons (pv 0) (pa_cons (pe_glob (v := .ref C) (by rfl) B.mgF rfl) pa_nil))))) (pss_one ps_never) pss_nil)
      (pss_one (ps_ret (pv 0)))), ?_⟩
    rcases k with ⟨n, rfl, q⟩ | ⟨a, dx, fs, rfl, ha, q⟩
    · exact ⟨_, rfl, _, rfl, .inl ⟨n, rfl, true, rfl, iteT (B := False) ⟨_, rfl, n, rfl, q⟩⟩⟩
    · exact ⟨_, rfl, _, rfl, .inr ⟨a, dx, fs, rfl, ha, false, rfl, iteF ⟨_, rfl, a, dx, fs, rfl, ha, true, rfl, iteF ⟨_, rfl, q⟩⟩⟩⟩
end
end E2

set_option Elab.async false
set_option linter.all false
set_option maxRecDepth 100000
set_option maxHeartbeats 1000000
/-! {names: d[names] for names in d}: the copy of a form's dict -/
namespace L2
open PySem PySem.Spec PyProof.Rows
theorem mapM_id (fm : Fm) : mapM (fun _ => true) id fm = fm := by
  unfold mapM
  rw [List.filter_eq_self.mpr fun _ _ => rfl]
  exact List.map_id' fm
theorem findN_at : ∀ {l : NAV} {i : Nat} {x : List Key × Addr × Addr}, (l.map (·.1)).Nodup → l[i]? = some x → findN l x.1 = some x.2
  | [], _, _, _, h => by cases h
  | y :: r, 0, x, _, h => by
    obtain rfl : y = x := Option.some.inj h
    exact findN_hit rfl
  | y :: r, i + 1, x, hn, h => by
    rw [List.map_cons] at hn
    obtain ⟨h1, h2⟩ := List.nodup_cons.mp hn
    have h' : r[i]? = some x := by simpa using h
    rw [findN_miss fun e => h1 (by rw [e]; exact List.mem_map.mpr ⟨x, List.mem_of_getElem? h', rfl⟩)]
    exact findN_at h2 h'
theorem FmKv.nodup {K : PySem.W.Frag} {H : Hp} {l : NAV} {fm : Fm} (h : FmKv K H l fm) (hn : (fm.map (·.1)).Nodup) : (l.map (·.1)).Nodup := by
  have e : l.map (·.1) = (fm.map (·.1)).map kS := by
    unfold FmKv at h
    clear hn
    induction h with
    | nil => rfl
    | cons r t ih => rw [List.map_cons, List.map_cons, List.map_cons, ih, r.1]
  rw [e]
  exact List.Pairwise.map kS (fun a b n z => n (kS_inj z)) hn
/-- the dict locked, its keys walked by a dict comprehension, the dict open again -/
theorem lock_keys {P : Program} {w : World} {K : PySem.W.Frag} {H : Hp} {d : Addr} {l : NAV} {fm : Fm} {td : TE} {g : TG} {tk tv : TE} {vs : List Nat} {σ : St} {Q : VK}
    (hd : H d = some (DfO P w d l)) (hf : FmKv K H l fm) (hn : (fm.map (·.1)).Nodup) (hz : fm.length ≤ sizeLine)
    (hte : ∀ (od : Obj) (R : VK), R (.ref d) (upd H d (.frz od (DfO P w d l))) → td σ (upd H d (.frz od (DfO P w d l))) R)
    (hs : ∀ (od : Obj) (H1 : Hp), H1 = upd H d (.frz od (DfO P w d l)) → ∀ (i : Nat) (m : Mon) (q : Rat) (H' : Hp) (b a : Addr) (put : V → V → Hp → Prop) (skip : Hp → Prop), fm[i]? = some (m, q) → Same H1 H' → TupN H' b ((kS m).map kV) → GetN P w K H' d (.ref b) (some a) → SqT K H' a (frac q) →
      (∀ H5 (b' a' : Addr), Same H' H5 → TupN H5 b' ((kS m).map kV) → SqT K H5 a' (frac q) → put (.ref b') (.ref a') H5) →
      g (.ref b) (wipe σ vs) H' fun σ2 H2 => wipe σ2 vs = wipe σ vs ∧ tYes σ2 H2 fun c H3 => if c = true then tk σ2 H3 fun y H4 => tv σ2 H4 fun z H5 => put y z H5 else skip H3)
    (hq : ∀ H' D l', Same H H' → H D = none → H' D = some (DfO P w D l') → FmKv K H' l' fm → Q (.ref D) H') :
    tLockE (tDcN P w K (iKeysN P w td) g tYes tk tv vs) σ H Q := by
  refine ⟨d, DfO P w d l, hd, trivial, fun od => ?_⟩
  have hf0 : FmKv K (upd H d (.frz od (DfO P w d l))) l fm := hf.imp (.off hd noTup_df)
  refine hte od _ ⟨d, od, l, rfl, upd_same, fun D nD => ?_⟩
  have neD : D ≠ d := by
    rintro rfl
    rw [upd_same] at nD
    cases nD
  have nD' : H D = none := by rwa [upd_ne neD] at nD
  have h1 : (upd H d (.frz od (DfO P w d l))) d = some (.frz od (DfO P w d l)) := upd_same
  generalize hH1 : upd H d (.frz od (DfO P w d l)) = H1 at hf0 nD h1 ⊢
  refine dcN_it walk_keysN (fun i H' => Same H1 H' ∧ ∃ l', H' D = some (DfO P w D l') ∧ FmKv K H' l' (fm.take i)) ⟨Same.upd nD, [], upd_same, .nil⟩ (fun i H _ q => q.1 _ _ h1) ?_ ?_
  · rintro i x H0 H' hi ⟨S, l', hD', kv'⟩ ⟨rfl, k, qb, av, hkv, rfl⟩
    obtain ⟨m, q, b, a, hm, e, tb, sa⟩ := hf0.get hkv
    obtain ⟨rfl, e2⟩ := Prod.mk.inj e
    obtain ⟨rfl, rfl⟩ := Prod.mk.inj e2
    have tk1 := take_snoc hm
    have hil : i < fm.length := by rw [← hf.length]; exact hi
    have dg : GetN P w K H' d (.ref qb) (some av) := ⟨l, qb, kS m, .inr ⟨od, S _ _ h1⟩, (hf0.same S).keys, rfl, (tb.same S).sq, by rw [findN_at (hf.nodup hn) hkv]; rfl⟩
    refine hs od H1 hH1.symm i m q H' qb av _ _ hm S (tb.same S) dg (sa.same S) fun H5 b' a' S5 hb' sa' => ?_
    refine ⟨l', kS m, b', a', rfl, rfl, hb'.sq, S5 _ _ hD', (kv'.same S5).keys, ?_, ?_, ?_⟩
    · rw [kv'.length, List.length_take]
      omega
    · intro c u e
      rw [upd_ne (ne_of_none e nD)]
      exact S5 _ _ (S _ _ e)
    · refine ⟨_, upd_same, ?_⟩
      rw [tk1]
      have k6 := (kv'.same S5).put m hb' sa'
      rw [putM_new _ (nodup_new hn hm)] at k6
      exact k6.imp (.off (S5 _ _ hD') noTup_df)
  · rintro H' ⟨S, l', hD', kv'⟩
    rw [hf.length, List.take_length] at kv'
    subst hH1
    refine ⟨S _ _ h1, hq _ D l' (same_back hd S) nD' (by rw [upd_ne neD]; exact hD') ?_⟩
    exact kv'.imp (.off (S _ _ h1) noTup_fz)
end L2

set_option Elab.async false
set_option linter.all false
set_option maxRecDepth 100000
set_option maxHeartbeats 1000000
/-! a + b -/
namespace E2
open PySem PySem.Spec PyProof.Rows L2
open C8 (Cal Mak Met InsC pe_c pe_mt pe_mt0 call_isC clsBody)
abbrev nz : Rat → Bool := fun q => !decide (q = 0)
/-- what stands on the right: a whole number, or a form -/
def RightV (P : Program) (w : World) (K : PySem.W.Frag) (C : Addr) (H : Hp) (v : V) (fm : Fm) : Prop := (∃ n : Int, v = .int n ∧ fm = numM n) ∨ ∃ b, v = .ref b ∧ FmAt P w K C H b fm
theorem right_of {P : Program} {w : World} {K : PySem.W.Frag} {C : Addr} {H : Hp} {v : V} {fm : Fm} {Q : VK} {E : XK} (h : RightV P w K C H v fm) (k : ∀ H0 b, Same H H0 → FmAt P w K C H0 b fm → Q (.ref b) H0) : spRight P w K C [v] H Q E := by
  rcases h with ⟨n, rfl, rfl⟩ | ⟨b, rfl, hb⟩
  · exact ⟨_, rfl, .inl ⟨n, rfl, fun H' b S _ hb => k H' b S hb⟩⟩
  · obtain ⟨dx, d, kvs, ha, hd, hf⟩ := hb
    exact ⟨_, rfl, .inr ⟨b, dx, _, rfl, ha, k H b (Same.refl H) ⟨dx, d, kvs, ha, hd, hf⟩⟩⟩
/-- sizes that the fractions' arithmetic takes -/
structure Szs (fm1 fm2 : Fm) : Prop where
  n1 : (fm1.map (·.1)).Nodup
  n2 : (fm2.map (·.1)).Nodup
  len : fm1.length + fm2.length < sizeLine
  bq : ∃ D M N, 0 < D ∧ D < 2 ^ 4000 ∧ M + fm2.length * N < 2 ^ 400000 ∧ N < 2 ^ 400000 ∧ (∀ x ∈ fm1, Bq D M x.2) ∧ ∀ x ∈ fm2, Bq D N x.2
def spAdd (P : Program) (w : World) (K : PySem.W.Frag) (C : Addr) : Sp := fun vs H Q _ => ∃ a v fm1 fm2, vs = [.ref a, v] ∧ FmAt P w K C H a fm1 ∧ RightV P w K C H v fm2 ∧ Szs fm1 fm2 ∧ ∀ H' b, Same H H' → H b = none → FmAt P w K C H' b (mapM nz id (addTo fm1 fm2)) → Q (.ref b) H'
theorem get_or {K : PySem.W.Frag} {H : Hp} {l : NAV} {fm : Fm} {D M : Nat} {t : Addr} (h : FmKv K H l fm) (m : Mon) (ht : SqT K H t (frac 0)) (hb : ∀ y ∈ fm, Bq D M y.2) :
    ∃ p, orV ((findN l (kS m)).map (·.2)) (.ref t) = .ref p ∧ SqT K H p (frac ((valM fm m).getD 0)) ∧ Bq D M ((valM fm m).getD 0) := by
  rcases h.val m with ⟨e1, e2⟩ | ⟨b, a, q, e1, e2, sa⟩
  · rw [e1, e2]
    exact ⟨t, rfl, ht, Bq.zero.mono (Nat.zero_le _)⟩
  · rw [e1, e2]
    exact ⟨a, rfl, sa, hb _ (mem_valM e2)⟩
section
variable {P : Program} {w : World} {K : PySem.W.Frag} {mg : Str → Option Value} {base : Heap} {C : Addr}
theorem scAdd : FnScope ["self", "other", "right", "parts", "names", "worth"] ["self", "other"] (defScope sAdd) := ⟨rfl, rfl, rfl, by decide +kernel, rfl, by decide +kernel, by decide +kernel⟩
theorem ok_add {f : Addr} {fd : FuncData} (F : Fun K "__add__" "Form.__add__" sAdd f fd) (T : Fx P w K mg base C) (R : Cal P w K mg base 4 "right_side" (spRight P w K C) []) (Fs : Cal P w K mg base 2 "fraction_sum" (spFrac K (· + ·)) []) (Wo : Cal P w K mg base 1 "without_noughts" (spWithout P w K) []) : FnOk P w K mg base CX0 5 f fd ["self", "other"] (spAdd P w K C) := by
  refine F.ok scAdd (fun vs H Q E h => ?_) (fun cdv A outer s H vs Q E hr h => ?_)
  · obtain ⟨a, v, fm1, fm2, rfl, _⟩ := h
    rfl
  · obtain ⟨a, v0, fm1, fm2, rfl, ⟨dx, d, kvs, ha, hd, hf⟩, hv, Z, k⟩ := h
    have u1 := Nat.lt_of_le_of_lt (Nat.add_le_add_left (by decide : 1 ≤ 64) _) hr.units
    refine ⟨_, pss_cons (ps_set (i := 2) scAdd.nd rfl (Or.inl rfl) (pe_c R hr (by decide) rfl (pa_cons (pv 1) pa_nil)))
      (pss_cons (ps_lock (ps_dcN (i := 3) (swD_true rfl rfl rfl (by rfl)) (own := [("names", 4)]) (g := gName 4) (tt := tYes) (tk := tVar 4) (tv := tOp (rDf P w K) (tFld K (tVar 0) "_parts") (tVar 4)) (Nat.lt_of_le_of_lt (Nat.le_add_right _ 64) hr.units) rfl scAdd.nd rfl rfl (pi_keysN (pe_fld (pv 0) rfl))
        (blkOk_by (own := [("names", 4)]) (N := ["self", "other", "right", "parts", "names", "worth"]) (sc := defScope sAdd) (by decide +kernel))
        ⟨fun _ _ _ _ _ => pg_name (i := 4) scAdd.nd rfl (Or.inl rfl), fun _ _ _ _ _ => pts_nil, fun _ _ _ _ _ => pv 4, fun _ _ _ _ _ => by exact pe_ix (ix_df u1) (pe_fld (pv 0) rfl) (pv 4) (fun _ _ => rfl)⟩))
      (pss_cons (ps_lock (ps_for PassesOwn.never rfl (pi_itemsN (pe_fld (pv 2) rfl)) (pg_tup rfl (pgs_cons (pg_name (i := 4) scAdd.nd rfl (Or.inl rfl)) (pgs_cons (pg_name (i := 5) scAdd.nd rfl (Or.inl rfl)) pgs_nil)))
        (pss_one (ps_asg (pe_c Fs hr (by decide) rfl (pa_cons (pe_get2N u1 (pv 3) (pv 4) (pe_tupS (pa_cons pe_int (pa_cons pe_int pa_nil))) ⟨rfl, rfl, rfl, rfl⟩) (pa_cons (pv 5) pa_nil))) (pg_sub (pv 3) (pv 4) (set_df u1))))))
      (pss_one (ps_ret (pe_mkF T.maks hr (by decide) rfl (pe_c Wo hr (by decide) rfl (pa_cons (pv 3) pa_nil))))))), ?_⟩
    refine seq_asg (call_one rfl (right_of hv fun H0 b S0 hb => ?_))
    have hd0 : H0 d = some (DfO P w d kvs) := S0 _ _ hd
    refine seq_lockasg ?_
    refine lock_keys hd0 (hf.same S0) Z.n1 (by have := Z.len; omega) (fun od R h => ⟨_, rfl, a, C, dx, _, _, rfl, by rw [upd_ne (ne_of ha hd (by intro z; cases z))]; exact S0 _ _ ha, T.cl, T.na, rfl, h⟩) ?_ ?_
    · rintro od H1 rfl i m q H' b1 a1 put skip hm S hb1 dg sa hput
      refine ⟨rfl, iteT (B := False) ?_⟩
      refine ⟨_, rfl, _, rfl, a, C, dx, _, _, rfl, S _ _ (by rw [upd_ne (ne_of ha hd (by intro z; cases z))]; exact S0 _ _ ha), T.cl, T.na, rfl, _, rfl, d, _, rfl, dg, hput H' b1 a1 (Same.refl H') hb1 sa⟩
    · intro H1 D kvs1 S1 nD hD kv1
      obtain ⟨dx2, d2, kvs2, hb1, hd2, hf2⟩ := hb
      have neD : D ≠ d2 := by
        rintro rfl
        rw [nD] at hd2
        cases hd2
      have hd21 := S1 _ _ hd2
      have hb11 := S1 _ _ hb1
      obtain ⟨Dn, M, N, hD0, hD4, hMN, hN, hq1, hq2⟩ := Z.bq
      refine seq_for_items (l := kvs2) (fm := fm2) (d := d2) hd21 (hf2.same S1) (fun od R h => ⟨_, rfl, b, C, dx2, _, _, rfl, by rw [upd_ne (ne_of hb11 hd21 (by intro z; cases z))]; exact hb11, T.cl, T.na, rfl, h⟩)
        (fun od i σ' H' => (∃ u v, σ' = [some (.ref a), some v0, some (.ref b), some (.ref D), u, v]) ∧ SameB D (upd H1 d2 (.frz od (DfO P w d2 kvs2))) H' ∧ ∃ kvs', H' D = some (DfO P w D kvs') ∧ FmKv K H' kvs' (addTo fm1 (fm2.take i))) ?_ ?_ ?_ ?_
      · intro od
        refine ⟨⟨none, none, rfl⟩, SameB.refl _ _, kvs1, by rw [upd_ne neD]; exact hD, ?_⟩
        exact kv1.imp (.off hd21 noTup_df)
      · rintro od i σ' H' ⟨_, S, _⟩
        exact ⟨S _ _ (Ne.symm neD) upd_same, .sameB S (by rw [upd_ne neD]; exact hD) noTup_df⟩
      · rintro od i m q σ' H' T b2 a2 rt bk hm ⟨⟨u, v, rfl⟩, S, kvs', hD', kv'⟩ nT hb2 sa2
        have S2 : Same H' (upd H' T (.tup [.ref b2, .ref a2])) := Same.upd nT
        refine ⟨T, _, rfl, SqT.of upd_same, rfl, _, _, rfl, _, _, rfl, rfl, ?_⟩
        refine ⟨_, rfl, D, kvs', rfl, .inl (S2 _ _ hD'), _, rfl, (by show 2 ≤ sizeLine; decide), fun t H3 S3 n3 h3 => ?_⟩
        have hD3 := S3 _ _ (S2 _ _ hD')
        have kv3 := (kv'.same S2).same S3
        have tb2 := (hb2.same S2).same S3
        refine ⟨_, ⟨kvs', b2, kS m, .inl hD3, kv3.keys, rfl, tb2.sq, rfl⟩, ?_⟩
        have hil : i < fm2.length := (List.getElem?_eq_some_iff.mp hm).1
        have tl : (fm2.take i).length = i := by rw [List.length_take]; omega
        obtain ⟨p0, e0, sp, bq0⟩ := get_or kv3 m (SqT.of h3) (bq_addTo (fm2.take i) fm1 M hq1 fun y hy => hq2 y (List.mem_of_mem_take hy))
        rw [e0]
        have bq1 := hq2 _ (List.mem_of_getElem? hm)
        have le0 : M + (fm2.take i).length * N < 2 ^ 400000 := Nat.lt_of_le_of_lt (Nat.add_le_add_left (Nat.mul_le_mul_right _ (by rw [tl]; omega)) _) hMN
        refine ⟨_, rfl, p0, a2, _, q, rfl, sp, (sa2.same S2).same S3, Nat.lt_of_le_of_lt (bq0.num_le hD0) le0, Nat.lt_of_le_of_lt (bq1.num_le hD0) hN, Nat.lt_of_le_of_lt (bq0.den_le hD0) hD4, Nat.lt_of_le_of_lt (bq1.den_le hD0) hD4, fun p5 H5 S5 n5 h5 => ?_⟩
        have hD5 := S5 _ _ hD3
        have ll := length_addTo (fm2.take i) fm1
        refine ⟨_, rfl, _, rfl, D, b2, _, kvs', kS m, rfl, rfl, rfl, hD5, (kv3.same S5).keys, (tb2.same S5).sq, (by rw [kv'.length]; have := Z.len; omega), ⟨_, _, rfl⟩, (((S.to S2).to S3).to S5).upd, _, upd_same, ?_⟩
        rw [take_addTo hm]
        exact ((kv3.same S5).put m (tb2.same S5) (SqT.of h5)).imp (.off hD5 noTup_df)
      · rintro od σ' H' ⟨⟨u, v, rfl⟩, S, kvs', hD', kv'⟩
        rw [List.take_length] at kv'
        have hl2 : H' d2 = some (.frz od (DfO P w d2 kvs2)) := S _ _ (Ne.symm neD) upd_same
        have SH : Same H (upd H' d2 (DfO P w d2 kvs2)) := by
          intro c o e
          have e0 := S0 _ _ e
          have nc : c ≠ D := by
            rintro rfl
            rw [nD] at e0
            cases e0
          by_cases c2 : c = d2
          · subst c2
            rw [upd_same]
            rw [hd2] at e0
            exact e0
          · rw [upd_ne c2]
            exact S _ _ nc (by rw [upd_ne c2]; exact S1 _ _ e0)
        have nDH : ∀ {c : Addr}, upd H' d2 (DfO P w d2 kvs2) c = none → H c = none := fun {c} n => SH.free n
        refine ret_mkF ?_
        refine call_one rfl ⟨D, kvs', addTo fm1 fm2, rfl, by rw [upd_ne neD]; exact hD', kv'.imp (.off hl2 noTup_fz), nodup_addTo _ _ Z.n1, Nat.le_of_lt (Nat.lt_of_le_of_lt (length_addTo _ _) Z.len), fun H4 D4 kvs4 S4 nD4 hD4 kv4 b5 dx5 H5 S5 nb5 hb5 => ?_⟩
        exact k H5 b5 ((SH.trans S4).trans S5) ((SH.trans S4).free nb5) ⟨dx5, D4, kvs4, hb5, S5 _ _ hD4, kv4.same S5⟩
end
end E2

set_option Elab.async false
set_option linter.all false
set_option maxRecDepth 100000
set_option maxHeartbeats 1000000
/-! sorted(t), t a tuple of texts -/
namespace L2
open PySem PySem.Spec PyProof.Rows
def rSortedTS (K : PySem.W.Frag) : List V → Hp → VK → Prop := fun vs H Q => ∃ (a : Addr) (xs : List Str), vs = [V.ref a] ∧ SqT K H a (xs.map V.str) ∧ xs.length ≤ sizeLine ∧
  ∀ (ys : List Str), ys.Perm xs → sortedS ys = true → NewQ H (.lst (ys.map V.str)) Q
theorem cr_sortedTS {X : Cx} : CallR X (.builtin "sorted") (rSortedTS X.K) := by
  intro pins s σ H vs us Q I r h
  obtain ⟨a, xs, rfl, hs, hz, q⟩ := h
  obtain ⟨its, rv, tp, _⟩ := I.tuple hs
  obtain ⟨o, ho, hc, n, hd⟩ := tp
  have hlen0 := rv.length
  rw [List.length_map] at hlen0
  have hS := rv.strs
  rw [Vals.ref1 r]
  refine Calls.call_function_entry kind_sorted plain_sorted entry_sorted (args_sorted1 _) ?_
  unfold Builtin.«sorted»
  refine wpAny_bind (m := checkCount "sorted" 1 1 _) (wpAny_pure ?_)
  refine wpAny_bind (wpAny_collect_seq a (.inr rfl) ho hc hd (fun h' hk => ?_) (by rw [List.size_toArray]; omega))
  rw [List.toList_toArray]
  have I1 : Inv X pins σ H { s with heap := h' } := I.kept (t' := s.toks) hk
  refine wpAny_bind (wpAny_newList ?_ (by omega))
  have hoL : (h'.push (seqObj "list" its.toArray 0)).get? h'.objs.size = some (seqObj "list" its.toArray 0) := Heap.get?_push_size _ rfl
  show wpAny _ _ _ _ _ { s with heap := h'.push (seqObj "list" its.toArray 0) }
  refine wpAny_bind (wpAny_holding (wpAny_call_entry slot_list_sort ⟨_, hoL, rfl⟩ entry_list_sort (list_sort_treeKAny strKind_oneLt hoL hS.keysOf (fun v₁ v₂ rest e => keyKind_strs (by rw [← e]; exact hS)) (by omega) fun st' hp hs => ⟨_, rfl, ?_⟩) (args_list_sort _)))
  obtain ⟨ys, h1, h2, h3⟩ := sorted_out_str hS hp hs
  obtain ⟨ep, he'⟩ := sortedHeap_at (vs := its) (out := (arrOf st').map (·.2)) hoL
  have hlen : (ys.map V.str).length ≤ sizeLine := by rw [List.length_map, h2.length_eq]; exact hz
  refine wpAny_pure ⟨_, rfl, .ref h'.objs.size, upd H h'.objs.size (.lst (ys.map V.str)), I1.laid (t' := s.toks) (fun b u e => ?_) (Nat.le_refl _) ⟨hlen, _, ep, vals_of_strs h1, he'⟩, rfl, (q ys h2 h3).at I1.fresh⟩
  have lt := Heap.lt_size e
  rw [sortedHeap_old (Nat.ne_of_lt lt) (by rw [size_push']; exact Nat.lt_succ_of_lt lt)]
  exact Heap.get?_push_of_some _ e
end L2

set_option Elab.async false
set_option linter.all false
set_option maxRecDepth 100000
set_option maxHeartbeats 1000000
/-! for .. in d.items(), where d may be walked already; products of forms: the mathematics -/
namespace L2
open PySem PySem.Spec PyProof.Rows
def tLockO (t : TS) : TS := fun D σ H => tLock t D σ H ∨ t D σ H
theorem ps_lockO {X : Cx} {st : Stmt} {t : TS} (h : PS X st t) : PS X st (tLockO t) :=
  ⟨fun pins s σ H D I hw => hw.elim (fun q => (ps_lock h).run pins s σ H D I q) fun q => h.run pins s σ H D I q⟩
/-- Hl is H, d's dict locked -/
structure Lk (P : Program) (w : World) (d : Addr) (l : NAV) (od : Obj) (H Hl : Hp) : Prop where
  at_ : Hl d = some (.frz od (DfO P w d l))
  off : ∀ b, b ≠ d → Hl b = H b
theorem for_itemsO {P : Program} {w : World} {K : PySem.W.Frag} {H : Hp} {d : Addr} {l : NAV} {fm : Fm} {td : TE} {g : TG} {tb : TS} {D : Ends} {σ : St} (hd : Rd H d (DfO P w d l)) (hf : FmKv K H l fm)
    (hte : ∀ (od : Obj) (Hl : Hp), Lk P w d l od H Hl → ∀ R : VK, R (.ref d) Hl → td σ Hl R) (Pv : Obj → Hp → Nat → St → Hp → Prop) (h0 : ∀ od Hl, Lk P w d l od H Hl → Pv od Hl 0 σ Hl)
    (hl : ∀ od Hl, Lk P w d l od H Hl → ∀ i σ' H', Pv od Hl i σ' H' → H' d = some (.frz od (DfO P w d l)) ∧ Mv K Hl H')
    (hs : ∀ (od : Obj) (Hl : Hp), Lk P w d l od H Hl → ∀ (i : Nat) (m : Mon) (q : Rat) (σ' : St) (H' : Hp) (T b a : Addr) (rt : VK) (bk : St → Hp → Prop), fm[i]? = some (m, q) → Pv od Hl i σ' H' → H' T = none → TupN H' b ((kS m).map kV) → SqT K H' a (frac q) →
      g (.ref T) σ' (upd H' T (.tup [.ref b, .ref a])) fun σ2 H2 => tb { nx := Pv od Hl (i + 1), rt := rt, bk := bk, ct := Pv od Hl (i + 1) } σ2 H2)
    (he : ∀ od Hl, Lk P w d l od H Hl → ∀ σ' H' Hu, Pv od Hl fm.length σ' H' → Hu d = H d → (∀ b, b ≠ d → Hu b = H' b) → D.nx σ' Hu) : tLockO (tFor (iItemsN P w td) g tb) D σ H := by
  have core : ∀ (od : Obj) (Hl : Hp) (L : Lk P w d l od H Hl) (D' : Ends), FmKv K Hl l fm → (∀ σ' H', Pv od Hl fm.length σ' H' → D'.nx σ' H') → tFor (iItemsN P w td) g tb D' σ Hl := by
    intro od Hl L D' hf0 hnx
    refine hte od Hl L _ ⟨d, od, l, rfl, L.at_, for_it walk_itemsN (Pv od Hl) (h0 od Hl L) (fun i σ' H' _ p => (hl od Hl L i σ' H' p).1) ?_ ?_⟩
    · rintro i x σ' H' H'' hi p ⟨T, k, qb, av, hkv, rfl, nT, rfl⟩
      obtain ⟨m, q, b, a, hm, e, tb, sa⟩ := hf0.get hkv
      obtain ⟨rfl, e2⟩ := Prod.mk.inj e
      obtain ⟨rfl, rfl⟩ := Prod.mk.inj e2
      have M := (hl od Hl L i σ' H' p).2
      exact hs od Hl L i m q σ' H' T qb av _ _ hm p nT (M.tn _ _ tb) (M.sq _ _ sa)
    · intro σ' H' p
      rw [hf.length] at p
      exact hnx σ' H' p
  rcases hd with hd | ⟨o, hd⟩
  · refine .inl ⟨d, DfO P w d l, hd, trivial, fun od => ?_⟩
    have L : Lk P w d l od H (upd H d (.frz od (DfO P w d l))) := ⟨upd_same, fun b n => upd_ne n⟩
    refine core od _ L _ (hf.imp (.agree hd noTup_df L.off)) fun σ' H' p => ⟨(hl od _ L _ σ' H' p).1, ?_⟩
    exact he od _ L σ' H' _ p (by rw [upd_same, hd]) fun b n => upd_ne n
  · have L : Lk P w d l o H H := ⟨hd, fun _ _ => rfl⟩
    refine .inr (core o H L D hf fun σ' H' p => he o H L σ' H' H' p ?_ fun _ _ => rfl)
    rw [(hl o H L _ σ' H' p).1, hd]
/-- a product of two terms, its letters sorted -/
def MulT (z : Mon × Rat) (xy : (Mon × Rat) × (Mon × Rat)) : Prop := z.1.Perm (xy.1.1 ++ xy.2.1) ∧ sortedS z.1 = true ∧ z.2 = xy.1.2 * xy.2.2
def allP (a b : Fm) : List ((Mon × Rat) × (Mon × Rat)) := a.flatMap fun x => b.map fun y => (x, y)
theorem allP_snoc (a b : Fm) (x : Mon × Rat) : allP (a ++ [x]) b = allP a b ++ b.map fun y => (x, y) := by
  unfold allP
  rw [List.flatMap_append]
  simp
theorem allP_length (a b : Fm) : (allP a b).length = a.length * b.length := by
  unfold allP
  induction a with
  | nil => simp
  | cons x a ih => rw [List.flatMap_cons, List.length_append, List.length_map, ih, List.length_cons, Nat.add_mul]; omega
theorem evM_perm (σ : Str → Int) {m n : Mon} (h : m.Perm n) : evM σ m = evM σ n := prodI_perm (h.map σ)
theorem evM_append (σ : Str → Int) (m n : Mon) : evM σ (m ++ n) = evM σ m * evM σ n := by
  unfold evM
  rw [List.map_append, prodI_append]
theorem ev_mulT (σ : Str → Int) {l : Fm} {ps : List ((Mon × Rat) × (Mon × Rat))} (h : Paired MulT l ps) : ev σ l = (ps.map fun p => p.1.2 * p.2.2 * (evM σ p.1.1 : Rat) * (evM σ p.2.1 : Rat)).sum := by
  induction h with
  | nil => rfl
  | @cons z p l ps r t ih =>
    show z.2 * (evM σ z.1 : Rat) + ev σ l = _
    rw [List.map_cons, List.sum_cons, ih, evM_perm σ r.1, evM_append, r.2.2, Rat.intCast_mul]
    grind
theorem sum_row (σ : Str → Int) (x : Mon × Rat) : ∀ b : Fm, ((b.map fun y => (x, y)).map fun p => p.1.2 * p.2.2 * (evM σ p.1.1 : Rat) * (evM σ p.2.1 : Rat)).sum = x.2 * (evM σ x.1 : Rat) * ev σ b
  | [] => by show (0 : Rat) = _ * 0; grind
  | y :: b => by
    have ih := sum_row σ x b
    rw [List.map_cons, List.map_cons, List.sum_cons, ih]
    show _ = x.2 * _ * (y.2 * _ + ev σ b)
    grind
theorem sum_all (σ : Str → Int) (b : Fm) : ∀ a : Fm, ((allP a b).map fun p => p.1.2 * p.2.2 * (evM σ p.1.1 : Rat) * (evM σ p.2.1 : Rat)).sum = ev σ a * ev σ b
  | [] => by show (0 : Rat) = 0 * _; grind
  | x :: a => by
    have ih := sum_all σ b a
    unfold allP at ih ⊢
    rw [List.flatMap_cons, List.map_append, List.sum_append, ih, sum_row]
    show _ = (x.2 * _ + ev σ a) * _
    grind
theorem ev_prod (σ : Str → Int) {l a b : Fm} (h : Paired MulT l (allP a b)) : ev σ l = ev σ a * ev σ b := by
  rw [ev_mulT σ h, sum_all]
end L2

set_option Elab.async false
set_option linter.all false
set_option maxRecDepth 100000
set_option maxHeartbeats 1000000
/-! a * b -/
namespace E2
open PySem PySem.Spec PyProof.Rows L2
open C8 (Cal Mak Met InsC pe_c pe_mt pe_mt0 call_isC clsBody)
structure Bt3 (mg : Str → Option Value) : Prop where
  tup_ : mg "tuple" = none
  srt_ : mg "sorted" = none
structure SzM (fm1 fm2 : Fm) : Prop where
  n1 : (fm1.map (·.1)).Nodup
  n2 : (fm2.map (·.1)).Nodup
  len : fm1.length * fm2.length < sizeLine
  keys : ∀ x ∈ fm1, ∀ y ∈ fm2, x.1.length + y.1.length ≤ sizeLine
  bq : ∃ D M E N, 0 < D ∧ 0 < E ∧ D * E < 2 ^ 4000 ∧ fm1.length * fm2.length * (M * N) < 2 ^ 400000 ∧ M * N < 2 ^ 400000 ∧ M < 2 ^ 400000 ∧ N < 2 ^ 400000 ∧ (∀ x ∈ fm1, Bq D M x.2) ∧ ∀ x ∈ fm2, Bq E N x.2
def spMul (P : Program) (w : World) (K : PySem.W.Frag) (C : Addr) : Sp := fun vs H Q _ => ∃ a v fm1 fm2, vs = [.ref a, v] ∧ FmAt P w K C H a fm1 ∧ RightV P w K C H v fm2 ∧ SzM fm1 fm2 ∧ ∀ H' b l, Same H H' → H b = none → Paired MulT l (allP fm1 fm2) → FmAt P w K C H' b (mapM nz id (addTo [] l)) → Q (.ref b) H'
theorem sort_cat {K : PySem.W.Frag} {i j : Nat} {a b : Addr} {m n : List Str} {σ : L2.St} {H : Hp} {Q : VK} (h4 : σ[i]? = some (some (.ref a))) (h6 : σ[j]? = some (some (.ref b))) (sa : SqT K H a (m.map V.str)) (sb : SqT K H b (n.map V.str)) (hz : m.length + n.length ≤ sizeLine)
    (k : ∀ H' p (ys : List Str), Same H H' → ys.Perm (m ++ n) → sortedS ys = true → TupN H' p (ys.map V.str) → Q (.ref p) H') : tCB (rTupN K) (tCons (tCB (rSortedTS K) (tCons (tOp (rCatA K) (tVar i) (tVar j)) tNil)) tNil) σ H Q := by
  have fin : ∀ H1 c, Same H H1 → SqT K H1 c ((m ++ n).map V.str) → rSortedTS K [.ref c] H1 (fun x H2 => rTupN K [x] H2 Q) := fun H1 c S s =>
    ⟨c, m ++ n, rfl, s, by rw [List.length_append]; exact hz, fun ys p1 p2 p H2 S2 np hp => ⟨p, _, rfl, SqL.of hp, fun q H3 S3 nq tq => k H3 q ys ((S.trans S2).trans S3) p1 p2 tq⟩⟩
  refine ⟨_, h4, _, h6, a, b, _, _, rfl, rfl, sa, sb, by rw [List.length_map, List.length_map]; exact hz, fun e => ?_, fun e1 e2 => ?_, fun e1 e2 p np => ?_⟩
  · have e' : m = [] := List.map_eq_nil_iff.mp e
    exact fin H b (Same.refl H) (by rw [e']; exact sb)
  · have e' : n = [] := List.map_eq_nil_iff.mp e2
    exact fin H a (Same.refl H) (by rw [e', List.append_nil]; exact sa)
  · exact fin _ p (Same.upd np) (by rw [List.map_append]; exact SqT.of upd_same)
theorem bq_mulT {D M E N : Nat} {l : Fm} {ps : List ((Mon × Rat) × (Mon × Rat))} (h : Paired MulT l ps) (hp : ∀ p ∈ ps, Bq D M p.1.2 ∧ Bq E N p.2.2) : ∀ z ∈ l, Bq (D * E) (M * N) z.2 := by
  induction h with
  | nil => intro z hz; exact absurd hz List.not_mem_nil
  | @cons z p l ps r t ih =>
    intro y hy
    rcases List.mem_cons.mp hy with rfl | hy
    · rw [r.2.2]
      exact (hp p (List.mem_cons.mpr (.inl rfl))).1.mul (hp p (List.mem_cons.mpr (.inl rfl))).2
    · exact ih (fun p h => hp p (List.mem_cons.mpr (.inr h))) y hy
theorem mem_allP {a b : Fm} {p : (Mon × Rat) × (Mon × Rat)} (h : p ∈ allP a b) : p.1 ∈ a ∧ p.2 ∈ b := by
  unfold allP at h
  obtain ⟨x, hx, h⟩ := List.mem_flatMap.mp h
  obtain ⟨y, hy, rfl⟩ := List.mem_map.mp h
  exact ⟨hx, hy⟩
theorem seq_lockO {wi : TI} {g : TG} {tb u : TS} {D : Ends} {σ : L2.St} {H : Hp} (h : tLockO (tFor wi g tb) { D with nx := u D } σ H) : tSeq (tLockO (tFor wi g tb)) u D σ H := h
section
variable {P : Program} {w : World} {K : PySem.W.Frag} {mg : Str → Option Value} {base : Heap} {C : Addr}
theorem scMul : FnScope ["self", "other", "right", "parts", "mine", "worth", "its", "factor", "names", "grown"] ["self", "other"] (defScope sMul) := ⟨rfl, rfl, rfl, by decide +kernel, rfl, by decide +kernel, by decide +kernel⟩
theorem ok_mul {f : Addr} {fd : FuncData} (F : Fun K "__mul__" "Form.__mul__" sMul f fd) (T : Fx P w K mg base C) (B : Bt3 mg) (R : Cal P w K mg base 4 "right_side" (spRight P w K C) []) (Fs : Cal P w K mg base 2 "fraction_sum" (spFrac K (· + ·)) []) (Fp : Cal P w K mg base 2 "fraction_product" (spFrac K (· * ·)) []) (Wo : Cal P w K mg base 1 "without_noughts" (spWithout P w K) []) : FnOk P w K mg base CX0 5 f fd ["self", "other"] (spMul P w K C) := by
  refine F.ok scMul (fun vs H Q E h => ?_) (fun cdv A outer s H vs Q E hr h => ?_)
  · obtain ⟨a, v, fm1, fm2, rfl, _⟩ := h
    rfl
  · obtain ⟨a, v0, fm1, fm2, rfl, ⟨dx, d, kvs, ha, hd, hf⟩, hv, Z, k⟩ := h
    have u1 := Nat.lt_of_le_of_lt (Nat.add_le_add_left (by decide : 1 ≤ 64) _) hr.units
    refine ⟨_, pss_cons (ps_set (i := 2) scMul.nd rfl (Or.inl rfl) (pe_c R hr (by decide) rfl (pa_cons (pv 1) pa_nil)))
      (pss_cons (ps_set (i := 3) scMul.nd rfl (Or.inl rfl) pe_newD)
      (pss_cons (ps_lockO (ps_for PassesOwn.never rfl (pi_itemsN (pe_fld (pv 0) rfl)) (pg_tup rfl (pgs_cons (pg_name (i := 4) scMul.nd rfl (Or.inl rfl)) (pgs_cons (pg_name (i := 5) scMul.nd rfl (Or.inl rfl)) pgs_nil)))
        (pss_one (ps_lockO (ps_for PassesOwn.never rfl (pi_itemsN (pe_fld (pv 2) rfl)) (pg_tup rfl (pgs_cons (pg_name (i := 6) scMul.nd rfl (Or.inl rfl)) (pgs_cons (pg_name (i := 7) scMul.nd rfl (Or.inl rfl)) pgs_nil)))
          (pss_cons (ps_set (i := 8) scMul.nd rfl (Or.inl rfl) (pe_callTy cr_tupN (by rfl) B.tup_ (by decide +kernel) (pa_cons (pe_callB cr_sortedTS (by rfl) B.srt_ (by decide +kernel) (pa_cons (pe_op op_catA (pv 4) (pv 6)) pa_nil)) pa_nil)))
          (pss_cons (ps_set (i := 9) scMul.nd rfl (Or.inl rfl) (pe_c Fp hr (by decide) rfl (pa_cons (pv 5) (pa_cons (pv 7) pa_nil))))
          (pss_one (ps_asg (pe_c Fs hr (by decide) rfl (pa_cons (pe_get2N u1 (pv 3) (pv 8) (pe_tupS (pa_cons pe_int (pa_cons pe_int pa_nil))) ⟨rfl, rfl, rfl, rfl⟩) (pa_cons (pv 9) pa_nil))) (pg_sub (pv 3) (pv 8) (set_df u1))))))))))) 
      (pss_one (ps_ret (pe_mkF T.maks hr (by decide) rfl (pe_c Wo hr (by decide) rfl (pa_cons (pv 3) pa_nil))))))), ?_⟩
    refine seq_asg (call_one rfl (right_of hv fun H0 b S0 hb => ?_))
    refine seq_asg (fun D nD => ?_)
    obtain ⟨dx2, d2, kvs2, hb1, hd2, hf2⟩ := hb
    have hd0 := S0 _ _ hd
    have neD : d ≠ D := by rintro rfl; rw [nD] at hd0; cases hd0
    have neD2 : d2 ≠ D := by rintro rfl; rw [nD] at hd2; cases hd2
    have nebD : b ≠ D := by rintro rfl; rw [nD] at hb1; cases hb1
    have nebd : b ≠ d := by rintro rfl; rw [hd0] at hb1; cases hb1
    have nebd2 : b ≠ d2 := by rintro rfl; rw [hd2] at hb1; cases hb1
    have nad : a ≠ d := ne_of ha hd (by intro z; cases z)
    have naD : a ≠ D := by rintro rfl; rw [S0 _ _ ha] at nD; cases nD
    generalize hHn : upd H0 D _ = Hn
    have SN : Same H0 Hn := by rw [← hHn]; exact Same.upd nD
    have hDn : Hn D = some (DfO P w D []) := by rw [← hHn]; exact upd_same
    have hoff : ∀ c, c ≠ D → Hn c = H0 c := fun c n => by rw [← hHn]; exact upd_ne n
    obtain ⟨Dn, M, En, N, p1', p2', bDE, b1', b2', b3, b4, hq1, hq2⟩ := Z.bq
    have hdn := SN _ _ hd0
    have lkD : ∀ {od Hl}, Lk P w d kvs od Hn Hl → Hl D = some (DfO P w D []) := fun {od Hl} L => by rw [L.off D (Ne.symm neD)]; exact hDn
    have lkS : ∀ {od Hl}, Lk P w d kvs od Hn Hl → Mv K Hn Hl := fun {od Hl} L => .agree hdn noTup_df L.off
    have rd2 : ∀ {od Hl}, Lk P w d kvs od Hn Hl → Rd Hl d2 (DfO P w d2 kvs2) := fun {od Hl} L => by
      by_cases e : d2 = d
      · subst e
        have e2 : DfO P w d2 kvs = DfO P w d2 kvs2 := Option.some.inj (hd0.symm.trans hd2)
        exact .inr ⟨od, by rw [← e2]; exact L.at_⟩
      · exact .inl (by rw [L.off d2 e]; exact SN _ _ hd2)
    refine seq_lockO (for_itemsO (l := kvs) (fm := fm1) (d := d) (.inl hdn) ((hf.same S0).same SN) (fun od Hl L R h => ⟨_, rfl, a, C, dx, _, _, rfl, by rw [L.off a nad]; exact SN _ _ (S0 _ _ ha), T.cl, T.na, rfl, h⟩)
      (fun od Hl i σ' H' => (∃ u4 u5 u6 u7 u8 u9, σ' = [some (.ref a), some v0, some (.ref b), some (.ref D), u4, u5, u6, u7, u8, u9]) ∧ SameB D Hl H' ∧ ∃ kvs' l, H' D = some (DfO P w D kvs') ∧ FmKv K H' kvs' (addTo [] l) ∧ Paired MulT l (allP (fm1.take i) fm2)) ?_ ?_ ?_ ?_)
    · intro od Hl L
      exact ⟨⟨none, none, none, none, none, none, rfl⟩, SameB.refl _ _, [], [], lkD L, .nil, .nil⟩
    · rintro od Hl L i σ' H' ⟨_, S, _⟩
      exact ⟨S _ _ neD L.at_, .sameB S (lkD L) noTup_df⟩
    · rintro od Hl L i m q σ' H' T1 k1 a1 rt bk hm ⟨⟨u4, u5, u6, u7, u8, u9, rfl⟩, S, kvs', l, hD', kv', pl⟩ nT hk1 sa1
      have hq := hq1 _ (List.mem_of_getElem? hm)
      have hmm := List.mem_of_getElem? hm
      refine ⟨T1, _, rfl, SqT.of upd_same, rfl, _, _, rfl, _, _, rfl, rfl, ?_⟩
      have S2 : Same H' (upd H' T1 (.tup [.ref k1, .ref a1])) := Same.upd nT
      have hD1 := S2 _ _ hD'
      have SB := S.to S2
      have kv1 := kv'.same S2
      have sa1 := sa1.same S2
      have hk1 := hk1.same S2
      generalize upd H' T1 (.tup [.ref k1, .ref a1]) = H1 at S2 hD1 SB kv1 sa1 hk1 ⊢
      have rd1 : Rd H1 d2 (DfO P w d2 kvs2) := by
        rcases rd2 L with h | ⟨o, h⟩
        · exact .inl (SB _ _ neD2 h)
        · exact .inr ⟨o, SB _ _ neD2 h⟩
      have hf21 : FmKv K H1 kvs2 fm2 := (hf2.same SN).imp ((lkS L).trans (.sameB SB (lkD L) noTup_df))
      have hb11 : H1 b = some (.ins C dx2 [("_parts", .ref d2)]) := SB _ _ nebD (by rw [L.off b nebd]; exact SN _ _ hb1)
      have lk2S : ∀ {od2 Hl2}, Lk P w d2 kvs2 od2 H1 Hl2 → Mv K H1 Hl2 := fun {od2 Hl2} L2 => by
        rcases rd1 with h | ⟨o, h⟩
        · exact .agree h noTup_df L2.off
        · exact .agree h noTup_fz L2.off
      have lk2D : ∀ {od2 Hl2}, Lk P w d2 kvs2 od2 H1 Hl2 → Hl2 D = some (DfO P w D kvs') := fun {od2 Hl2} L2 => by rw [L2.off D (Ne.symm neD2)]; exact hD1
      refine for_itemsO (l := kvs2) (fm := fm2) (d := d2) rd1 hf21 (fun od2 Hl2 L2 R h => ⟨_, rfl, b, C, dx2, _, _, rfl, by rw [L2.off b nebd2]; exact hb11, T.cl, T.na, rfl, h⟩)
        (fun od2 Hl2 j σ' H' => (∃ u6 u7 u8 u9, σ' = [some (.ref a), some v0, some (.ref b), some (.ref D), some (.ref k1), some (.ref a1), u6, u7, u8, u9]) ∧ SameB D Hl2 H' ∧ ∃ kvs' l, H' D = some (DfO P w D kvs') ∧ FmKv K H' kvs' (addTo [] l) ∧ Paired MulT l (allP (fm1.take i) fm2 ++ (fm2.take j).map fun y => ((m, q), y))) ?_ ?_ ?_ ?_
      · intro od2 Hl2 L2
        exact ⟨⟨u6, u7, u8, u9, rfl⟩, SameB.refl _ _, kvs', l, lk2D L2, kv1.imp (lk2S L2), by rw [List.take_zero, List.map_nil, List.append_nil]; exact pl⟩
      · rintro od2 Hl2 L2 j σ' H'' ⟨_, S'', _⟩
        exact ⟨S'' _ _ neD2 L2.at_, .sameB S'' (lk2D L2) noTup_df⟩
      · rintro od2 Hl2 L2 j m2 q2 σ' H'' T2 k2 a2 rt2 bk2 hm2 ⟨⟨u6, u7, u8, u9, rfl⟩, S'', kvs'', l'', hD'', kv'', pl''⟩ nT2 hk2 sa2
        have hm2m := List.mem_of_getElem? hm2
        have hqq := hq2 _ hm2m
        have T2S : Same H'' (upd H'' T2 (.tup [.ref k2, .ref a2])) := Same.upd nT2
        refine ⟨T2, _, rfl, SqT.of upd_same, rfl, _, _, rfl, _, _, rfl, rfl, ?_⟩
        have hD2 := T2S _ _ hD''
        have SB2 := S''.to T2S
        have kv2 := kv''.same T2S
        have sk1 : SqT K (upd H'' T2 (.tup [.ref k2, .ref a2])) k1 (m.map V.str) := SqT.same ((Mv.sameB S'' (lk2D L2) noTup_df).sq _ _ ((lk2S L2).sq _ _ (by rw [← kS_kV]; exact hk1.sq))) T2S
        have sk2 : SqT K (upd H'' T2 (.tup [.ref k2, .ref a2])) k2 (m2.map V.str) := by rw [← kS_kV]; exact (hk2.same T2S).sq
        have sv1 : SqT K (upd H'' T2 (.tup [.ref k2, .ref a2])) a1 (frac q) := SqT.same ((Mv.sameB S'' (lk2D L2) noTup_df).sq _ _ ((lk2S L2).sq _ _ sa1)) T2S
        have sv2 := sa2.same T2S
        generalize upd H'' T2 (.tup [.ref k2, .ref a2]) = G0 at hD2 SB2 kv2 sk1 sk2 sv1 sv2 ⊢
        refine seq_asg (sort_cat rfl rfl sk1 sk2 (Z.keys _ hmm _ hm2m) fun G1 p1 ys S1 pm so hp1 => ?_)
        have pE : 0 < Dn * En := Nat.mul_pos p1' p2'
        have d1 : Dn ≤ Dn * En := Nat.le_mul_of_pos_right _ p2'
        have d2' : En ≤ Dn * En := Nat.le_mul_of_pos_left _ p1'
        refine seq_asg ⟨_, rfl, _, rfl, a1, a2, q, q2, rfl, sv1.same S1, sv2.same S1, Nat.lt_of_le_of_lt (hq.num_le p1') b3, Nat.lt_of_le_of_lt (hqq.num_le p2') b4, Nat.lt_of_le_of_lt (Nat.le_trans (hq.den_le p1') d1) bDE, Nat.lt_of_le_of_lt (Nat.le_trans (hqq.den_le p2') d2') bDE, fun p4 G2 S2' n4 h4 => ?_⟩
        refine ⟨_, rfl, D, kvs'', rfl, .inl (S2' _ _ (S1 _ _ hD2)), _, rfl, (by show 2 ≤ sizeLine; decide), fun t G3 S3 n5 h5 => ?_⟩
        have SG := (S1.trans S2').trans S3
        have hk3 : TupN G3 p1 ((kS ys).map kV) := by rw [kS_kV]; exact (hp1.same S2').same S3
        have hD3 := SG _ _ hD2
        refine ⟨_, ⟨kvs'', p1, kS ys, .inl hD3, (kv2.same SG).keys, rfl, hk3.sq, rfl⟩, ?_⟩
        have lps : l''.length = i * fm2.length + j := by
          have h1 := Paired.length pl''
          have li : (fm1.take i).length = i := by rw [List.length_take]; have := (List.getElem?_eq_some_iff.mp hm).1; omega
          have lj : (fm2.take j).length = j := by rw [List.length_take]; have := (List.getElem?_eq_some_iff.mp hm2).1; omega
          rw [List.length_append, allP_length, List.length_map, li, lj] at h1
          exact h1
        have hlt : i * fm2.length + j < fm1.length * fm2.length := by
          have h1 := (List.getElem?_eq_some_iff.mp hm).1
          have h2 := (List.getElem?_eq_some_iff.mp hm2).1
          have h3 : (i + 1) * fm2.length ≤ fm1.length * fm2.length := Nat.mul_le_mul_right _ h1
          rw [Nat.add_mul] at h3
          omega
        have bl : ∀ z ∈ l'', Bq (Dn * En) (M * N) z.2 := bq_mulT pl'' fun p hp => by
          rcases List.mem_append.mp hp with hp | hp
          · exact ⟨hq1 _ (List.mem_of_mem_take (mem_allP hp).1), hq2 _ (mem_allP hp).2⟩
          · obtain ⟨y, hy, rfl⟩ := List.mem_map.mp hp
            exact ⟨hq, hq2 _ (List.mem_of_mem_take hy)⟩
        obtain ⟨p0, e0, sp, bq0⟩ := get_or (kv2.same SG) ys (SqT.of h5) (bq_addTo l'' [] 0 (fun y hy => absurd hy List.not_mem_nil) bl)
        rw [e0]
        have le0 : 0 + l''.length * (M * N) < 2 ^ 400000 := by
          rw [Nat.zero_add, lps]
          exact Nat.lt_of_le_of_lt (Nat.mul_le_mul_right _ (Nat.le_of_lt hlt)) b1'
        have bqm := hq.mul hqq
        refine ⟨_, rfl, p0, p4, _, q * q2, rfl, sp, (SqT.of h4).same S3, Nat.lt_of_le_of_lt (bq0.num_le pE) le0, Nat.lt_of_le_of_lt (bqm.num_le pE) b2', Nat.lt_of_le_of_lt (bq0.den_le pE) bDE, Nat.lt_of_le_of_lt (bqm.den_le pE) bDE, fun p6 G4 S4 n6 h6 => ?_⟩
        have hD4 := S4 _ _ hD3
        have ll := length_addTo l'' []
        refine ⟨_, rfl, _, rfl, D, p1, _, kvs'', kS ys, rfl, rfl, rfl, hD4, ((kv2.same SG).same S4).keys, (hk3.same S4).sq, (by rw [kv2.length]; rw [List.length_nil] at ll; have := Z.len; omega), ⟨_, _, _, _, rfl⟩, ((SB2.to SG).to S4).upd, _, l'' ++ [(ys, q * q2)], upd_same, ?_, ?_⟩
        · rw [addTo_snoc]
          exact (((kv2.same SG).same S4).put ys (hk3.same S4) (SqT.of h6)).imp (.off hD4 noTup_df)
        · rw [take_snoc hm2, List.map_append, ← List.append_assoc]
          exact Paired.snoc pl'' ⟨pm, so, rfl⟩
      · rintro od2 Hl2 L2 σ' H'' Hu ⟨⟨u6, u7, u8, u9, rfl⟩, S'', kvs'', l'', hD'', kv'', pl''⟩ e1 e2
        refine ⟨⟨_, _, _, _, _, _, rfl⟩, fun c o nc h => ?_, kvs'', l'', by rw [e2 D (Ne.symm neD2)]; exact hD'', kv''.imp (.agree (S'' _ _ neD2 L2.at_) noTup_fz e2), ?_⟩
        · by_cases cd : c = d2
          · subst cd
            rw [e1]
            exact SB _ _ nc h
          · rw [e2 c cd]
            exact S'' _ _ nc (by rw [L2.off c cd]; exact SB _ _ nc h)
        · rw [take_snoc hm, allP_snoc]
          rw [List.take_length] at pl''
          exact pl''
    · rintro od Hl L σ' H' Hu ⟨⟨u4, u5, u6, u7, u8, u9, rfl⟩, S, kvs', l, hD', kv', pl⟩ e1 e2
      rw [List.take_length] at pl
      have SH : Same H Hu := by
        intro c o e
        have e0 := S0 _ _ e
        have nc : c ≠ D := by rintro rfl; rw [nD] at e0; cases e0
        by_cases cd : c = d
        · subst cd
          rw [e1]
          exact SN _ _ e0
        · rw [e2 c cd]
          exact S _ _ nc (by rw [L.off c cd]; exact SN _ _ e0)
      have ll : (addTo [] l).length ≤ fm1.length * fm2.length := by
        have h1 := length_addTo l []
        have h2 := Paired.length pl
        rw [allP_length] at h2
        rw [List.length_nil] at h1
        omega
      show tRet (tMkF C (tCall (spWithout P w K) [] C8.E0 (tCons (tVar 3) tNil))) _ _ _
      refine ret_mkF ?_
      refine call_one rfl ⟨D, kvs', addTo [] l, rfl, by rw [e2 D (Ne.symm neD)]; exact hD', kv'.imp (.agree (S _ _ neD L.at_) noTup_fz e2), nodup_addTo _ _ List.nodup_nil, Nat.le_of_lt (Nat.lt_of_le_of_lt ll Z.len), fun H4 D4 kvs4 S4 nD4 hD4 kv4 b5 dx5 H5 S5 nb5 hb5 => ?_⟩
      exact k H5 b5 l ((SH.trans S4).trans S5) ((SH.trans S4).free nb5) pl ⟨dx5, D4, kvs4, hb5, S5 _ _ hD4, kv4.same S5⟩
end
end E2

set_option Elab.async false
set_option linter.all false
set_option maxRecDepth 100000
set_option maxHeartbeats 1000000
/-! list(d), d such a dict -/
namespace L2
open PySem PySem.Spec PyProof.Rows
def rListN (X : Cx) : List V → Hp → VK → Prop := fun xs H Q => ∃ (d : Addr) (l : NAV), xs = [V.ref d] ∧ Rd H d (DfO X.prog X.w d l) ∧ ∀ p, H p = none → Q (.ref p) (upd H p (.lst (l.map fun x => V.ref x.2.1)))
theorem vals_keys : ∀ l : NAV, Vals (l.map fun x => V.ref x.2.1) (l.map fun x => Value.ref x.2.1)
  | [] => .nil
  | x :: r => .cons rfl (vals_keys r)
theorem cr_listN {X : Cx} (hc : X.calm = true) : CallR X (.type "list") (rListN X) := by
  intro pins s σ H xs us Q I r h
  obtain ⟨d, l, rfl, hd, q⟩ := h
  rw [Vals.ref1 r]
  obtain ⟨z, hs, _, o, es, ep, ho, hx, hdt, he⟩ := dn_get I hd
  have l1 := size_of_entries he
  rw [List.length_map] at l1 z
  refine PySem.W.kdl_call (kdl_raw hs hx hdt) (I.ok.hd hc) ho (by omega) fun h' tk acc' c' kp e it => ?_
  have ea : acc'.toList = l.map fun x => Value.ref x.2.1 := by
    refine List.ext_getElem? fun j => ?_
    have sz : acc'.toList.length = l.length := by rw [Array.length_toList, it.1, l1]
    rw [List.getElem?_map]
    rcases Nat.lt_or_ge j l.length with c | c
    · obtain ⟨v, hj⟩ : ∃ v, acc'.toList[j]? = some v := ⟨_, List.getElem?_eq_getElem (by omega)⟩
      obtain ⟨en, hen, hv⟩ := it.2 j v (by rw [← Array.getElem?_toList]; exact hj)
      have qe := entry_at he j
      rw [hen, List.getElem?_map, List.getElem?_eq_getElem c] at qe
      rw [hj, List.getElem?_eq_getElem c]
      have e3 := Option.some.inj qe
      rw [e3] at hv
      exact congrArg some hv
    · rw [List.getElem?_eq_none (by omega), List.getElem?_eq_none c]
      rfl
  have hz : (l.map fun x => V.ref x.2.1).length ≤ sizeLine := by rw [List.length_map]; exact z
  have ob : ObjOk X.prog X.w (upd H s.heap.objs.size (.lst (l.map fun x => V.ref x.2.1))) h' s.heap.objs.size (.lst (l.map fun x => V.ref x.2.1)) :=
    ⟨hz, acc'.toList, c', by rw [ea]; exact vals_keys l, by rw [Array.toArray_toList]; exact e⟩
  exact ⟨.ref s.heap.objs.size, _, I.laid (t' := tk) kp (Nat.le_refl _) ob, rfl, q _ (I.hok.fresh (Nat.le_refl _))⟩
end L2

set_option Elab.async false
set_option linter.all false
set_option maxRecDepth 100000
set_option maxHeartbeats 1000000
/-! a.terms() -/
namespace L2
open PySem PySem.Spec PyProof.Rows
open LamX (Tabs ExtN TabB CodeO)
/-- a def whose code object is known: its body as a term -/
theorem Fun.okC {P : Program} {w : World} {K : PySem.W.Frag} {mg : Str → Option Value} {base : Heap} {x qual : Str} {st : Stmt} {f c : Addr} {fd : FuncData} {N ps : List Str} {k : Nat} {sp : Sp} (F : Fun K x qual st f fd) (hc : fd.code = .ref c) (S : FnScope N ps (defScope st)) (len : ∀ vs H Q E, sp vs H Q E → vs.length = ps.length)
    (hbody : ∀ (A : Around) (outer : List Env) (s : Shared) (H : Hp) (vs : List V) (Q : VK) (E : XK), Room k (A.deeper (envOfC qual (defScope st) s.heap.objs.size f (.ref c))) → sp vs H Q E →
      ∃ t, PSs (cxOf CX0 P w K mg base N qual (defScope st) f (.ref c) A outer s H E).nox (defBody st) t ∧ t { nx := fun _ H' => Q .non H', rt := Q } (start N vs) H) : FnOk P w K mg base CX0 (k + 1) f fd ps sp := by
  obtain ⟨oc, od, kV, doc, pm, an, cdv, ct, osl, rfl, lk, hcd⟩ := F.ex
  obtain rfl : cdv = .ref c := hc
  refine fn_of lk hcd S len fun A outer s H vs Q E hr hsp => ?_
  obtain ⟨t, h, q⟩ := hbody A outer s H vs Q E hr hsp
  exact ⟨t, h.nox, q⟩
def sortM (ms : List Mon) : List Mon := ms.mergeSort (PySem.W.dataLe false kM)
theorem sortA_map (ams : List (Addr × Mon)) : (sortA ams).map (·.2) = sortM (ams.map (·.2)) := List.map_mergeSort fun _ _ _ _ => rfl
theorem newT_of {H H2 : Hp} {p : Addr} (ex : ExtN H H2) (n : H2 p = none) : NewT H p := fun o e => Classical.byContradiction fun no => by
  have z := ex _ _ e fun ps e2 => no ⟨ps, e2⟩
  rw [n] at z
  cases z
theorem valM_mem {fm : Fm} {m : Mon} (h : m ∈ fm.map (·.1)) : ∃ q, valM fm m = some q := by
  obtain ⟨x, hx, rfl⟩ := List.mem_map.mp h
  cases e : fm.find? fun y => decide (y.1 = x.1) with
  | none => exact absurd (by simp) (List.find?_eq_none.mp e x hx)
  | some y => exact ⟨y.2, by unfold valM; rw [e]; rfl⟩
/-- the terms in their order -/
def trs (fm : Fm) : Fm := (sortM (fm.map (·.1))).map fun m => (m, (valM fm m).getD 0)
/-- a term as a tuple of numerator, denominator and a list of letters -/
def TrmAt (H : Hp) (z : Addr × Addr) (x : Mon × Rat) : Prop := H z.1 = some (.tup [.int x.2.num, .int (x.2.den : Int), .ref z.2]) ∧ H z.2 = some (.lst (x.1.map V.str))
def TermsAt (H : Hp) (zs : List (Addr × Addr)) (fm : Fm) : Prop := Paired (TrmAt H) zs fm
theorem TermsAt.imp {H H' : Hp} {zs : List (Addr × Addr)} {fm : Fm} (h : TermsAt H zs fm) (k : ∀ z ∈ zs, ∀ x, TrmAt H z x → TrmAt H' z x) : TermsAt H' zs fm := by
  unfold TermsAt at h ⊢
  induction h with
  | nil => exact .nil
  | cons r t ih => exact .cons (k _ List.mem_cons_self _ r) (ih fun z hz => k z (List.mem_cons_of_mem _ hz))
end L2
namespace E2
open PySem PySem.Spec PyProof.Rows L2
open C8 (Cal Mak Met InsC pe_c pe_mt pe_mt0 call_isC clsBody)
open LamX (Tabs ExtN TabB CodeO)
open StX (tStar pa_star)
abbrev sTerms : Stmt := meth 7
def spTerms (T : List (Addr × Str)) (P : Program) (w : World) (K : PySem.W.Frag) (C : Addr) : Sp := fun vs H Q _ => ∃ a fm, vs = [.ref a] ∧ FmAt P w K C H a fm ∧ (fm.map (·.1)).Nodup ∧ fm.length ≤ 100000 ∧ (∀ x ∈ fm, x.1.length ≤ 100000) ∧ Tabs T H ∧
  ∀ (H' : Hp) (p : Addr) (zs : List (Addr × Addr)), ExtN H H' → Tabs T H' → NewT H p → H' p = some (.lst (zs.map fun z => V.ref z.1)) → TermsAt H' zs (trs fm) → (zs.map (·.2)).Nodup → (∀ z ∈ zs, NewT H z.2 ∧ z.2 ≠ p) → Q (.ref p) H'
section
variable {P : Program} {w : World} {K : PySem.W.Frag} {mg : Str → Option Value} {base : Heap} {C : Addr}
theorem scTerms : FnScope ["self", "order", "names"] ["self"] (defScope sTerms) := ⟨rfl, rfl, rfl, by decide +kernel, rfl, by decide +kernel, by decide +kernel⟩
theorem ok_terms {TT : List (Addr × Str)} {f c Pt : Addr} {fd : FuncData} (F : Fun K "terms" "Form.terms" sTerms f fd) (hc : fd.code = .ref c) (T : Fx P w K mg base C) (B3 : Bt3 mg) (hlist : mg "list" = none) (hlen : mg "len" = none) (TB : TabB base mg c Pt)
    (hm : (Pt, ("Form.terms.<locals>.<lambda>" : Str)) ∈ TT) (hu : ∀ p ∈ TT, p.1 = Pt → p.2 = "Form.terms.<locals>.<lambda>") : FnOk P w K mg base CX0 2 f fd ["self"] (spTerms TT P w K C) := by
  refine F.okC hc scTerms (fun vs H Q E h => ?_) (fun A outer s H vs Q E hr h => ?_)
  · obtain ⟨a, fm, rfl, _⟩ := h
    rfl
  · obtain ⟨a, fm, rfl, ⟨dx, d, kvs, ha, hd, hf⟩, hn, hl, hml, tb, k⟩ := h
    have u1 := Nat.lt_of_le_of_lt (Nat.add_le_add_left (by decide : 1 ≤ 64) _) hr.units
    refine ⟨_, pss_cons (ps_set (i := 1) scTerms.nd rfl (Or.inl rfl) (pe_sortedL (T := TT) (c := c) (P := Pt) (hr.mono (by decide)) (by rfl) B3.srt_ hlen TB rfl hm hu (pe_callTy (cr_listN rfl) (by rfl) hlist (by decide +kernel) (pa_cons (pe_fld (pv 0) rfl) pa_nil))))
      (pss_one (ps_ret (pe_lc (own := [("names", 2)]) (g := gName 2) (tt := tYes) (te := tTupS (tStar K (tOp (rDf P w K) (tFld K (tVar 0) "_parts") (tVar 2)) (tCons (tCB (fun xs H Q => ∃ p ys, xs = [.ref p] ∧ (SqL K H p ys ∨ SqT K H p ys) ∧ ∀ l, H l = none → Q (.ref l) (upd H l (.lst ys))) (tCons (tVar 2) tNil)) tNil))) rfl scTerms.nd (pi_list (pv 1))
        (blkOk_by (own := [("names", 2)]) (N := ["self", "order", "names"]) (sc := defScope sTerms) (by decide +kernel))
        (fun _ _ _ _ _ => pg_name (i := 2) scTerms.nd rfl (Or.inl rfl)) (fun _ _ _ _ _ => pts_nil)
        (fun _ _ _ _ _ => by exact pe_tupS (pa_star (pe_ix (ix_df u1) (pe_fld (pv 0) rfl) (pv 2) (fun _ _ => rfl)) (pa_cons (pe_callTy call_list_of (by rfl) hlist (by decide +kernel) (pa_cons (pv 2) pa_nil)) pa_nil)))))), ?_⟩
    have nad : a ≠ d := ne_of ha hd (by intro z; cases z)
    refine seq_asg ⟨_, rfl, a, C, dx, _, _, rfl, ha, T.cl, T.na, rfl, d, kvs, rfl, .inl hd, fun l nl => ?_⟩
    generalize hbs : kvs.map (fun x => x.2.1) = bs
    have lbs : bs.length = (fm.map (·.1)).length := by rw [← hbs, List.length_map, List.length_map, hf.length]
    have e0 : (kvs.map fun x => V.ref x.2.1) = bs.map V.ref := by rw [← hbs, List.map_map]; rfl
    rw [e0]
    have e1 : (bs.zip (fm.map (·.1))).map (fun x => V.ref x.1) = bs.map V.ref := by
      rw [show (fun x : Addr × Mon => V.ref x.1) = V.ref ∘ Prod.fst from rfl, ← List.map_map, List.map_fst_zip (by omega)]
    have e2 : (bs.zip (fm.map (·.1))).map (·.2) = fm.map (·.1) := List.map_snd_zip (by omega)
    have key : ∀ x ∈ bs.zip (fm.map (·.1)), TupN H x.1 (x.2.map V.str) := fun x hx => by
      obtain ⟨i, hi⟩ := List.mem_iff_getElem?.mp hx
      rw [List.getElem?_zip_eq_some] at hi
      obtain ⟨h1, h2⟩ := hi
      have hil := (List.getElem?_eq_some_iff.mp h1).1
      obtain ⟨kv, hkv⟩ : ∃ kv, kvs[i]? = some kv := ⟨_, List.getElem?_eq_getElem (by rw [← hbs, List.length_map] at hil; exact hil)⟩
      obtain ⟨m, q, b, a1, hm1, rfl, tb, _⟩ := hf.get hkv
      rw [List.getElem?_map, hm1] at h2
      rw [← hbs, List.getElem?_map, hkv] at h1
      have e1 : x.1 = b := (Option.some.inj h1).symm
      have e2 : x.2 = m := (Option.some.inj h2).symm
      rw [e1, e2, ← kS_kV]
      exact tb
    generalize hams : bs.zip (fm.map (·.1)) = ams at e1 e2 key
    have lam : ams.length = fm.length := by rw [← List.length_map (f := (·.2)), e2, List.length_map]
    have hin : ∀ x ∈ ams, x.2 ∈ fm.map (·.1) := fun x hx => by rw [← e2]; exact List.mem_map.mpr ⟨x, hx, rfl⟩
    have z5 : (100000 : Nat) ≤ sizeLine := by rw [sizeLine_eq]; decide
    refine ⟨l, ams, rfl, ?_, fun x hx => ⟨((key x hx).same (Same.upd nl)).sq, ?_⟩, by rw [lam]; omega, tb.ext fun b o e => by rw [upd_ne (ne_of_none e nl)]; exact e, fun H2 p ex tb2 np hp => ?_⟩
    · rw [e1]
      exact SqL.of upd_same
    · obtain ⟨y, hy, e3⟩ := List.mem_map.mp (hin x hx)
      rw [← e3]
      exact Nat.le_trans (hml y hy) z5
    have ex2 : ExtN H H2 := (ExtN.of fun b o e => by rw [upd_ne (ne_of_none e nl)]; exact e).trans ex
    have ha2 := ex2 _ _ ha fun _ z => nomatch z
    have hd2 := ex2 _ _ hd fun _ z => nomatch z
    have perm : ∀ x ∈ sortA ams, x ∈ ams := fun x hx => (List.mem_mergeSort.mp hx)
    have ltr : (trs fm).length = (sortA ams).length := by
      unfold trs
      rw [List.length_map, ← e2, ← sortA_map, List.length_map]
    refine ret_of ⟨_, rfl, p, rfl, ⟨_, SqL.of hp⟩, fun D nD => lc_it (walk_list (xs := (sortA ams).map fun x => V.ref x.1)) (fun i H' => SameB D H2 H' ∧ H' p = some (.lst ((sortA ams).map fun x => V.ref x.1)) ∧ ∃ zs : List (Addr × Addr), zs.length = i ∧ H' D = some (.lst (zs.map fun z => V.ref z.1)) ∧ TermsAt H' zs ((trs fm).take i) ∧ (zs.map (·.2)).Nodup ∧ ∀ z ∈ zs, H2 z.2 = none ∧ z.2 ≠ D)
      ⟨fun b o n e => by rw [upd_ne n]; exact e, by rw [upd_ne (ne_of_none hp nD)]; exact hp, [], rfl, upd_same, .nil, List.nodup_nil, fun z hz => absurd hz List.not_mem_nil⟩ (fun i H' _ q => SqL.of q.2.1) ?_ ?_⟩
    · rintro i x H0 H3 hi ⟨S, hp3, zs, lz, hD, tz, nd, fz⟩ ⟨rfl, hx⟩
      rw [List.length_map] at hi
      rw [List.getElem?_map] at hx
      obtain ⟨⟨b, m⟩, hbm, rfl⟩ := Option.map_eq_some_iff.mp hx
      have hmem := perm _ (List.mem_of_getElem? hbm)
      obtain ⟨q, hq⟩ := valM_mem (hin _ hmem)
      have nb : ∀ {c : Addr} {o : HO}, H2 c = some o → c ≠ D := fun e => ne_of_none e nD
      have tm : ∀ q xs, TupN H q xs → TupN H3 q xs := fun q xs ⟨o, h1, h2⟩ => by
        have h := ex2 _ _ h1 fun _ z => nomatch z
        exact ⟨o, S _ _ (nb h) h, h2⟩
      have hb3 := tm _ _ (key _ hmem)
      rcases hf.val m with ⟨_, er⟩ | ⟨b1, a1, q1, ev, eq1, sa⟩
      · rw [show valM fm m = some q from hq] at er
        cases er
      obtain rfl : q = q1 := Option.some.inj ((show valM fm m = some q from hq).symm.trans eq1)
      have sa2 : SqT K H3 a1 (frac q) := by
        rcases (sa.extN ex2) with (z | ⟨o, z⟩) | z
        · exact .inl (.inl (S _ _ (nb z) z))
        · exact .inl (.inr ⟨o, S _ _ (nb z) z⟩)
        · exact .inr z
      have dg : GetN P w K H3 d (.ref b) (some a1) := ⟨kvs, b, kS m, .inl (S _ _ (nb hd2) hd2), fun x hx => tm _ _ (hf.keys x hx), rfl, by rw [kS_kV]; exact hb3.sq, by rw [ev]; rfl⟩
      refine ⟨rfl, iteT (B := False) ⟨_, rfl, a, C, dx, _, _, rfl, S _ _ (nb ha2) ha2, T.cl, T.na, rfl, _, rfl, d, a1, rfl, dg, a1, frac q, rfl, .inl sa2, ⟨_, rfl, b, _, rfl, .inr hb3.sq, fun l2 nl2 => ⟨by show 3 ≤ sizeLine; decide, fun t H5 S5 nt ht => ?_⟩⟩⟩⟩
      have S35 : Same H3 H5 := (Same.upd nl2).trans S5
      have hl5 : H5 l2 = some (.lst (m.map V.str)) := S5 _ _ upd_same
      have nl2D : l2 ≠ D := (ne_of_none hD nl2).symm
      have hD5 := S35 _ _ hD
      have ntD : t ≠ D := ne_of ht hD5 (by intro z; cases z)
      have off : ∀ {c : Addr} {o u : HO}, c ≠ D → H3 c = some o → (upd H5 D u) c = some o := fun n e => by rw [upd_ne n]; exact S35 _ _ e
      refine ⟨_, hD5, ?_, S.to S35 |>.upd, off (nb hp) hp3, zs ++ [(t, l2)], by rw [List.length_append, lz]; rfl, by rw [upd_same, List.map_append]; rfl, ?_, ?_, ?_⟩
      · rw [List.length_map, lz]
        have : i < fm.length := by rw [← lam, ← List.length_mergeSort (le := PySem.W.dataLe false fun x => kM x.2)]; exact hi
        omega
      · have hti : (trs fm)[i]? = some (m, q) := by
          unfold trs
          rw [← e2, ← sortA_map, List.map_map, List.getElem?_map, hbm]
          show some (m, (valM fm m).getD 0) = _
          rw [show valM fm m = some q from hq]
          rfl
        rw [take_snoc hti]
        refine Paired.snoc (tz.imp fun z hz x hx => ?_) ⟨?_, ?_⟩
        · have n2 := (fz z hz).2
          have n1 : z.1 ≠ D := ne_of hx.1 hD (by intro w; cases w)
          exact ⟨off n1 hx.1, off n2 hx.2⟩
        · show (upd H5 D _) t = _
          rw [upd_ne ntD]
          exact ht
        · show (upd H5 D _) l2 = _
          rw [upd_ne nl2D]
          exact hl5
      · rw [List.map_append]
        refine List.nodup_append.mpr ⟨nd, List.nodup_cons.mpr ⟨List.not_mem_nil, List.nodup_nil⟩, fun x hx y hy => ?_⟩
        rw [List.mem_singleton.mp hy]
        rintro rfl
        obtain ⟨z, hz, e3⟩ := List.mem_map.mp hx
        obtain ⟨i2, hi2⟩ := List.mem_iff_getElem?.mp hz
        have hl2 := (List.getElem?_eq_some_iff.mp hi2).1
        obtain ⟨x2, hx2, tx⟩ := paired_get tz hi2
        have e4 := tx.2
        rw [e3] at e4
        rw [nl2] at e4
        cases e4
      · intro z hz
        rcases List.mem_append.mp hz with h | h
        · exact fz z h
        · rw [List.mem_singleton.mp h]
          refine ⟨?_, nl2D⟩
          cases e5 : H2 l2 with
          | none => rfl
          | some o =>
            have := S _ _ nl2D e5
            rw [nl2] at this
            cases this
    · rintro H3 ⟨S, hp3, zs, lz, hD, tz, nd, fz⟩
      rw [List.length_map, ← ltr] at tz
      rw [List.take_length] at tz
      have ex3 : ExtN H2 H3 := ExtN.of fun b o e => S _ _ (ne_of_none e nD) e
      exact k H3 D zs (ex2.trans ex3) (tb2.ext fun b o e => S _ _ (ne_of_none e nD) e) (newT_of ex2 nD) hD tz nd fun z hz => ⟨newT_of ex2 (fz z hz).1, (fz z hz).2⟩
end
end E2

set_option Elab.async false
set_option linter.all false
set_option maxRecDepth 100000
set_option maxHeartbeats 1000000
/-! max(xs, default=d) of whole numbers; t.count(x) of a tuple of texts -/
namespace L2
open PySem PySem.Spec PySem.Calls PyProof.Rows PySem.W
def hiI (d : Int) : List Int → Int
  | [] => d
  | y :: ys => maxOf y ys
def tMaxD (K : PySem.W.Frag) (te td : TE) : TE := fun σ H Q => te σ H fun v H1 => ∃ (l : Addr) (ns : List Int), v = .ref l ∧ SqL K H1 l (ns.map V.int) ∧ td σ H1 fun d H2 => ∃ z : Int, d = .int z ∧ H2 = H1 ∧ Q (.int (hiI z ns)) H2
theorem holds_ints {h : Heap} : ∀ {vs : List Value} {xs : List Int}, IntsAre vs xs → ReadsAll h vs (xs.map Datum.toD) []
  | _, _, .nil => .nil
  | _, _, .cons x t r => .cons (as := []) (.int x t) (holds_ints r)
section
variable {X : Cx} {e d : Expr} {te td : TE} {q kpos pos : Pos}
theorem pe_maxD (hr : Room 0 X.A) (hc : X.calm = true) (hg : Gl X "max") (hm : X.mg "max" = none) (he : PE X e te) (hd : PE X d td)
    (hes : backTo pos (starEach [e] X.env) = (false, eval e X.env) :: backTo pos (starEach [] X.env) := by rfl) (hpl : (backTo pos (starEach [e] X.env)).any (·.1) = false := by rfl) :
    PE X (.Call (.Name "max" q) [e] [⟨some "default", d, kpos⟩] pos) (tMaxD X.K te td) := by
  refine ⟨fun pins s σ H Q I h => ?_⟩
  refine wpAny_Call_Name_kw (ld_blt (u := .builtin "max") I hg hm (by decide +kernel) ?_)
  refine callWith_kw ?_ hes hpl rfl rfl
  rw [hes]
  refine spliced_cons (thn (he.run pins s σ H _ I h) fun u s1 ⟨v, H1, I1, rv, l, ns, ev, hl, q⟩ => spliced_nil ?_)
  subst ev
  obtain rfl : u = Value.ref l := rv
  show wpAny _ _ (evalAll [do let v ← eval d X.env; standAt pos; pure v]) _ _ s1
  refine wpAny_evalAll_cons (wpAny_bind (thn (hd.run pins s1 σ H1 _ I1 q) fun u2 s2 ⟨v2, H2, I2, rv2, z, ez, eH, q2⟩ => wpAny_bind (wpAny_standAt (wpAny_pure (wpAny_evalAll_nil ?_)))))
  subst ez eH
  obtain ⟨t2, rfl⟩ := rv2
  show wpAny _ _ (call (.builtin "max") [.ref l] [(Str.ofString "default", .int z t2)]) _ _ s2
  obtain ⟨its, rl, pl, hz2⟩ := I2.list hl
  refine max_list_datum_default (α := Int) (xs := ns) (I2.ok.hd hc) pl.isList ⟨[], holds_ints rl.ints⟩ ?_ (fun en h' tk kp => ?_) fun y ys i v h' tk en hi hv kp => ?_
  · show _ + 1 + 0 < cLine
    have := hr.un
    omega
  · subst en
    exact ⟨.int z, H2, I2.kept kp, ⟨_, rfl⟩, q2⟩
  · subst en
    obtain ⟨bs, rd⟩ := hv
    have rd' : Reads h' v (.int (maxOf y ys)) bs := rd
    cases rd' with
    | int _ t => exact ⟨.int _, H2, I2.kept kp, ⟨t, rfl⟩, q2⟩
end
/-! t.count(x) -/
def eqkS (k : Str) (v : Value) : Bool := match v with
  | .str s _ => s.cps.toList == k.cps.toList
  | _ => false
def cntS (k : Str) (ns : List Str) : Nat := ns.countP fun s => s.cps.toList == k.cps.toList
theorem eqkS_gives {k : Str} {t : Tok} : ∀ {us : List Value} {ns : List Str}, StrsAre us ns → ∀ y ∈ us, MeetsSeq.EqGives y (.str k t) (eqkS k y)
  | _, _, .nil => fun y hy => by cases hy
  | _, _, .cons n t' h => fun y hy => by
    rcases List.mem_cons.mp hy with e | e
    · rw [e]
      exact SeqRoads2.EqGives.str n k t' t
    · exact eqkS_gives h y e
theorem eqkS_count {k : Str} : ∀ {us : List Value} {ns : List Str}, StrsAre us ns → us.countP (eqkS k) = cntS k ns
  | _, _, .nil => rfl
  | _, _, .cons n t h => by
    have ih := eqkS_count (k := k) h
    unfold cntS at ih ⊢
    rw [List.countP_cons, List.countP_cons, ih]
    rfl
def rCntS (K : PySem.W.Frag) : V → List V → Hp → VK → Prop := fun x xs H Q => ∃ (p : Addr) (ns : List Str) (k : Str), x = .ref p ∧ xs = [.str k] ∧ SqT K H p (ns.map V.str) ∧ Q (.int (cntS k ns : Nat)) H
theorem mt_tcount {X : Cx} : MtM X "tuple.count" (rCntS X.K) := by
  intro pins s σ H x xs v us Q I rx rxs h
  obtain ⟨p, ns, k, rfl, rfl, hs, q⟩ := h
  cases rx
  obtain ⟨u, rfl, ru⟩ := rxs.one
  obtain ⟨t, rfl⟩ := ru
  obtain ⟨its, rv, tp, hlen⟩ := I.tuple hs
  obtain ⟨⟨cls, dd, data, sl⟩, ho, hc, n, hd⟩ := tp
  simp only at hc hd
  subst hc hd
  have hi := rv.strs
  refine call_meets PySem.F.slot_tuple_count ⟨_, ho, rfl⟩ PySem.F.entry_tuple_count (PySem.F.args_tuple_count_2 _ _)
    (SeqAt.tuple_countAt p its.toArray n dd sl (.str k t) (eqkS k)) ⟨ho, fun y hy => (eqkS_gives hi y (by simpa using hy)).at _ _, ?_⟩
  have ec : its.toArray.toList.countP (eqkS k) = cntS k ns := eqkS_count hi
  rw [ec]
  exact ⟨.int _, H, I.tok _, ⟨_, rfl⟩, q⟩
end L2

set_option Elab.async false
set_option linter.all false
set_option maxRecDepth 100000
set_option maxHeartbeats 1000000
/-! a.by_powers(name) -/
namespace L2
open PySem PySem.Spec PyProof.Rows
def tNewP (P : Program) (w : World) : TE := fun _ H Q => ∀ p, H p = none → Q (.ref p) (upd H p (DfO P w p []))
theorem pe_newP {X : Cx} {pos : Pos} : PE X (.Dict [] [] pos) (tNewP X.prog X.w) := pe_newD
end L2
namespace E2
open PySem PySem.Spec PyProof.Rows L2
open C8 (Cal Mak Met InsC pe_c pe_mt pe_mt0 call_isC clsBody)
abbrev sPut : Stmt := meth 11
abbrev sPow : Stmt := meth 12
def cntM (name : Str) (m : Mon) : Nat := cntS name m
def rstM (name : Str) (m : Mon) : Mon := m.filter fun x => !decide (V.str x = V.str name)
def hiN (name : Str) (fm : Fm) : Nat := (hiI 0 (fm.map fun x => (cntM name x.1 : Int))).toNat
def powStep (name : Str) (sh : List Fm) (x : Mon × Rat) : List Fm := sh.modify (cntM name x.1) fun f => putM f (rstM name x.1) x.2
def powF (name : Str) (fm : Fm) : List Fm := fm.foldl (powStep name) (List.replicate (hiN name fm + 1) [])
section
variable {P : Program} {w : World} {K : PySem.W.Frag} {mg : Str → Option Value} {base : Heap} {C : Addr}
theorem hiI_ge (ns : List Int) (h : ∀ n ∈ ns, 0 ≤ n) : (∀ n ∈ ns, n ≤ hiI 0 ns) ∧ (hiI 0 ns = 0 ∨ hiI 0 ns ∈ ns) := by
  cases ns with
  | nil => exact ⟨fun n hn => absurd hn List.not_mem_nil, .inl rfl⟩
  | cons y ys =>
    have key : ∀ (l : List Int) (a : Int), (∀ n ∈ l, n ≤ l.foldl (fun a y => if PySem.W.DatumOrd.lt a y = true then y else a) a) ∧ a ≤ l.foldl (fun a y => if PySem.W.DatumOrd.lt a y = true then y else a) a ∧ (l.foldl (fun a y => if PySem.W.DatumOrd.lt a y = true then y else a) a = a ∨ l.foldl (fun a y => if PySem.W.DatumOrd.lt a y = true then y else a) a ∈ l) := by
      intro l
      induction l with
      | nil => intro a; exact ⟨fun n hn => absurd hn List.not_mem_nil, Int.le_refl a, .inl rfl⟩
      | cons x r ih =>
        intro a
        rw [List.foldl_cons]
        have lt_iff : PySem.W.DatumOrd.lt a x = true ↔ a < x := by
          show decide (a < x) = true ↔ _
          exact decide_eq_true_iff
        by_cases c : a < x
        · rw [if_pos (lt_iff.mpr c)]
          obtain ⟨h1, h2, h3⟩ := ih x
          refine ⟨fun n hn => ?_, by omega, ?_⟩
          · rcases List.mem_cons.mp hn with rfl | hn
            · exact h2
            · exact h1 n hn
          · rcases h3 with h3 | h3
            · exact .inr (by rw [h3]; exact List.mem_cons_self)
            · exact .inr (List.mem_cons.mpr (.inr h3))
        · rw [if_neg fun z => c (lt_iff.mp z)]
          obtain ⟨h1, h2, h3⟩ := ih a
          refine ⟨fun n hn => ?_, h2, ?_⟩
          · rcases List.mem_cons.mp hn with rfl | hn
            · omega
            · exact h1 n hn
          · rcases h3 with h3 | h3
            · exact .inl h3
            · exact .inr (List.mem_cons.mpr (.inr h3))
    obtain ⟨h1, h2, h3⟩ := key ys y
    show (∀ n ∈ y :: ys, n ≤ PySem.W.maxOf y ys) ∧ (PySem.W.maxOf y ys = 0 ∨ PySem.W.maxOf y ys ∈ y :: ys)
    unfold PySem.W.maxOf
    refine ⟨fun n hn => ?_, .inr ?_⟩
    · rcases List.mem_cons.mp hn with rfl | hn
      · exact h2
      · exact h1 n hn
    · rcases h3 with h3 | h3
      · rw [h3]; exact List.mem_cons_self
      · exact List.mem_cons.mpr (.inr h3)
theorem putM_len (f : Fm) (m : Mon) (q : Rat) : (putM f m q).length ≤ f.length + 1 := by
  unfold putM
  split
  · rw [List.length_map]; omega
  · rw [List.length_append]; simp
def foldP (name : Str) (n : Nat) (fm : Fm) : List Fm := fm.foldl (powStep name) (List.replicate n [])
theorem foldP_len (name : Str) (n : Nat) (fm : Fm) : (foldP name n fm).length = n := by
  have : ∀ (l : Fm) (sh : List Fm), (l.foldl (powStep name) sh).length = sh.length := by
    intro l
    induction l with
    | nil => intro _; rfl
    | cons x l ih => intro sh; rw [List.foldl_cons, ih]; exact List.length_modify _ _ _
  unfold foldP
  rw [this, List.length_replicate]
theorem foldP_snoc {name : Str} {n : Nat} {fm : Fm} {i : Nat} {x : Mon × Rat} (h : fm[i]? = some x) : foldP name n (fm.take (i + 1)) = powStep name (foldP name n (fm.take i)) x := by
  unfold foldP
  rw [take_snoc h, List.foldl_append]; rfl
theorem foldP_few (name : Str) (n : Nat) (fm : Fm) : ∀ f ∈ foldP name n fm, f.length ≤ fm.length := by
  have : ∀ (l : Fm) (sh : List Fm) (k : Nat), (∀ f ∈ sh, f.length ≤ k) → ∀ f ∈ l.foldl (powStep name) sh, f.length ≤ k + l.length := by
    intro l
    induction l with
    | nil => intro sh k h; exact h
    | cons x l ih =>
      intro sh k h f hf
      have := ih (powStep name sh x) (k + 1) (fun g hg => by
        obtain ⟨j, hj, e⟩ := List.mem_iff_getElem.mp hg
        have e2 := List.getElem?_eq_getElem hj
        unfold powStep at e2
        rw [List.getElem?_modify] at e2
        cases o : sh[j]? with
        | none => rw [o] at e2; cases e2
        | some g0 =>
          have g1 := h g0 (List.mem_of_getElem? o)
          rw [o] at e2
          have e3 := Option.some.inj e2
          rw [← e, ← show _ = (powStep name sh x)[j] from e3]
          dsimp only
          split
          · exact Nat.le_trans (putM_len _ _ _) (by omega)
          · exact Nat.le_trans g1 (Nat.le_succ k)) f hf
      rw [List.length_cons]; omega
  have := this fm (List.replicate n []) 0 fun f hf => by rw [List.eq_of_mem_replicate hf]; exact Nat.le_refl 0
  unfold foldP
  intro f hf
  have := this f hf
  omega
/-- all but some dicts as it was -/
theorem Mv.but {ds : List Addr} {H H' : Hp} (S : ∀ b o, b ∉ ds → H b = some o → H' b = some o) (hn : ∀ b ∈ ds, ∃ u, H b = some u ∧ NoTup u) : Mv K H H' := by
  constructor
  · intro a xs h
    rcases h with (h | ⟨o, h⟩) | h
    · refine .inl (.inl (S _ _ (fun z => ?_) h))
      obtain ⟨u, e, n⟩ := hn a z
      rw [h] at e
      exact n.1 xs (Option.some.inj e).symm
    · refine .inl (.inr ⟨o, S _ _ (fun z => ?_) h⟩)
      obtain ⟨u, e, n⟩ := hn a z
      rw [h] at e
      exact n.2 o xs (Option.some.inj e).symm
    · exact .inr h
  · rintro q xs ⟨o, h1, h2⟩
    refine ⟨o, S _ _ (fun z => ?_) h1, h2⟩
    obtain ⟨u, e, n⟩ := hn q z
    rw [h1] at e
    exact n.2 o xs (Option.some.inj e).symm
theorem noTup_lst {xs : List V} : NoTup (.lst xs) := ⟨fun _ z => (nomatch z), fun _ _ z => (nomatch z)⟩
theorem FmAt.sameL {D : Addr} {H H' : Hp} {b : Addr} {f : Fm} {xs : List V} (h : FmAt P w K C H b f) (S : SameB D H H') (hD : H D = some (.lst xs)) : FmAt P w K C H' b f := by
  obtain ⟨dx, d, kvs, h1, h2, h3⟩ := h
  refine ⟨dx, d, kvs, S _ _ (fun z => ?_) h1, S _ _ (fun z => ?_) h2, h3.imp (.sameB S hD noTup_lst)⟩
  · rw [z, hD] at h1; cases h1
  · rw [z, hD] at h2; exact absurd (Option.some.inj h2).symm (fun z => nomatch (show HO.ext _ = _ from z))
theorem nodup_ix {α : Type} : ∀ {l : List α}, l.Nodup → ∀ {i j : Nat} {x : α}, l[i]? = some x → l[j]? = some x → i = j
  | [], _, _, _, _, h, _ => by simp at h
  | a :: l, n, 0, 0, _, _, _ => rfl
  | a :: l, n, 0, j + 1, x, h, g => by
    obtain rfl := Option.some.inj h
    exact absurd (List.mem_of_getElem? (show l[j]? = some a from g)) (List.nodup_cons.mp n).1
  | a :: l, n, i + 1, 0, x, h, g => by
    obtain rfl := Option.some.inj g
    exact absurd (List.mem_of_getElem? (show l[i]? = some a from h)) (List.nodup_cons.mp n).1
  | a :: l, n, i + 1, j + 1, x, h, g => congrArg (· + 1) (nodup_ix (List.nodup_cons.mp n).2 h g)
theorem cnt_le (name : Str) (m : Mon) : cntM name m ≤ m.length := List.countP_le_length
theorem hiN_spec (name : Str) (fm : Fm) : hiI 0 (fm.map fun x => (cntM name x.1 : Int)) = (hiN name fm : Int) ∧ ∀ x ∈ fm, cntM name x.1 ≤ hiN name fm := by
  obtain ⟨h1, h2⟩ := hiI_ge (fm.map fun x => (cntM name x.1 : Int)) fun n hn => by
    obtain ⟨x, _, rfl⟩ := List.mem_map.mp hn
    exact Int.natCast_nonneg _
  have nn : 0 ≤ hiI 0 (fm.map fun x => (cntM name x.1 : Int)) := by
    rcases h2 with h2 | h2
    · omega
    · obtain ⟨x, _, e⟩ := List.mem_map.mp h2
      rw [← e]
      exact Int.natCast_nonneg _
  have e : hiI 0 (fm.map fun x => (cntM name x.1 : Int)) = (hiN name fm : Int) := (Int.toNat_of_nonneg nn).symm
  refine ⟨e, fun x hx => ?_⟩
  have := h1 _ (List.mem_map.mpr ⟨x, hx, rfl⟩)
  rw [e] at this
  exact Int.ofNat_le.mp this
theorem hiN_le (name : Str) {fm : Fm} {B : Nat} (h : ∀ x ∈ fm, x.1.length ≤ B) : hiN name fm ≤ B := by
  obtain ⟨_, h2⟩ := hiI_ge (fm.map fun x => (cntM name x.1 : Int)) fun n hn => by
    obtain ⟨x, _, rfl⟩ := List.mem_map.mp hn
    exact Int.natCast_nonneg _
  have e := (hiN_spec name fm).1
  rcases h2 with h2 | h2
  · rw [e] at h2
    have : hiN name fm = 0 := by omega
    omega
  · obtain ⟨x, hx, e3⟩ := List.mem_map.mp h2
    rw [e] at e3
    have h4 : cntM name x.1 = hiN name fm := Int.ofNat.inj e3
    rw [← h4]
    exact Nat.le_trans (cnt_le name x.1) (h x hx)
theorem scPow : FnScope ["self", "name", "highest", "shares", "names", "worth", "rest", "_", "kept", "share"] ["self", "name"] (defScope sPow) := ⟨rfl, rfl, rfl, by decide +kernel, rfl, by decide +kernel, by decide +kernel⟩
def spPow (P : Program) (w : World) (K : PySem.W.Frag) (C : Addr) : Sp := fun vs H Q _ => ∃ a name fm, vs = [.ref a, .str name] ∧ FmAt P w K C H a fm ∧ (fm.map (·.1)).Nodup ∧ fm.length ≤ 100000 ∧ (∀ x ∈ fm, x.1.length ≤ 100000) ∧
  ∀ H' p (as : List Addr), Same H H' → H p = none → H' p = some (.lst (as.map V.ref)) → as.length = (powF name fm).length → (∀ (j : Nat) (b : Addr) (f : Fm), as[j]? = some b → (powF name fm)[j]? = some f → FmAt P w K C H' b f) → Q (.ref p) H'
theorem ok_pow {f : Addr} {fd : FuncData} (F : Fun K "by_powers" "Form.by_powers" sPow f fd) (T : Fx P w K mg base C) (B3 : Bt3 mg) (hmax : mg "max" = none) (hrng : mg "range" = none) : FnOk P w K mg base CX0 3 f fd ["self", "name"] (spPow P w K C) := by
  refine F.ok scPow (fun vs H Q E h => ?_) (fun cdv A outer s H vs Q E hr h => ?_)
  · obtain ⟨a, name, fm, rfl, _⟩ := h
    rfl
  · obtain ⟨a, name, fm, rfl, ⟨dx, d, kvs, ha, hd, hf⟩, hn, hl, hml, k⟩ := h
    have u1 := Nat.lt_of_le_of_lt (Nat.add_le_add_left (by decide : 1 ≤ 64) _) hr.units
    refine ⟨_, pss_cons (ps_set (i := 2) scPow.nd rfl (Or.inl rfl) (pe_maxD (hr.mono (by decide)) rfl (by rfl) hmax (pe_lock (pe_lc (own := [("names", 4)]) (g := gName 4) (tt := tYes) (te := tTM (rCntS K) (tVar 4) (tCons (tVar 1) tNil)) rfl scPow.nd (pi_keysN (pe_fld (pv 0) rfl))
        (blkOk_by (own := [("names", 4)]) (N := ["self", "name", "highest", "shares", "names", "worth", "rest", "_", "kept", "share"]) (sc := defScope sPow) (by decide +kernel))
        (fun _ _ _ _ _ => pg_name (i := 4) scPow.nd rfl (Or.inl rfl)) (fun _ _ _ _ _ => pts_nil) (fun _ _ _ _ _ => by exact pe_tm PySem.F.plainAttrs_tuple PySem.F.slot_tuple_count PySem.F.type_tuple_count mt_tcount (pv 4) (pa_cons (pv 1) pa_nil)))) pe_int))
      (pss_cons (ps_setLc (i := 3) (own := [("_", 7)]) (g := gName 7) (tt := tYes) (te := tNewP P w) (by rfl) scPow.nd rfl rfl (sw_true rfl rfl rfl (by decide +kernel)) (pi_range1 rfl hrng (pa_cons (pe_op op_add (pv 2) pe_int) pa_nil))
        (blkOk_by (own := [("_", 7)]) (N := ["self", "name", "highest", "shares", "names", "worth", "rest", "_", "kept", "share"]) (sc := defScope sPow) (by decide +kernel))
        (fun _ _ _ _ _ => pg_name (i := 7) scPow.nd rfl (Or.inl rfl)) (fun _ _ _ _ _ => pts_nil) (fun _ _ _ _ _ => by exact pe_newP))
      (pss_cons (ps_lockO (ps_for PassesOwn.never rfl (pi_itemsN (pe_fld (pv 0) rfl)) (pg_tup rfl (pgs_cons (pg_name (i := 4) scPow.nd rfl (Or.inl rfl)) (pgs_cons (pg_name (i := 5) scPow.nd rfl (Or.inl rfl)) pgs_nil)))
        (pss_cons (ps_set (i := 6) scPow.nd rfl (Or.inl rfl) (pe_callTy cr_tupN (by rfl) B3.tup_ (by decide +kernel) (pa_cons (pe_lc (own := [("kept", 8)]) (g := gName 8) (tt := tTest (tOp rNe (tVar 8) (tVar 1))) (te := tVar 8) rfl scPow.nd (pi_tup (pv 4))
          (blkOk_by (own := [("kept", 8)]) (N := ["self", "name", "highest", "shares", "names", "worth", "rest", "_", "kept", "share"]) (sc := defScope sPow) (by decide +kernel))
          (fun _ _ _ _ _ => pg_name (i := 8) scPow.nd rfl (Or.inl rfl)) (fun _ _ _ _ _ => pts_one (by exact pt_cmpR op_ne (pv 8) (pv 1) (nomark _))) (fun _ _ _ _ _ => pv 8)) pa_nil)))
        (pss_one (ps_asg (pv 5) (pg_sub (pe_ix ix_list (pv 3) (pe_tm PySem.F.plainAttrs_tuple PySem.F.slot_tuple_count PySem.F.type_tuple_count mt_tcount (pv 4) (pa_cons (pv 1) pa_nil)) (fun _ _ => rfl)) (pv 6) (set_df u1)))))))
      (pss_one (ps_ret (pe_lc (own := [("share", 9)]) (g := gName 9) (tt := tYes) (te := tMkF C (tVar 9)) rfl scPow.nd (pi_list (pv 3))
        (blkOk_by (own := [("share", 9)]) (N := ["self", "name", "highest", "shares", "names", "worth", "rest", "_", "kept", "share"]) (sc := defScope sPow) (by decide +kernel))
        (fun _ _ _ _ _ => pg_name (i := 9) scPow.nd rfl (Or.inl rfl)) (fun _ _ _ _ _ => pts_nil) (fun _ _ _ _ _ => by exact pe_mkF T.maks hr (by decide) rfl (pv 9))))))), ?_⟩
    have nad : a ≠ d := ne_of ha hd (by intro z; cases z)
    have z5 : (300000 : Nat) ≤ sizeLine := by rw [sizeLine_eq]; decide
    obtain ⟨hie, hic⟩ := hiN_spec name fm
    have hib := hiN_le name hml
    refine seq_asg (te_mid (fun x H' => x = .int (hiN name fm : Nat) ∧ Same H H') (fun R hR => ?_) ?_)
    · refine ⟨d, DfO P w d kvs, hd, trivial, fun od => ?_⟩
      have h1 : (upd H d (.frz od (DfO P w d kvs))) d = some (.frz od (DfO P w d kvs)) := upd_same
      have hf1 : FmKv K (upd H d (.frz od (DfO P w d kvs))) kvs fm := hf.imp (.off hd noTup_df)
      refine ⟨_, rfl, a, C, dx, _, _, rfl, by rw [upd_ne nad]; exact ha, T.cl, T.na, rfl, d, od, kvs, rfl, upd_same, fun D nD => ?_⟩
      have neD : D ≠ d := by
        rintro rfl
        rw [upd_same] at nD
        cases nD
      have nDH : H D = none := by rwa [upd_ne neD] at nD
      have S0 : ∀ z : HO, Same H (upd (upd (upd H d (.frz od (DfO P w d kvs))) D z) d (DfO P w d kvs)) := fun z b o e => by
        by_cases c : b = d
        · subst c
          rw [upd_same, ← hd, e]
        · rw [upd_ne c, upd_ne (ne_of_none e nDH), upd_ne c]
          exact e
      generalize hH1 : upd H d (.frz od (DfO P w d kvs)) = H1 at hf1 nD h1 S0 ⊢
      refine lc_it walk_keysN (fun i H' => H' = upd H1 D (.lst (((fm.take i).map fun x => (cntM name x.1 : Int)).map V.int))) rfl (fun i H' _ e => by rw [e, upd_ne (Ne.symm neD)]; exact h1) ?_ ?_
      · rintro i x H' H'' hi rfl ⟨rfl, kk, b, av, hkv, rfl⟩
        obtain ⟨m, q, b', a1, hm, e, tb, sa⟩ := hf1.get hkv
        obtain ⟨rfl, e2⟩ := Prod.mk.inj e
        obtain ⟨rfl, rfl⟩ := Prod.mk.inj e2
        rw [kS_kV] at tb
        have tb2 := tb.same (Same.upd (o := .lst (((fm.take i).map fun x => (cntM name x.1 : Int)).map V.int)) nD)
        have hil : i < fm.length := by rw [← hf.length]; exact hi
        refine ⟨rfl, iteT (B := False) ⟨_, rfl, b, _, rfl, tb2, _, rfl, b, m, name, rfl, rfl, tb2.sq, _, upd_same, ?_, ?_⟩⟩
        · rw [List.length_map, List.length_map, List.length_take]
          omega
        · rw [upd_upd, take_snoc hm, List.map_append, List.map_append]
          rfl
      · rintro H' rfl
        rw [hf.length, List.take_length]
        refine ⟨by rw [upd_ne (Ne.symm neD)]; exact h1, D, fm.map (fun x => (cntM name x.1 : Int)), rfl, SqL.of (by rw [upd_ne neD]; exact upd_same), 0, rfl, rfl, ?_⟩
        rw [hie]
        exact hR _ _ ⟨rfl, S0 _⟩
    rintro _ H2 ⟨rfl, S2⟩
    refine seq_asg (te_mid (fun x H' => ∃ (D : Addr) (ds : List Addr), x = .ref D ∧ Same H2 H' ∧ H2 D = none ∧ H' D = some (.lst (ds.map V.ref)) ∧ ds.length = hiN name fm + 1 ∧ ds.Nodup ∧ ∀ b ∈ ds, H' b = some (DfO P w b []) ∧ H2 b = none ∧ b ≠ D) (fun R hR => ?_) ?_)
    · refine ⟨_, rfl, _, _, rfl, rfl, _, rfl, by omega, by omega, fun D nD => lc_range (lo := 0) (n := ((hiN name fm : Int) + 1).toNat) (fun i H' => SameB D H2 H' ∧ ∃ ds : List Addr, H' D = some (.lst (ds.map V.ref)) ∧ ds.length = i ∧ ds.Nodup ∧ ∀ b ∈ ds, H' b = some (DfO P w b []) ∧ H2 b = none ∧ b ≠ D) ⟨fun b o n e => by rw [upd_ne n]; exact e, [], upd_same, rfl, List.nodup_nil, fun b hb => absurd hb List.not_mem_nil⟩ ?_ ?_⟩
      · rintro i H3 hi ⟨S3, ds, hD, ln, nd, hds⟩
        refine ⟨rfl, iteT (B := False) fun p np => ?_⟩
        have npD : p ≠ D := by rintro rfl; rw [hD] at np; cases np
        have nps : p ∉ ds := fun z => by rw [(hds p z).1] at np; cases np
        refine ⟨_, by rw [upd_ne (Ne.symm npD)]; exact hD, by rw [List.length_map]; omega, ?_, ds ++ [p], by rw [upd_same, List.map_append]; rfl, by rw [List.length_append, ln]; rfl, ?_, ?_⟩
        · intro b o n e
          rw [upd_ne n, upd_ne (ne_of_none (S3 _ _ n e) np)]
          exact S3 _ _ n e
        · exact List.nodup_append.mpr ⟨nd, List.nodup_cons.mpr ⟨List.not_mem_nil, List.nodup_nil⟩, fun x hx y hy e => nps (by rw [List.mem_singleton.mp hy] at e; rw [← e]; exact hx)⟩
        · intro b hb
          rcases List.mem_append.mp hb with hb | hb
          · obtain ⟨g1, g2, g3⟩ := hds b hb
            exact ⟨by rw [upd_ne g3, upd_ne (show b ≠ p from fun e => nps (by rw [← e]; exact hb))]; exact g1, g2, g3⟩
          · rw [List.mem_singleton.mp hb]
            refine ⟨by rw [upd_ne npD]; exact upd_same, ?_, npD⟩
            cases e : H2 p with
            | none => rfl
            | some o => rw [S3 _ _ npD e] at np; cases np
      · rintro H3 ⟨S3, ds, hD, ln, nd, hds⟩
        exact hR _ _ ⟨D, ds, rfl, fun b o e => S3 _ _ (ne_of_none e nD) e, nD, hD, by omega, nd, hds⟩
    rintro _ H3 ⟨D, ds, rfl, S3, nD, hD, ln, nd, hds⟩
    have S23 := S2.trans S3
    have hd3 := S23 _ _ hd
    have ha3 := S23 _ _ ha
    have dns : ∀ b ∈ ds, b ≠ d ∧ b ≠ a ∧ b ≠ D := by
      intro b hb
      have hb2 := (hds b hb).2.1
      refine ⟨fun z => ?_, fun z => ?_, (hds b hb).2.2⟩
      · rw [z, S2 _ _ hd] at hb2; cases hb2
      · rw [z, S2 _ _ ha] at hb2; cases hb2
    have nDd : D ≠ d := fun z => by rw [z, S2 _ _ hd] at nD; cases nD
    have pf : powF name fm = foldP name (hiN name fm + 1) fm := rfl
    refine seq_lockO (for_itemsO (l := kvs) (fm := fm) (d := d) (.inl hd3) (hf.same S23) (fun od Hl L R h => ⟨_, rfl, a, C, dx, _, _, rfl, by rw [L.off a nad]; exact ha3, T.cl, T.na, rfl, h⟩)
      (fun od Hl i σ' H' => (∃ u4 u5 u6 u7 u8 u9, σ' = [some (.ref a), some (.str name), some (.int (hiN name fm : Nat)), some (.ref D), u4, u5, u6, u7, u8, u9]) ∧ (∀ b o, b ∉ ds → Hl b = some o → H' b = some o) ∧ ∀ (j : Nat) (b : Addr) (f : Fm), ds[j]? = some b → (foldP name (hiN name fm + 1) (fm.take i))[j]? = some f → ∃ l', H' b = some (DfO P w b l') ∧ FmKv K H' l' f) ?_ ?_ ?_ ?_)
    · intro od Hl L
      refine ⟨⟨none, none, none, none, none, none, rfl⟩, fun b o _ h => h, fun j b f hb hf0 => ?_⟩
      have hm := List.mem_of_getElem? hb
      obtain ⟨n1, n2, n3⟩ := dns b hm
      have e : f = [] := by
        rw [List.take_zero] at hf0
        exact List.eq_of_mem_replicate (List.mem_of_getElem? hf0)
      rw [e]
      exact ⟨[], by rw [L.off b n1]; exact (hds b hm).1, .nil⟩
    · rintro od Hl L i σ' H' ⟨_, S, _⟩
      exact ⟨S _ _ (fun z => (dns d z).1 rfl) L.at_, Mv.but S fun b hb => ⟨_, by rw [L.off b (dns b hb).1]; exact (hds b hb).1, noTup_df⟩⟩
    · rintro od Hl L i m q σ' H' T1 k1 a1 rt bk hm ⟨⟨u4, u5, u6, u7, u8, u9, rfl⟩, S, hsh⟩ nT hk1 sa1
      have hmi := List.mem_of_getElem? hm
      have ml : m.length ≤ 100000 := hml _ hmi
      have il : i < fm.length := (List.getElem?_eq_some_iff.mp hm).1
      have cl : cntM name m ≤ hiN name fm := hic _ hmi
      refine ⟨T1, _, rfl, SqT.of upd_same, rfl, _, _, rfl, _, _, rfl, rfl, ?_⟩
      have S2' : Same H' (upd H' T1 (.tup [.ref k1, .ref a1])) := Same.upd nT
      have sa2 := sa1.same S2'
      have hk2 := hk1.same S2'
      have hsh2 : ∀ (j : Nat) (b : Addr) (f : Fm), ds[j]? = some b → (foldP name (hiN name fm + 1) (fm.take i))[j]? = some f → ∃ l', (upd H' T1 (.tup [.ref k1, .ref a1])) b = some (DfO P w b l') ∧ FmKv K (upd H' T1 (.tup [.ref k1, .ref a1])) l' f := fun j b f h1 h2 => by
        obtain ⟨l', h3, h4⟩ := hsh j b f h1 h2
        exact ⟨l', S2' _ _ h3, h4.same S2'⟩
      have Sx : ∀ b o, b ∉ ds → Hl b = some o → (upd H' T1 (.tup [.ref k1, .ref a1])) b = some o := fun b o n h => S2' _ _ (S b o n h)
      generalize upd H' T1 (.tup [.ref k1, .ref a1]) = H4 at sa2 hk2 hsh2 Sx
      rw [kS_kV] at hk2
      refine seq_asg (te_mid (fun x H5 => ∃ rq, x = V.ref rq ∧ Same H4 H5 ∧ TupN H5 rq ((rstM name m).map V.str)) (fun R hR => ?_) ?_)
      · refine ⟨_, rfl, k1, rfl, ⟨_, hk2.sq⟩, fun D5 nD5 => lc_it (walk_tup (xs := m.map V.str)) (fun j H5 => SameB D5 H4 H5 ∧ H5 D5 = some (.lst ((rstM name (m.take j)).map V.str))) ⟨fun c o nc hc => by rw [upd_ne nc]; exact hc, upd_same⟩ (fun j H5 _ z => (hk2.sameB z.1 (fun e => by obtain ⟨o, h1, _⟩ := hk2; rw [← e, h1] at nD5; cases nD5)).sq) ?_ ?_⟩
        · rintro j x H5 H6 hj ⟨S5, h5⟩ ⟨rfl, hx⟩
          rw [List.length_map] at hj
          rw [List.getElem?_map, List.getElem?_eq_getElem hj] at hx
          obtain rfl := Option.some.inj hx
          have es : m.take (j + 1) = m.take j ++ [m[j]] := take_snoc (List.getElem?_eq_getElem hj)
          refine ⟨rfl, _, rfl, _, rfl, rfl, _, rfl, ?_⟩
          by_cases hc : V.str m[j] = V.str name
          · rw [decide_eq_true hc]
            refine ifF rfl ⟨S5, ?_⟩
            rw [h5, es]
            unfold rstM
            rw [List.filter_append, List.filter_cons, decide_eq_true hc]
            simp
          · rw [decide_eq_false hc]
            refine ifT rfl ⟨_, rfl, _, h5, ?_, S5.upd, ?_⟩
            · rw [List.length_map, sizeLine_eq]
              unfold rstM
              have := List.length_filter_le (fun x => !decide (V.str x = V.str name)) (m.take j)
              rw [List.length_take] at this
              omega
            · rw [upd_same, es]
              unfold rstM
              rw [List.filter_append, List.filter_cons, decide_eq_false hc]
              simp
        · rintro H5 ⟨S5, h5⟩
          rw [List.length_map, List.take_length] at h5
          refine ⟨D5, _, rfl, SqL.of h5, fun rq H6 S6 nq tq => hR _ _ ⟨rq, rfl, ?_, tq⟩⟩
          exact fun b o e => S6 _ _ (S5 _ _ (ne_of_none e nD5) e)
      rintro _ H5 ⟨rq, rfl, S5, tq⟩
      have hsh3 : ∀ (j : Nat) (b : Addr) (f : Fm), ds[j]? = some b → (foldP name (hiN name fm + 1) (fm.take i))[j]? = some f → ∃ l', H5 b = some (DfO P w b l') ∧ FmKv K H5 l' f := fun j b f h1 h2 => by
        obtain ⟨l', h3, h4⟩ := hsh2 j b f h1 h2
        exact ⟨l', S5 _ _ h3, h4.same S5⟩
      have hk5 := hk2.same S5
      have sa5 := sa2.same S5
      have Sy : ∀ b o, b ∉ ds → Hl b = some o → H5 b = some o := fun b o n h => S5 _ _ (Sx b o n h)
      have hD5 : H5 D = some (.lst (ds.map V.ref)) := Sy _ _ (fun z => (dns D z).2.2 rfl) (by rw [L.off D nDd]; exact hD)
      have jl : cntM name m < ds.length := by omega
      have hbj := List.getElem?_eq_getElem jl
      have fl := foldP_len name (hiN name fm + 1) (fm.take i)
      have hfj := List.getElem?_eq_getElem (show cntM name m < (foldP name (hiN name fm + 1) (fm.take i)).length by omega)
      obtain ⟨l', h3, h4⟩ := hsh3 _ _ _ hbj hfj
      have few := foldP_few name (hiN name fm + 1) (fm.take i) _ (List.mem_of_getElem? hfj)
      have fs := foldP_snoc (name := name) (n := hiN name fm + 1) hm
      generalize hfg : (foldP name (hiN name fm + 1) (fm.take i))[cntM name m] = fj at hfj h4 few
      generalize hbg : ds[cntM name m] = bj at hbj h3
      have kd : ((kS (rstM name m)).map kV) = (rstM name m).map V.str := kS_kV _
      refine ⟨_, rfl, _, rfl, _, rfl, k1, _, rfl, hk5, _, rfl, k1, m, name, rfl, rfl, hk5.sq, D, _, _, _, rfl, rfl, SqL.of hD5, atI_nat (by rw [List.getElem?_map, show ds[cntS name m]? = some bj from hbj]; rfl), _, rfl, bj, rq, a1, l', kS (rstM name m), rfl, rfl, rfl, h3, h4.keys, by rw [kd]; exact tq.sq, ?_, ?_⟩
      · rw [h4.length, sizeLine_eq]
        rw [List.length_take] at few
        omega
      · have kv2 := h4.put (rstM name m) (q := q) (by rw [kd]; exact tq) sa5
        have mv : Mv K H5 (upd H5 bj (DfO P w bj (putN l' (kS (rstM name m)) rq a1))) := .off h3 noTup_df
        refine ⟨⟨_, _, _, _, _, _, rfl⟩, fun b o n h => ?_, fun j b f hb hf2 => ?_⟩
        · rw [upd_ne (fun z => n (by rw [z]; exact List.mem_of_getElem? hbj))]
          exact Sy b o n h
        · rw [fs] at hf2
          unfold powStep at hf2
          rw [List.getElem?_modify] at hf2
          by_cases ej : cntM name m = j
          · subst ej
            rw [hbj] at hb
            obtain rfl := Option.some.inj hb
            rw [hfj] at hf2
            have e3 : putM fj (rstM name m) q = f := by simpa using hf2
            rw [← e3]
            exact ⟨_, upd_same, kv2.imp mv⟩
          · have hf3 : (foldP name (hiN name fm + 1) (fm.take i))[j]? = some f := by
              cases o : (foldP name (hiN name fm + 1) (fm.take i))[j]? with
              | none => rw [o] at hf2; cases hf2
              | some g0 =>
                rw [o] at hf2
                have e3 : g0 = f := by simpa [ej] using hf2
                rw [e3]
            obtain ⟨l2, h5, h6⟩ := hsh3 j b f hb hf3
            have nb : b ≠ bj := fun z => ej (nodup_ix nd hbj (by rw [← z]; exact hb))
            exact ⟨l2, by rw [upd_ne nb]; exact h5, h6.imp mv⟩
    · rintro od Hl L σ' H' Hu ⟨⟨u4, u5, u6, u7, u8, u9, rfl⟩, S, hsh⟩ hu1 hu2
      rw [List.take_length, ← pf] at hsh
      have lk := S _ _ (fun z => (dns d z).1 rfl) L.at_
      have SU : Same H Hu := fun b o e => by
        have e3 := S23 b o e
        by_cases c : b = d
        · rw [c, hu1, ← c]; exact e3
        · rw [hu2 b c]
          refine S b o (fun z => ?_) (by rw [L.off b c]; exact e3)
          have := (hds b z).2.1
          rw [S2 b o e] at this
          cases this
      have hf3 : ∀ (j : Nat) (b : Addr) (f : Fm), ds[j]? = some b → (powF name fm)[j]? = some f → ∃ l', Hu b = some (DfO P w b l') ∧ FmKv K Hu l' f := fun j b f h1 h2 => by
        obtain ⟨l', h3, h4⟩ := hsh j b f h1 h2
        exact ⟨l', by rw [hu2 b (dns b (List.mem_of_getElem? h1)).1]; exact h3, h4.imp (.agree lk noTup_fz hu2)⟩
      have hDu : Hu D = some (.lst (ds.map V.ref)) := by
        rw [hu2 D nDd]
        exact S _ _ (fun z => (dns D z).2.2 rfl) (by rw [L.off D nDd]; exact hD)
      have lp : (powF name fm).length = hiN name fm + 1 := by rw [pf]; exact foldP_len _ _ _
      refine ⟨_, rfl, D, rfl, ⟨_, SqL.of hDu⟩, fun D6 nD6 => lc_it walk_list (fun i H6 => Same Hu H6 ∧ ∃ as : List Addr, H6 D6 = some (.lst (as.map V.ref)) ∧ as.length = i ∧ ∀ (j : Nat) (b : Addr) (f : Fm), as[j]? = some b → (powF name fm)[j]? = some f → FmAt P w K C H6 b f) ⟨Same.upd nD6, [], upd_same, rfl, fun j b f z => by simp at z⟩ (fun i H6 _ z => (SqL.of hDu).same z.1) ?_ ?_⟩
      · rintro i x H6 H7 hi ⟨S6, as, h6, ln6, has⟩ ⟨rfl, hx⟩
        rw [List.length_map] at hi
        rw [List.getElem?_map, List.getElem?_eq_getElem hi] at hx
        obtain rfl := Option.some.inj hx
        refine ⟨rfl, iteT (B := False) ⟨_, rfl, fun a7 dx7 H7 S7 n7 e7 => ⟨_, S7 _ _ h6, ?_, ?_, as ++ [a7], by rw [upd_same, List.map_append]; rfl, by rw [List.length_append, ln6]; rfl, ?_⟩⟩⟩
        · rw [List.length_map]; omega
        · exact fun b o e => by rw [upd_ne (ne_of_none e nD6)]; exact S7 _ _ (S6 _ _ e)
        · intro j b f hb hf0
          by_cases c : j < as.length
          · rw [List.getElem?_append_left c] at hb
            exact FmAt.sameL ((has j b f hb hf0).same S7) (SameB.refl _ _).upd (S7 _ _ h6)
          · have ej : j = as.length := by
              have := (List.getElem?_eq_some_iff.mp hb).1
              simp at this
              omega
            subst ej
            rw [List.getElem?_append_right (Nat.le_refl _)] at hb
            have eb : a7 = b := by simpa using hb
            subst eb
            obtain ⟨l', g1, g2⟩ := hf3 i ds[i] f (List.getElem?_eq_getElem hi) (by rw [← ln6]; exact hf0)
            exact FmAt.sameL ⟨dx7, ds[i], l', e7, S7 _ _ (S6 _ _ g1), (g2.same S6).same S7⟩ (SameB.refl _ _).upd (S7 _ _ h6)
      · rintro H6 ⟨S6, as, h6, ln6, has⟩
        rw [List.length_map] at ln6
        exact k H6 D6 as (SU.trans S6) (by
          cases e : H D6 with
          | none => rfl
          | some o => rw [SU _ _ e] at nD6; cases nD6) h6 (by omega) has
end
end E2

set_option Elab.async false
set_option linter.all false
set_option maxRecDepth 100000
set_option maxHeartbeats 1000000
/-! a - b -/
namespace E2
open PySem PySem.Spec PyProof.Rows L2
open C8 (Cal Mak Met InsC pe_c pe_mt pe_mt0 call_isC clsBody)
/-- an operator's method of the class at C -/
structure OpM (P : Program) (w : World) (K : PySem.W.Frag) (mg : Str → Option Value) (base : Heap) (k : Nat) (C : Addr) (name : Str) (sp : Sp) : Prop where
  ex : ∃ (f : Addr) (fd : FuncData) (ps : List Str), OwnOp K C name f ∧ FnOk P w K mg base CX0 k f fd ps sp ∧ Binds K fd ps []
abbrev negM (fm : Fm) : Fm := mapM (fun _ => true) (fun q => -q) fm
def spSub (P : Program) (w : World) (K : PySem.W.Frag) (C : Addr) : Sp := fun vs H Q _ => ∃ a v fm1 fm2, vs = [.ref a, v] ∧ FmAt P w K C H a fm1 ∧ RightV P w K C H v fm2 ∧ Szs fm1 (negM fm2) ∧ (fm2.map (·.1)).Nodup ∧ fm2.length ≤ sizeLine ∧ ∀ H' b, Same H H' → H b = none → FmAt P w K C H' b (mapM nz id (addTo fm1 (negM fm2))) → Q (.ref b) H'
theorem un_one {r : V → Hp → VK → Prop} {t : TE} {σ : L2.St} {H : Hp} {Q : VK} (h : t σ H fun x H1 => r x H1 Q) : tUn r t σ H Q := h
section
variable {P : Program} {w : World} {K : PySem.W.Frag} {mg : Str → Option Value} {base : Heap} {C : Addr}
theorem scSub : FnScope ["self", "other"] ["self", "other"] (defScope sSub) := ⟨rfl, rfl, rfl, by decide +kernel, rfl, by decide +kernel, by decide +kernel⟩
theorem ok_sub {f : Addr} {fd : FuncData} (F : Fun K "__sub__" "Form.__sub__" sSub f fd) (R : Cal P w K mg base 4 "right_side" (spRight P w K C) []) (Oa : OpM P w K mg base 5 C "__add__" (spAdd P w K C)) (On : OpM P w K mg base 3 C "__neg__" (spNeg P w K C (fun q => -q))) : FnOk P w K mg base CX0 6 f fd ["self", "other"] (spSub P w K C) := by
  obtain ⟨fa, fda, pa, oa, Fa, ba⟩ := Oa.ex
  obtain ⟨fn, fdn, pn, on, Fn, bn⟩ := On.ex
  refine F.ok scSub (fun vs H Q E h => ?_) (fun cdv A outer s H vs Q E hr h => ?_)
  · obtain ⟨a, v, fm1, fm2, rfl, _⟩ := h
    rfl
  · obtain ⟨a, v, fm1, fm2, rfl, ha, hv, Z, n2, l2, k⟩ := h
    refine ⟨_, pss_one (ps_ret (pe_op (op_own (op := .Add) oa Fa hr ba) (pv 0) (pe_un (un_own on Fn (hr.mono (by decide)) bn) (pe_c R hr (by decide) rfl (pa_cons (pv 1) pa_nil))))), ?_⟩
    refine ⟨_, rfl, un_one (call_one rfl (right_of hv fun H0 b S0 hb => ?_))⟩
    obtain ⟨dxb, db, kvb, hb1, hb2, hb3⟩ := hb
    refine ⟨b, dxb, _, rfl, hb1, b, fm2, rfl, ⟨dxb, db, kvb, hb1, hb2, hb3⟩, n2, l2, fun H1 c S1 nc hc => ?_⟩
    have ha1 := (ha.same S0).same S1
    obtain ⟨dxa, da, kva, ha2, ha3, ha4⟩ := ha1
    obtain ⟨dxc, dc, kvc, hc2, hc3, hc4⟩ := hc
    exact ⟨a, c, dxa, _, dxc, _, rfl, rfl, ha2, hc2, a, _, fm1, negM fm2, rfl, ⟨dxa, da, kva, ha2, ha3, ha4⟩, .inr ⟨c, rfl, dxc, dc, kvc, hc2, hc3, hc4⟩, Z, fun H2 e S2 ne he => k H2 e ((S0.trans S1).trans S2) ((S0.trans S1).free ne) he⟩
end
end E2

set_option Elab.async false
set_option linter.all false
set_option maxRecDepth 100000
set_option maxHeartbeats 1000000
/-! the one sorted list of a list's texts; sums and products of forms as functions -/
namespace L2
open PySem PySem.Spec PyProof.Rows
theorem ltCps_eq : ∀ a b : List Nat, ltCps a b = decide (a < b)
  | [], [] => rfl
  | [], _ :: _ => by rw [decide_eq_true (List.nil_lt_cons _ _)]; rfl
  | _ :: _, [] => by rw [decide_eq_false (List.not_lt_nil _)]; rfl
  | x :: a, y :: b => by
    have ih := ltCps_eq a b
    unfold ltCps
    rw [ih]
    by_cases c : x < y
    · rw [decide_eq_true (List.cons_lt_cons_iff.mpr (.inl c))]
      simp [c]
    · by_cases d : x = y
      · subst d
        have : decide (x :: a < x :: b) = decide (a < b) := by
          by_cases e : a < b
          · rw [decide_eq_true e, decide_eq_true (List.cons_lt_cons_iff.mpr (.inr ⟨rfl, e⟩))]
          · rw [decide_eq_false e, decide_eq_false fun z => (List.cons_lt_cons_iff.mp z).elim (fun h => Nat.lt_irrefl _ h) fun h => e h.2]
        rw [this]
        simp
      · rw [decide_eq_false fun z => (List.cons_lt_cons_iff.mp z).elim c fun h => d h.1]
        simp [c, d]
/-- a ≤ b -/
def leT (a b : Str) : Bool := !ltCps b.cps.toList a.cps.toList
theorem leT_iff {a b : Str} : leT a b = true ↔ a.cps.toList ≤ b.cps.toList := by
  unfold leT
  rw [ltCps_eq]
  simp [List.not_lt]
theorem leT_trans {a b c : Str} (h : leT a b = true) (k : leT b c = true) : leT a c = true := leT_iff.mpr (List.le_trans (leT_iff.mp h) (leT_iff.mp k))
theorem leT_total (a b : Str) : leT a b = true ∨ leT b a = true := by
  rw [leT_iff, leT_iff]
  exact List.le_total _ _
theorem str_ext {a b : Str} (h : a.cps.toList = b.cps.toList) : a = b := by
  cases a
  cases b
  congr 1
  exact Array.toList_inj.mp h
theorem leT_anti {a b : Str} (h : leT a b = true) (k : leT b a = true) : a = b := str_ext (List.le_antisymm (leT_iff.mp h) (leT_iff.mp k))
theorem rising_pw : ∀ (r : List Str) (x : Str), risingS x r = true → List.Pairwise (fun a b => leT a b = true) (x :: r)
  | [], x, _ => List.pairwise_cons.mpr ⟨fun _ h => absurd h List.not_mem_nil, .nil⟩
  | y :: r, x, h => by
    rw [risingS.eq_2, Bool.and_eq_true] at h
    have ih := rising_pw r y h.2
    refine List.pairwise_cons.mpr ⟨fun z hz => ?_, ih⟩
    rcases List.mem_cons.mp hz with rfl | hz
    · exact h.1
    · exact leT_trans h.1 ((List.pairwise_cons.mp ih).1 z hz)
theorem sorted_pw {l : List Str} (h : sortedS l = true) : List.Pairwise (fun a b => leT a b = true) l := by
  cases l with
  | nil => exact .nil
  | cons x r => exact rising_pw r x h
def insT (x : Str) : List Str → List Str
  | [] => [x]
  | y :: r => if leT x y then x :: y :: r else y :: insT x r
def sortT (l : List Str) : List Str := l.foldr insT []
theorem insT_perm (x : Str) : ∀ l, (insT x l).Perm (x :: l)
  | [] => List.Perm.refl _
  | y :: r => by
    unfold insT
    split
    · exact List.Perm.refl _
    · exact ((insT_perm x r).cons y).trans (List.Perm.swap x y r)
theorem sortT_perm : ∀ l, (sortT l).Perm l
  | [] => List.Perm.refl _
  | x :: r => (insT_perm x _).trans ((sortT_perm r).cons x)
theorem insT_pw (x : Str) : ∀ l, List.Pairwise (fun a b => leT a b = true) l → List.Pairwise (fun a b => leT a b = true) (insT x l)
  | [], _ => List.pairwise_cons.mpr ⟨fun _ h => absurd h List.not_mem_nil, .nil⟩
  | y :: r, h => by
    unfold insT
    split
    · rename_i c
      refine List.pairwise_cons.mpr ⟨fun z hz => ?_, h⟩
      rcases List.mem_cons.mp hz with rfl | hz
      · exact c
      · exact leT_trans c ((List.pairwise_cons.mp h).1 z hz)
    · rename_i c
      refine List.pairwise_cons.mpr ⟨fun z hz => ?_, insT_pw x r (List.pairwise_cons.mp h).2⟩
      rcases List.mem_cons.mp ((insT_perm x r).mem_iff.mp hz) with rfl | hz
      · exact (leT_total _ _).resolve_left c
      · exact (List.pairwise_cons.mp h).1 z hz
theorem sortT_pw : ∀ l, List.Pairwise (fun a b => leT a b = true) (sortT l)
  | [] => .nil
  | x :: r => insT_pw x _ (sortT_pw r)
/-- sorted lists of the same texts are the same -/
theorem sortT_one {l ys : List Str} (p : ys.Perm l) (s : sortedS ys = true) : ys = sortT l :=
  List.Perm.eq_of_pairwise (le := fun a b => leT a b = true) (fun _ _ _ _ => leT_anti) (sorted_pw s) (sortT_pw l) (p.trans (sortT_perm l).symm)
def mulT (xy : (Mon × Rat) × (Mon × Rat)) : Mon × Rat := (sortT (xy.1.1 ++ xy.2.1), xy.1.2 * xy.2.2)
theorem MulT.eq {z : Mon × Rat} {xy : (Mon × Rat) × (Mon × Rat)} (h : MulT z xy) : z = mulT xy := Prod.ext (sortT_one h.1 h.2.1) h.2.2
theorem mulT_list {l : Fm} {ps : List ((Mon × Rat) × (Mon × Rat))} (h : Paired MulT l ps) : l = ps.map mulT := by
  induction h with
  | nil => rfl
  | cons r t ih => rw [List.map_cons, ← ih, r.eq]
/-- a + b, a * b -/
def addF (a b : Fm) : Fm := mapM (fun q => !decide (q = 0)) id (addTo a b)
def mulF (a b : Fm) : Fm := mapM (fun q => !decide (q = 0)) id (addTo [] ((allP a b).map mulT))
end L2

set_option Elab.async false
set_option linter.all false
set_option maxRecDepth 100000
set_option maxHeartbeats 1000000
/-! a.put(name, other) -/
namespace E2
open PySem PySem.Spec PyProof.Rows L2
open C8 (Cal Mak Met InsC pe_c pe_mt pe_mt0 call_isC clsBody)
/-- a + b of two forms -/
theorem add_refs {P : Program} {w : World} {K : PySem.W.Frag} {C : Addr} {H : Hp} {a b : Addr} {fa fb : Fm} {Q : VK} {E : XK} (ha : FmAt P w K C H a fa) (hb : FmAt P w K C H b fb) (z : Szs fa fb) (k : ∀ H' c, Same H H' → H c = none → FmAt P w K C H' c (addF fa fb) → Q (.ref c) H') : spAdd P w K C [.ref a, .ref b] H Q E :=
  ⟨a, _, fa, fb, rfl, ha, .inr ⟨b, rfl, hb⟩, z, k⟩
theorem mul_refs {P : Program} {w : World} {K : PySem.W.Frag} {C : Addr} {H : Hp} {a b : Addr} {fa fb : Fm} {Q : VK} {E : XK} (ha : FmAt P w K C H a fa) (hb : FmAt P w K C H b fb) (z : SzM fa fb) (k : ∀ H' c, Same H H' → H c = none → FmAt P w K C H' c (mulF fa fb) → Q (.ref c) H') : spMul P w K C [.ref a, .ref b] H Q E :=
  ⟨a, _, fa, fb, rfl, ha, .inr ⟨b, rfl, hb⟩, z, fun H' c l S n p f => k H' c S n (by rw [mulT_list p] at f; exact f)⟩
theorem own_refs {P : Program} {w : World} {K : PySem.W.Frag} {C : Addr} {H : Hp} {a b : Addr} {fa fb : Fm} (ha : FmAt P w K C H a fa) (hb : FmAt P w K C H b fb) : ∃ dxa fsa dxb fsb, H a = some (.ins C dxa fsa) ∧ H b = some (.ins C dxb fsb) :=
  let ⟨x, _, _, h1, _⟩ := ha
  let ⟨y, _, _, h2, _⟩ := hb
  ⟨x, _, y, _, h1, h2⟩
def hornF (o : Fm) (acc : Fm) (ps : List Fm) : Fm := ps.foldl (fun a p => addF (mulF a o) p) acc
def putF (name : Str) (fm o : Fm) : Fm := hornF o [] (powF name fm).reverse
/-- the sizes of each step -/
def SzH (o : Fm) : Fm → List Fm → Prop
  | _, [] => True
  | a, p :: r => SzM a o ∧ Szs (mulF a o) p ∧ SzH o (addF (mulF a o) p) r
theorem SzH.at {o : Fm} : ∀ {ps : List Fm} {a : Fm} {i : Nat} {p : Fm}, SzH o a ps → ps[i]? = some p → SzM (hornF o a (ps.take i)) o ∧ Szs (mulF (hornF o a (ps.take i)) o) p
  | q :: r, a, 0, p, h, e => by
    obtain rfl := Option.some.inj e
    exact ⟨h.1, h.2.1⟩
  | q :: r, a, i + 1, p, h, e => SzH.at (ps := r) (i := i) h.2.2 e
theorem hornF_snoc {o a p : Fm} {ps : List Fm} {i : Nat} (h : ps[i]? = some p) : hornF o a (ps.take (i + 1)) = addF (mulF (hornF o a (ps.take i)) o) p := by
  unfold hornF
  rw [take_snoc h, List.foldl_append]; rfl
section
variable {P : Program} {w : World} {K : PySem.W.Frag} {mg : Str → Option Value} {base : Heap} {C : Addr}
theorem scPut : FnScope ["self", "name", "other", "found", "part"] ["self", "name", "other"] (defScope sPut) := ⟨rfl, rfl, rfl, by decide +kernel, rfl, by decide +kernel, by decide +kernel⟩
def spPut (P : Program) (w : World) (K : PySem.W.Frag) (C : Addr) : Sp := fun vs H Q _ => ∃ a b name fm o, vs = [.ref a, .str name, .ref b] ∧ LetOk name ∧ FmAt P w K C H a fm ∧ FmAt P w K C H b o ∧ (fm.map (·.1)).Nodup ∧ fm.length ≤ 100000 ∧ (∀ x ∈ fm, x.1.length ≤ 100000) ∧ SzH o [] (powF name fm).reverse ∧
  ∀ H' c, Same H H' → H c = none → FmAt P w K C H' c (putF name fm o) → Q (.ref c) H'
theorem ok_put {f : Addr} {fd : FuncData} (F : Fun K "put" "Form.put" sPut f fd) (T : Fx P w K mg base C) (B : Bt K mg C) (hrev : mg "reversed" = none) (L : Cal P w K mg base 1 "is_letter" spIsLet []) (Pw : Met P w K mg base 3 C "by_powers" (spPow P w K C) [])
    (Oa : OpM P w K mg base 5 C "__add__" (spAdd P w K C)) (Om : OpM P w K mg base 5 C "__mul__" (spMul P w K C)) : FnOk P w K mg base CX0 6 f fd ["self", "name", "other"] (spPut P w K C) := by
  obtain ⟨fa, fda, pa, oa, Fa_, ba⟩ := Oa.ex
  obtain ⟨fm_, fdm, pm, om, Fm_, bm⟩ := Om.ex
  refine F.ok scPut (fun vs H Q E h => ?_) (fun cdv A outer s H vs Q E hr h => ?_)
  · obtain ⟨a, b, name, fm, o, rfl, _⟩ := h
    rfl
  · obtain ⟨a, b, name, fm, o, rfl, hlet, ha, hb, hn, hl, hml, hz, k⟩ := h
    refine ⟨_, pss_cons (ps_if (pt_not (pt_val (pe_c L hr (by decide) rfl (pa_cons (pv 1) pa_nil)))) (pss_one ps_never) pss_nil)
      (pss_cons (ps_if (pt_not (pt_val (pe_callB (call_isC B.ins) (by rfl) B.isi (by decide +kernel) (pa_cons (pv 2) (pa_cons (pe_glob (v := .ref C) (by rfl) B.mgF rfl) pa_nil))))) (pss_one ps_never) pss_nil)
      (pss_cons (ps_set (i := 3) scPut.nd rfl (Or.inl rfl) (pe_mkF T.maks hr (by decide) rfl pe_newD))
      (pss_cons (ps_for PassesOwn.never rfl (pi_reversed rfl hrev (pa_cons (pe_mt Pw hr (by decide) (pv 0) (pa_cons (pv 1) pa_nil)) pa_nil)) (pg_name (i := 4) scPut.nd rfl (Or.inl rfl))
        (pss_one (ps_set (i := 3) scPut.nd rfl (Or.inl rfl) (pe_op (op_own (op := .Add) oa Fa_ hr ba) (pe_op (op_own (op := .Mult) om Fm_ hr bm) (pv 3) (pv 2)) (pv 4)))))
      (pss_one (ps_ret (pv 3)))))), ?_⟩
    refine ⟨_, rfl, name, rfl, hlet, fun H1 S1 => ⟨true, rfl, iteF ?_⟩⟩
    dsimp only [tNext]
    have hb1 := hb.same S1
    have ha1 := ha.same S1
    obtain ⟨dxb, db, kvb, hb2, hb3, hb4⟩ := hb1
    refine ⟨_, rfl, b, dxb, _, rfl, hb2, true, rfl, iteF ?_⟩
    dsimp only [tNext]
    refine seq_asg (fun p np => fun c dxc H2 S2 nc hc => ?_)
    have S1p : Same H1 (upd H1 p (DfO P w p [])) := Same.upd np
    have f0 : FmAt P w K C H2 c [] := ⟨dxc, p, [], hc, S2 _ _ upd_same, .nil⟩
    have S02 := (S1.trans S1p).trans S2
    obtain ⟨dxa, da, kva, ha2, ha3, ha4⟩ := ha.same S02
    refine ⟨_, rfl, a, dxa, _, rfl, ha2, rfl, _, rfl, a, name, fm, rfl, ⟨dxa, da, kva, ha2, ha3, ha4⟩, hn, hl, hml, fun H3 D as S3 nD hD ln has => ?_⟩
    have S03 := S02.trans S3
    refine ⟨D, _, rfl, SqL.of hD, for_it (walk_rev (xs := as.map V.ref)) (fun i σ' H' => Same H3 H' ∧ ∃ t u, σ' = [some (.ref a), some (.str name), some (.ref b), some (.ref t), u] ∧ H t = none ∧ FmAt P w K C H' t (hornF o [] ((powF name fm).reverse.take i)))
      ⟨Same.refl _, c, none, rfl, (S1.trans S1p).free nc, f0.same S3⟩ (fun i σ' H' _ z => (SqL.of hD).same z.1) ?_ ?_⟩
    · rintro i x σ' H4 H5 hi ⟨S4, t, u, rfl, nt, ft⟩ ⟨rfl, hx⟩
      rw [List.length_map] at hi hx
      rw [List.getElem?_map] at hx
      obtain ⟨q, hq, rfl⟩ := Option.map_eq_some_iff.mp hx
      have hi2 : as.length - 1 - i < (powF name fm).length := by omega
      have hp := List.getElem?_eq_getElem hi2
      have hr2 : (powF name fm).reverse[i]? = some (powF name fm)[as.length - 1 - i] := by
        rw [List.getElem?_reverse (by omega), ← ln, hp]
      have fq := (has _ q _ hq hp).same S4
      obtain ⟨z1, z2⟩ := hz.at hr2
      have fb := (hb.same S03).same S4
      obtain ⟨dt, fst, dbb, fsb, o1, o2⟩ := own_refs ft fb
      refine ⟨_, rfl, _, rfl, t, b, dt, _, dbb, _, rfl, rfl, o1, o2, mul_refs ft fb z1 fun H6 e S6 ne fe => ?_⟩
      have fq6 := fq.same S6
      obtain ⟨de, fse, dq, fsq, o3, o4⟩ := own_refs fe fq6
      refine ⟨_, rfl, e, q, de, _, dq, _, rfl, rfl, o3, o4, add_refs fe fq6 z2 fun H7 g S7 ng fg => ⟨(S4.trans S6).trans S7, g, _, rfl, (((S03.trans S4).trans S6).free ng), ?_⟩⟩
      rw [hornF_snoc hr2]
      exact fg
    · rintro σ' H4 ⟨S4, t, u, rfl, nt, ft⟩
      rw [List.length_map, ln, ← List.length_reverse, List.take_length] at ft
      exact ⟨_, rfl, k H4 t (S03.trans S4) nt ft⟩
end
end E2

set_option Elab.async false
set_option linter.all false
set_option maxRecDepth 100000
set_option maxHeartbeats 1000000
/-! forms as polynomials: sums over terms, the ring -/
namespace L2
open PySem PySem.Spec PyProof.Rows
/-- the sum of the coefficients, each times what f says of its sorted letters -/
def pr (f : Mon → Rat) : Fm → Rat
  | [] => 0
  | x :: r => x.2 * f (sortT x.1) + pr f r
theorem pr_append (f : Mon → Rat) : ∀ (a b : Fm), pr f (a ++ b) = pr f a + pr f b
  | [], b => by show pr f b = 0 + pr f b; grind
  | x :: a, b => by
    show x.2 * _ + pr f (a ++ b) = x.2 * _ + pr f a + pr f b
    rw [pr_append f a b]
    grind
theorem pr_mapM (f : Mon → Rat) {p : Rat → Bool} (hp : ∀ q, p q = false → q = 0) : ∀ fm : Fm, pr f (mapM p id fm) = pr f fm
  | [] => rfl
  | x :: r => by
    have ih := pr_mapM f hp r
    unfold mapM at ih ⊢
    rw [List.filter_cons]
    by_cases c : p x.2 = true
    · rw [if_pos c]
      show x.2 * _ + pr f _ = x.2 * _ + pr f r
      rw [ih]
    · rw [if_neg c, ih]
      show pr f r = x.2 * _ + pr f r
      rw [hp x.2 (by simpa using c)]
      grind
theorem pr_scale (f : Mon → Rat) (c : Rat) : ∀ fm : Fm, pr f (mapM (fun _ => true) (fun q => q * c) fm) = pr f fm * c
  | [] => by show (0 : Rat) = 0 * c; grind
  | x :: r => by
    have ih := pr_scale f c r
    unfold mapM at ih ⊢
    rw [List.filter_cons, if_pos rfl]
    show x.2 * c * _ + pr f _ = (x.2 * _ + pr f r) * c
    rw [ih]
    grind
theorem pr_neg (f : Mon → Rat) : ∀ fm : Fm, pr f (mapM (fun _ => true) (fun q => -q) fm) = -pr f fm
  | [] => by show (0 : Rat) = -0; grind
  | x :: r => by
    have ih := pr_neg f r
    unfold mapM at ih ⊢
    rw [List.filter_cons, if_pos rfl]
    show -x.2 * _ + pr f _ = -(x.2 * _ + pr f r)
    rw [ih]
    grind
theorem pr_putM (f : Mon → Rat) (m : Mon) (c : Rat) : ∀ fm : Fm, (fm.map (·.1)).Nodup → pr f (putM fm m ((valM fm m).getD 0 + c)) = pr f fm + c * f (sortT m)
  | [], _ => by
    show (0 + c) * _ + 0 = 0 + c * _
    grind
  | x :: r, h => by
    rw [List.map_cons] at h
    obtain ⟨h1, h2⟩ := List.nodup_cons.mp h
    by_cases e : x.1 = m
    · rw [valM_hit e, putM_hit e (by rw [← e]; exact h1), Option.getD_some]
      show (x.2 + c) * _ + pr f r = x.2 * f (sortT x.1) + pr f r + c * _
      rw [e]
      grind
    · rw [valM_miss e, putM_miss e]
      show x.2 * _ + pr f _ = x.2 * _ + pr f r + c * _
      rw [pr_putM f m c r h2]
      grind
theorem pr_addTo (f : Mon → Rat) : ∀ (l acc : Fm), (acc.map (·.1)).Nodup → pr f (addTo acc l) = pr f acc + pr f l
  | [], acc, _ => by show pr f acc = pr f acc + 0; grind
  | x :: l, acc, h => by
    show pr f (addTo (add1 acc x) l) = pr f acc + (x.2 * _ + pr f l)
    rw [pr_addTo f l (add1 acc x) (nodup_putM _ _ _ h)]
    unfold add1
    rw [pr_putM f x.1 x.2 acc h]
    grind
theorem nzP : ∀ q : Rat, (!decide (q = 0)) = false → q = 0 := fun q h => by simpa using h
theorem pr_addF (f : Mon → Rat) {a b : Fm} (h : (a.map (·.1)).Nodup) : pr f (addF a b) = pr f a + pr f b := by
  unfold addF
  rw [pr_mapM f nzP, pr_addTo f b a h]
/-! sorted lists of letters: a commutative monoid -/
theorem sortT_sorted {l : List Str} (h : List.Pairwise (fun a b => leT a b = true) l) : sortT l = l :=
  (List.Perm.eq_of_pairwise (le := fun a b => leT a b = true) (fun _ _ _ _ => leT_anti) h (sortT_pw l) (sortT_perm l).symm).symm
theorem sortT_of_perm {l m : List Str} (h : l.Perm m) : sortT l = sortT m :=
  List.Perm.eq_of_pairwise (le := fun a b => leT a b = true) (fun _ _ _ _ => leT_anti) (sortT_pw l) (sortT_pw m) ((sortT_perm l).trans (h.trans (sortT_perm m).symm))
theorem sortT_idem (l : List Str) : sortT (sortT l) = sortT l := sortT_sorted (sortT_pw l)
theorem sortT_app (l m : List Str) : sortT (sortT l ++ sortT m) = sortT (l ++ m) := sortT_of_perm ((sortT_perm l).append (sortT_perm m))
/-- products, the letters sorted -/
theorem pr_row (f : Mon → Rat) (x : Mon × Rat) : ∀ b : Fm, pr f ((b.map fun y => (x, y)).map mulT) = x.2 * pr (fun n => f (sortT (x.1 ++ n))) b
  | [] => by show (0 : Rat) = _ * 0; grind
  | y :: b => by
    have ih := pr_row f x b
    rw [List.map_cons, List.map_cons]
    show x.2 * y.2 * f (sortT (sortT (x.1 ++ y.1))) + pr f _ = x.2 * (y.2 * f (sortT (x.1 ++ sortT y.1)) + pr _ b)
    rw [ih, sortT_idem, sortT_of_perm (List.Perm.append (List.Perm.refl x.1) (sortT_perm y.1))]
    grind
theorem pr_all (f : Mon → Rat) (b : Fm) : ∀ a : Fm, pr f ((allP a b).map mulT) = pr (fun m => pr (fun n => f (sortT (m ++ n))) b) a
  | [] => rfl
  | x :: a => by
    have ih := pr_all f b a
    unfold allP at ih ⊢
    rw [List.flatMap_cons, List.map_append, pr_append, ih, pr_row]
    show _ = x.2 * pr (fun n => f (sortT (sortT x.1 ++ n))) b + _
    have e : (fun n => f (sortT (sortT x.1 ++ n))) = fun n => f (sortT (x.1 ++ n)) := by
      funext n
      rw [sortT_of_perm (List.Perm.append (sortT_perm x.1) (List.Perm.refl n))]
    rw [e]
theorem pr_mulF (f : Mon → Rat) (a b : Fm) : pr f (mulF a b) = pr (fun m => pr (fun n => f (sortT (m ++ n))) b) a := by
  unfold mulF
  rw [pr_mapM f nzP, pr_addTo f _ [] List.nodup_nil, pr_all]
  show 0 + _ = _
  grind
theorem pr_congr {f g : Mon → Rat} (h : ∀ m, f (sortT m) = g (sortT m)) : ∀ a : Fm, pr f a = pr g a
  | [] => rfl
  | x :: a => by
    show x.2 * f (sortT x.1) + pr f a = x.2 * g (sortT x.1) + pr g a
    rw [h, pr_congr h a]
theorem pr_add (f g : Mon → Rat) : ∀ a : Fm, pr (fun m => f m + g m) a = pr f a + pr g a
  | [] => by show (0 : Rat) = 0 + 0; grind
  | x :: a => by
    have ih := pr_add f g a
    show x.2 * (f _ + g _) + pr _ a = x.2 * f _ + pr f a + (x.2 * g _ + pr g a)
    rw [ih]
    grind
theorem pr_mulc (c : Rat) (f : Mon → Rat) : ∀ a : Fm, pr (fun m => c * f m) a = c * pr f a
  | [] => by show (0 : Rat) = c * 0; grind
  | x :: a => by
    have ih := pr_mulc c f a
    show x.2 * (c * f _) + pr _ a = c * (x.2 * f _ + pr f a)
    rw [ih]
    grind
theorem pr_zero (f : Mon → Rat) (h : ∀ m, f m = 0) : ∀ a : Fm, pr f a = 0
  | [] => rfl
  | x :: a => by
    show x.2 * f _ + pr f a = 0
    rw [h, pr_zero f h a]
    grind
theorem pr_swap (F : Mon → Mon → Rat) (b : Fm) : ∀ a : Fm, pr (fun m => pr (fun n => F m n) b) a = pr (fun n => pr (fun m => F m n) a) b
  | [] => by
    show 0 = pr (fun _ => (0 : Rat)) b
    rw [pr_zero _ (fun _ => rfl)]
  | x :: a => by
    have ih := pr_swap F b a
    show x.2 * pr (fun n => F (sortT x.1) n) b + pr _ a = pr (fun n => x.2 * F (sortT x.1) n + pr (fun m => F m n) a) b
    rw [pr_add, pr_mulc, ih]
/-- the same polynomial -/
def Peq (a b : Fm) : Prop := ∀ f, pr f a = pr f b
theorem Peq.refl (a : Fm) : Peq a a := fun _ => rfl
theorem Peq.symm {a b : Fm} (h : Peq a b) : Peq b a := fun f => (h f).symm
theorem Peq.trans {a b c : Fm} (h : Peq a b) (k : Peq b c) : Peq a c := fun f => (h f).trans (k f)
instance polS : Setoid Fm := ⟨Peq, Peq.refl, Peq.symm, Peq.trans⟩
def Pol : Type := Quotient polS
def mulL (a b : Fm) : Fm := (allP a b).map mulT
def sclL (c : Rat) (a : Fm) : Fm := a.map fun x => (x.1, c * x.2)
theorem pr_sclL (c : Rat) (f : Mon → Rat) : ∀ a : Fm, pr f (sclL c a) = c * pr f a
  | [] => by show (0 : Rat) = c * 0; grind
  | x :: a => by
    have ih := pr_sclL c f a
    show c * x.2 * f _ + pr f (sclL c a) = c * (x.2 * f _ + pr f a)
    rw [ih]
    grind
theorem peq_app {a a' b b' : Fm} (h : Peq a a') (k : Peq b b') : Peq (a ++ b) (a' ++ b') := fun f => by rw [pr_append, pr_append, h f, k f]
theorem peq_mul {a a' b b' : Fm} (h : Peq a a') (k : Peq b b') : Peq (mulL a b) (mulL a' b') := fun f => by
  unfold mulL
  rw [pr_all, pr_all, h]
  exact pr_congr (fun m => k _) a'
theorem peq_scl {a a' : Fm} (c : Rat) (h : Peq a a') : Peq (sclL c a) (sclL c a') := fun f => by rw [pr_sclL, pr_sclL, h f]
theorem mulL_comm (a b : Fm) : Peq (mulL a b) (mulL b a) := fun f => by
  unfold mulL
  rw [pr_all, pr_all, pr_swap]
  refine pr_congr (fun m => ?_) b
  refine pr_congr (fun n => ?_) a
  rw [sortT_of_perm List.perm_append_comm]
theorem mulL_assoc (a b c : Fm) : Peq (mulL (mulL a b) c) (mulL a (mulL b c)) := fun f => by
  show pr f ((allP ((allP a b).map mulT) c).map mulT) = pr f ((allP a ((allP b c).map mulT)).map mulT)
  rw [pr_all, pr_all, pr_all]
  refine pr_congr (fun m => ?_) a
  rw [pr_all]
  refine pr_congr (fun n => ?_) b
  refine pr_congr (fun k => ?_) c
  rw [sortT_of_perm (List.Perm.append (sortT_perm _) (List.Perm.refl _)), sortT_of_perm (List.Perm.append (List.Perm.refl (sortT m)) (sortT_perm _)), List.append_assoc]
theorem mulL_add (a b c : Fm) : Peq (mulL a (b ++ c)) (mulL a b ++ mulL a c) := fun f => by
  rw [pr_append]
  unfold mulL
  rw [pr_all, pr_all, pr_all, ← pr_add]
  exact pr_congr (fun m => pr_append _ _ _) a
theorem mulL_one (a : Fm) : Peq (mulL a [([], 1)]) a := fun f => by
  unfold mulL
  rw [pr_all]
  refine pr_congr (fun m => ?_) a
  show 1 * f (sortT (sortT m ++ [])) + 0 = f (sortT m)
  rw [List.append_nil, sortT_idem]
  grind
end L2

set_option Elab.async false
set_option linter.all false
set_option maxRecDepth 100000
set_option maxHeartbeats 1000000
/-! the ring of polynomials; forms as its elements; == -/
namespace L2
open PySem PySem.Spec PyProof.Rows
def pol (a : Fm) : Pol := Quotient.mk polS a
theorem pol_eq {a b : Fm} (h : Peq a b) : pol a = pol b := Quotient.sound h
theorem pol_peq {a b : Fm} (h : pol a = pol b) : Peq a b := Quotient.exact h
def cst (q : Rat) : Pol := pol [([], q)]
theorem pr_one (f : Mon → Rat) (m : Mon) (q : Rat) : pr f [(m, q)] = q * f (sortT m) := by
  show q * f (sortT m) + 0 = _
  grind
theorem sortT_nil : sortT ([] : List Str) = [] := rfl
theorem mulL_cst (q : Rat) (a : Fm) : Peq (mulL [([], q)] a) (sclL q a) := fun f => by
  unfold mulL
  rw [pr_all, pr_sclL, pr_one]
  congr 1
  refine pr_congr (fun m => ?_) a
  rw [sortT_nil, List.nil_append, sortT_idem]
instance : Add Pol := ⟨Quotient.lift₂ (fun a b => pol (a ++ b)) fun _ _ _ _ h k => pol_eq (peq_app h k)⟩
instance : Mul Pol := ⟨Quotient.lift₂ (fun a b => pol (mulL a b)) fun _ _ _ _ h k => pol_eq (peq_mul h k)⟩
instance : Neg Pol := ⟨Quotient.lift (fun a => pol (sclL (-1) a)) fun _ _ h => pol_eq (peq_scl (-1) h)⟩
instance : Sub Pol := ⟨fun a b => a + -b⟩
instance : NatCast Pol := ⟨fun n => cst (n : Rat)⟩
instance : IntCast Pol := ⟨fun n => cst (n : Rat)⟩
instance (n : Nat) : OfNat Pol n := ⟨cst (n : Rat)⟩
instance : SMul Nat Pol := ⟨fun n a => cst (n : Rat) * a⟩
instance : SMul Int Pol := ⟨fun n a => cst (n : Rat) * a⟩
def powP (a : Pol) : Nat → Pol
  | 0 => cst 1
  | n + 1 => powP a n * a
instance : HPow Pol Nat Pol := ⟨powP⟩
theorem pol_app (a b : Fm) : pol (a ++ b) = pol a + pol b := rfl
theorem pol_mulL (a b : Fm) : pol (mulL a b) = pol a * pol b := rfl
theorem pol_scl (q : Rat) (a : Fm) : pol (sclL q a) = cst q * pol a := (pol_eq (mulL_cst q a)).symm
theorem pol_neg1 (a : Fm) : -pol a = cst (-1) * pol a := pol_scl (-1) a
theorem cst_add (p q : Rat) : cst (p + q) = cst p + cst q := pol_eq fun f => by
  rw [pr_append, pr_one, pr_one, pr_one]
  grind
theorem cst_mul (p q : Rat) : cst (p * q) = cst p * cst q := pol_eq fun f => by
  show pr f _ = pr f ((allP _ _).map mulT)
  rw [pr_all, pr_one, pr_one, pr_one]
  rw [sortT_nil, List.nil_append, sortT_nil]
  grind
theorem cst_zero : cst 0 = pol [] := pol_eq fun f => by
  rw [pr_one]
  show 0 * _ = (0 : Rat)
  grind
theorem neg_cst (q : Rat) : -cst q = cst (-q) := by
  show -pol _ = _
  rw [pol_neg1]
  show cst (-1) * cst q = _
  rw [← cst_mul]
  congr 1
  grind
theorem zero_def : (0 : Pol) = cst 0 := rfl
theorem one_def : (1 : Pol) = cst 1 := rfl
theorem padd_comm (a b : Pol) : a + b = b + a := Quotient.inductionOn₂ a b fun a b => pol_eq fun f => by
  rw [pr_append, pr_append]
  grind
theorem padd_assoc (a b c : Pol) : a + b + c = a + (b + c) := Quotient.inductionOn₃ a b c fun a b c => by
  show pol (a ++ b ++ c) = pol (a ++ (b ++ c))
  rw [List.append_assoc]
theorem padd_zero (a : Pol) : a + 0 = a := Quotient.inductionOn a fun a => by
  show pol a + cst 0 = pol a
  rw [cst_zero, ← pol_app, List.append_nil]
theorem pmul_comm (a b : Pol) : a * b = b * a := Quotient.inductionOn₂ a b fun a b => pol_eq (mulL_comm a b)
theorem pmul_assoc (a b c : Pol) : a * b * c = a * (b * c) := Quotient.inductionOn₃ a b c fun a b c => pol_eq (mulL_assoc a b c)
theorem pmul_one (a : Pol) : a * 1 = a := Quotient.inductionOn a fun a => pol_eq (mulL_one a)
theorem pdistrib (a b c : Pol) : a * (b + c) = a * b + a * c := Quotient.inductionOn₃ a b c fun a b c => pol_eq (mulL_add a b c)
theorem pmul_zero (a : Pol) : a * 0 = 0 := by
  rw [pmul_comm]
  refine Quotient.inductionOn a fun a => ?_
  show cst 0 * pol a = cst 0
  rw [cst_zero]
  rfl
instance : Lean.Grind.CommRing Pol where
  add_zero := padd_zero
  add_comm := padd_comm
  add_assoc := padd_assoc
  mul_assoc := pmul_assoc
  mul_comm := pmul_comm
  mul_one := pmul_one
  one_mul a := by rw [pmul_comm, pmul_one]
  left_distrib := pdistrib
  right_distrib a b c := by rw [pmul_comm, pdistrib, pmul_comm c, pmul_comm c]
  zero_mul a := by rw [pmul_comm, pmul_zero]
  mul_zero := pmul_zero
  pow_zero _ := rfl
  pow_succ _ _ := rfl
  ofNat_succ n := by
    show cst ((n + 1 : Nat) : Rat) = cst (n : Rat) + cst 1
    rw [← cst_add, Rat.natCast_add]
    rfl
  neg_add_cancel a := by
    refine Quotient.inductionOn a fun a => ?_
    show -pol a + pol a = cst 0
    rw [cst_zero]
    refine pol_eq fun f => ?_
    show pr f (sclL (-1) a ++ a) = 0
    rw [pr_append, pr_sclL]
    grind
  sub_eq_add_neg _ _ := rfl
  neg_zsmul i a := by
    show cst ((-i : Int) : Rat) * a = -(cst (i : Rat) * a)
    rw [Rat.intCast_neg]
    refine Quotient.inductionOn a fun a => ?_
    show cst (-(i : Rat)) * pol a = -(cst (i : Rat) * pol a)
    rw [← pol_scl, ← pol_scl]
    refine pol_eq fun f => ?_
    show _ = pr f (sclL (-1) (sclL _ a))
    rw [pr_sclL, pr_sclL, pr_sclL]
    grind
  zsmul_natCast_eq_nsmul n a := by
    show cst (((n : Int)) : Rat) * a = cst (n : Rat) * a
    rw [Rat.intCast_natCast]
  intCast_ofNat n := by
    show cst ((((OfNat.ofNat n : Nat) : Int)) : Rat) = cst (n : Rat)
    rfl
  intCast_neg i := by
    show cst ((-i : Int) : Rat) = -cst (i : Rat)
    rw [neg_cst, Rat.intCast_neg]
example (a b : Pol) : (a - b) * (a + b) = a * a - b * b := by grind
/-- the forms' operations -/
theorem pol_addF {a b : Fm} (h : (a.map (·.1)).Nodup) : pol (addF a b) = pol a + pol b := pol_eq fun f => by rw [pr_addF f h, pr_append]
theorem pol_mulF (a b : Fm) : pol (mulF a b) = pol a * pol b := pol_eq fun f => by
  show _ = pr f (mulL a b)
  rw [pr_mulF]
  unfold mulL
  rw [pr_all]
theorem pol_negM (a : Fm) : pol (mapM (fun _ => true) (fun q => -q) a) = -pol a := pol_eq fun f => by
  show _ = pr f (sclL (-1) a)
  rw [pr_neg, pr_sclL]
  grind
theorem pol_scale (c : Rat) (a : Fm) : pol (mapM (fun _ => true) (fun q => q * c) a) = cst c * pol a := by
  rw [← pol_scl]
  refine pol_eq fun f => ?_
  rw [pr_scale, pr_sclL]
  grind
end L2

set_option Elab.async false
set_option linter.all false
set_option maxRecDepth 100000
set_option maxHeartbeats 1000000
/-! two forms are equal dicts exactly if they are the same polynomial -/
namespace L2
open PySem PySem.Spec PyProof.Rows
structure Canon (a : Fm) : Prop where
  nd : (a.map (·.1)).Nodup
  so : ∀ x ∈ a, sortT x.1 = x.1
  nz : ∀ x ∈ a, x.2 ≠ 0
def dlt (m : Mon) : Mon → Rat := fun k => if k = m then 1 else 0
theorem valM_nil (m : Mon) : valM [] m = none := rfl
theorem valM_none {a : Fm} {m : Mon} (h : m ∉ a.map (·.1)) : valM a m = none := by
  induction a with
  | nil => rfl
  | cons x r ih =>
    rw [List.map_cons] at h
    rw [valM_miss fun e => h (List.mem_cons.mpr (.inl e.symm)), ih fun z => h (List.mem_cons.mpr (.inr z))]
theorem valM_of_mem : ∀ {a : Fm}, (a.map (·.1)).Nodup → ∀ x ∈ a, valM a x.1 = some x.2
  | [], _, x, h => absurd h List.not_mem_nil
  | y :: r, hn, x, h => by
    rw [List.map_cons] at hn
    obtain ⟨h1, h2⟩ := List.nodup_cons.mp hn
    rcases List.mem_cons.mp h with rfl | h
    · exact valM_hit rfl
    · rw [valM_miss fun e => h1 (by rw [e]; exact List.mem_map.mpr ⟨x, h, rfl⟩), valM_of_mem h2 x h]
theorem pr_dlt (m : Mon) : ∀ a : Fm, (a.map (·.1)).Nodup → (∀ x ∈ a, sortT x.1 = x.1) → pr (dlt m) a = (valM a m).getD 0
  | [], _, _ => rfl
  | x :: r, hn, so => by
    rw [List.map_cons] at hn
    obtain ⟨h1, h2⟩ := List.nodup_cons.mp hn
    have ih := pr_dlt m r h2 fun y hy => so y (List.mem_cons.mpr (.inr hy))
    show x.2 * dlt m (sortT x.1) + pr (dlt m) r = _
    rw [so x List.mem_cons_self, ih]
    unfold dlt
    by_cases e : x.1 = m
    · rw [valM_hit e, if_pos e, valM_none (by rw [← e]; exact h1)]
      show x.2 * 1 + 0 = x.2
      grind
    · rw [valM_miss e, if_neg e]
      grind
theorem valM_nz {a : Fm} (c : Canon a) (m : Mon) : (valM a m = none ∧ m ∉ a.map (·.1)) ∨ ∃ q, valM a m = some q ∧ q ≠ 0 ∧ m ∈ a.map (·.1) := by
  by_cases h : m ∈ a.map (·.1)
  · obtain ⟨x, hx, rfl⟩ := List.mem_map.mp h
    exact .inr ⟨x.2, valM_of_mem c.nd x hx, c.nz x hx, h⟩
  · exact .inl ⟨valM_none h, h⟩
theorem valM_same {a b : Fm} (ca : Canon a) (cb : Canon b) (h : pol a = pol b) (m : Mon) : valM a m = valM b m := by
  have e := pol_peq h (dlt m)
  rw [pr_dlt m a ca.nd ca.so, pr_dlt m b cb.nd cb.so] at e
  rcases valM_nz ca m with ⟨h1, _⟩ | ⟨p, h1, n1, _⟩ <;> rcases valM_nz cb m with ⟨h2, _⟩ | ⟨q, h2, n2, _⟩
  · rw [h1, h2]
  · rw [h1, h2] at e
    exact absurd e.symm n2
  · rw [h1, h2] at e
    exact absurd e n1
  · rw [h1, h2] at e
    rw [h1, h2]
    exact congrArg some e
theorem eqFm_of_pol {a b : Fm} (ca : Canon a) (cb : Canon b) (h : pol a = pol b) : eqFm a b = true := by
  have hv := valM_same ca cb h
  have hp : (a.map (·.1)).Perm (b.map (·.1)) := (List.perm_ext_iff_of_nodup ca.nd cb.nd).mpr fun m => by
    rcases valM_nz ca m with ⟨h1, n1⟩ | ⟨p, h1, _, m1⟩ <;> rcases valM_nz cb m with ⟨h2, n2⟩ | ⟨q, h2, _, m2⟩
    · exact ⟨fun z => absurd z n1, fun z => absurd z n2⟩
    · rw [hv m, h2] at h1; cases h1
    · rw [hv m, h2] at h1; cases h1
    · exact ⟨fun _ => m2, fun _ => m1⟩
  unfold eqFm
  rw [Bool.and_eq_true]
  refine ⟨?_, List.all_eq_true.mpr fun x _ => decide_eq_true (hv x.1).symm⟩
  have := hp.length_eq
  rw [List.length_map, List.length_map] at this
  rw [this]
  exact beq_self_eq_true _
theorem perm_of_sub {α : Type} [DecidableEq α] : ∀ {a b : List α}, a.Nodup → (∀ x ∈ a, x ∈ b) → b.length ≤ a.length → a.Perm b
  | [], b, _, _, hl => by
    have : b = [] := List.length_eq_zero_iff.mp (Nat.le_zero.mp hl)
    rw [this]
  | x :: a, b, hn, hs, hl => by
    obtain ⟨h1, h2⟩ := List.nodup_cons.mp hn
    have hx := hs x List.mem_cons_self
    have p := List.perm_cons_erase hx
    refine ((perm_of_sub (b := b.erase x) h2 (fun y hy => ?_) ?_).cons x).trans p.symm
    · exact (List.mem_erase_of_ne (a := y) (b := x) (fun e => h1 (by rw [← e]; exact hy))).mpr (hs y (List.mem_cons.mpr (.inr hy)))
    · have := p.length_eq
      rw [List.length_cons] at this hl
      omega
theorem nodup_of_keys : ∀ {a : Fm}, (a.map (·.1)).Nodup → a.Nodup
  | [], _ => List.nodup_nil
  | x :: r, h => by
    rw [List.map_cons] at h
    obtain ⟨h1, h2⟩ := List.nodup_cons.mp h
    exact List.nodup_cons.mpr ⟨fun z => h1 (List.mem_map.mpr ⟨x, z, rfl⟩), nodup_of_keys h2⟩
theorem pr_perm {a b : Fm} (h : a.Perm b) (f : Mon → Rat) : pr f a = pr f b := by
  induction h with
  | nil => rfl
  | cons x _ ih => show x.2 * _ + _ = x.2 * _ + _; rw [ih]
  | swap x y l => show y.2 * _ + (x.2 * _ + _) = x.2 * _ + (y.2 * _ + _); grind
  | trans _ _ h1 h2 => rw [h1, h2]
theorem pol_of_eqFm {a b : Fm} (ca : Canon a) (cb : Canon b) (h : eqFm a b = true) : pol a = pol b := by
  unfold eqFm at h
  rw [Bool.and_eq_true] at h
  obtain ⟨hl, ha⟩ := h
  have hl : a.length = b.length := by simpa using hl
  have hm : ∀ x ∈ a, x ∈ b := fun x hx => by
    have e : valM b x.1 = valM a x.1 := of_decide_eq_true (List.all_eq_true.mp ha x hx)
    rw [valM_of_mem ca.nd x hx] at e
    exact mem_valM e
  exact pol_eq (pr_perm (perm_of_sub (nodup_of_keys ca.nd) hm (Nat.le_of_eq hl.symm)))
theorem eqFm_iff {a b : Fm} (ca : Canon a) (cb : Canon b) : eqFm a b = true ↔ pol a = pol b := ⟨pol_of_eqFm ca cb, eqFm_of_pol ca cb⟩
/-- sums and products are canonical -/
theorem mem_addTo : ∀ (l acc : Fm) (n : Mon), n ∈ (addTo acc l).map (·.1) → n ∈ acc.map (·.1) ∨ n ∈ l.map (·.1) := keys_addTo
theorem canon_nz {l : Fm} (nd : (l.map (·.1)).Nodup) (so : ∀ n ∈ l.map (·.1), sortT n = n) : Canon (mapM (fun q => !decide (q = 0)) id l) := by
  refine ⟨mapM_nodup nd, fun x hx => ?_, fun x hx => ?_⟩
  · exact so _ (mapM_keys (List.mem_map.mpr ⟨x, hx, rfl⟩))
  · unfold mapM at hx
    obtain ⟨y, hy, rfl⟩ := List.mem_map.mp hx
    have := (List.mem_filter.mp hy).2
    simpa using this
theorem canon_addF {a b : Fm} (ca : Canon a) (cb : Canon b) : Canon (addF a b) := by
  refine canon_nz (nodup_addTo b a ca.nd) fun n hn => ?_
  rcases keys_addTo b a n hn with h | h
  · obtain ⟨x, hx, rfl⟩ := List.mem_map.mp h
    exact ca.so x hx
  · obtain ⟨x, hx, rfl⟩ := List.mem_map.mp h
    exact cb.so x hx
theorem canon_mulF (a b : Fm) : Canon (mulF a b) := by
  refine canon_nz (nodup_addTo _ [] List.nodup_nil) fun n hn => ?_
  rcases keys_addTo _ [] n hn with h | h
  · cases h
  · rw [List.map_map] at h
    obtain ⟨x, _, rfl⟩ := List.mem_map.mp h
    exact sortT_idem _
theorem canon_scale {c : Rat} (hc : c ≠ 0) {a : Fm} (ca : Canon a) : Canon (mapM (fun _ => true) (fun q => q * c) a) := by
  refine ⟨mapM_nodup ca.nd, fun x hx => ?_, fun x hx => ?_⟩
  · obtain ⟨y, hy, e⟩ := List.mem_map.mp (mapM_keys (List.mem_map.mpr ⟨x, hx, rfl⟩))
    rw [← e]
    exact ca.so y hy
  · unfold mapM at hx
    obtain ⟨y, hy, rfl⟩ := List.mem_map.mp hx
    have h := ca.nz y (List.mem_filter.mp hy).1
    intro z
    rcases Rat.mul_eq_zero.mp z with z | z
    · exact h z
    · exact hc z
theorem canon_neg {a : Fm} (ca : Canon a) : Canon (mapM (fun _ => true) (fun q => -q) a) := by
  refine ⟨mapM_nodup ca.nd, fun x hx => ?_, fun x hx => ?_⟩
  · obtain ⟨y, hy, e⟩ := List.mem_map.mp (mapM_keys (List.mem_map.mpr ⟨x, hx, rfl⟩))
    rw [← e]
    exact ca.so y hy
  · unfold mapM at hx
    obtain ⟨y, hy, rfl⟩ := List.mem_map.mp hx
    have h := ca.nz y (List.mem_filter.mp hy).1
    intro z
    exact h (by have : -(-y.2) = 0 := by rw [show -y.2 = 0 from z]; rfl
                rwa [Rat.neg_neg] at this)
end L2

set_option Elab.async false
set_option linter.all false
set_option maxRecDepth 100000
set_option maxHeartbeats 1000000
/-! is_values, product_at -/
namespace E2
open PySem PySem.Spec PyProof.Rows L2
open C8 (Cal Mak Met InsC pe_c pe_mt pe_mt0 call_isC clsBody)
/-- a dict of letters and whole numbers -/
def ValsOk (kvs : List (Key × V)) : Prop := ∀ kv ∈ kvs, ∃ (z : Str) (n : Int), kv = (Sum.inr z, V.int n) ∧ LetOk z
def spIsVals (P : Program) (w : World) (K : PySem.W.Frag) : Sp := fun vs H Q _ => ∃ (d l : Addr) (kvs : List (Key × V)) (xs : List Str), vs = [.ref d, .ref l] ∧ H d = some (.dK kvs) ∧ ValsOk kvs ∧ kvs.length ≤ 1000 ∧ SqL K H l (xs.map V.str) ∧ xs.length ≤ 1000 ∧ (∀ x ∈ xs, (valV kvs (Sum.inr x)).isSome = true) ∧ ∀ H', Same H H' → Q (.bl true) H'
theorem all_true (n : Nat) : (List.replicate n true).all id = true := by simp
theorem dk_back {H H' : Hp} {d : Addr} {u z : HO} (hd : H d = some u) (S : Same (upd H d z) H') : Same H (upd H' d u) := same_back hd S
section
variable {P : Program} {w : World} {K : PySem.W.Frag} {mg : Str → Option Value} {base : Heap} {C : Addr}
theorem kit_dd : PySem.W.kitOne K (.type "dict") (.type "dict") = some true := by kernel_rfl
theorem scIsVals : FnScope ["values", "names", "name", "value"] ["values", "names"] (defScope sIsValues) := ⟨rfl, rfl, rfl, by decide +kernel, rfl, by decide +kernel, by decide +kernel⟩
theorem ok_isVals {f : Addr} {fd : FuncData} (F : Fun K "is_values" "is_values" sIsValues f fd) (B : Bt K mg C) (B2 : Bt2 mg) (hdict : mg "dict" = none) (L : Cal P w K mg base 1 "is_letter" spIsLet []) (Wh : Cal P w K mg base 1 "is_whole" (spWhole C) []) : FnOk P w K mg base CX0 2 f fd ["values", "names"] (spIsVals P w K) := by
  refine F.ok scIsVals (fun vs H Q E h => ?_) (fun cdv A outer s H vs Q E hr h => ?_)
  · obtain ⟨d, l, kvs, xs, rfl, _⟩ := h
    rfl
  · obtain ⟨d, l, kvs, xs, rfl, hd, hv, hk, hl, hx, hin, k⟩ := h
    have u1 := Nat.lt_of_le_of_lt (Nat.add_le_add_left (by decide : 1 ≤ 64) _) hr.units
    refine ⟨_, pss_cons (ps_if (pt_not (pt_val (pe_callB call_isi (by rfl) B.isi (by decide +kernel) (pa_cons (pv 0) (pa_cons (pe_bltn (v := .ty "dict") (by rfl) hdict (by decide +kernel) rfl) pa_nil))))) (pss_one (ps_ret pe_bl)) pss_nil)
      (pss_cons (ps_if (pt_not (pt_val (pe_callB (cr_all rfl) (by rfl) B2.all_ (by decide +kernel) (pa_cons (pe_lock (pe_lc (own := [("name", 2), ("value", 3)]) (g := gTup K 2 (gCons (gName 2) (gCons (gName 3) gNil))) (tt := tYes) (te := tAndV (tCall spIsLet [] E0 (tCons (tVar 2) tNil)) (tCall (spWhole C) [] E0 (tCons (tVar 3) tNil))) rfl scIsVals.nd (pi_items (pv 0))
          (blkOk_by (own := [("name", 2), ("value", 3)]) (N := ["values", "names", "name", "value"]) (sc := defScope sIsValues) (by decide +kernel))
          (fun _ _ _ _ _ => pg_tup rfl (pgs_cons (pg_name (i := 2) scIsVals.nd rfl (Or.inl rfl)) (pgs_cons (pg_name (i := 3) scIsVals.nd rfl (Or.inl rfl)) pgs_nil))) (fun _ _ _ _ _ => pts_nil)
          (fun _ _ _ _ _ => by exact pe_and (pe_c L hr (by decide) rfl (pa_cons (pv 2) pa_nil)) (pe_one (pe_c Wh hr (by decide) rfl (pa_cons (pv 3) pa_nil)))))) pa_nil)))) (pss_one (ps_ret pe_bl)) pss_nil)
      (pss_one (ps_ret (pe_callB (cr_all rfl) (by rfl) B2.all_ (by decide +kernel) (pa_cons (pe_lc (own := [("name", 2)]) (g := gName 2) (tt := tYes) (te := tDIn (tVar 2) (tVar 0)) rfl scIsVals.nd (pi_list (pv 1))
          (blkOk_by (own := [("name", 2)]) (N := ["values", "names", "name", "value"]) (sc := defScope sIsValues) (by decide +kernel))
          (fun _ _ _ _ _ => pg_name (i := 2) scIsVals.nd rfl (Or.inl rfl)) (fun _ _ _ _ _ => pts_nil) (fun _ _ _ _ _ => by exact pe_cmp (pc_din u1 (pv 2) (pv 0)))) pa_nil))))), ?_⟩
    refine ⟨_, rfl, _, _, _, _, true, rfl, .ty "dict", .base (.dK hd), kit_dd, true, rfl, iteF ?_⟩
    have sz : ∀ n : Nat, n ≤ 1000 → n < sizeLine := fun n h => by rw [sizeLine_eq]; omega
    -- the rest, with any heap that has grown
    have rest : ∀ H1, Same H H1 → ∀ σ : L2.St, σ = [some (.ref d), some (.ref l), none, none] → ∀ D, H1 D = none → ∃ W : Nat → Nat → Hp → Prop, (∃ m, W 0 m (upd H1 D (.lst []))) ∧ ∀ i m H, W i m H → ((Itl K l).stop i H ∧ rAll K [.ref D] H Q) ∨ ((Itl K l).go i H ∧ ∃ Nx : Hp → Prop, (∀ H', Nx H' → ∃ m', m' < m ∧ W (i + 1) m' H') ∧ ∀ x H', (Itl K l).yld i H x H' → gName 2 x (wipe σ [2]) H' fun σ2 H2 => wipe σ2 [2] = wipe σ [2] ∧ tYes σ2 H2 fun b H3 =>
        if b = true then tDIn (tVar 2) (tVar 0) σ2 H3 fun y H4 => ∃ acc, H4 D = some (.lst acc) ∧ acc.length < sizeLine ∧ Nx (upd H4 D (.lst (acc ++ [y]))) else Nx H3) := by
      rintro H1 S1 σ rfl D nD
      refine lc_it walk_list (fun i H' => Same H1 H' ∧ H' D = some (.lst (List.replicate i (V.bl true)))) ⟨Same.upd nD, upd_same⟩ (fun i H' _ q => (hl.same S1).same q.1) ?_ ?_
      · rintro i x H2 H3 hi ⟨S, hD⟩ ⟨rfl, hx2⟩
        rw [List.length_map] at hi
        obtain ⟨z, hz, rfl⟩ : ∃ z, xs[i]? = some z ∧ x = V.str z := by
          rw [List.getElem?_map] at hx2
          obtain ⟨z, hz, e⟩ := Option.map_eq_some_iff.mp hx2
          exact ⟨z, hz, e.symm⟩
        have hs := hin z (List.mem_of_getElem? hz)
        refine ⟨rfl, iteT (B := False) ⟨_, rfl, _, rfl, d, valV kvs (Sum.inr z), rfl, DGet.k (k := Sum.inr z) (S _ _ (S1 _ _ hd)), _, hD, ?_, ?_, ?_⟩⟩
        · rw [List.length_replicate]
          exact sz _ (by omega)
        · intro b o hb
          rw [upd_ne (ne_of_none hb nD)]
          exact S _ _ hb
        · rw [upd_same, hs, List.replicate_succ']
      · rintro H2 ⟨S, hD⟩
        refine ⟨D, List.replicate xs.length true, rfl, SqL.of ?_, ?_⟩
        · rw [List.map_replicate]
          rw [List.length_map] at hD
          exact hD
        · rw [all_true]
          exact k H2 (S1.trans S)
    refine ⟨d, .dK kvs, hd, trivial, fun od => ⟨_, rfl, d, od, kvs, rfl, upd_same, fun D nD => ?_⟩⟩
    have h1 : (upd H d (.frz od (.dK kvs))) d = some (.frz od (.dK kvs)) := upd_same
    have neD : D ≠ d := by rintro rfl; rw [upd_same] at nD; cases nD
    have back : ∀ H2, Same (upd H d (.frz od (.dK kvs))) H2 → Same H (upd H2 d (.dK kvs)) := fun H2 S => same_back hd S
    generalize upd H d (.frz od (.dK kvs)) = H1 at h1 nD back ⊢
    refine lc_it walk_items (fun i H' => Same H1 H' ∧ H' D = some (.lst (List.replicate i (V.bl true)))) ⟨Same.upd nD, upd_same⟩ (fun i H' _ q => q.1 _ _ h1) ?_ ?_
    · rintro i x H2 H3 hi ⟨S, hD⟩ ⟨T, x1, y1, rfl, nT, rfl, e1, e2⟩
      obtain ⟨kv, hkv⟩ : ∃ kv, kvs[i]? = some kv := ⟨kvs[i], List.getElem?_eq_getElem hi⟩
      obtain ⟨z, n, rfl, hz⟩ := hv kv (List.mem_of_getElem? hkv)
      replace e1 : (kvs[i]?.map fun kv => kV kv.1) = some x1 := e1
      replace e2 : kvs[i]?.map Prod.snd = some y1 := e2
      rw [hkv] at e1 e2
      obtain rfl : V.str z = x1 := Option.some.inj e1
      obtain rfl : V.int n = y1 := Option.some.inj e2
      have S2 : Same H2 (upd H2 T (.tup [.str z, .int n])) := Same.upd nT
      refine ⟨T, _, rfl, SqT.of upd_same, rfl, _, _, rfl, _, _, rfl, rfl, rfl, iteT (B := False) ?_⟩
      refine ⟨_, rfl, z, rfl, hz, fun H4 S4 => ⟨true, rfl, iteT (B := False) ⟨_, rfl, _, rfl, .inl ⟨n, rfl, _, S4 _ _ (S2 _ _ hD), ?_, ?_, ?_⟩⟩⟩⟩
      · rw [List.length_replicate]
        exact sz _ (by omega)
      · intro b o hb
        rw [upd_ne (ne_of_none hb nD)]
        exact S4 _ _ (S2 _ _ (S _ _ hb))
      · rw [upd_same, List.replicate_succ']
    · rintro H2 ⟨S, hD⟩
      refine ⟨S _ _ h1, D, List.replicate kvs.length true, rfl, SqL.of ?_, true, by rw [all_true], iteF ?_⟩
      · rw [upd_ne neD, List.map_replicate]
        exact hD
      · exact ⟨_, rfl, l, rfl, ⟨_, hl.same (back H2 S)⟩, fun D2 nD2 => rest _ (back H2 S) _ rfl D2 nD2⟩
def spProd (P : Program) (w : World) (K : PySem.W.Frag) : Sp := fun vs H Q _ => ∃ (t d : Addr) (m : List Str) (kvs : List (Key × V)) (g : Str → Int), vs = [.ref t, .ref d] ∧ SqT K H t (m.map V.str) ∧ H d = some (.dK kvs) ∧ (∀ x ∈ m, valV kvs (Sum.inr x) = some (.int (g x))) ∧ m.length ≤ 1000 ∧ (∀ x ∈ m, (g x).natAbs < 2 ^ 400) ∧ Q (.int (prodI (m.map g))) H
theorem scProd : FnScope ["names", "values", "found", "name"] ["names", "values"] (defScope sProductAt) := ⟨rfl, rfl, rfl, by decide +kernel, rfl, by decide +kernel, by decide +kernel⟩
theorem prod_lt (g : Str → Int) : ∀ l : List Str, (∀ x ∈ l, (g x).natAbs < 2 ^ 400) → (prodI (l.map g)).natAbs < 2 ^ (1 + l.length * 400)
  | [], _ => by show (1 : Int).natAbs < 2 ^ (1 + 0 * 400); decide
  | x :: l, h => by
    have ih := prod_lt g l fun y hy => h y (List.mem_cons.mpr (.inr hy))
    have hx := h x (List.mem_cons.mpr (.inl rfl))
    have e := wide_lt (a := 400) (b := 1 + l.length * 400) hx ih
    have e2 : 400 + (1 + l.length * 400) = 1 + (x :: l).length * 400 := by rw [List.length_cons, Nat.add_mul]; omega
    rw [e2] at e
    exact e
theorem ok_prod {f : Addr} {fd : FuncData} (F : Fun K "product_at" "product_at" sProductAt f fd) : FnOk P w K mg base CX0 1 f fd ["names", "values"] (spProd P w K) := by
  refine F.ok scProd (fun vs H Q E h => ?_) (fun cdv A outer s H vs Q E hr h => ?_)
  · obtain ⟨t, d, m, kvs, g, rfl, _⟩ := h
    rfl
  · obtain ⟨t, d, m, kvs, g, rfl, ht, hd, hg, hl, hb, k⟩ := h
    have u1 := Nat.lt_of_le_of_lt (Nat.add_le_add_left (by decide : 1 ≤ 64) _) hr.units
    refine ⟨_, pss_cons (ps_set (i := 2) scProd.nd rfl (Or.inl rfl) pe_int)
      (pss_cons (ps_for PassesOwn.never rfl (pi_tup (pv 0)) (pg_name (i := 3) scProd.nd rfl (Or.inl rfl)) (pss_one (ps_set (i := 2) scProd.nd rfl (Or.inl rfl) (pe_op op_mulW (pv 2) (pe_dget u1 (pv 1) (pv 3) (fun _ _ => rfl))))))
      (pss_one (ps_ret (pv 2)))), ?_⟩
    refine seq_asg ⟨_, rfl, t, rfl, ⟨_, ht⟩, for_it (walk_tup (xs := m.map V.str)) (fun i σ H' => H' = H ∧ ∃ u, σ = [some (.ref t), some (.ref d), some (.int (prodI ((m.take i).map g))), u]) ⟨rfl, none, rfl⟩ ?_ ?_ ?_⟩
    · rintro i σ H' _ ⟨rfl, _⟩
      exact ht
    · rintro i x σ H1 H2 hi ⟨rfl, u, rfl⟩ ⟨rfl, hx⟩
      rw [List.length_map] at hi
      obtain ⟨z, hz, rfl⟩ : ∃ z, m[i]? = some z ∧ x = V.str z := by
        rw [List.getElem?_map] at hx
        obtain ⟨z, hz, e⟩ := Option.map_eq_some_iff.mp hx
        exact ⟨z, hz, e.symm⟩
      have hm := List.mem_of_getElem? hz
      have p1 := prod_lt g (m.take i) fun y hy => hb y (List.mem_of_mem_take hy)
      have tl : (m.take i).length ≤ 1000 := by rw [List.length_take]; omega
      refine ⟨_, rfl, _, rfl, _, rfl, d, _, rfl, by rw [← hg z hm]; exact DGet.k (k := Sum.inr z) hd, _, _, rfl, rfl, cmw p1 (hb z hm) (by omega) (by decide) (by omega), rfl, some (V.str z), ?_⟩
      rw [take_snoc hz, List.map_append, prodI_append]
      show _ = [_, _, some (V.int (_ * (g z * 1))), _]
      rw [Int.mul_one]
      rfl
    · rintro σ H1 ⟨rfl, u, rfl⟩
      rw [List.length_map, List.take_length]
      exact ⟨_, rfl, k⟩
end
end E2

set_option Elab.async false
set_option linter.all false
set_option maxRecDepth 100000
set_option maxHeartbeats 1000000
/-! a.at(values) -/
namespace L2
open PySem PySem.Spec PyProof.Rows
def rLcm : List V → Hp → VK → Prop := fun vs H Q => ∃ a b : Nat, vs = [.int (a : Int), .int (b : Int)] ∧ 0 < a ∧ a < 2 ^ 64 ∧ b < 2 ^ 64 ∧ Q (.int ((Nat.lcm a b : Nat) : Int)) H
theorem cr_lcm {X : Cx} : CallR X (.builtin "math.lcm") rLcm := by
  intro pins s σ H vs us Q I r h
  obtain ⟨a, b, rfl, ha0, ha, hb, q⟩ := h
  obtain ⟨t, u, rfl⟩ := Vals.int2 r
  have e1 : Nat.lcm 1 (a : Int).natAbs = a := by rw [Int.natAbs_natCast, Nat.lcm_comm, Nat.lcm_one_right]
  have e2 : (((Nat.lcm 1 (a : Int).natAbs).lcm (b : Int).natAbs : Nat) : Int) = ((Nat.lcm a b : Nat) : Int) := by rw [e1, Int.natAbs_natCast]
  have hl : Nat.lcm a b < 2 ^ 128 := by
    have h1 : Nat.lcm a b ≤ a * b := by
      unfold Nat.lcm
      exact Nat.div_le_self _ _
    exact Nat.lt_of_le_of_lt h1 (by rw [show (2 : Nat) ^ 128 = 2 ^ 64 * 2 ^ 64 by decide]; exact Nat.mul_lt_mul'' ha hb)
  exact PySem.W.mg_lcm_v (by rw [Int.natAbs_natCast]; exact ha) (by rw [Int.natAbs_natCast]; exact hb) e2 (by rw [Int.natAbs_natCast]; exact Nat.lt_of_lt_of_le (PySem.Flt.log2_lt_of (by decide) hl) (by decide)) ⟨.int _, H, I.tok _, ⟨_, rfl⟩, q⟩
/-- the least common multiple of the denominators -/
def cmD (fm : Fm) : Nat := fm.foldl (fun c x => Nat.lcm c x.2.den) 1
theorem cmD_snoc (fm : Fm) (x : Mon × Rat) : cmD (fm ++ [x]) = Nat.lcm (cmD fm) x.2.den := by
  unfold cmD
  rw [List.foldl_append]
  rfl
theorem foldl_dvd {D : Nat} : ∀ (fm : Fm) (c : Nat), c ∣ D → (∀ x ∈ fm, x.2.den ∣ D) → fm.foldl (fun c x => Nat.lcm c x.2.den) c ∣ D
  | [], _, h, _ => h
  | x :: r, c, h, hx => foldl_dvd r _ (Nat.lcm_dvd h (hx x (List.mem_cons.mpr (.inl rfl)))) fun y hy => hx y (List.mem_cons.mpr (.inr hy))
theorem cmD_dvd {D : Nat} {fm : Fm} (h : ∀ x ∈ fm, x.2.den ∣ D) : cmD fm ∣ D := foldl_dvd fm 1 (Nat.one_dvd _) h
theorem foldl_base : ∀ (fm : Fm) (c : Nat), c ∣ fm.foldl (fun c x => Nat.lcm c x.2.den) c
  | [], _ => Nat.dvd_refl _
  | x :: r, c => Nat.dvd_trans (Nat.dvd_lcm_left c x.2.den) (foldl_base r _)
theorem den_foldl : ∀ (fm : Fm) (c : Nat), ∀ x ∈ fm, x.2.den ∣ fm.foldl (fun c x => Nat.lcm c x.2.den) c
  | y :: r, c, x, h => by
    rcases List.mem_cons.mp h with rfl | h
    · exact Nat.dvd_trans (Nat.dvd_lcm_right c x.2.den) (foldl_base r _)
    · exact den_foldl r _ x h
theorem den_cmD {fm : Fm} : ∀ x ∈ fm, x.2.den ∣ cmD fm := den_foldl fm 1
theorem foldl_pos : ∀ (fm : Fm) (c : Nat), 0 < c → 0 < fm.foldl (fun c x => Nat.lcm c x.2.den) c
  | [], _, h => h
  | x :: r, c, h => foldl_pos r _ (Nat.lcm_pos h x.2.den_pos)
theorem cmD_pos (fm : Fm) : 0 < cmD fm := foldl_pos fm 1 (by decide)
/-- the sum that at builds -/
def totD (c : Nat) (g : Str → Int) : Fm → Int
  | [] => 0
  | x :: r => x.2.num * ((c : Int) / (x.2.den : Int)) * evM g x.1 + totD c g r
theorem totD_append (c : Nat) (g : Str → Int) : ∀ a b : Fm, totD c g (a ++ b) = totD c g a + totD c g b
  | [], b => by show totD c g b = 0 + totD c g b; omega
  | x :: a, b => by
    show _ + totD c g (a ++ b) = _ + totD c g a + totD c g b
    rw [totD_append c g a b, Int.add_assoc]
theorem totD_ev {c : Nat} (g : Str → Int) : ∀ fm : Fm, (∀ x ∈ fm, x.2.den ∣ c) → (totD c g fm : Rat) = (c : Rat) * ev g fm
  | [], _ => by show (0 : Rat) = _ * 0; grind
  | x :: r, h => by
    have ih := totD_ev g r fun y hy => h y (List.mem_cons.mpr (.inr hy))
    obtain ⟨k, hk⟩ := h x (List.mem_cons.mpr (.inl rfl))
    have hd : (x.2.den : Int) ≠ 0 := by have := x.2.den_nz; omega
    have e1 : (c : Int) / (x.2.den : Int) = (k : Int) := by rw [hk, Int.natCast_mul, Int.mul_ediv_cancel_left _ hd]
    show ((x.2.num * ((c : Int) / (x.2.den : Int)) * evM g x.1 + totD c g r : Int) : Rat) = (c : Rat) * (x.2 * _ + ev g r)
    rw [Rat.intCast_add, ih, e1, Rat.intCast_mul, Rat.intCast_mul, rat_num, Rat.intCast_natCast, hk, Rat.natCast_mul]
    grind
end L2

set_option Elab.async false
set_option linter.all false
set_option maxRecDepth 100000
set_option maxHeartbeats 1000000
/-! what put makes: its shares in closed form, its value -/
namespace E2
open PySem PySem.Spec PyProof.Rows L2
theorem nodup_le' {α : Type} [DecidableEq α] : ∀ {l m : List α}, l.Nodup → (∀ x ∈ l, x ∈ m) → l.length ≤ m.length
  | [], _, _, _ => Nat.zero_le _
  | x :: l, m, nd, h => by
    have ⟨n1, n2⟩ := List.nodup_cons.mp nd
    have hx := h x List.mem_cons_self
    have ih := nodup_le' (m := m.erase x) n2 fun y hy => (List.mem_erase_of_ne (by rintro rfl; exact n1 hy)).mpr (h y (List.mem_cons_of_mem _ hy))
    rw [List.length_erase_of_mem hx] at ih
    have := List.length_pos_of_mem hx
    rw [List.length_cons]
    omega
/-- the terms with the letter k times, the letter left out -/
def shr (name : Str) (fm : Fm) (k : Nat) : Fm := (fm.filter fun x => decide (cntM name x.1 = k)).map fun x => (rstM name x.1, x.2)
theorem rst_pw {name : Str} {m : Mon} (h : sortT m = m) : sortT (rstM name m) = rstM name m := by
  refine sortT_sorted ?_
  unfold rstM
  have p := sortT_pw m
  rw [h] at p
  exact p.sublist List.filter_sublist
theorem dV (a b : Str) : decide (V.str a = V.str b) = decide (a = b) := by
  by_cases c : a = b
  · subst c; simp
  · rw [decide_eq_false c, decide_eq_false (fun e => c (V.str.inj e))]
theorem cnt_cons (name x : Str) (m : Mon) : cntM name (x :: m) = cntM name m + if x = name then 1 else 0 := by
  unfold cntM cntS
  rw [List.countP_cons]
  by_cases c : x = name
  · subst c; simp
  · rw [if_neg c, if_neg]
    intro e
    exact c (str_ext (eq_of_beq e))
theorem rst_cons (name x : Str) (m : Mon) : rstM name (x :: m) = if x = name then rstM name m else x :: rstM name m := by
  unfold rstM
  rw [List.filter_cons, dV]
  by_cases c : x = name
  · rw [if_pos c, decide_eq_true c]; rfl
  · rw [if_neg c, decide_eq_false c]; rfl
theorem cnt_rst : ∀ (name : Str) (m : Mon), m.Perm (List.replicate (cntM name m) name ++ rstM name m)
  | name, [] => .nil
  | name, x :: m => by
    have ih := cnt_rst name m
    rw [cnt_cons, rst_cons]
    by_cases c : x = name
    · rw [if_pos c, if_pos c, List.replicate_succ, c]
      exact ih.cons _
    · rw [if_neg c, if_neg c, Nat.add_zero]
      exact (ih.cons _).trans List.perm_middle.symm
theorem key_one {name : Str} {m n : Mon} (hm : sortT m = m) (hn : sortT n = n) (h1 : cntM name m = cntM name n) (h2 : rstM name m = rstM name n) : m = n := by
  have p : m.Perm n := by
    refine (cnt_rst name m).trans ?_
    rw [h1, h2]
    exact (cnt_rst name n).symm
  rw [← hm, ← hn]
  exact sortT_of_perm p
theorem evM_put (g : Str → Int) (name : Str) (v : Int) : ∀ m : Mon, evM (fun z => if z = name then v else g z) m = v ^ cntM name m * evM g (rstM name m)
  | [] => by show (1 : Int) = v ^ 0 * 1; simp
  | x :: m => by
    have ih := evM_put g name v m
    rw [cnt_cons, rst_cons]
    show (if x = name then v else g x) * evM _ m = _
    rw [ih]
    by_cases c : x = name
    · rw [if_pos c, if_pos c, if_pos c, Int.pow_succ, ← Int.mul_assoc, Int.mul_comm v]
    · rw [if_neg c, if_neg c, if_neg c, Nat.add_zero]
      show _ = v ^ cntM name m * (g x * evM g (rstM name m))
      rw [Int.mul_left_comm]
theorem shr_app (name : Str) (l : Fm) (x : Mon × Rat) (k : Nat) : shr name (l ++ [x]) k = shr name l k ++ if cntM name x.1 = k then [(rstM name x.1, x.2)] else [] := by
  unfold shr
  rw [List.filter_append, List.map_append, List.filter_cons, List.filter_nil]
  by_cases c : cntM name x.1 = k
  · rw [if_pos c, if_pos (decide_eq_true c)]; rfl
  · rw [if_neg c, if_neg (by rw [decide_eq_false c]; exact Bool.false_ne_true)]; rfl
theorem mem_shr {name : Str} {fm : Fm} {k : Nat} {y : Mon × Rat} (h : y ∈ shr name fm k) : ∃ x ∈ fm, cntM name x.1 = k ∧ y = (rstM name x.1, x.2) := by
  unfold shr at h
  obtain ⟨x, hx, e⟩ := List.mem_map.mp h
  have := List.mem_filter.mp hx
  exact ⟨x, this.1, of_decide_eq_true this.2, e.symm⟩
theorem foldP_is {name : Str} {n : Nat} {fm : Fm} (ca : Canon fm) : ∀ i, i ≤ fm.length → foldP name n (fm.take i) = (List.range n).map (shr name (fm.take i))
  | 0, _ => by
    unfold foldP
    rw [List.take_zero]
    show List.replicate n [] = (List.range n).map fun _ => ([] : Fm)
    rw [List.map_const', List.length_range]
  | i + 1, hi => by
    have ih := foldP_is (name := name) (n := n) ca i (by omega)
    have hx : fm[i]? = some fm[i] := List.getElem?_eq_getElem (by omega)
    generalize fm[i] = x at hx
    rw [foldP_snoc hx, ih, take_snoc hx]
    unfold powStep
    have fresh : rstM name x.1 ∉ (shr name (fm.take i) (cntM name x.1)).map (·.1) := fun z => by
      obtain ⟨y, hy, e⟩ := List.mem_map.mp z
      obtain ⟨u, hu, hc, rfl⟩ := mem_shr hy
      have hu2 := List.mem_of_mem_take hu
      have ee := key_one (ca.so u hu2) (ca.so x (List.mem_of_getElem? hx)) hc e
      obtain ⟨j, hj, hju⟩ := List.mem_iff_getElem.mp hu
      rw [List.length_take] at hj
      rw [List.getElem_take] at hju
      have := nodup_ix ca.nd (i := j) (j := i) (x := x.1) (by rw [List.getElem?_map, List.getElem?_eq_getElem (by omega), hju]; show some u.1 = _; rw [ee]) (by rw [List.getElem?_map, hx]; rfl)
      omega
    refine List.ext_getElem? fun k => ?_
    rw [List.getElem?_modify, List.getElem?_map, List.getElem?_map]
    cases hk : (List.range n)[k]? with
    | none => rfl
    | some k' =>
      obtain ⟨_, e⟩ := List.getElem?_eq_some_iff.mp hk
      rw [List.getElem_range] at e
      subst e
      show some _ = some _
      congr 1
      rw [shr_app]
      by_cases c : cntM name x.1 = k
      · subst c
        rw [if_pos rfl]
        simp only [if_true]
        exact putM_new _ fresh
      · rw [if_neg c]
        simp only [c, if_false, List.append_nil, id]
theorem powF_is {name : Str} {fm : Fm} (ca : Canon fm) : powF name fm = (List.range (hiN name fm + 1)).map (shr name fm) := by
  have h := foldP_is (name := name) (n := hiN name fm + 1) ca fm.length (Nat.le_refl _)
  rw [List.take_length] at h
  exact h
theorem canon_shr {name : Str} {fm : Fm} (ca : Canon fm) (k : Nat) : Canon (shr name fm k) := by
  refine ⟨?_, fun y hy => ?_, fun y hy => ?_⟩
  · unfold shr
    rw [List.map_map]
    have nd : (fm.filter fun x => decide (cntM name x.1 = k)).Nodup := List.Nodup.sublist List.filter_sublist (nodup_of_keys ca.nd)
    refine List.Pairwise.map _ ?_ (List.Pairwise.imp_of_mem ?_ nd) (R := fun x y => rstM name x.1 ≠ rstM name y.1)
    · intro a b h; exact h
    · intro a b ha hb hne e
      have a1 := List.mem_filter.mp ha
      have b1 := List.mem_filter.mp hb
      have e1 := key_one (ca.so a a1.1) (ca.so b b1.1) ((of_decide_eq_true a1.2).trans (of_decide_eq_true b1.2).symm) e
      have v1 := valM_of_mem ca.nd a a1.1
      have v2 := valM_of_mem ca.nd b b1.1
      rw [e1, v2] at v1
      exact hne (Prod.ext e1 (Option.some.inj v1).symm)
  · obtain ⟨x, hx, _, rfl⟩ := mem_shr hy
    exact rst_pw (ca.so x hx)
  · obtain ⟨x, hx, _, rfl⟩ := mem_shr hy
    exact ca.nz x hx
theorem canon_horn {o : Fm} : ∀ {ps : List Fm} {a : Fm}, Canon a → (∀ p ∈ ps, Canon p) → Canon (hornF o a ps)
  | [], _, ca, _ => ca
  | p :: r, a, ca, h => canon_horn (ps := r) (a := addF (mulF a o) p) (canon_addF (canon_mulF a o) (h p List.mem_cons_self)) fun q hq => h q (List.mem_cons_of_mem _ hq)
theorem canon_nil : Canon [] := ⟨List.nodup_nil, fun x hx => absurd hx List.not_mem_nil, fun x hx => absurd hx List.not_mem_nil⟩
theorem canon_putF {name : Str} {fm o : Fm} (ca : Canon fm) : Canon (putF name fm o) := by
  unfold putF
  refine canon_horn canon_nil fun p hp => ?_
  rw [powF_is ca] at hp
  obtain ⟨k, _, rfl⟩ := List.mem_map.mp (List.mem_reverse.mp hp)
  exact canon_shr ca k
/-! values -/
theorem ev_pr (g : Str → Int) : ∀ a : Fm, ev g a = pr (fun m => (evM g m : Rat)) a
  | [] => rfl
  | x :: a => by
    have e : evM g (sortT x.1) = evM g x.1 := prodI_perm ((sortT_perm x.1).map g)
    have ih := ev_pr g a
    show x.2 * (evM g x.1 : Rat) + ev g a = x.2 * (evM g (sortT x.1) : Rat) + pr _ a
    rw [ih, e]
theorem evM_app (g : Str → Int) (m n : Mon) : evM g (m ++ n) = evM g m * evM g n := by
  unfold evM
  rw [List.map_append, prodI_append]
theorem ev_mulF (g : Str → Int) (a b : Fm) : ev g (mulF a b) = ev g a * ev g b := by
  rw [ev_pr, pr_mulF, ev_pr, ev_pr]
  have e : (fun m : Mon => pr (fun n => ((evM g (sortT (m ++ n)) : Int) : Rat)) b) = fun m => pr (fun n => (evM g n : Rat)) b * (evM g m : Rat) := by
    funext m
    have e1 : (fun n : Mon => ((evM g (sortT (m ++ n)) : Int) : Rat)) = fun n => (evM g m : Rat) * (evM g n : Rat) := by
      funext n
      rw [show evM g (sortT (m ++ n)) = evM g (m ++ n) from prodI_perm ((sortT_perm _).map g), evM_app, Rat.intCast_mul]
    rw [e1, pr_mulc, Rat.mul_comm]
  rw [e, pr_mulc, Rat.mul_comm]
theorem ev_addF (g : Str → Int) {a b : Fm} (h : (a.map (·.1)).Nodup) : ev g (addF a b) = ev g a + ev g b := by
  rw [ev_pr, pr_addF _ h, ← ev_pr, ← ev_pr]
theorem ev_nil (g : Str → Int) : ev g [] = 0 := rfl
/-- from the highest power down -/
theorem ev_horn (g : Str → Int) {o : Fm} {v : Rat} (hv : ev g o = v) : ∀ {ps : List Fm} {a : Fm}, ev g (hornF o a ps) = ps.foldl (fun c p => c * v + ev g p) (ev g a)
  | [], _ => rfl
  | p :: r, a => by
    have h := ev_horn g hv (ps := r) (a := addF (mulF a o) p)
    rw [ev_addF g (canon_mulF a o).nd, ev_mulF, hv] at h
    exact h
/-- what the terms with off to off + n - 1 letters are worth -/
def wS (g : Str → Int) (name : Str) (v : Rat) (off n : Nat) : Fm → Rat
  | [] => 0
  | x :: l => (if off ≤ cntM name x.1 ∧ cntM name x.1 < off + n then x.2 * (v ^ cntM name x.1 * (evM g (rstM name x.1) : Rat)) else 0) + wS g name v off n l
theorem wS_one (g : Str → Int) (name : Str) (v : Rat) (off : Nat) : ∀ l : Fm, wS g name v off 1 l = v ^ off * ev g (shr name l off)
  | [] => by show (0 : Rat) = v ^ off * 0; grind
  | x :: l => by
    have ih := wS_one g name v off l
    unfold wS
    rw [ih]
    unfold shr
    rw [List.filter_cons]
    by_cases c : cntM name x.1 = off
    · rw [if_pos (by omega), if_pos (decide_eq_true c), c]
      show _ = v ^ off * (x.2 * (evM g (rstM name x.1) : Rat) + ev g (shr name l off))
      unfold shr
      grind
    · rw [if_neg (by omega), if_neg (by rw [decide_eq_false c]; exact Bool.false_ne_true)]
      grind
theorem wS_split (g : Str → Int) (name : Str) (v : Rat) (off n : Nat) : ∀ l : Fm, wS g name v off (n + 1) l = wS g name v off 1 l + wS g name v (off + 1) n l
  | [] => by show (0 : Rat) = 0 + 0; grind
  | x :: l => by
    have ih := wS_split g name v off n l
    unfold wS
    rw [ih]
    by_cases c1 : cntM name x.1 = off
    · rw [if_pos (show off ≤ cntM name x.1 ∧ cntM name x.1 < off + (n + 1) by omega), if_pos (show off ≤ cntM name x.1 ∧ cntM name x.1 < off + 1 by omega), if_neg (show ¬ (off + 1 ≤ cntM name x.1 ∧ cntM name x.1 < off + 1 + n) by omega)]
      grind
    · by_cases c2 : off + 1 ≤ cntM name x.1 ∧ cntM name x.1 < off + 1 + n
      · rw [if_pos (show off ≤ cntM name x.1 ∧ cntM name x.1 < off + (n + 1) by omega), if_neg (show ¬ (off ≤ cntM name x.1 ∧ cntM name x.1 < off + 1) by omega), if_pos c2]
        grind
      · rw [if_neg (show ¬ (off ≤ cntM name x.1 ∧ cntM name x.1 < off + (n + 1)) by omega), if_neg (show ¬ (off ≤ cntM name x.1 ∧ cntM name x.1 < off + 1) by omega), if_neg c2]
        grind
theorem wS_zero (g : Str → Int) (name : Str) (v : Rat) (off : Nat) : ∀ l : Fm, wS g name v off 0 l = 0
  | [] => rfl
  | x :: l => by
    have ih := wS_zero g name v off l
    unfold wS
    rw [ih, if_neg (by omega)]
    grind
theorem horn_w (g : Str → Int) (name : Str) (v : Rat) (fm : Fm) : ∀ (n off : Nat), v ^ off * ((List.range' off n).map (shr name fm)).foldr (fun p c => c * v + ev g p) 0 = wS g name v off n fm
  | 0, off => by
    rw [wS_zero]
    show v ^ off * 0 = 0
    grind
  | n + 1, off => by
    have ih := horn_w g name v fm n (off + 1)
    rw [List.range'_succ, List.map_cons, List.foldr_cons, wS_split, wS_one, ← ih, Rat.pow_succ]
    grind
theorem wS_all (g : Str → Int) (name : Str) (v : Int) {n : Nat} : ∀ {fm : Fm}, (∀ x ∈ fm, cntM name x.1 < n) → wS g name (v : Rat) 0 n fm = ev (fun z => if z = name then v else g z) fm
  | [], _ => rfl
  | x :: l, h => by
    have ih := wS_all g name v (fm := l) fun y hy => h y (List.mem_cons_of_mem _ hy)
    have hx := h x List.mem_cons_self
    unfold wS
    rw [ih, if_pos (by omega)]
    show x.2 * _ + _ = x.2 * ((evM (fun z => if z = name then v else g z) x.1 : Int) : Rat) + _
    rw [evM_put, Rat.intCast_mul, Rat.intCast_pow]
theorem ev_putF (g : Str → Int) {name : Str} {fm o : Fm} (ca : Canon fm) {v : Int} (hv : ev g o = (v : Rat)) : ev g (putF name fm o) = ev (fun z => if z = name then v else g z) fm := by
  unfold putF
  rw [ev_horn g hv, ev_nil, List.foldl_reverse, powF_is ca, List.range_eq_range']
  have h := horn_w g name (v : Rat) fm (hiN name fm + 1) 0
  rw [Rat.pow_zero, Rat.one_mul] at h
  rw [h]
  exact wS_all g name v fun x hx => Nat.lt_succ_of_le ((hiN_spec name fm).2 x hx)
/-- nothing is put in where the letter doesn't stand -/
theorem cnt_none {name : Str} : ∀ {m : Mon}, name ∉ m → cntM name m = 0 ∧ rstM name m = m
  | [], _ => ⟨rfl, rfl⟩
  | x :: m, h => by
    obtain ⟨a, b⟩ := cnt_none (m := m) fun z => h (List.mem_cons_of_mem _ z)
    have c : x ≠ name := fun e => h (by rw [e]; exact List.mem_cons_self)
    rw [cnt_cons, rst_cons, if_neg c, if_neg c, a, b]
    exact ⟨rfl, rfl⟩
theorem pol_put_none {name : Str} {fm o : Fm} (ca : Canon fm) (h : ∀ x ∈ fm, name ∉ x.1) : pol (putF name fm o) = pol fm := by
  have hi : hiN name fm = 0 := by
    rcases (hiI_ge (fm.map fun x => (cntM name x.1 : Int)) fun n hn => by obtain ⟨x, _, rfl⟩ := List.mem_map.mp hn; omega).2 with e | e
    · unfold hiN; rw [e]; rfl
    · obtain ⟨x, hx, e2⟩ := List.mem_map.mp e
      rw [(cnt_none (h x hx)).1] at e2
      unfold hiN; rw [← e2]; rfl
  have sh : shr name fm 0 = fm := by
    unfold shr
    rw [List.filter_eq_self.mpr fun x hx => decide_eq_true (cnt_none (h x hx)).1]
    have : (fm.map fun x => (rstM name x.1, x.2)) = fm.map id := List.map_congr_left fun x hx => Prod.ext (cnt_none (h x hx)).2 rfl
    rw [this, List.map_id]
  unfold putF
  rw [powF_is ca, hi]
  show pol (addF (mulF [] o) (shr name fm 0)) = _
  rw [sh, pol_addF (canon_mulF [] o).nd, pol_mulF]
  have z : pol [] = (0 : Pol) := cst_zero.symm
  rw [z]
  grind
end E2

set_option Elab.async false
set_option linter.all false
set_option maxRecDepth 100000
set_option maxHeartbeats 1000000
/-! the law's own draws: _law_purse, _law_mixed, _law_draw -/
namespace L2
open PySem PySem.Spec PyProof.Rows
end L2
namespace E2
open PySem PySem.Spec PyProof.Rows L2
open C8 (Cal Mak Met InsC pe_c pe_mt pe_mt0 call_isC clsBody)
abbrev sPurse : Stmt := top 22
abbrev sMixed : Stmt := top 23
abbrev sDraw : Stmt := top 24
abbrev sPurses : Stmt := top 25
abbrev sOneOf : Stmt := top 26
structure Bt4 (mg : Str → Option Value) : Prop where
  sum_ : mg "sum" = none
  max_ : mg "max" = none
  min_ : mg "min" = none
  rng_ : mg "range" = none
  len_ : mg "len" = none
theorem cut_ints (ns : List Int) (lo hi : Option Int) : ∃ ms : List Int, cutV (ns.map V.int) lo hi = ms.map V.int :=
  ⟨(ns.drop (HT.sIx (ns.map V.int).length 0 lo)).take (HT.sIx (ns.map V.int).length (ns.map V.int).length hi - HT.sIx (ns.map V.int).length 0 lo), by unfold cutV; rw [← List.map_drop, ← List.map_take]⟩
/-- a purse, with so many draws left -/
def PurseAt (H : Hp) (a : Addr) (n : Nat) : Prop := ∃ p0 p1 p2 p3 : Int, H a = some (.lst [.int p0, .int p1, .int p2, .int p3]) ∧ 0 ≤ p0 ∧ p0 < 10 ^ 480 ∧ 0 ≤ p1 ∧ p1 < 2 ^ 31 ∧ 0 ≤ p2 ∧ p2 + n ≤ 2 ^ 60 ∧ 0 ≤ p3 ∧ p3 < 100
def spPurse (K : PySem.W.Frag) : Sp := fun vs H Q _ => ∃ (sc : Addr) (i : Int) (ns : List Int), vs = [.ref sc, .int i] ∧ SqL K H sc (ns.map V.int) ∧ 0 ≤ i ∧ i < 100 ∧ ∀ H' p, Same H H' → H p = none → PurseAt H' p (2 ^ 60) → Q (.ref p) H'
section
variable {P : Program} {w : World} {K : PySem.W.Frag} {mg : Str → Option Value} {base : Heap}
theorem scPurse : FnScope ["_law_script", "_law_at", "_law_seed"] ["_law_script", "_law_at"] (defScope sPurse) := ⟨rfl, rfl, rfl, by decide +kernel, rfl, by decide +kernel, by decide +kernel⟩
theorem ok_purse {f : Addr} {fd : FuncData} (F : Fun K "_law_purse" "_law_purse" sPurse f fd) (B : Bt4 mg) : FnOk P w K mg base CX0 1 f fd ["_law_script", "_law_at"] (spPurse K) := by
  refine F.ok scPurse (fun vs H Q E h => ?_) (fun cdv A outer s H vs Q E hr h => ?_)
  · obtain ⟨sc, i, ns, rfl, _⟩ := h
    rfl
  · obtain ⟨sc, i, ns, rfl, hs, i0, i1, k⟩ := h
    refine ⟨_, pss_cons (ps_set (i := 2) scPurse.nd rfl (Or.inl rfl) (pe_callB (cr_sum rfl) (by rfl) B.sum_ (by decide +kernel) (pa_cons (pe_slice sl_listS (pv 0) (po_some (pv 1)) (po_some (pe_op op_add (pv 1) pe_int))) pa_nil)))
      (pss_one (ps_ret (pe_lstS (pa_cons (pe_op op_mod (pe_callB (call_max2 rfl) (by rfl) B.max_ (by decide +kernel) (pa_cons (pe_op op_sub (pv 2) (pe_op op_pow pe_int pe_int)) (pa_cons pe_int pa_nil))) (pe_op op_powX (pe_op op_pow pe_int pe_int) pe_int))
        (pa_cons (pe_op op_mod (pv 2) pe_int) (pa_cons pe_int (pa_cons (pv 1) pa_nil))))))), ?_⟩
    obtain ⟨ms, hms⟩ := cut_ints ns (some i) (some (i + 1))
    refine ⟨_, rfl, _, rfl, i, rfl, _, rfl, i, 1, rfl, rfl, i + 1, rfl, sc, _, rfl, hs, fun pc H1 S1 n1 h1 => ?_⟩
    rw [hms] at h1
    refine ⟨pc, ms, rfl, SqL.of h1, ?_⟩
    have c1 : CPow 10 18 := ⟨by decide, by decide, by decide⟩
    have c2 : CPow 10 60 := ⟨by decide, by decide, by decide⟩
    have c3 : CPowX ((10 : Int) ^ (60 : Int).toNat) 8 := ⟨by decide, by decide +kernel⟩
    refine ⟨_, rfl, 10, 18, rfl, rfl, c1, _, _, rfl, rfl, _, _, rfl, ?_⟩
    refine ⟨10, 60, rfl, rfl, c2, _, 8, rfl, rfl, c3, _, _, rfl, rfl, (show (0 : Int) < ((10 : Int) ^ (60 : Int).toNat) ^ (8 : Int).toNat by decide +kernel), ?_⟩
    refine ⟨_, rfl, _, _, rfl, rfl, (show (0 : Int) < 2147483629 by decide), _, rfl, (by show 4 ≤ sizeLine; decide), fun p H2 S2 np hp => ?_⟩
    refine k H2 p (S1.trans S2) (S1.free np) ⟨_, _, _, _, hp, Int.emod_nonneg _ (by decide +kernel), ?_, Int.emod_nonneg _ (by decide), ?_, by decide, by decide, i0, i1⟩
    · have e : ((10 : Int) ^ (60 : Int).toNat) ^ (8 : Int).toNat = 10 ^ 480 := by decide +kernel
      rw [e]
      exact Int.emod_lt_of_pos _ (by decide +kernel)
    · exact Int.lt_trans (Int.emod_lt_of_pos _ (by decide)) (by decide)
def spMixed : Sp := fun vs H Q _ => ∃ a b c : Int, vs = [.int a, .int b, .int c] ∧ 0 ≤ a ∧ a < 2 ^ 31 ∧ 0 ≤ b ∧ b < 2 ^ 61 ∧ 0 ≤ c ∧ c < 100 ∧ ∀ r : Int, 0 ≤ r → r < 2147483587 → Q (.int r) H
theorem scMixed : FnScope ["_law_seed", "_law_turn", "_law_at", "_law_mixed_here"] ["_law_seed", "_law_turn", "_law_at"] (defScope sMixed) := ⟨rfl, rfl, rfl, by decide +kernel, rfl, by decide +kernel, by decide +kernel⟩
theorem ok_mixed {f : Addr} {fd : FuncData} (F : Fun K "_law_mixed" "_law_mixed" sMixed f fd) : FnOk P w K mg base CX0 1 f fd ["_law_seed", "_law_turn", "_law_at"] spMixed := by
  refine F.ok scMixed (fun vs H Q E h => ?_) (fun cdv A outer s H vs Q E hr h => ?_)
  · obtain ⟨a, b, c, rfl, _⟩ := h
    rfl
  · obtain ⟨a, b, c, rfl, a0, a1, b0, b1, c0, c1, k⟩ := h
    refine ⟨_, pss_cons (ps_set (i := 3) scMixed.nd rfl (Or.inl rfl) (pe_op op_add (pe_op op_mul (pv 0) pe_int) (pe_op op_mul (pe_op op_mul pe_int (pv 1)) (pv 1))))
      (pss_cons (ps_set (i := 3) scMixed.nd rfl (Or.inl rfl) (pe_op op_mod (pe_op op_add (pe_op op_add (pv 3) (pe_op op_mul pe_int (pv 2))) (pv 1)) pe_int))
      (pss_cons (ps_set (i := 3) scMixed.nd rfl (Or.inl rfl) (pe_op op_mod (pe_op op_add (pe_op op_mul (pv 3) (pv 3)) pe_int) pe_int))
      (pss_one (ps_ret (pe_op op_mod (pe_op op_mul (pv 3) pe_int) pe_int))))), ?_⟩
    refine ⟨_, rfl, _, _, rfl, rfl, .inr (by constructor <;> decide), _, rfl, _, _, rfl, rfl, .inl (by constructor <;> decide), _, rfl, _, _, rfl, rfl, .inr ⟨by omega, by omega⟩, _, _, rfl, rfl, ?_⟩
    refine ⟨_, rfl, _, rfl, _, _, rfl, rfl, .inl (by constructor <;> decide), _, _, rfl, rfl, _, rfl, _, _, rfl, rfl, _, _, rfl, rfl, (show (0 : Int) < 2147483647 by decide), ?_⟩
    generalize hm : (a * 69069 + 104729 * b * b + 7919 * c + b) % 2147483647 = m
    have m0 : 0 ≤ m := hm ▸ Int.emod_nonneg _ (by decide)
    have m1 : m < 2147483647 := hm ▸ Int.emod_lt_of_pos _ (by decide)
    refine ⟨_, rfl, _, rfl, _, _, rfl, rfl, .inr ⟨by omega, by omega⟩, _, _, rfl, rfl, _, _, rfl, rfl, (show (0 : Int) < 2147483629 by decide), ?_⟩
    refine ⟨_, rfl, _, _, rfl, rfl, .inr (by constructor <;> decide), _, _, rfl, rfl, (show (0 : Int) < 2147483587 by decide), ?_⟩
    exact k _ (Int.emod_nonneg _ (by decide)) (Int.emod_lt_of_pos _ (by decide))
end
end E2

set_option Elab.async false
set_option linter.all false
set_option maxRecDepth 100000
set_option maxHeartbeats 1000000
/-! _law_draw, _law_one_of -/
namespace E2
open PySem PySem.Spec PyProof.Rows L2
open C8 (Cal Mak Met InsC pe_c pe_mt pe_mt0 call_isC clsBody)
theorem SqL.sameB {K : PySem.W.Frag} {D : Addr} {H H' : Hp} {a : Addr} {xs : List V} (h : SqL K H a xs) (S : SameB D H H') (n : a ≠ D) : SqL K H' a xs := by
  rcases h with (h | ⟨o, h⟩) | h
  · exact .inl (.inl (S _ _ n h))
  · exact .inl (.inr ⟨o, S _ _ n h⟩)
  · exact .inr h
def spDraw : Sp := fun vs H Q _ => ∃ (a : Addr) (many : Int) (n : Nat), vs = [.ref a, .int many] ∧ PurseAt H a (n + 4) ∧ 1 ≤ many ∧ many < 2 ^ 100 ∧ ∀ r H', 0 ≤ r → r < many → PurseAt H' a n → SameB a H H' → Q (.int r) H'
theorem bits_100 {m : Int} (h0 : 1 ≤ m) (h : m < 2 ^ 100) : Builtin.Int.intBits m ≤ 100 := by
  unfold Builtin.Int.intBits
  rw [if_neg (by intro e; have := eq_of_beq e; omega)]
  have h1 : m.natAbs < 2 ^ 100 := by
    have e : ((m.natAbs : Nat) : Int) = m := Int.natAbs_of_nonneg (by omega)
    have : ((m.natAbs : Nat) : Int) < ((2 ^ 100 : Nat) : Int) := by rw [e]; exact_mod_cast h
    exact Int.ofNat_lt.mp this
  have := PySem.Flt.log2_lt_of (by decide) h1
  omega
section
variable {P : Program} {w : World} {K : PySem.W.Frag} {mg : Str → Option Value} {base : Heap}
theorem scDraw : FnScope ["_law_purse_here", "_law_many", "_law_drawn", "_law_found", "_law_piece"] ["_law_purse_here", "_law_many"] (defScope sDraw) := ⟨rfl, rfl, rfl, by decide +kernel, rfl, by decide +kernel, by decide +kernel⟩
theorem ok_draw {f : Addr} {fd : FuncData} (F : Fun K "_law_draw" "_law_draw" sDraw f fd) (B : Bt4 mg) (M : Cal P w K mg base 1 "_law_mixed" spMixed []) : FnOk P w K mg base CX0 2 f fd ["_law_purse_here", "_law_many"] spDraw := by
  refine F.ok scDraw (fun vs H Q E h => ?_) (fun cdv A outer s H vs Q E hr h => ?_)
  · obtain ⟨a, many, n, rfl, _⟩ := h
    rfl
  · obtain ⟨a, many, n, rfl, ⟨p0, p1, p2, p3, hp, a0, a1, b0, b1, c0, c1, d0, d1⟩, m1, m2, k⟩ := h
    refine ⟨_, pss_cons (ps_if (pt_cmpR op_gt (pe_ix ix_list (pv 0) pe_int (fun _ _ => rfl)) pe_int (by rfl))
        (pss_cons (ps_set (i := 2) scDraw.nd rfl (Or.inl rfl) (pe_op op_mod (pe_ix ix_list (pv 0) pe_int (fun _ _ => rfl)) (pv 1)))
        (pss_cons (ps_asg (pe_op op_fdivW (pe_ix ix_list (pv 0) pe_int (fun _ _ => rfl)) (pv 1)) (pg_sub (pv 0) pe_int set_list))
        (pss_one (ps_ret (pv 2))))) pss_nil)
      (pss_cons (ps_set (i := 3) scDraw.nd rfl (Or.inl rfl) pe_int)
      (pss_cons (ps_for PassesOwn.never rfl (pi_range1 rfl B.rng_ (pa_cons (pe_op op_add pe_int (pe_op op_fdiv (pe_bits (pv 1)) pe_int)) pa_nil)) (pg_name (i := 4) scDraw.nd rfl (Or.inl rfl))
        (pss_cons (ps_asg (pe_op op_add (pe_ix ix_list (pv 0) pe_int (fun _ _ => rfl)) pe_int) (pg_sub (pv 0) pe_int set_list))
        (pss_one (ps_set (i := 3) scDraw.nd rfl (Or.inl rfl) (pe_op op_add (pe_op op_mul (pv 3) pe_int) (pe_c M hr (by decide) rfl (pa_cons (pe_ix ix_list (pv 0) pe_int (fun _ _ => rfl)) (pa_cons (pe_ix ix_list (pv 0) pe_int (fun _ _ => rfl)) (pa_cons (pe_ix ix_list (pv 0) pe_int (fun _ _ => rfl)) pa_nil)))))))))
      (pss_one (ps_ret (pe_op op_mod (pv 3) (pv 1)))))), ?_⟩
    have ml : CDivW p0 many := by
      refine ⟨by omega, ?_⟩
      have h1 := bits_100 m1 m2
      unfold Builtin.Int.intBits at h1
      rw [if_neg (by intro e; have := eq_of_beq e; omega)] at h1
      omega
    refine ⟨_, rfl, a, _, 0, _, rfl, rfl, SqL.of hp, rfl, _, _, rfl, rfl, _, rfl, iteD (fun h => ?_) (fun h => ?_)⟩
    · refine ⟨_, rfl, a, _, 0, _, rfl, rfl, SqL.of hp, rfl, _, rfl, _, _, rfl, rfl, (show 0 < many by omega), ?_⟩
      refine ⟨_, rfl, a, _, 0, _, rfl, rfl, SqL.of hp, rfl, _, rfl, _, _, rfl, rfl, ml, _, rfl, a, _, 0, 0, rfl, rfl, hp, rfl, ?_⟩
      refine ⟨_, rfl, k _ _ (Int.emod_nonneg _ (by omega)) (Int.emod_lt_of_pos _ (by omega)) ⟨p0 / many, p1, p2, p3, upd_same, Int.ediv_nonneg a0 (by omega), Int.lt_of_le_of_lt (Int.ediv_le_self _ a0) a1, b0, b1, c0, by omega, d0, d1⟩ fun c o nc e => by rw [upd_ne nc]; exact e⟩
    · dsimp only [tNext]
      refine seq_asg ?_
      dsimp only [tC]
      have bb := bits_100 m1 m2
      have jn : ((1 + ((Builtin.Int.intBits many : Nat) : Int) / 28)).toNat ≤ 4 := by omega
      refine ⟨_, rfl, many, rfl, _, 28, rfl, rfl, (by constructor <;> decide), _, _, rfl, rfl, _, rfl, ?_⟩
      refine ⟨by omega, by omega, for_it (walk_range (n := (1 + ((Builtin.Int.intBits many : Nat) : Int) / 28).toNat)) (fun i σ' H' => (∃ fnd v, σ' = [some (.ref a), some (.int many), none, some (.int fnd), v]) ∧ SameB a H H' ∧ H' a = some (.lst [.int p0, .int p1, .int (p2 + (i : Nat)), .int p3])) ⟨⟨0, none, rfl⟩, SameB.refl _ _, by rw [hp]; simp⟩ (fun _ _ _ _ _ => trivial) ?_ ?_⟩
      · rintro i x σ' H1 H2 hi ⟨⟨fnd, v, rfl⟩, S, hp'⟩ ⟨rfl, rfl⟩
        have hi4 : i < 4 := Nat.lt_of_lt_of_le hi jn
        refine ⟨_, rfl, a, _, 2, _, rfl, rfl, SqL.of hp', rfl, _, _, rfl, rfl, _, rfl, a, _, 2, 2, rfl, rfl, hp', rfl, ?_⟩
        have hq : (upd H2 a (.lst [.int p0, .int p1, .int (p2 + (i : Nat) + 1), .int p3])) a = some (.lst [.int p0, .int p1, .int (p2 + (i : Nat) + 1), .int p3]) := upd_same
        have sq : SqL K (upd H2 a (.lst [.int p0, .int p1, .int (p2 + (i : Nat) + 1), .int p3])) a [.int p0, .int p1, .int (p2 + (i : Nat) + 1), .int p3] := SqL.of hq
        refine ⟨_, rfl, _, _, rfl, rfl, .inr (by constructor <;> decide), _, rfl, a, _, 1, _, rfl, rfl, sq, rfl, _, rfl, a, _, 2, _, rfl, rfl, sq, rfl, _, rfl, a, _, 3, _, rfl, rfl, sq, rfl, p1, p2 + (i : Nat) + 1, p3, rfl, b0, b1, by omega, by omega, d0, d1, fun r r0 r1 => ⟨_, _, rfl, rfl, ⟨_, _, rfl⟩, S.upd, ?_⟩⟩
        rw [upd_same]
        have e : p2 + ((i + 1 : Nat) : Int) = p2 + (i : Nat) + 1 := by omega
        rw [e]
        rfl
      · rintro σ' H1 ⟨⟨fnd, v, rfl⟩, S, hp'⟩
        dsimp only
        exact ⟨_, rfl, _, rfl, _, _, rfl, rfl, (show 0 < many by omega), k _ _ (Int.emod_nonneg _ (by omega)) (Int.emod_lt_of_pos _ (by omega)) ⟨p0, p1, _, p3, hp', a0, a1, b0, b1, by omega, by omega, d0, d1⟩ S⟩
end
theorem PurseAt.lst {H : Hp} {a : Addr} {n : Nat} (h : PurseAt H a n) : ∃ ys, H a = some (.lst ys) := let ⟨_, _, _, _, h, _⟩ := h; ⟨_, h⟩
theorem PurseAt.same {H H' : Hp} {a : Addr} {n : Nat} (h : PurseAt H a n) (S : Same H H') : PurseAt H' a n := let ⟨p0, p1, p2, p3, h, r⟩ := h; ⟨p0, p1, p2, p3, S _ _ h, r⟩
theorem PurseAt.less {H : Hp} {a : Addr} {n m : Nat} (h : PurseAt H a n) (l : m ≤ n) : PurseAt H a m := let ⟨p0, p1, p2, p3, h, a0, a1, b0, b1, c0, c1, r⟩ := h; ⟨p0, p1, p2, p3, h, a0, a1, b0, b1, c0, by omega, r⟩
end E2

set_option Elab.async false
set_option linter.all false
set_option maxRecDepth 100000
set_option maxHeartbeats 1000000
/-! _law_one_of -/
namespace E2
open PySem PySem.Spec PyProof.Rows L2
open C8 (Cal Mak Met InsC pe_c pe_mt pe_mt0 call_isC clsBody)
section
variable {P : Program} {w : World} {K : PySem.W.Frag} {mg : Str → Option Value} {base : Heap}
def spOneOf (K : PySem.W.Frag) : Sp := fun vs H Q _ => ∃ (a l : Addr) (xs : List V) (n : Nat), vs = [.ref a, .ref l] ∧ PurseAt H a (n + 4) ∧ SqL K H l xs ∧ l ≠ a ∧ 0 < xs.length ∧ xs.length < 1000 ∧ ∀ r H', r ∈ xs → PurseAt H' a n → SameB a H H' → Q r H'
theorem scOneOf : FnScope ["_law_purse_here", "_law_some"] ["_law_purse_here", "_law_some"] (defScope sOneOf) := ⟨rfl, rfl, rfl, by decide +kernel, rfl, by decide +kernel, by decide +kernel⟩
theorem ok_oneOf {f : Addr} {fd : FuncData} (F : Fun K "_law_one_of" "_law_one_of" sOneOf f fd) (B : Bt4 mg) (M : Cal P w K mg base 2 "_law_draw" spDraw []) : FnOk P w K mg base CX0 3 f fd ["_law_purse_here", "_law_some"] (spOneOf K) := by
  refine F.ok scOneOf (fun vs H Q E h => ?_) (fun cdv A outer s H vs Q E hr h => ?_)
  · obtain ⟨a, l, xs, n, rfl, _⟩ := h
    rfl
  · obtain ⟨a, l, xs, n, rfl, hp, hs, ne, l0, l1, k⟩ := h
    refine ⟨_, pss_one (ps_ret (pe_ix ix_list (pv 1) (pe_c M hr (by decide) rfl (pa_cons (pv 0) (pa_cons (pe_callB call_len_seq (by rfl) B.len_ PySem.boot_len (pa_cons (pv 1) pa_nil)) pa_nil))) (fun _ _ => rfl))), ?_⟩
    refine ⟨_, rfl, _, rfl, _, rfl, l, xs, rfl, .inl hs, a, (xs.length : Int), n, rfl, hp, by omega, by omega, fun r H' r0 r1 hp' S => ?_⟩
    have hlt : r.toNat < xs.length := by omega
    have e : atI xs r = some (xs[r.toNat]) := by
      unfold atI ixN
      rw [if_pos r0, if_pos r1]
      exact List.getElem?_eq_getElem hlt
    exact ⟨l, xs, r, _, rfl, rfl, E2.SqL.sameB hs S ne, e, k _ _ (List.getElem_mem hlt) hp' S⟩
end
end E2

set_option Elab.async false
set_option linter.all false
set_option maxRecDepth 100000
set_option maxHeartbeats 1000000
/-! _law_tree -/
namespace E2
open PySem PySem.Spec PyProof.Rows L2
open C8 (Cal Mak Met InsC pe_c pe_mt pe_mt0 call_isC clsBody)
abbrev sTree : Stmt := top 27
inductive Tr where
  | num (n : Int)
  | var (z : Str)
  | div (t : Tr) (k : Int)
  | bin (o : Nat) (l r : Tr)
def word : Nat → Str
  | 0 => "plus"
  | 1 => "minus"
  | _ => "times"
/-- the expression at an address, nested tuples -/
def TrAt (K : PySem.W.Frag) (H : Hp) : Tr → Addr → Prop
  | .num n, a => SqT K H a [.str "number", .int n]
  | .var z, a => SqT K H a [.str "letter", .str z]
  | .div t k, a => ∃ b, SqT K H a [.str "divided", .ref b, .int k] ∧ TrAt K H t b
  | .bin o l r, a => ∃ b c, SqT K H a [.str (word o), .ref b, .ref c] ∧ TrAt K H l b ∧ TrAt K H r c
theorem SqT.sameL {K : PySem.W.Frag} {D : Addr} {H H' : Hp} {a : Addr} {xs ys : List V} (h : SqT K H a xs) (S : SameB D H H') (hD : H D = some (.lst ys)) : SqT K H' a xs := by
  rcases h with (h | ⟨o, h⟩) | h
  · exact .inl (.inl (S _ _ (by rintro rfl; rw [hD] at h; cases h) h))
  · exact .inl (.inr ⟨o, S _ _ (by rintro rfl; rw [hD] at h; cases h) h⟩)
  · exact .inr h
theorem TrAt.imp {K : PySem.W.Frag} {H H' : Hp} (f : ∀ a xs, SqT K H a xs → SqT K H' a xs) : ∀ {t : Tr} {a : Addr}, TrAt K H t a → TrAt K H' t a
  | .num n, a, h => f _ _ h
  | .var z, a, h => f _ _ h
  | .div t k, a, ⟨b, h1, h2⟩ => ⟨b, f _ _ h1, TrAt.imp f h2⟩
  | .bin o l r, a, ⟨b, c, h1, h2, h3⟩ => ⟨b, c, f _ _ h1, TrAt.imp f h2, TrAt.imp f h3⟩
theorem TrAt.same {K : PySem.W.Frag} {H H' : Hp} {t : Tr} {a : Addr} (h : TrAt K H t a) (S : Same H H') : TrAt K H' t a := h.imp fun _ _ s => s.same S
theorem TrAt.sameB {K : PySem.W.Frag} {H H' : Hp} {t : Tr} {a p : Addr} {n : Nat} (h : TrAt K H t a) (S : SameB p H H') (hp : PurseAt H p n) : TrAt K H' t a := by
  obtain ⟨ys, e⟩ := hp.lst
  exact h.imp fun _ _ s => E2.SqT.sameL s S e
def TrOk (names : List Str) : Nat → Tr → Prop
  | _, .num n => n.natAbs < 2 ^ 40
  | _, .var z => z ∈ names
  | 0, .div _ _ => False
  | d + 1, .div t k => TrOk names d t ∧ 1 ≤ k ∧ k ≤ 6
  | 0, .bin _ _ _ => False
  | d + 1, .bin o l r => o ≤ 2 ∧ TrOk names d l ∧ TrOk names d r
def cT : Nat → Nat
  | 0 => 8
  | d + 1 => 8 + 2 * cT d
def spTree (K : PySem.W.Frag) (d : Nat) : Sp := fun vs H Q _ => ∃ (a l : Addr) (names : List Str) (n : Nat), vs = [.ref a, .int (d : Int), .ref l] ∧ PurseAt H a (n + cT d) ∧ SqL K H l (names.map V.str) ∧ l ≠ a ∧ names.length ≤ 10 ∧ (∀ z ∈ names, PyData.strOk z = true) ∧
  ∀ t b H', TrOk names d t → TrAt K H' t b → PurseAt H' a n → SameB a H H' → Q (.ref b) H'
def spTreeP (K : PySem.W.Frag) : Nat → Sp
  | 0 => fun _ _ _ _ => False
  | d + 1 => spTree K d
theorem canLay_strs (l : List Str) (h : ∀ z ∈ l, PyData.strOk z = true) : PyData.canLayAll0 (l.map PyData.str) = true := by
  induction l with
  | nil => rfl
  | cons b l ih => simpa [PyData.canLayAll0, PyData.canLay0] using ⟨h b (List.mem_cons.mpr (.inl rfl)), ih fun z hz => h z (List.mem_cons.mpr (.inr hz))⟩
theorem depth_strs (l : List Str) : PyData.depthAll (l.map PyData.str) = 0 := by
  induction l with
  | nil => rfl
  | cons b l ih =>
    show max (PyData.depth (.str b)) (PyData.depthAll (l.map PyData.str)) = 0
    rw [ih]
    rfl
theorem shaped_strs (l : List Str) (h : ∀ z ∈ l, PyData.strOk z = true) : SeqAt.shaped (.list (l.map PyData.str)) = true := by
  have h1 : PyData.canLay0 (.list (l.map PyData.str)) = true := by simpa [PyData.canLay0] using canLay_strs l h
  have h2 : PyData.depth (.list (l.map PyData.str)) ≤ 64 := by
    simp only [PyData.depth]
    rw [depth_strs]
    decide
  show (PyData.canLay0 _ && decide (PyData.depth _ ≤ 64)) = true
  rw [h1, decide_eq_true h2]
  rfl
theorem dp_strs {K : PySem.W.Frag} {H : Hp} (l : List Str) : DpAll K H (l.map V.str) (l.map PyData.str) := by
  induction l with
  | nil => exact .nil
  | cons b l ih => exact .cons (.str b) ih
theorem eqv_nil (l : List Str) : PyData.eqv (.list (l.map PyData.str)) (.list []) = l.isEmpty := by
  cases l with
  | nil => rfl
  | cons b l => rfl
/-- ("letter", ..) or ("number", 5) -/
theorem letter_part {K : PySem.W.Frag} {D : Ends} {σ : L2.St} {H : Hp} {a l : Addr} {names : List Str} {n : Nat} (h0 : σ[0]? = some (some (.ref a))) (h2 : σ[2]? = some (some (.ref l))) (hp : PurseAt H a (n + 4)) (hs : SqL K H l (names.map V.str)) (ne : l ≠ a) (hn : names.length ≤ 10) (hso : ∀ z ∈ names, PyData.strOk z = true)
    (k : ∀ t b H', (t = .num 5 ∨ ∃ z ∈ names, t = .var z) → TrAt K H' t b → PurseAt H' a n → SameB a H H' → D.rt (.ref b) H') :
    tRet (tIf (tTest (tOp (rNeD K) (tVar 2) (tLstS tNil))) (tTupS (tCons (tC (V.str "letter")) (tCons (tCall (spOneOf K) [] C8.E0 (tCons (tVar 0) (tCons (tVar 2) tNil))) tNil))) (tTupS (tCons (tC (V.str "number")) (tCons (tC (V.int 5)) tNil)))) D σ H := by
  refine ret_of ⟨_, h2, (by show 0 ≤ sizeLine; decide), fun pe H2 S2 n2 hpe => ⟨.list (names.map PyData.str), .list [], .lst (hs.same S2) (dp_strs _), .lst (SqL.of hpe) .nil, shaped_strs _ hso, by decide, _, rfl, ?_⟩⟩
  rw [eqv_nil]
  cases names with
  | nil => exact iteF ⟨(by show 2 ≤ sizeLine; decide), fun pt H3 S3 n3 h3 => k (.num 5) pt H3 (.inl rfl) (SqT.of h3) (((hp.same S2).same S3).less (by omega)) fun c o nc e => S3 _ _ (S2 _ _ e)⟩
  | cons x xs =>
    refine iteT (B := False) ⟨_, h0, _, h2, a, l, _, n, rfl, hp.same S2, hs.same S2, ne, by rw [List.length_map]; exact Nat.succ_pos _, by rw [List.length_map]; omega, fun r H3 hr hp3 S3 => ?_⟩
    obtain ⟨z, hz, rfl⟩ := List.mem_map.mp hr
    exact ⟨(by show 2 ≤ sizeLine; decide), fun pt H4 S4 n4 h4 => k (.var z) pt H4 (.inr ⟨z, hz, rfl⟩) (SqT.of h4) (hp3.same S4) fun c o nc e => S4 _ _ (S3 _ _ nc (S2 _ _ e))⟩
theorem few_nums {r : V} (h : r ∈ [V.int 0, V.int 1, V.int 2, V.int 3, V.int 7, V.int 12, V.int 99]) : ∃ m : Int, r = .int m ∧ 0 ≤ m ∧ m ≤ 99 := by
  simp only [List.mem_cons, List.not_mem_nil, or_false] at h
  rcases h with rfl | rfl | rfl | rfl | rfl | rfl | rfl
  all_goals exact ⟨_, rfl, by decide, by decide⟩
section
variable {P : Program} {w : World} {K : PySem.W.Frag} {mg : Str → Option Value} {base : Heap}
theorem scTree : FnScope ["_law_purse_here", "_law_depth", "_law_names_here", "_law_way", "_law_word"] ["_law_purse_here", "_law_depth", "_law_names_here"] (defScope sTree) := ⟨rfl, rfl, rfl, by decide +kernel, rfl, by decide +kernel, by decide +kernel⟩
theorem ok_tree {f : Addr} {fd : FuncData} (F : Fun K "_law_tree" "_law_tree" sTree f fd) (d : Nat) (hd : d ≤ 3) (D : Cal P w K mg base 2 "_law_draw" spDraw []) (O : Cal P w K mg base 3 "_law_one_of" (spOneOf K) []) (R : Cal P w K mg base (4 + d) "_law_tree" (spTreeP K d) []) : FnOk P w K mg base CX0 (5 + d) f fd ["_law_purse_here", "_law_depth", "_law_names_here"] (spTree K d) := by
  have e5 : 5 + d = (4 + d) + 1 := by omega
  rw [e5]
  refine F.ok scTree (fun vs H Q E h => ?_) (fun cdv A outer s H vs Q E hr h => ?_)
  · obtain ⟨a, l, names, n, rfl, _⟩ := h
    rfl
  · obtain ⟨a, l, names, n, rfl, hp, hs, ne, hn, hso, k⟩ := h
    refine ⟨_, pss_cons (ps_set (i := 3) scTree.nd rfl (Or.inl rfl) (pe_c D hr (by omega) rfl (pa_cons (pv 0) (pa_cons (pe_ifExp (pt_cmpR op_gt (pv 1) pe_int (by rfl)) pe_int pe_int) pa_nil))))
      (pss_cons (ps_if (pt_cmpR op_eq (pv 3) pe_int (nomark _)) (pss_one (ps_ret (pe_tupS (pa_cons pe_str (pa_cons (pe_c O hr (by omega) rfl (pa_cons (pv 0) (pa_cons (pe_lstS (pa_cons pe_int (pa_cons pe_int (pa_cons pe_int (pa_cons pe_int (pa_cons pe_int (pa_cons pe_int (pa_cons pe_int pa_nil)))))))) pa_nil))) pa_nil))))) pss_nil)
      (pss_cons (ps_if (PW.pt (pw_or (pt_cmpR op_eq (pv 3) pe_int (nomark _)) (pw_or1 (pt_cmpR (op_eqD hr.units) (pv 2) (pe_lstS pa_nil) (nomark _)))))
          (pss_one (ps_ret (pe_ifExp (pt_cmpR (op_neD hr.units) (pv 2) (pe_lstS pa_nil) (nomark _)) (pe_tupS (pa_cons pe_str (pa_cons (pe_c O hr (by omega) rfl (pa_cons (pv 0) (pa_cons (pv 2) pa_nil))) pa_nil))) (pe_tupS (pa_cons pe_str (pa_cons pe_int pa_nil)))))) pss_nil)
      (pss_cons (ps_if (pt_cmpR op_eq (pv 3) pe_int (nomark _)) (pss_one (ps_ret (pe_tupS (pa_cons pe_str (pa_cons (pe_c R hr (by omega) rfl (pa_cons (pv 0) (pa_cons (pe_op op_sub (pv 1) pe_int) (pa_cons (pv 2) pa_nil)))) (pa_cons (pe_op op_add pe_int (pe_c D hr (by omega) rfl (pa_cons (pv 0) (pa_cons pe_int pa_nil)))) pa_nil)))))) pss_nil)
      (pss_cons (ps_set (i := 4) scTree.nd rfl (Or.inl rfl) (pe_ix ix_list (pe_lstS (pa_cons pe_str (pa_cons pe_str (pa_cons pe_str (pa_cons pe_str pa_nil))))) (pe_op op_sub (pv 3) pe_int) (fun _ _ => rfl)))
      (pss_one (ps_ret (pe_tupS (pa_cons (pv 4) (pa_cons (pe_c R hr (by omega) rfl (pa_cons (pv 0) (pa_cons (pe_op op_sub (pv 1) pe_int) (pa_cons (pv 2) pa_nil)))) (pa_cons (pe_c R hr (by omega) rfl (pa_cons (pv 0) (pa_cons (pe_op op_sub (pv 1) pe_int) (pa_cons (pv 2) pa_nil)))) pa_nil)))))))))), ?_⟩
    have tok : ∀ t, (t = .num 5 ∨ ∃ z ∈ names, t = .var z) → TrOk names d t := by
      rintro t (rfl | ⟨z, hz, rfl⟩)
      · cases d <;> exact (show (5 : Int).natAbs < 2 ^ 40 by decide)
      · cases d <;> exact hz
    cases d with
    | zero =>
      refine seq_asg ⟨_, rfl, _, rfl, _, _, rfl, rfl, _, rfl, iteF ⟨a, 2, n + 4, rfl, hp, by decide, by decide, fun r H1 r0 r1 hp1 S1 => ?_⟩⟩
      refine ⟨_, rfl, rfl, _, rfl, iteD (fun hw => ?_) (fun hw => ?_)⟩
      · refine ⟨_, rfl, (by show 7 ≤ sizeLine; decide), fun pl H2 S2 npl hpl => ⟨a, pl, _, n, rfl, (hp1.less (by omega)).same S2, SqL.of hpl, ?_, by decide, by decide, fun r2 H3 hr2 hp3 S3 => ?_⟩⟩
        · rintro rfl
          obtain ⟨ys, e⟩ := hp1.lst
          rw [npl] at e
          cases e
        · obtain ⟨m, rfl, m0, m1⟩ := few_nums hr2
          exact ⟨(by show 2 ≤ sizeLine; decide), fun pt H4 S4 n4 h4 => k (.num m) pt H4 (show m.natAbs < 2 ^ 40 by omega) (SqT.of h4) ((hp3.same S4).less (by omega)) (((S1.to S2).trans S3).to S4)⟩
      dsimp only [tNext]
      have hs1 := E2.SqL.sameB hs S1 ne
      have hr : r = 1 := by
        have : r ≠ 0 := fun e => hw (by rw [e])
        omega
      subst hr
      refine ⟨_, rfl, rfl, _, rfl, iteT (B := False) ?_⟩
      exact letter_part rfl rfl hp1 hs1 ne hn hso fun t b H' ht hb hp' S' => k t b H' (tok t ht) hb hp' (S1.trans S')
    | succ d =>
      have e1 : n + cT (d + 1) = (n + 4 + 2 * cT d) + 4 := by show n + (8 + 2 * cT d) = _; omega
      rw [e1] at hp
      refine seq_asg ⟨_, rfl, _, rfl, _, _, rfl, rfl, _, rfl, iteD (fun _ => ?_) (fun h => absurd (by omega) h)⟩
      refine ⟨a, 7, n + 4 + 2 * cT d, rfl, hp, by decide, by decide, fun r H1 r0 r1 hp1 S1 => ?_⟩
      refine ⟨_, rfl, rfl, _, rfl, iteD (fun hw => ?_) (fun hw => ?_)⟩
      · refine ⟨_, rfl, (by show 7 ≤ sizeLine; decide), fun pl H2 S2 npl hpl => ⟨a, pl, _, n, rfl, (hp1.less (by omega)).same S2, SqL.of hpl, ?_, by decide, by decide, fun r2 H3 hr2 hp3 S3 => ?_⟩⟩
        · rintro rfl
          obtain ⟨ys, e⟩ := hp1.lst
          rw [npl] at e
          cases e
        · obtain ⟨m, rfl, m0, m1⟩ := few_nums hr2
          exact ⟨(by show 2 ≤ sizeLine; decide), fun pt H4 S4 n4 h4 => k (.num m) pt H4 (show m.natAbs < 2 ^ 40 by omega) (SqT.of h4) ((hp3.same S4).less (by omega)) (((S1.to S2).trans S3).to S4)⟩
      dsimp only [tNext]
      have hs1 := E2.SqL.sameB hs S1 ne
      refine ⟨_, rfl, rfl, _, rfl, iteD (fun _ => ?_) (fun hw1 => ?_)⟩
      · exact letter_part rfl rfl (hp1.less (by omega)) hs1 ne hn hso fun t b H' ht hb hp' S' => k t b H' (tok t ht) hb hp' (S1.trans S')
      refine ⟨_, rfl, (by show 0 ≤ sizeLine; decide), fun pe H2 S2 n2 hpe => ⟨.list (names.map PyData.str), .list [], .lst (hs1.same S2) (dp_strs _), .lst (SqL.of hpe) .nil, shaped_strs _ hso, by decide, _, rfl, ?_⟩⟩
      rw [eqv_nil]
      have hp2 := hp1.same S2
      have hs2 := hs1.same S2
      have SB2 := S1.to S2
      cases hem : names.isEmpty with
      | true =>
        refine iteT (B := False) ?_
        exact letter_part rfl rfl (hp2.less (by omega)) hs2 ne hn hso fun t b H' ht hb hp' S' => k t b H' (tok t ht) hb hp' (SB2.trans S')
      | false =>
        refine iteF ?_
        dsimp only [tNext]
        have ed : ([V.ref a, V.int (((d + 1 : Nat) : Int) - 1), V.ref l] : List V) = [V.ref a, V.int (d : Int), V.ref l] := by
          rw [show ((d + 1 : Nat) : Int) - 1 = (d : Int) by omega]
        refine ⟨_, rfl, rfl, _, rfl, iteD (fun h6 => ?_) (fun h6 => ?_)⟩
        · refine ⟨_, rfl, _, rfl, _, _, rfl, rfl, _, rfl, a, l, names, n + 4, ed, hp2.less (by omega), hs2, ne, hn, hso, fun t b H3 tk tb hp3 S3 => ?_⟩
          refine ⟨_, rfl, a, 6, n, rfl, hp3, by decide, by decide, fun r2 H4 r20 r21 hp4 S4 => ⟨_, _, rfl, rfl, (by show 3 ≤ sizeLine; decide), fun pt H5 S5 n5 h5 => ?_⟩⟩
          exact k (.div t (1 + r2)) pt H5 ⟨tk, by omega, by omega⟩ ⟨b, SqT.of h5, (tb.sameB S4 hp3).same S5⟩ (hp4.same S5) (((SB2.trans S3).trans S4).to S5)
        · dsimp only [tNext]
          obtain ⟨o, ho, hat⟩ : ∃ o, o ≤ 2 ∧ atI [V.str "plus", V.str "plus", V.str "minus", V.str "times"] (r - 2) = some (V.str (word o)) := by
            have c0 : r ≠ 0 := fun e => hw (by rw [e])
            have c1 : r ≠ 1 := fun e => hw1 (by rw [e])
            have c6 : r ≠ 6 := fun e => h6 (by rw [e])
            have : r = 2 ∨ r = 3 ∨ r = 4 ∨ r = 5 := by omega
            rcases this with rfl | rfl | rfl | rfl
            · exact ⟨0, by decide, rfl⟩
            · exact ⟨0, by decide, rfl⟩
            · exact ⟨1, by decide, rfl⟩
            · exact ⟨2, by decide, rfl⟩
          refine seq_asg ⟨(by show 4 ≤ sizeLine; decide), fun pl H3 S3 n3 h3 => ⟨_, rfl, _, _, rfl, rfl, pl, _, r - 2, V.str (word o), rfl, rfl, SqL.of h3, hat, ?_⟩⟩
          have hp3 := hp2.same S3
          refine ⟨_, rfl, _, rfl, _, rfl, _, _, rfl, rfl, _, rfl, a, l, names, n + cT d, ed, hp3.less (by omega), hs2.same S3, ne, hn, hso, fun t1 b1 H4 tk1 tb1 hp4 S4 => ?_⟩
          refine ⟨_, rfl, _, rfl, _, _, rfl, rfl, _, rfl, a, l, names, n, ed, hp4, E2.SqL.sameB (hs2.same S3) S4 ne, ne, hn, hso, fun t2 b2 H5 tk2 tb2 hp5 S5 => ⟨(by show 3 ≤ sizeLine; decide), fun pt H6 S6 n6 h6 => ?_⟩⟩
          exact k (.bin o t1 t2) pt H6 ⟨ho, tk1, tk2⟩ ⟨b1, b2, SqT.of h6, (tb1.sameB S5 hp4).same S6, tb2.same S6⟩ (hp5.same S6) ((((SB2.to S3).trans S4).trans S5).to S6)
end
end E2

set_option Elab.async false
set_option linter.all false
set_option maxRecDepth 100000
set_option maxHeartbeats 1000000
/-! _law_worth, _law_whole_at -/
namespace E2
open PySem PySem.Spec PyProof.Rows L2
open C8 (Cal Mak Met InsC pe_c pe_mt pe_mt0 call_isC clsBody)
abbrev sWorth : Stmt := top 28
abbrev sWholeAt : Stmt := top 30
def wT (g : Str → Int) : Tr → Int × Int
  | .num n => (n, 1)
  | .var z => (g z, 1)
  | .div t k => ((wT g t).1, (wT g t).2 * k)
  | .bin 0 l r => ((wT g l).1 * (wT g r).2 + (wT g r).1 * (wT g l).2, (wT g l).2 * (wT g r).2)
  | .bin 1 l r => ((wT g l).1 * (wT g r).2 - (wT g r).1 * (wT g l).2, (wT g l).2 * (wT g r).2)
  | .bin (_ + 2) l r => ((wT g l).1 * (wT g r).1, (wT g l).2 * (wT g r).2)
def bW (B d : Nat) : Nat := B * 4 ^ d
/-- numbers of any tree of the depth, and its divisors -/
def Wd (B : Nat) (names : List Str) (g : Str → Int) (d : Nat) (t : Tr) : Prop := (wT g t).1.natAbs < 2 ^ bW B d ∧ (wT g t).2.natAbs < 2 ^ bW B d ∧ 0 < (wT g t).2
theorem bW_pos {B : Nat} (hB : 100 ≤ B) (d : Nat) : 0 < bW B d := Nat.mul_pos (by omega) (Nat.pow_pos (by decide))
theorem bW_succ (B d : Nat) : bW B (d + 1) = 4 * bW B d := by unfold bW; rw [Nat.pow_succ, Nat.mul_left_comm, Nat.mul_comm 4, Nat.mul_left_comm, Nat.mul_assoc]
theorem lt_pow_mono {a m n : Nat} (h : a < 2 ^ m) (l : m ≤ n) : a < 2 ^ n := Nat.lt_of_lt_of_le h (Nat.pow_le_pow_right (by decide) l)
theorem sum_lt {x y : Int} {m : Nat} (hx : x.natAbs < 2 ^ m) (hy : y.natAbs < 2 ^ m) : (x + y).natAbs < 2 ^ (m + 1) ∧ (x - y).natAbs < 2 ^ (m + 1) := by
  rw [Nat.pow_succ]
  omega
theorem wd_of {B : Nat} (hB : 100 ≤ B) {names : List Str} {g : Str → Int} (hg : ∀ z ∈ names, (g z).natAbs < 2 ^ B) : ∀ (d : Nat) (t : Tr), TrOk names d t → Wd B names g d t := by
  have z0 : bW B 0 = B := Nat.mul_one B
  intro d
  induction d with
  | zero =>
    intro t ht
    match t, ht with
    | .num n, h0 => exact ⟨lt_pow_mono (m := 40) h0 (by omega), lt_pow_mono (m := 100) (show (1 : Int).natAbs < 2 ^ 100 by decide) (by omega), (show (0 : Int) < 1 by decide)⟩
    | .var z, h => exact ⟨lt_pow_mono (hg z h) (by omega), lt_pow_mono (m := 100) (show (1 : Int).natAbs < 2 ^ 100 by decide) (by omega), (show (0 : Int) < 1 by decide)⟩
  | succ d ih =>
    intro t ht
    have b1 := bW_pos hB d
    have b4 := bW_succ B d
    match t, ht with
    | .num n, h0 =>
      have b0 : B ≤ bW B (d + 1) := by unfold bW; exact Nat.le_mul_of_pos_right _ (Nat.pow_pos (by decide))
      exact ⟨lt_pow_mono (m := 40) h0 (by omega), lt_pow_mono (m := 100) (show (1 : Int).natAbs < 2 ^ 100 by decide) (Nat.le_trans hB b0), (show (0 : Int) < 1 by decide)⟩
    | .var z, h =>
      have b0 : B ≤ bW B (d + 1) := by unfold bW; exact Nat.le_mul_of_pos_right _ (Nat.pow_pos (by decide))
      exact ⟨lt_pow_mono (hg z h) b0, lt_pow_mono (m := 100) (show (1 : Int).natAbs < 2 ^ 100 by decide) (Nat.le_trans hB b0), (show (0 : Int) < 1 by decide)⟩
    | .div t k, ⟨ht, k0, k1⟩ =>
      obtain ⟨w1, w2, w3⟩ := ih t ht
      refine ⟨lt_pow_mono w1 (by omega), ?_, Int.mul_pos w3 (by omega)⟩
      have hk : k.natAbs < 2 ^ 4 := by omega
      have b0 : B ≤ bW B d := by unfold bW; exact Nat.le_mul_of_pos_right _ (Nat.pow_pos (by decide))
      exact lt_pow_mono (wide_lt w2 hk) (by omega)
    | .bin o l r, ⟨ho, hl, hr⟩ =>
      obtain ⟨u1, u2, u3⟩ := ih l hl
      obtain ⟨v1, v2, v3⟩ := ih r hr
      have p := wide_lt u2 v2
      have q1 := wide_lt u1 v2
      have q2 := wide_lt v1 u2
      have q3 := wide_lt u1 v1
      have s := sum_lt q1 q2
      have le : bW B d + bW B d + 1 ≤ bW B (d + 1) := by omega
      match o with
      | 0 => exact ⟨lt_pow_mono s.1 le, lt_pow_mono p (by omega), Int.mul_pos u3 v3⟩
      | 1 => exact ⟨lt_pow_mono s.2 le, lt_pow_mono p (by omega), Int.mul_pos u3 v3⟩
      | _ + 2 => exact ⟨lt_pow_mono q3 (by omega), lt_pow_mono p (by omega), Int.mul_pos u3 v3⟩
def bU (d : Nat) : Nat := 4 * 2 ^ d
theorem ud_of {names : List Str} {g : Str → Int} : ∀ (d : Nat) (t : Tr), TrOk names d t → (wT g t).2.natAbs < 2 ^ bU d := by
  intro d
  have b4 : ∀ d, 4 ≤ bU d := fun d => by unfold bU; exact Nat.le_mul_of_pos_right _ (Nat.pow_pos (by decide))
  have one : ∀ d, (1 : Int).natAbs < 2 ^ bU d := fun d => lt_pow_mono (m := 4) (by decide) (b4 d)
  induction d with
  | zero =>
    intro t ht
    match t, ht with
    | .num n, _ => exact one 0
    | .var z, _ => exact one 0
  | succ d ih =>
    intro t ht
    have bs : bU (d + 1) = 2 * bU d := by unfold bU; rw [Nat.pow_succ]; omega
    have b := b4 d
    match t, ht with
    | .num n, _ => exact one (d + 1)
    | .var z, _ => exact one (d + 1)
    | .div t k, ⟨ht, k0, k1⟩ =>
      have hk : k.natAbs < 2 ^ 4 := by omega
      exact lt_pow_mono (wide_lt (ih t ht) hk) (by omega)
    | .bin o l r, ⟨ho, hl, hr⟩ =>
      have p := wide_lt (ih l hl) (ih r hr)
      match o with
      | 0 => exact lt_pow_mono p (by omega)
      | 1 => exact lt_pow_mono p (by omega)
      | _ + 2 => exact lt_pow_mono p (by omega)
theorem bU_le {d : Nat} (h : d ≤ 6) : bU d ≤ 256 := by
  have : d = 0 ∨ d = 1 ∨ d = 2 ∨ d = 3 ∨ d = 4 ∨ d = 5 ∨ d = 6 := by omega
  rcases this with rfl | rfl | rfl | rfl | rfl | rfl | rfl <;> decide
theorem bW_le {B d : Nat} (hB2 : B ≤ 2000) (h : d ≤ 3) : bW B d ≤ 128000 := by
  unfold bW
  have : d = 0 ∨ d = 1 ∨ d = 2 ∨ d = 3 := by omega
  rcases this with rfl | rfl | rfl | rfl <;> omega
/-- a values' dict -/
def VlAt (H : Hp) (dv : Addr) (names : List Str) (g : Str → Int) : Prop := ∃ kvs, H dv = some (.dK kvs) ∧ ValsOk kvs ∧ kvs.length ≤ 1000 ∧ ∀ z ∈ names, valV kvs (Sum.inr z) = some (.int (g z)) ∧ (g z).natAbs < 2 ^ 100
theorem VlAt.same {H H' : Hp} {dv : Addr} {names : List Str} {g : Str → Int} (h : VlAt H dv names g) (S : Same H H') : VlAt H' dv names g := let ⟨k, h1, h2⟩ := h; ⟨k, S _ _ h1, h2⟩
def VlW (H : Hp) (dv : Addr) (names : List Str) (g : Str → Int) : Prop := ∃ B, 100 ≤ B ∧ B ≤ 2000 ∧ ∃ kvs, H dv = some (.dK kvs) ∧ ValsOk kvs ∧ kvs.length ≤ 2000 ∧ ∀ z ∈ names, valV kvs (Sum.inr z) = some (.int (g z)) ∧ (g z).natAbs < 2 ^ B
theorem VlAt.w {H : Hp} {dv : Addr} {names : List Str} {g : Str → Int} (h : VlAt H dv names g) : VlW H dv names g := let ⟨k, h1, h2, h3, h4⟩ := h; ⟨100, Nat.le_refl _, by decide, k, h1, h2, by omega, h4⟩
def spWorth (K : PySem.W.Frag) (d : Nat) : Sp := fun vs H Q _ => ∃ (b dv : Addr) (t : Tr) (names : List Str) (g : Str → Int), vs = [.ref b, .ref dv] ∧ TrAt K H t b ∧ TrOk names d t ∧ VlW H dv names g ∧ ∀ H' p, Same H H' → H p = none → H' p = some (.tup [.int (wT g t).1, .int (wT g t).2]) → Q (.ref p) H'
def spWorthP (K : PySem.W.Frag) : Nat → Sp
  | 0 => fun _ _ _ _ => False
  | d + 1 => spWorth K d
theorem seq_asgG {te : TE} {g : TG} {u : TS} {D : Ends} {σ : L2.St} {H : Hp} (h : te σ H fun x H1 => g x σ H1 fun σ2 H2 => u D σ2 H2) : tSeq (tAsg te g) u D σ H := h
theorem iteNe {x y : V} {A B : Prop} (h : x ≠ y) (b : B) : if decide (x = y) = true then A else B := by rw [decide_eq_false h]; exact b
theorem iteEq {x : V} {A B : Prop} (a : A) : if decide (x = x) = true then A else B := by rw [decide_eq_true rfl]; exact a
theorem ns {a b : Str} (h : a ≠ b) : V.str a ≠ V.str b := fun e => h (V.str.inj e)
section
variable {P : Program} {w : World} {K : PySem.W.Frag} {mg : Str → Option Value} {base : Heap}
theorem scWorth : FnScope ["_law_tree_here", "_law_values_here", "_law_first", "_law_under", "_law_second", "_law_lower"] ["_law_tree_here", "_law_values_here"] (defScope sWorth) := ⟨rfl, rfl, rfl, by decide +kernel, rfl, by decide +kernel, by decide +kernel⟩
theorem ok_worth {f : Addr} {fd : FuncData} (F : Fun K "_law_worth" "_law_worth" sWorth f fd) (d : Nat) (hd : d ≤ 3) (R : Cal P w K mg base (1 + d) "_law_worth" (spWorthP K d) []) : FnOk P w K mg base CX0 (2 + d) f fd ["_law_tree_here", "_law_values_here"] (spWorth K d) := by
  have e5 : 2 + d = (1 + d) + 1 := by omega
  rw [e5]
  refine F.ok scWorth (fun vs H Q E h => ?_) (fun cdv A outer s H vs Q E hr h => ?_)
  · obtain ⟨b, dv, t, names, g, rfl, _⟩ := h
    rfl
  · obtain ⟨b, dv, t, names, g, rfl, ht, tk, ⟨B, hB1, hB2, kvs, hv, vo, hk, hg⟩, k⟩ := h
    have u1 := Nat.lt_of_le_of_lt (Nat.add_le_add_left (by decide : 1 ≤ 64) _) hr.units
    refine ⟨_, pss_cons (ps_if (pt_cmpR op_eq (pe_ix ix_tup (pv 0) pe_int (fun _ _ => rfl)) pe_str (nomark _)) (pss_one (ps_ret (pe_tupS (pa_cons (pe_ix ix_tup (pv 0) pe_int (fun _ _ => rfl)) (pa_cons pe_int pa_nil))))) pss_nil)
      (pss_cons (ps_if (pt_cmpR op_eq (pe_ix ix_tup (pv 0) pe_int (fun _ _ => rfl)) pe_str (nomark _)) (pss_one (ps_ret (pe_tupS (pa_cons (pe_dget u1 (pv 1) (pe_ix ix_tup (pv 0) pe_int (fun _ _ => rfl)) (fun _ _ => rfl)) (pa_cons pe_int pa_nil))))) pss_nil)
      (pss_cons (ps_asg (pe_c R hr (by omega) rfl (pa_cons (pe_ix ix_tup (pv 0) pe_int (fun _ _ => rfl)) (pa_cons (pv 1) pa_nil))) (pg_tup rfl (pgs_cons (pg_name (i := 2) scWorth.nd rfl (Or.inl rfl)) (pgs_cons (pg_name (i := 3) scWorth.nd rfl (Or.inl rfl)) pgs_nil))))
      (pss_cons (ps_if (pt_cmpR op_eq (pe_ix ix_tup (pv 0) pe_int (fun _ _ => rfl)) pe_str (nomark _)) (pss_one (ps_ret (pe_tupS (pa_cons (pv 2) (pa_cons (pe_op op_mulW (pv 3) (pe_ix ix_tup (pv 0) pe_int (fun _ _ => rfl))) pa_nil))))) pss_nil)
      (pss_cons (ps_asg (pe_c R hr (by omega) rfl (pa_cons (pe_ix ix_tup (pv 0) pe_int (fun _ _ => rfl)) (pa_cons (pv 1) pa_nil))) (pg_tup rfl (pgs_cons (pg_name (i := 4) scWorth.nd rfl (Or.inl rfl)) (pgs_cons (pg_name (i := 5) scWorth.nd rfl (Or.inl rfl)) pgs_nil))))
      (pss_cons (ps_if (pt_cmpR op_eq (pe_ix ix_tup (pv 0) pe_int (fun _ _ => rfl)) pe_str (nomark _)) (pss_one (ps_ret (pe_tupS (pa_cons (pe_op op_mulW (pv 2) (pv 4)) (pa_cons (pe_op op_mulW (pv 3) (pv 5)) pa_nil))))) pss_nil)
      (pss_cons (ps_if (pt_cmpR op_eq (pe_ix ix_tup (pv 0) pe_int (fun _ _ => rfl)) pe_str (nomark _)) (pss_one (ps_ret (pe_tupS (pa_cons (pe_op op_sub (pe_op op_mulW (pv 2) (pv 5)) (pe_op op_mulW (pv 4) (pv 3))) (pa_cons (pe_op op_mulW (pv 3) (pv 5)) pa_nil))))) pss_nil)
      (pss_one (ps_ret (pe_tupS (pa_cons (pe_op op_add (pe_op op_mulW (pv 2) (pv 5)) (pe_op op_mulW (pv 4) (pv 3))) (pa_cons (pe_op op_mulW (pv 3) (pv 5)) pa_nil))))))))))), ?_⟩
    have wd := wd_of hB1 (names := names) (g := g) fun z hz => (hg z hz).2
    match t, ht, tk with
    | .num n, ht, tk =>
      exact ⟨_, rfl, b, _, 0, _, rfl, rfl, ht, rfl, rfl, _, rfl, iteEq ⟨_, rfl, b, _, 1, _, rfl, rfl, ht, rfl, (by show 2 ≤ sizeLine; decide), fun p H' S n h => k H' p S n h⟩⟩
    | .var z, ht, tk =>
      have hz : z ∈ names := by cases d <;> exact tk
      refine ⟨_, rfl, b, _, 0, _, rfl, rfl, ht, rfl, rfl, _, rfl, iteNe (ns (by decide)) ?_⟩
      dsimp only [tNext]
      exact ⟨_, rfl, b, _, 0, _, rfl, rfl, ht, rfl, rfl, _, rfl, iteEq ⟨_, rfl, _, rfl, b, _, 1, _, rfl, rfl, ht, rfl, dv, _, rfl, (by show DGet H dv (V.str z) (some (V.int (g z))); rw [← (hg z hz).1]; exact DGet.k (k := Sum.inr z) hv), (by show 2 ≤ sizeLine; decide), fun p H' S n h => k H' p S n h⟩⟩
    | .div t c, ⟨bt, ht, hbt⟩, tk =>
      cases d with
      | zero => exact tk.elim
      | succ d =>
      obtain ⟨tk, c0, c1⟩ := tk
      have wt := wd d t tk
      have bl := bW_le hB2 (show d ≤ 3 by omega)
      refine ⟨_, rfl, b, _, 0, _, rfl, rfl, ht, rfl, rfl, _, rfl, iteNe (ns (by decide)) ?_⟩
      dsimp only [tNext]
      refine ⟨_, rfl, b, _, 0, _, rfl, rfl, ht, rfl, rfl, _, rfl, iteNe (ns (by decide)) ?_⟩
      dsimp only [tNext]
      refine seq_asgG ⟨_, rfl, b, _, 1, _, rfl, rfl, ht, rfl, _, rfl, bt, dv, t, names, g, rfl, hbt, tk, ⟨B, hB1, hB2, kvs, hv, vo, hk, hg⟩, fun H1 p S1 n1 h1 => ⟨p, _, rfl, SqT.of h1, rfl, _, _, rfl, _, _, rfl, rfl, ?_⟩⟩
      have ht1 := ht.same S1
      refine ⟨_, rfl, b, _, 0, _, rfl, rfl, ht1, rfl, rfl, _, rfl, iteEq ?_⟩
      have cc : c.natAbs < 2 ^ 4 := by omega
      exact ⟨_, rfl, _, rfl, _, rfl, b, _, 2, _, rfl, rfl, ht1, rfl, _, _, rfl, rfl, cmw wt.2.1 cc (bW_pos hB1 d) (by decide) (by omega), (by show 2 ≤ sizeLine; decide), fun p2 H2 S2 n2 h2 => k H2 p2 (S1.trans S2) (S1.free n2) h2⟩
    | .bin o l r, ⟨bl, br, ht, hbl, hbr⟩, tk =>
      cases d with
      | zero => exact tk.elim
      | succ d =>
      obtain ⟨ho, tkl, tkr⟩ := tk
      have wl := wd d l tkl
      have wr := wd d r tkr
      have bL := bW_le hB2 (show d ≤ 3 by omega)
      have b0 := bW_pos hB1 d
      have o3 : o = 0 ∨ o = 1 ∨ o = 2 := by omega
      refine ⟨_, rfl, b, _, 0, _, rfl, rfl, ht, rfl, rfl, _, rfl, iteNe (ns (by rcases o3 with rfl | rfl | rfl <;> decide)) ?_⟩
      dsimp only [tNext]
      refine ⟨_, rfl, b, _, 0, _, rfl, rfl, ht, rfl, rfl, _, rfl, iteNe (ns (by rcases o3 with rfl | rfl | rfl <;> decide)) ?_⟩
      dsimp only [tNext]
      refine seq_asgG ⟨_, rfl, b, _, 1, _, rfl, rfl, ht, rfl, _, rfl, bl, dv, l, names, g, rfl, hbl, tkl, ⟨B, hB1, hB2, kvs, hv, vo, hk, hg⟩, fun H1 p S1 n1 h1 => ⟨p, _, rfl, SqT.of h1, rfl, _, _, rfl, _, _, rfl, rfl, ?_⟩⟩
      have ht1 := ht.same S1
      refine ⟨_, rfl, b, _, 0, _, rfl, rfl, ht1, rfl, rfl, _, rfl, iteNe (ns (by rcases o3 with rfl | rfl | rfl <;> decide)) ?_⟩
      dsimp only [tNext]
      refine seq_asgG ⟨_, rfl, b, _, 2, _, rfl, rfl, ht1, rfl, _, rfl, br, dv, r, names, g, rfl, hbr.same S1, tkr, ⟨B, hB1, hB2, kvs, S1 _ _ hv, vo, hk, hg⟩, fun H2 p2 S2 n2 h2 => ⟨p2, _, rfl, SqT.of h2, rfl, _, _, rfl, _, _, rfl, rfl, ?_⟩⟩
      have ht2 := ht1.same S2
      have S12 := S1.trans S2
      have c1 := cmw wl.1 wr.2.1 b0 b0 (by omega)
      have c2 := cmw wr.1 wl.2.1 b0 b0 (by omega)
      have c3 := cmw wl.2.1 wr.2.1 b0 b0 (by omega)
      have c4 := cmw wl.1 wr.1 b0 b0 (by omega)
      rcases o3 with rfl | rfl | rfl
      · refine ⟨_, rfl, b, _, 0, _, rfl, rfl, ht2, rfl, rfl, _, rfl, iteNe (ns (by decide)) ?_⟩
        dsimp only [tNext]
        refine ⟨_, rfl, b, _, 0, _, rfl, rfl, ht2, rfl, rfl, _, rfl, iteNe (ns (by decide)) ?_⟩
        dsimp only [tNext]
        exact ⟨_, rfl, _, rfl, _, _, rfl, rfl, c1, _, rfl, _, rfl, _, _, rfl, rfl, c2, _, _, rfl, rfl, _, rfl, _, rfl, _, _, rfl, rfl, c3, (by show 2 ≤ sizeLine; decide), fun p3 H3 S3 n3 h3 => k H3 p3 (S12.trans S3) (S12.free n3) h3⟩
      · refine ⟨_, rfl, b, _, 0, _, rfl, rfl, ht2, rfl, rfl, _, rfl, iteNe (ns (by decide)) ?_⟩
        dsimp only [tNext]
        refine ⟨_, rfl, b, _, 0, _, rfl, rfl, ht2, rfl, rfl, _, rfl, iteEq ?_⟩
        exact ⟨_, rfl, _, rfl, _, _, rfl, rfl, c1, _, rfl, _, rfl, _, _, rfl, rfl, c2, _, _, rfl, rfl, _, rfl, _, rfl, _, _, rfl, rfl, c3, (by show 2 ≤ sizeLine; decide), fun p3 H3 S3 n3 h3 => k H3 p3 (S12.trans S3) (S12.free n3) h3⟩
      · refine ⟨_, rfl, b, _, 0, _, rfl, rfl, ht2, rfl, rfl, _, rfl, iteEq ?_⟩
        exact ⟨_, rfl, _, rfl, _, _, rfl, rfl, c4, _, rfl, _, rfl, _, _, rfl, rfl, c3, (by show 2 ≤ sizeLine; decide), fun p3 H3 S3 n3 h3 => k H3 p3 (S12.trans S3) (S12.free n3) h3⟩
/-- an expression's value -/
def tv (g : Str → Int) (t : Tr) : Rat := ((wT g t).1 : Rat) / ((wT g t).2 : Rat)
def spWholeAt (K : PySem.W.Frag) (d : Nat) : Sp := fun vs H Q _ => ∃ (b dv : Addr) (t : Tr) (names : List Str) (g : Str → Int), vs = [.ref b, .ref dv] ∧ TrAt K H t b ∧ TrOk names d t ∧ VlW H dv names g ∧ ∀ H', Same H H' → (∀ n : Int, tv g t = (n : Rat) → Q (.int n) H') ∧ ((∀ n : Int, tv g t ≠ (n : Rat)) → Q .non H')
theorem scWholeAt : FnScope ["_law_tree_here", "_law_values_here", "_law_above", "_law_under"] ["_law_tree_here", "_law_values_here"] (defScope sWholeAt) := ⟨rfl, rfl, rfl, by decide +kernel, rfl, by decide +kernel, by decide +kernel⟩
theorem ok_wholeAt {f : Addr} {fd : FuncData} (F : Fun K "_law_whole_at" "_law_whole_at" sWholeAt f fd) (d : Nat) (hd : d ≤ 3) (R : Cal P w K mg base (2 + d) "_law_worth" (spWorth K d) []) : FnOk P w K mg base CX0 (3 + d) f fd ["_law_tree_here", "_law_values_here"] (spWholeAt K d) := by
  have e5 : 3 + d = (2 + d) + 1 := by omega
  rw [e5]
  refine F.ok scWholeAt (fun vs H Q E h => ?_) (fun cdv A outer s H vs Q E hr h => ?_)
  · obtain ⟨b, dv, t, names, g, rfl, _⟩ := h
    rfl
  · obtain ⟨b, dv, t, names, g, rfl, ht, tk, ⟨B, hB1, hB2, kvs, hv, vo, hk, hg⟩, k⟩ := h
    refine ⟨_, pss_cons (ps_asg (pe_c R hr (by omega) rfl (pa_cons (pv 0) (pa_cons (pv 1) pa_nil))) (pg_tup rfl (pgs_cons (pg_name (i := 2) scWholeAt.nd rfl (Or.inl rfl)) (pgs_cons (pg_name (i := 3) scWholeAt.nd rfl (Or.inl rfl)) pgs_nil))))
      (pss_one (ps_ret (pe_ifExp (pt_cmpR op_eq (pe_op op_modN (pv 2) (pv 3)) pe_int (nomark _)) (pe_op op_fdivX (pv 2) (pv 3)) pe_non))), ?_⟩
    obtain ⟨w1, w2, w3⟩ := wd_of hB1 (names := names) (g := g) (fun z hz => (hg z hz).2) d t tk
    have bL := bW_le hB2 hd
    refine seq_asgG ⟨_, rfl, _, rfl, b, dv, t, names, g, rfl, ht, tk, ⟨B, hB1, hB2, kvs, hv, vo, hk, hg⟩, fun H1 p S1 n1 h1 => ⟨p, _, rfl, SqT.of h1, rfl, _, _, rfl, _, _, rfl, rfl, ?_⟩⟩
    have ur : ((wT g t).2 : Rat) ≠ 0 := fun e => by
      have := Rat.intCast_inj.mp (e.trans (by rfl : (0 : Rat) = ((0 : Int) : Rat)))
      omega
    refine ret_of ⟨_, rfl, _, rfl, _, _, rfl, rfl, (show (wT g t).2 ≠ 0 by omega), rfl, _, rfl, iteD (fun h => ?_) (fun h => ?_)⟩
    · have h0 : (wT g t).1.fmod (wT g t).2 = 0 := by injection h
      have dv0 := Int.dvd_of_fmod_eq_zero h0
      refine ⟨_, rfl, _, rfl, _, _, rfl, rfl, ⟨by omega, ?_⟩, ?_⟩
      · have uu := ud_of (g := g) d t tk
        exact Nat.lt_of_lt_of_le (PySem.Flt.log2_lt_of (by unfold bU; exact Nat.mul_pos (by decide) (Nat.pow_pos (by decide))) uu) (Nat.le_trans (bU_le (show d ≤ 6 by omega)) (by decide))
      · refine (k H1 S1).1 _ ?_
        have e2 : (wT g t).1 = (wT g t).2 * ((wT g t).1.fdiv (wT g t).2) := by
          rw [fdiv_dvd (by omega) dv0]
          have := Int.mul_ediv_cancel' dv0
          omega
        unfold tv
        have e3 : ((wT g t).1 : Rat) = ((wT g t).2 : Rat) * (((wT g t).1.fdiv (wT g t).2 : Int) : Rat) := by
          rw [← Rat.intCast_mul, ← e2]
        grind
    · refine (k H1 S1).2 fun n hn => h ?_
      unfold tv at hn
      have e3 : ((wT g t).1 : Rat) = (((wT g t).2 * n : Int) : Rat) := by
        rw [Rat.intCast_mul]
        grind
      have e4 := Rat.intCast_inj.mp e3
      show V.int ((wT g t).1.fmod (wT g t).2) = V.int 0
      rw [e4, Int.mul_fmod_right]
end
end E2

set_option Elab.async false
set_option linter.all false
set_option maxRecDepth 100000
set_option maxHeartbeats 1000000
/-! a.at(values) -/
namespace L2
open PySem PySem.Spec PyProof.Rows
theorem upd_back {H : Hp} {d : Addr} {u z : HO} (h : H d = some u) : upd (upd H d z) d u = H := by
  funext b
  by_cases c : b = d
  · subst c
    rw [upd_same, h]
  · rw [upd_ne c, upd_ne c]
theorem mem_sum : ∀ {l : List Nat} {n : Nat}, n ∈ l → n ≤ l.sum
  | x :: l, n, h => by
    rw [List.sum_cons]
    rcases List.mem_cons.mp h with rfl | h
    · omega
    · have := mem_sum h
      omega
/-- for .. in d.values(), the heap as it was -/
theorem for_valsO {P : Program} {w : World} {K : PySem.W.Frag} {H : Hp} {d : Addr} {l : NAV} {fm : Fm} {td : TE} {g : TG} {tb : TS} {D : Ends} {σ : L2.St} (hd : Rd H d (DfO P w d l)) (hf : FmKv K H l fm)
    (hte : ∀ (od : Obj) (Hl : Hp), Lk P w d l od H Hl → ∀ R : VK, R (.ref d) Hl → td σ Hl R) (Pv : Nat → L2.St → Prop) (h0 : Pv 0 σ)
    (hs : ∀ (Hl : Hp) (i : Nat) (m : Mon) (q : Rat) (σ' : L2.St) (a : Addr) (rt : VK) (bk : L2.St → Hp → Prop), fm[i]? = some (m, q) → Pv i σ' → SqT K Hl a (frac q) →
      g (.ref a) σ' Hl fun σ2 H2 => tb { nx := fun σ3 H3 => H3 = Hl ∧ Pv (i + 1) σ3, rt := rt, bk := bk, ct := fun σ3 H3 => H3 = Hl ∧ Pv (i + 1) σ3 } σ2 H2)
    (he : ∀ σ', Pv fm.length σ' → D.nx σ' H) : tLockO (tFor (iValsN P w td) g tb) D σ H := by
  have core : ∀ (od : Obj) (Hl : Hp) (L : Lk P w d l od H Hl) (D' : Ends), FmKv K Hl l fm → (∀ σ', Pv fm.length σ' → D'.nx σ' Hl) → tFor (iValsN P w td) g tb D' σ Hl := by
    intro od Hl L D' hf0 hnx
    refine hte od Hl L _ ⟨d, od, l, rfl, L.at_, for_it walk_valuesN (fun i σ' H' => H' = Hl ∧ Pv i σ') ⟨rfl, h0⟩ (fun i σ' H' _ p => by rw [p.1]; exact L.at_) ?_ ?_⟩
    · rintro i x σ' H' H'' hi ⟨rfl, p⟩ ⟨rfl, k, qb, av, hkv, rfl⟩
      obtain ⟨m, q, b, a, hm, e, tb, sa⟩ := hf0.get hkv
      obtain ⟨rfl, e2⟩ := Prod.mk.inj e
      obtain ⟨rfl, rfl⟩ := Prod.mk.inj e2
      exact hs _ i m q σ' av _ _ hm p sa
    · rintro σ' H' ⟨rfl, p⟩
      rw [hf.length] at p
      exact hnx σ' p
  rcases hd with hd | ⟨o, hd⟩
  · refine .inl ⟨d, DfO P w d l, hd, trivial, fun od => ?_⟩
    have L : Lk P w d l od H (upd H d (.frz od (DfO P w d l))) := ⟨upd_same, fun b n => upd_ne n⟩
    refine core od _ L _ (hf.imp (.agree hd noTup_df L.off)) fun σ' p => ⟨upd_same, ?_⟩
    rw [upd_back hd]
    exact he σ' p
  · exact .inr (core o H ⟨hd, fun _ _ => rfl⟩ D hf he)
end L2
namespace E2
open PySem PySem.Spec PyProof.Rows L2
open C8 (Cal Mak Met InsC pe_c pe_mt pe_mt0 call_isC clsBody)
/-- few letters -/
def LetsIn (fm : Fm) : Prop := ∃ names : List Str, names.length ≤ 1000 ∧ ∀ x ∈ fm, ∀ z ∈ x.1, z ∈ names
theorem nodup_le : ∀ {l m : List Str}, l.Nodup → (∀ x ∈ l, x ∈ m) → l.length ≤ m.length
  | [], _, _, _ => Nat.zero_le _
  | x :: l, m, nd, h => by
    have ⟨n1, n2⟩ := List.nodup_cons.mp nd
    have hx := h x List.mem_cons_self
    have ih := nodup_le (m := m.erase x) n2 fun y hy => (List.mem_erase_of_ne (by rintro rfl; exact n1 hy)).mpr (h y (List.mem_cons_of_mem _ hy))
    rw [List.length_erase_of_mem hx] at ih
    have := List.length_pos_of_mem hx
    rw [List.length_cons]
    omega
theorem letsIn_of {fm : Fm} (h : (fm.map fun x => x.1.length).sum ≤ 1000) : LetsIn fm :=
  ⟨fm.flatMap (·.1), by rw [List.length_flatMap]; exact h, fun x hx z hz => List.mem_flatMap.mpr ⟨x, hx, hz⟩⟩
def spLetters (P : Program) (w : World) (K : PySem.W.Frag) (C : Addr) : Sp := fun vs H Q _ => ∃ a fm, vs = [.ref a] ∧ FmAt P w K C H a fm ∧ LetsIn fm ∧
  ∀ H' p (xs : List Str), Same H H' → H p = none → H' p = some (.lst (xs.map V.str)) → xs.length ≤ 1000 → sortedS xs = true → xs.Nodup → (∀ x, x ∈ xs ↔ ∃ m ∈ fm.map (·.1), x ∈ m) → Q (.ref p) H'
def spAt (P : Program) (w : World) (K : PySem.W.Frag) (C : Addr) : Sp := fun vs H Q _ => ∃ (a d : Addr) (fm : Fm) (kvs : List (Key × V)) (g : Str → Int) (D M : Nat), vs = [.ref a, .ref d] ∧ FmAt P w K C H a fm ∧ LetsIn fm ∧ (∀ x ∈ fm, x.1.length ≤ 1000) ∧ H d = some (.dK kvs) ∧ ValsOk kvs ∧ kvs.length ≤ 1000 ∧
  (∀ x ∈ fm, ∀ z ∈ x.1, valV kvs (Sum.inr z) = some (.int (g z)) ∧ (g z).natAbs < 2 ^ 400) ∧ 0 < D ∧ D < 2 ^ 64 ∧ M < 2 ^ 400000 ∧ (∀ x ∈ fm, Bq D M x.2) ∧
  ∀ H', Same H H' → (∀ n : Int, ev g fm = (n : Rat) → Q (.int n) H') ∧ ((∀ n : Int, ev g fm ≠ (n : Rat)) → Q .non H')
section
variable {P : Program} {w : World} {K : PySem.W.Frag} {mg : Str → Option Value} {base : Heap} {C : Addr}
theorem scAt : FnScope ["self", "values", "common", "_", "bottom", "total", "names", "top"] ["self", "values"] (defScope sAt) := ⟨rfl, rfl, rfl, by decide +kernel, rfl, by decide +kernel, by decide +kernel⟩
theorem ok_at {f : Addr} {fd : FuncData} (F : Fun K "at" "Form.at" sAt f fd) (T : Fx P w K mg base C) (hlcm : mg "lcm" = some (.builtin "math.lcm")) (Iv : Cal P w K mg base 2 "is_values" (spIsVals P w K) []) (Le : Met P w K mg base 2 C "letters" (spLetters P w K C) []) (Pr : Cal P w K mg base 1 "product_at" (spProd P w K) []) : FnOk P w K mg base CX0 3 f fd ["self", "values"] (spAt P w K C) := by
  refine F.ok scAt (fun vs H Q E h => ?_) (fun cdv A outer s H vs Q E hr h => ?_)
  · obtain ⟨a, d, fm, kvs, g, D, M, rfl, _⟩ := h
    rfl
  · obtain ⟨a, d, fm, kvs, g, D, M, rfl, ⟨dx, dp, kvp, ha, hd, hf⟩, hli, hkl, hv, vok, hk, hg, D0, D64, M4, hq, k⟩ := h
    refine ⟨_, pss_cons (ps_if (pt_not (pt_val (pe_c Iv hr (by decide) rfl (pa_cons (pv 1) (pa_cons (pe_mt0 Le hr (by decide) (pv 0)) pa_nil))))) (pss_one ps_never) pss_nil)
      (pss_cons (ps_set (i := 2) scAt.nd rfl (Or.inl rfl) pe_int)
      (pss_cons (ps_lockO (ps_for PassesOwn.never rfl (pi_valuesN (pe_fld (pv 0) rfl)) (pg_tup rfl (pgs_cons (pg_name (i := 3) scAt.nd rfl (Or.inl rfl)) (pgs_cons (pg_name (i := 4) scAt.nd rfl (Or.inl rfl)) pgs_nil)))
        (pss_one (ps_set (i := 2) scAt.nd rfl (Or.inl rfl) (pe_callBfun cr_lcm rfl hlcm (pa_cons (pv 2) (pa_cons (pv 4) pa_nil)))))))
      (pss_cons (ps_set (i := 5) scAt.nd rfl (Or.inl rfl) pe_int)
      (pss_cons (ps_lockO (ps_for PassesOwn.never rfl (pi_itemsN (pe_fld (pv 0) rfl)) (pg_tup rfl (pgs_cons (pg_name (i := 6) scAt.nd rfl (Or.inl rfl)) (pgs_cons (pg_tup rfl (pgs_cons (pg_name (i := 7) scAt.nd rfl (Or.inl rfl)) (pgs_cons (pg_name (i := 4) scAt.nd rfl (Or.inl rfl)) pgs_nil))) pgs_nil)))
        (pss_one (ps_set (i := 5) scAt.nd rfl (Or.inl rfl) (pe_op op_add (pv 5) (pe_op op_mulW (pe_op op_mulW (pv 7) (pe_op op_fdivW (pv 2) (pv 4))) (pe_c Pr hr (by decide) rfl (pa_cons (pv 6) (pa_cons (pv 1) pa_nil)))))))))
      (pss_one (ps_ret (pe_ifExp (pt_cmpR op_eq (pe_op op_modN (pv 5) (pv 2)) pe_int (nomark _)) (pe_op op_fdivW (pv 5) (pv 2)) pe_non))))))), ?_⟩
    have hin : ∀ (xs : List Str), (∀ x, x ∈ xs ↔ ∃ m ∈ fm.map (·.1), x ∈ m) → ∀ x ∈ xs, (valV kvs (Sum.inr x)).isSome = true := fun xs hm x hx => by
      obtain ⟨m, hm2, hxm⟩ := (hm x).mp hx
      obtain ⟨y, hy, rfl⟩ := List.mem_map.mp hm2
      rw [(hg y hy x hxm).1]
      rfl
    refine ⟨_, rfl, _, rfl, a, dx, _, rfl, ha, rfl, a, fm, rfl, ⟨dx, dp, kvp, ha, hd, hf⟩, hli, fun H1 p xs S1 np hp hxl hso hnd hmem => ?_⟩
    refine ⟨d, p, kvs, xs, rfl, S1 _ _ hv, vok, hk, SqL.of hp, hxl, hin xs hmem, fun H2 S2 => ⟨true, rfl, iteF ?_⟩⟩
    dsimp only [tNext]
    have SS := S1.trans S2
    have ha2 := SS _ _ ha
    have hd2 := SS _ _ hd
    have hv2 := SS _ _ hv
    have hf2 := hf.same SS
    have nad : a ≠ dp := ne_of ha hd (by intro z; cases z)
    have ndd : d ≠ dp := ne_of hv hd (by intro z; cases z)
    refine seq_asg (show (tSeq _ _ _ _ _) from ?_)
    have cdv : ∀ i, cmD (fm.take i) ∣ D := fun i => cmD_dvd fun x hx => (hq x (List.mem_of_mem_take hx)).den
    have cle : ∀ i, cmD (fm.take i) < 2 ^ 64 := fun i => Nat.lt_of_le_of_lt (Nat.le_of_dvd D0 (cdv i)) D64
    refine seq_lockO (for_valsO (l := kvp) (fm := fm) (d := dp) (.inl hd2) hf2 (fun od Hl L R h => ⟨_, rfl, a, C, dx, _, _, rfl, by rw [L.off a nad]; exact ha2, T.cl, T.na, rfl, h⟩)
      (fun i σ' => ∃ u3 u4, σ' = [some (.ref a), some (.ref d), some (.int (cmD (fm.take i) : Nat)), u3, u4, none, none, none]) ⟨none, none, rfl⟩ ?_ ?_)
    · rintro Hl i m q σ' a1 rt bk hm ⟨u3, u4, rfl⟩ sa
      have hq1 := hq _ (List.mem_of_getElem? hm)
      refine ⟨a1, _, rfl, sa, rfl, _, _, rfl, _, _, rfl, rfl, ?_⟩
      refine ⟨_, rfl, _, rfl, cmD (fm.take i), q.den, rfl, cmD_pos _, cle i, Nat.lt_of_le_of_lt (hq1.den_le D0) D64, rfl, some (.int q.num), some (.int q.den), ?_⟩
      rw [take_snoc hm, cmD_snoc]
      rfl
    rintro σ' ⟨u3, u4, rfl⟩
    rw [List.take_length]
    have c64 : cmD fm < 2 ^ 64 := by have := cle fm.length; rwa [List.take_length] at this
    have c0 := cmD_pos fm
    dsimp only
    refine seq_asg (show (tSeq _ _ _ _ _) from ?_)
    refine seq_lockO (for_itemsO (l := kvp) (fm := fm) (d := dp) (.inl hd2) hf2 (fun od Hl L R h => ⟨_, rfl, a, C, dx, _, _, rfl, by rw [L.off a nad]; exact ha2, T.cl, T.na, rfl, h⟩)
      (fun od Hl i σ' H' => Same Hl H' ∧ ∃ u3 u4 u6 u7, σ' = [some (.ref a), some (.ref d), some (.int (cmD fm : Nat)), u3, u4, some (.int (totD (cmD fm) g (fm.take i))), u6, u7]) ?_ ?_ ?_ ?_)
    · intro od Hl L
      exact ⟨Same.refl _, u3, u4, none, none, rfl⟩
    · rintro od Hl L i σ' H' ⟨S, _⟩
      exact ⟨S _ _ L.at_, .same S⟩
    · rintro od Hl L i m q σ' H' T1 b1 a1 rt bk hm ⟨S, u3, u4, u6, u7, rfl⟩ nT hb1 sa
      have hmem1 := List.mem_of_getElem? hm
      have hq1 := hq _ hmem1
      have hgm := hg _ hmem1
      have ST : Same H' (upd H' T1 (.tup [.ref b1, .ref a1])) := Same.upd nT
      have hdv : (upd H' T1 (.tup [.ref b1, .ref a1])) d = some (.dK kvs) := ST _ _ (S _ _ (by rw [L.off d ndd]; exact hv2))
      have hml : m.length ≤ 1000 := hkl _ hmem1
      have dq : (0 : Int) < (q.den : Int) := by have := q.den_pos; omega
      have dl : q.den < 2 ^ 64 := Nat.lt_of_le_of_lt (hq1.den_le D0) D64
      have cd : ((cmD fm : Int) / (q.den : Int)).natAbs < 2 ^ 64 := by
        have e : (cmD fm : Int) / (q.den : Int) = ((cmD fm / q.den : Nat) : Int) := (Int.natCast_ediv _ _).symm
        rw [e, Int.natAbs_natCast]
        exact Nat.lt_of_le_of_lt (Nat.div_le_self _ _) c64
      have nl : q.num.natAbs < 2 ^ 400000 := Nat.lt_of_le_of_lt (hq1.num_le D0) M4
      have pl := prod_lt g m fun y hy => (hgm y hy).2
      refine ⟨T1, _, rfl, SqT.of upd_same, rfl, _, _, rfl, _, _, rfl, ⟨a1, _, rfl, sa.same ST, rfl, _, _, rfl, _, _, rfl, rfl, rfl, ?_⟩⟩
      refine ⟨_, rfl, _, rfl, _, rfl, _, rfl, _, _, rfl, rfl, wide_div dq (by rw [Int.natAbs_natCast]; exact dl) (by decide) (by decide), _, _, rfl, rfl, cmw nl cd (by decide) (by decide) (by decide), ?_⟩
      refine ⟨_, rfl, _, rfl, b1, d, m, kvs, g, rfl, (by rw [← kS_kV]; exact (hb1.same ST).sq), hdv, fun x hx => (hgm x hx).1, hml, fun x hx => (hgm x hx).2, _, _, rfl, rfl, cmw (wide_lt nl cd) pl (by decide) (by omega) (by omega), _, _, rfl, rfl, S.trans ST, u3, some (.int q.den), some (.ref b1), some (.int q.num), ?_⟩
      rw [take_snoc hm, totD_append]
      show _ = [_, _, _, _, _, some (V.int (_ + (q.num * ((cmD fm : Int) / (q.den : Int)) * evM g m + 0))), _, _]
      rw [Int.add_zero]
      rfl
    · rintro od Hl L σ' H' Hu ⟨S, u3, u4, u6, u7, rfl⟩ e1 e2
      rw [List.take_length]
      have SH : Same H Hu := by
        intro c o e
        have e0 := SS _ _ e
        by_cases cd : c = dp
        · subst cd
          rw [e1]
          exact e0
        · rw [e2 c cd]
          exact S _ _ (by rw [L.off c cd]; exact e0)
      have te := totD_ev g fm den_cmD
      have cz : (cmD fm : Int) ≠ 0 := by omega
      have crat : ((cmD fm : Nat) : Rat) ≠ 0 := fun e => by
        rw [← Rat.intCast_natCast] at e
        have := Rat.intCast_inj.mp (e.trans (by rfl : (0 : Rat) = ((0 : Int) : Rat)))
        omega
      dsimp only
      refine ret_of ⟨_, rfl, _, rfl, _, _, rfl, rfl, cz, rfl, _, rfl, iteD (fun h => ?_) (fun h => ?_)⟩
      · have h0 : (totD (cmD fm) g fm).fmod (cmD fm : Int) = 0 := by injection h
        have h1 : totD (cmD fm) g fm = (cmD fm : Int) * (totD (cmD fm) g fm / (cmD fm : Int)) := by
          have := Int.mul_ediv_cancel' (Int.dvd_of_fmod_eq_zero h0)
          omega
        refine ⟨_, rfl, _, rfl, _, _, rfl, rfl, wide_div (by omega) (by rw [Int.natAbs_natCast]; exact c64) (by decide) (by decide), (k Hu SH).1 _ ?_⟩
        have h2 := te
        rw [h1, Rat.intCast_mul, Rat.intCast_natCast] at h2
        grind
      · refine (k Hu SH).2 fun n hn => h ?_
        rw [hn] at te
        have h3 : totD (cmD fm) g fm = (cmD fm : Int) * n := by
          apply Rat.intCast_inj.mp
          rw [te, Rat.intCast_mul, Rat.intCast_natCast]
        show V.int ((totD (cmD fm) g fm).fmod (cmD fm : Int)) = V.int 0
        rw [h3, Int.mul_fmod_right]
end
end E2

set_option Elab.async false
set_option linter.all false
set_option maxRecDepth 100000
set_option maxHeartbeats 1000000
/-! _law_form -/
namespace E2
open PySem PySem.Spec PyProof.Rows L2
open C8 (Cal Mak Met InsC pe_c pe_mt pe_mt0 call_isC clsBody)
abbrev sLawForm : Stmt := top 29
def nF : Nat → Nat
  | 0 => 1
  | 1 => 2
  | 2 => 4
  | _ => 16
/-- what an expression is divided by -/
def uT : Tr → Nat
  | .num _ => 1
  | .var _ => 1
  | .div t k => uT t * k.natAbs
  | .bin _ l r => uT l * uT r
theorem bqD {q : Rat} {D M : Nat} (h : q.den ∣ D) (hn : q.num.natAbs ≤ M) : Bq D (M * D) q := by
  refine ⟨q.num * ((D / q.den : Nat) : Int), ?_, ?_⟩
  · have e1 : q * (q.den : Rat) = (q.num : Rat) := (rat_num q).symm
    have e2 : (D : Rat) = (q.den : Rat) * ((D / q.den : Nat) : Rat) := by
      rw [← Rat.natCast_mul, Nat.mul_div_cancel' h]
    rw [e2, ← Rat.mul_assoc, e1, Rat.intCast_mul]
    rfl
  · rw [Int.natAbs_mul, Int.natAbs_natCast]
    exact Nat.mul_le_mul hn (Nat.div_le_self _ _)
def bT : Nat → Nat
  | 0 => 40
  | d + 1 => 2 * bT d + 4
def uB : Nat → Nat
  | 0 => 1
  | 1 => 6
  | d + 2 => uB (d + 1) * uB (d + 1)
theorem uB_pos : ∀ d, 1 ≤ uB d
  | 0 => Nat.le_refl _
  | 1 => by decide
  | d + 2 => Nat.mul_le_mul (uB_pos (d + 1)) (uB_pos (d + 1))
theorem uB_step : ∀ d, uB d * 6 ≤ uB (d + 1) ∧ uB d * uB d ≤ uB (d + 1)
  | 0 => ⟨by decide, by decide⟩
  | d + 1 => by
    refine ⟨?_, Nat.le_refl _⟩
    show uB (d + 1) * 6 ≤ uB (d + 1) * uB (d + 1)
    refine Nat.mul_le_mul_left _ ?_
    cases d with
    | zero => decide
    | succ d =>
      have h := (uB_step d).1
      have p := uB_pos d
      show 6 ≤ uB (d + 1) * uB (d + 1)
      have h3 : uB (d + 1) * 1 ≤ uB (d + 1) * uB (d + 1) := Nat.mul_le_mul_left _ (uB_pos _)
      omega
theorem uT_le {names : List Str} : ∀ {d : Nat} {t : Tr}, TrOk names d t → 1 ≤ uT t ∧ uT t ≤ uB d
  | d, .num _, _ => ⟨Nat.le_refl _, uB_pos d⟩
  | d, .var _, _ => ⟨Nat.le_refl _, uB_pos d⟩
  | 0, .div _ _, h => h.elim
  | d + 1, .div t k, ⟨h, k0, k1⟩ => by
    obtain ⟨a, b⟩ := uT_le h
    refine ⟨Nat.mul_le_mul a (show 1 ≤ k.natAbs by omega), Nat.le_trans (Nat.mul_le_mul b (show k.natAbs ≤ 6 by omega)) (uB_step d).1⟩
  | 0, .bin _ _ _, h => h.elim
  | d + 1, .bin _ l r, ⟨_, hl, hr⟩ => by
    obtain ⟨a, b⟩ := uT_le hl
    obtain ⟨c, e⟩ := uT_le hr
    exact ⟨Nat.mul_le_mul a c, Nat.le_trans (Nat.mul_le_mul b e) (uB_step d).2⟩
theorem bT_ge : ∀ d, 40 ≤ bT d
  | 0 => Nat.le_refl _
  | d + 1 => by
    have := bT_ge d
    show 40 ≤ 2 * bT d + 4
    omega
/-- what a form of an expression of the depth is -/
structure FOk (names : List Str) (d : Nat) (t : Tr) (fm : Fm) : Prop where
  nd : (fm.map (·.1)).Nodup
  len : fm.length ≤ nF d
  keys : ∀ x ∈ fm, x.1.length ≤ 2 ^ d ∧ ∀ z ∈ x.1, z ∈ names
  bq : ∃ D M, 0 < D ∧ D < 2 ^ (4 * 2 ^ d) ∧ M < 2 ^ (60 * 4 ^ d) ∧ ∀ x ∈ fm, Bq D M x.2
  ev : ∀ g, ev g fm = tv g t
  dd : ∀ x ∈ fm, x.2.den ∣ uT t
  can : Canon fm
  bt : ∀ x ∈ fm, Bq (uT t) (2 ^ bT d) x.2
theorem FOk.bqu {names : List Str} {d : Nat} {t : Tr} {fm : Fm} (F : FOk names d t fm) : ∃ M, M < 2 ^ (60 * 4 ^ d) ∧ ∀ x ∈ fm, Bq (uT t) (M * uT t) x.2 := by
  obtain ⟨D, M, D0, D1, M1, hq⟩ := F.bq
  exact ⟨M, M1, fun x hx => bqD (F.dd x hx) ((hq x hx).num_le D0)⟩
theorem keys_mapM {p : Rat → Bool} {f : Rat → Rat} {fm : Fm} {x : Mon × Rat} (h : x ∈ mapM p f fm) : ∃ y ∈ fm, x = (y.1, f y.2) ∧ p y.2 = true := by
  unfold mapM at h
  obtain ⟨y, hy, e⟩ := List.mem_map.mp h
  have := List.mem_filter.mp hy
  exact ⟨y, this.1, e.symm, this.2⟩
theorem mem_addTo_key {acc l : Fm} {x : Mon × Rat} (h : x ∈ addTo acc l) : x.1 ∈ acc.map (·.1) ∨ x.1 ∈ l.map (·.1) := keys_addTo l acc x.1 (List.mem_map.mpr ⟨x, h, rfl⟩)
theorem length_mapM {p : Rat → Bool} {f : Rat → Rat} {fm : Fm} : (mapM p f fm).length ≤ fm.length := by
  unfold mapM
  rw [List.length_map]
  exact List.length_filter_le _ _
theorem nz0 (q : Rat) (h : nz q = false) : q = 0 := by
  have : decide (q = 0) = true := by simpa using h
  exact of_decide_eq_true this
theorem tv_u {names : List Str} {g : Str → Int} {d : Nat} {t : Tr} (h : TrOk names d t) : ((wT g t).2 : Rat) ≠ 0 := by
  have h2 : 0 < (wT g t).2 := by
    induction t generalizing d with
    | num n => exact (show (0 : Int) < 1 by decide)
    | var z => exact (show (0 : Int) < 1 by decide)
    | div t k ih =>
      cases d with
      | zero => exact h.elim
      | succ d => exact Int.mul_pos (ih h.1) (by have := h.2; omega)
    | bin o l r ihl ihr =>
      cases d with
      | zero => exact h.elim
      | succ d =>
        have a := ihl h.2.1
        have b := ihr h.2.2
        match o with
        | 0 => exact Int.mul_pos a b
        | 1 => exact Int.mul_pos a b
        | _ + 2 => exact Int.mul_pos a b
  intro e
  have := Rat.intCast_inj.mp (e.trans (by rfl : (0 : Rat) = ((0 : Int) : Rat)))
  omega
theorem tv_div {names : List Str} {g : Str → Int} {d : Nat} {t : Tr} {k : Int} (h : TrOk names d t) (hk : k ≠ 0) : tv g (.div t k) = tv g t * Rat.divInt 1 k := by
  have u := tv_u (g := g) h
  have hk2 : (k : Rat) ≠ 0 := fun e => hk (Rat.intCast_inj.mp (e.trans (by rfl : (0 : Rat) = ((0 : Int) : Rat))))
  show ((wT g t).1 : Rat) / (((wT g t).2 * k : Int) : Rat) = ((wT g t).1 : Rat) / ((wT g t).2 : Rat) * Rat.divInt 1 k
  rw [Rat.divInt_eq_div, Rat.intCast_mul]
  have e1 : ((1 : Int) : Rat) = 1 := rfl
  rw [e1]
  grind
theorem tv_add {names : List Str} {g : Str → Int} {d : Nat} {l r : Tr} (h1 : TrOk names d l) (h2 : TrOk names d r) : tv g (.bin 0 l r) = tv g l + tv g r := by
  have u := tv_u (g := g) h1
  have v := tv_u (g := g) h2
  show (((wT g l).1 * (wT g r).2 + (wT g r).1 * (wT g l).2 : Int) : Rat) / (((wT g l).2 * (wT g r).2 : Int) : Rat) = ((wT g l).1 : Rat) / ((wT g l).2 : Rat) + ((wT g r).1 : Rat) / ((wT g r).2 : Rat)
  rw [Rat.intCast_add, Rat.intCast_mul, Rat.intCast_mul, Rat.intCast_mul]
  grind
theorem tv_sub {names : List Str} {g : Str → Int} {d : Nat} {l r : Tr} (h1 : TrOk names d l) (h2 : TrOk names d r) : tv g (.bin 1 l r) = tv g l + -tv g r := by
  have u := tv_u (g := g) h1
  have v := tv_u (g := g) h2
  show (((wT g l).1 * (wT g r).2 - (wT g r).1 * (wT g l).2 : Int) : Rat) / (((wT g l).2 * (wT g r).2 : Int) : Rat) = ((wT g l).1 : Rat) / ((wT g l).2 : Rat) + -(((wT g r).1 : Rat) / ((wT g r).2 : Rat))
  rw [Rat.intCast_sub, Rat.intCast_mul, Rat.intCast_mul, Rat.intCast_mul]
  grind
theorem tv_mul {names : List Str} {g : Str → Int} {d : Nat} {l r : Tr} (h1 : TrOk names d l) (h2 : TrOk names d r) : tv g (.bin 2 l r) = tv g l * tv g r := by
  have u := tv_u (g := g) h1
  have v := tv_u (g := g) h2
  show (((wT g l).1 * (wT g r).1 : Int) : Rat) / (((wT g l).2 * (wT g r).2 : Int) : Rat) = ((wT g l).1 : Rat) / ((wT g l).2 : Rat) * (((wT g r).1 : Rat) / ((wT g r).2 : Rat))
  rw [Rat.intCast_mul, Rat.intCast_mul]
  grind
theorem pw_lt {a b m n k : Nat} (ha : a < 2 ^ m) (hb : b < 2 ^ n) (h : m + n ≤ k) : a * b < 2 ^ k := by
  have h1 : a * b < 2 ^ (m + n) := by rw [Nat.pow_add]; exact Nat.mul_lt_mul'' ha hb
  exact Nat.lt_of_lt_of_le h1 (Nat.pow_le_pow_right (by decide) h)
theorem nF16 (d : Nat) : nF d < 2 ^ 5 := by
  unfold nF
  split <;> decide
theorem nF_two {d : Nat} (h : d ≤ 2) : 2 * nF d ≤ nF (d + 1) ∧ nF d * nF d ≤ nF (d + 1) ∧ nF d ≤ nF (d + 1) := by
  have : d = 0 ∨ d = 1 ∨ d = 2 := by omega
  rcases this with rfl | rfl | rfl <;> decide
theorem fok_leaf {names : List Str} {d : Nat} {t : Tr} {fm : Fm} (hd : d ≤ 3) (hu : uT t = 1) (h1 : fm = [] ∨ ∃ m q, fm = [(m, q)] ∧ m.length ≤ 1 ∧ (∀ z ∈ m, z ∈ names) ∧ q ≠ 0 ∧ Bq 1 (2 ^ 40) q) (he : ∀ g, ev g fm = tv g t) : FOk names d t fm := by
  have n1 : 1 ≤ nF d := by unfold nF; split <;> decide
  have e1 : 1 ≤ 2 ^ d := Nat.one_le_two_pow
  have e2 : (1 : Nat) < 2 ^ (4 * 2 ^ d) := Nat.one_lt_two_pow (by have := Nat.one_le_two_pow (n := d); omega)
  have e4 : 1 ≤ 4 ^ d := Nat.one_le_pow _ _ (by decide)
  have e3 : 2 ^ 40 < 2 ^ (60 * 4 ^ d) := Nat.pow_lt_pow_right (by decide) (by omega)
  rcases h1 with rfl | ⟨m, q, rfl, ml, mz, q0, bq⟩
  · exact ⟨List.nodup_nil, Nat.zero_le _, fun x hx => absurd hx List.not_mem_nil, ⟨1, 2 ^ 40, by decide, e2, e3, fun x hx => absurd hx List.not_mem_nil⟩, he, fun x hx => absurd hx List.not_mem_nil, ⟨List.nodup_nil, fun x hx => absurd hx List.not_mem_nil, fun x hx => absurd hx List.not_mem_nil⟩, fun x hx => absurd hx List.not_mem_nil⟩
  · refine ⟨List.nodup_cons.mpr ⟨List.not_mem_nil, List.nodup_nil⟩, n1, fun x hx => ?_, ⟨1, 2 ^ 40, by decide, e2, e3, fun x hx => ?_⟩, he, fun x hx => ?_, ⟨List.nodup_cons.mpr ⟨List.not_mem_nil, List.nodup_nil⟩, fun x hx => ?_, fun x hx => ?_⟩, fun x hx => ?_⟩
    · obtain rfl := List.mem_singleton.mp hx
      exact ⟨by show m.length ≤ 2 ^ d; omega, mz⟩
    · obtain rfl := List.mem_singleton.mp hx
      exact bq
    · obtain rfl := List.mem_singleton.mp hx
      exact Nat.dvd_trans bq.den (Nat.one_dvd _)
    · obtain rfl := List.mem_singleton.mp hx
      match m, ml with
      | [], _ => rfl
      | [z], _ => rfl
    · obtain rfl := List.mem_singleton.mp hx
      exact q0
    · obtain rfl := List.mem_singleton.mp hx
      rw [hu]
      exact bq.mono (Nat.pow_le_pow_right (by decide) (bT_ge d))
end E2

set_option Elab.async false
set_option linter.all false
set_option maxRecDepth 100000
set_option maxHeartbeats 1000000
/-! _law_form: sums, products, quotients of forms keep their bounds -/
namespace E2
open PySem PySem.Spec PyProof.Rows L2
open C8 (Cal Mak Met InsC pe_c pe_mt pe_mt0 call_isC clsBody)
theorem bN_succ (d : Nat) : 60 * 4 ^ (d + 1) = 4 * (60 * 4 ^ d) := by rw [Nat.pow_succ]; omega
theorem bD_succ (d : Nat) : 4 * 2 ^ (d + 1) = 2 * (4 * 2 ^ d) := by rw [Nat.pow_succ]; omega
theorem bN_ge (d : Nat) : 60 ≤ 60 * 4 ^ d := Nat.le_mul_of_pos_right _ (Nat.pow_pos (by decide))
theorem bD_ge (d : Nat) : 4 ≤ 4 * 2 ^ d := Nat.le_mul_of_pos_right _ (Nat.pow_pos (by decide))
theorem bD_le_bN (d : Nat) : 4 * 2 ^ d ≤ 60 * 4 ^ d := by
  have : 2 ^ d ≤ 4 ^ d := Nat.pow_le_pow_left (by decide) d
  omega
theorem two_pow_succ (d : Nat) : 2 ^ (d + 1) = 2 * 2 ^ d := by rw [Nat.pow_succ]; omega
theorem add_lt {a b n k : Nat} (ha : a < 2 ^ n) (hb : b < 2 ^ n) (h : n + 1 ≤ k) : a + b < 2 ^ k := by
  have : a + b < 2 ^ (n + 1) := by rw [Nat.pow_succ]; omega
  exact Nat.lt_of_lt_of_le this (Nat.pow_le_pow_right (by decide) h)
theorem divInt_ne {k : Int} (h : k ≠ 0) : Rat.divInt 1 k ≠ 0 := by
  rw [Rat.divInt_eq_div]
  intro e
  have h2 : (k : Rat) ≠ 0 := fun z => h (Rat.intCast_inj.mp (z.trans (by rfl : (0 : Rat) = ((0 : Int) : Rat))))
  have e1 : ((1 : Int) : Rat) = 1 := rfl
  rw [e1] at e
  grind
section
variable {names : List Str} {d : Nat} {t l r : Tr} {fm f1 f2 : Fm}
theorem FOk.div (F : FOk names d t fm) (hd : d ≤ 2) (ht : TrOk names d t) {k : Int} (k0 : 1 ≤ k) (k9 : k ≤ 6) : FOk names (d + 1) (.div t k) (mapM (fun _ => true) (fun q => q * Rat.divInt 1 k) fm) := by
  obtain ⟨D, M, D0, D1, M1, hq⟩ := F.bq
  have kn : k ≠ 0 := by omega
  have bk := inv_bq kn
  refine ⟨mapM_nodup F.nd, Nat.le_trans length_mapM (Nat.le_trans F.len (nF_two hd).2.2), fun x hx => ?_, ⟨D * k.natAbs, M * 1, Nat.mul_pos D0 (by omega), ?_, ?_, fun x hx => ?_⟩, fun g => ?_, fun x hx => ?_, canon_scale (divInt_ne kn) F.can, fun x hx => ?_⟩
  · obtain ⟨y, hy, rfl, _⟩ := keys_mapM hx
    obtain ⟨a, b⟩ := F.keys y hy
    exact ⟨by show y.1.length ≤ _; rw [two_pow_succ]; omega, b⟩
  · rw [bD_succ]
    exact pw_lt D1 (show k.natAbs < 2 ^ 4 by omega) (by have := bD_ge d; omega)
  · rw [bN_succ, Nat.mul_one]
    exact Nat.lt_of_lt_of_le M1 (Nat.pow_le_pow_right (by decide) (by omega))
  · obtain ⟨y, hy, rfl, _⟩ := keys_mapM hx
    exact (hq y hy).mul bk
  · rw [ev_scale, F.ev g, tv_div ht kn]
  · obtain ⟨y, hy, rfl, _⟩ := keys_mapM hx
    obtain ⟨M2, _, h2⟩ := F.bqu
    exact ((h2 y hy).mul bk).den
  · obtain ⟨y, hy, rfl, _⟩ := keys_mapM hx
    have := ((F.bt y hy).mul bk).mono (M' := 2 ^ bT (d + 1)) (by rw [Nat.mul_one]; exact Nat.pow_le_pow_right (by decide) (by show bT d ≤ 2 * bT d + 4; omega))
    exact this
/-- one denominator for both -/
theorem FOk.both (F1 : FOk names d l f1) (F2 : FOk names d r f2) : ∃ D M N, 0 < D ∧ D < 2 ^ (4 * 2 ^ (d + 1)) ∧ M < 2 ^ (2 * (60 * 4 ^ d)) ∧ N < 2 ^ (2 * (60 * 4 ^ d)) ∧ (∀ x ∈ f1, Bq D M x.2) ∧ ∀ x ∈ f2, Bq D N x.2 := by
  obtain ⟨D, M, D0, D1, M1, hq⟩ := F1.bq
  obtain ⟨E, N, E0, E1, N1, hr⟩ := F2.bq
  have db := bD_le_bN d
  refine ⟨D * E, M * E, N * D, Nat.mul_pos D0 E0, ?_, pw_lt M1 E1 (by omega), pw_lt N1 D1 (by omega), fun x hx => (hq x hx).scale, fun x hx => ?_⟩
  · rw [bD_succ]
    exact pw_lt D1 E1 (by omega)
  · rw [Nat.mul_comm D E]
    exact (hr x hx).scale
theorem FOk.szs (F1 : FOk names d l f1) (F2 : FOk names d r f2) (hd : d ≤ 2) : Szs f1 f2 := by
  obtain ⟨D, M, N, D0, D1, M1, N1, h1, h2⟩ := F1.both F2
  have l1 := F1.len
  have l2 := F2.len
  have n5 := nF16 d
  have q4 : 4 ^ d ≤ 16 := by have : d = 0 ∨ d = 1 ∨ d = 2 := by omega
                             rcases this with rfl | rfl | rfl <;> decide
  have q2 : 2 ^ (d + 1) ≤ 8 := by have : d = 0 ∨ d = 1 ∨ d = 2 := by omega
                                  rcases this with rfl | rfl | rfl <;> decide
  refine ⟨F1.nd, F2.nd, by rw [sizeLine_eq]; omega, D, M, N, D0, Nat.lt_of_lt_of_le D1 (Nat.pow_le_pow_right (by decide) (by omega)), ?_, Nat.lt_of_lt_of_le N1 (Nat.pow_le_pow_right (by decide) (by omega)), h1, h2⟩
  have a : f2.length * N < 2 ^ (2 * (60 * 4 ^ d) + 5) := pw_lt (Nat.lt_of_le_of_lt l2 n5) N1 (by omega)
  exact add_lt (Nat.lt_of_lt_of_le M1 (Nat.pow_le_pow_right (by decide) (by omega))) a (by omega)
theorem FOk.add {t' : Tr} (F1 : FOk names d l f1) (F2 : FOk names d r f2) (hd : d ≤ 2) (u1 : uT l ≤ 36) (u2 : uT r ≤ 36) (hu : uT t' = uT l * uT r) (he : ∀ g, tv g t' = tv g l + tv g r) : FOk names (d + 1) t' (mapM nz id (addTo f1 f2)) := by
  obtain ⟨D, M, N, D0, D1, M1, N1, h1, h2⟩ := F1.both F2
  have l1 := F1.len
  have l2 := F2.len
  refine ⟨mapM_nodup (nodup_addTo _ _ F1.nd), Nat.le_trans length_mapM (Nat.le_trans (length_addTo _ _) (by have := (nF_two hd).1; omega)), fun x hx => ?_, ⟨D, M + f2.length * N, D0, D1, ?_, fun x hx => ?_⟩, fun g => ?_, fun x hx => ?_, canon_addF F1.can F2.can, fun x hx => ?_⟩
  · obtain ⟨y, hy, rfl, _⟩ := keys_mapM hx
    rcases mem_addTo_key hy with h | h
    · obtain ⟨z, hz, e⟩ := List.mem_map.mp h
      obtain ⟨a, b⟩ := F1.keys z hz
      rw [e] at a b
      exact ⟨by show y.1.length ≤ _; rw [two_pow_succ]; omega, b⟩
    · obtain ⟨z, hz, e⟩ := List.mem_map.mp h
      obtain ⟨a, b⟩ := F2.keys z hz
      rw [e] at a b
      exact ⟨by show y.1.length ≤ _; rw [two_pow_succ]; omega, b⟩
  · have a : f2.length * N < 2 ^ (2 * (60 * 4 ^ d) + 5) := pw_lt (Nat.lt_of_le_of_lt l2 (nF16 d)) N1 (by omega)
    have g := bN_ge d
    rw [bN_succ]
    exact add_lt (Nat.lt_of_lt_of_le M1 (Nat.pow_le_pow_right (by decide) (by omega))) a (by omega)
  · obtain ⟨y, hy, rfl, _⟩ := keys_mapM hx
    exact bq_addTo f2 f1 M h1 h2 y hy
  · rw [ev_mapM g nz0, ev_addTo g _ _ F1.nd, F1.ev g, F2.ev g, he g]
  · obtain ⟨y, hy, rfl, _⟩ := keys_mapM hx
    obtain ⟨M1, _, q1⟩ := F1.bqu
    obtain ⟨M2, _, q2⟩ := F2.bqu
    rw [hu]
    exact (bq_addTo f2 f1 _ (fun z hz => (q1 z hz).scale (k := uT r)) (fun z hz => by rw [Nat.mul_comm (uT l)]; exact (q2 z hz).scale (k := uT l)) y hy).den
  · obtain ⟨y, hy, rfl, _⟩ := keys_mapM hx
    rw [hu]
    refine (bq_addTo f2 f1 _ (fun z hz => (F1.bt z hz).scale (k := uT r)) (fun z hz => by rw [Nat.mul_comm (uT l)]; exact (F2.bt z hz).scale (k := uT l)) y hy).mono ?_
    have n16 : nF d ≤ 4 := by
      have : d = 0 ∨ d = 1 ∨ d = 2 := by omega
      rcases this with rfl | rfl | rfl <;> decide
    have h1 : 2 ^ bT d * uT r ≤ 2 ^ bT d * 36 := Nat.mul_le_mul_left _ u2
    have h2 : f2.length * (2 ^ bT d * uT l) ≤ 4 * (2 ^ bT d * 36) := Nat.mul_le_mul (by omega) (Nat.mul_le_mul_left _ u1)
    have h3 : 2 ^ bT d * 2 ^ 8 ≤ 2 ^ bT (d + 1) := by
      rw [← Nat.pow_add]
      exact Nat.pow_le_pow_right (by decide) (by have := bT_ge d; show bT d + 8 ≤ 2 * bT d + 4; omega)
    omega
/-- the form turned round -/
theorem FOk.neg' (F : FOk names d r fm) {r' : Tr} (hu : uT r' = uT r) (h : ∀ g, tv g r' = -tv g r) : FOk names d r' (negM fm) := by
  obtain ⟨D, M, D0, D1, M1, hq⟩ := F.bq
  refine ⟨mapM_nodup F.nd, Nat.le_trans length_mapM F.len, fun x hx => ?_, ⟨D, M, D0, D1, M1, fun x hx => ?_⟩, fun g => ?_, fun x hx => ?_, canon_neg F.can, fun x hx => ?_⟩
  · obtain ⟨y, hy, rfl, _⟩ := keys_mapM hx
    exact F.keys y hy
  · obtain ⟨y, hy, rfl, _⟩ := keys_mapM hx
    exact (hq y hy).neg
  · rw [ev_neg, F.ev g, h g]
  · obtain ⟨y, hy, rfl, _⟩ := keys_mapM hx
    obtain ⟨M2, _, q2⟩ := F.bqu
    rw [hu]
    exact (q2 y hy).neg.den
  · obtain ⟨y, hy, rfl, _⟩ := keys_mapM hx
    rw [hu]
    exact (F.bt y hy).neg
theorem FOk.mul {lz : Fm} (F1 : FOk names d l f1) (F2 : FOk names d r f2) (hd : d ≤ 2) (hl : TrOk names d l) (hr : TrOk names d r) (hp : Paired MulT lz (allP f1 f2)) : FOk names (d + 1) (.bin 2 l r) (mapM nz id (addTo [] lz)) := by
  obtain ⟨D, M, D0, D1, M1, hq⟩ := F1.bq
  obtain ⟨E, N, E0, E1, N1, hr2⟩ := F2.bq
  have l1 := F1.len
  have l2 := F2.len
  have pl := Paired.length hp
  rw [allP_length] at pl
  have ll : lz.length ≤ nF d * nF d := by rw [pl]; exact Nat.mul_le_mul l1 l2
  have bz : ∀ z ∈ lz, Bq (D * E) (M * N) z.2 := bq_mulT hp fun p h => ⟨hq _ (mem_allP h).1, hr2 _ (mem_allP h).2⟩
  have kz : ∀ z ∈ lz, z.1.length ≤ 2 ^ (d + 1) ∧ ∀ x ∈ z.1, x ∈ names := by
    intro z hz
    obtain ⟨i, hi⟩ := List.getElem?_of_mem hz
    obtain ⟨p, hp2, pm, _, _⟩ := paired_get hp hi
    obtain ⟨m1, m2⟩ := mem_allP (List.mem_of_getElem? hp2)
    obtain ⟨a1, b1⟩ := F1.keys _ m1
    obtain ⟨a2, b2⟩ := F2.keys _ m2
    refine ⟨by rw [pm.length_eq, List.length_append, two_pow_succ]; omega, fun x hx => ?_⟩
    rcases List.mem_append.mp (pm.mem_iff.mp hx) with h | h
    · exact b1 x h
    · exact b2 x h
  refine ⟨mapM_nodup (nodup_addTo _ _ List.nodup_nil), Nat.le_trans length_mapM (Nat.le_trans (length_addTo _ _) (by rw [List.length_nil]; have := (nF_two hd).2.1; omega)), fun x hx => ?_, ⟨D * E, 0 + lz.length * (M * N), Nat.mul_pos D0 E0, ?_, ?_, fun x hx => ?_⟩, fun g => ?_, fun x hx => ?_, by rw [mulT_list hp]; exact canon_mulF f1 f2, fun x hx => ?_⟩
  · obtain ⟨y, hy, rfl, _⟩ := keys_mapM hx
    rcases mem_addTo_key hy with h | h
    · exact absurd h List.not_mem_nil
    · obtain ⟨z, hz, e⟩ := List.mem_map.mp h
      have := kz z hz
      rw [e] at this
      exact this
  · rw [bD_succ]
    exact pw_lt D1 E1 (by omega)
  · have g := bN_ge d
    rw [Nat.zero_add, bN_succ]
    have h10 : lz.length < 2 ^ 10 := Nat.lt_of_le_of_lt ll (pw_lt (nF16 d) (nF16 d) (by decide))
    exact pw_lt h10 (pw_lt M1 N1 (Nat.le_refl _)) (by omega)
  · obtain ⟨y, hy, rfl, _⟩ := keys_mapM hx
    exact bq_addTo lz [] 0 (fun y hy => absurd hy List.not_mem_nil) bz y hy
  · rw [ev_mapM g nz0, ev_addTo g lz [] List.nodup_nil, ev_prod g hp, F1.ev g, F2.ev g, tv_mul hl hr]
    show 0 + _ = _
    grind
  · obtain ⟨y, hy, rfl, _⟩ := keys_mapM hx
    obtain ⟨M3, _, q1⟩ := F1.bqu
    obtain ⟨M4, _, q2⟩ := F2.bqu
    have bz2 := bq_mulT hp fun p h => ⟨q1 _ (mem_allP h).1, q2 _ (mem_allP h).2⟩
    exact (bq_addTo lz [] 0 (fun y hy => absurd hy List.not_mem_nil) bz2 y hy).den
  · obtain ⟨y, hy, rfl, _⟩ := keys_mapM hx
    have bz2 := bq_mulT hp fun p h => ⟨F1.bt _ (mem_allP h).1, F2.bt _ (mem_allP h).2⟩
    refine (bq_addTo lz [] 0 (fun y hy => absurd hy List.not_mem_nil) bz2 y hy).mono ?_
    have n16 : nF d ≤ 4 := by
      have : d = 0 ∨ d = 1 ∨ d = 2 := by omega
      rcases this with rfl | rfl | rfl <;> decide
    have n4 : nF d * nF d ≤ 4 * 4 := Nat.mul_le_mul n16 n16
    rw [Nat.zero_add, ← Nat.pow_add]
    have h3 : 2 ^ (bT d + bT d) * 2 ^ 4 = 2 ^ bT (d + 1) := by
      rw [← Nat.pow_add]
      congr 1
      show bT d + bT d + 4 = 2 * bT d + 4
      omega
    rw [← h3, Nat.mul_comm]
    exact Nat.mul_le_mul_left _ (by omega)
theorem FOk.szm (F1 : FOk names d l f1) (F2 : FOk names d r f2) (hd : d ≤ 2) : SzM f1 f2 := by
  obtain ⟨D, M, D0, D1, M1, hq⟩ := F1.bq
  obtain ⟨E, N, E0, E1, N1, hr2⟩ := F2.bq
  have l1 := F1.len
  have l2 := F2.len
  have q4 : 4 ^ d ≤ 16 := by have : d = 0 ∨ d = 1 ∨ d = 2 := by omega
                             rcases this with rfl | rfl | rfl <;> decide
  have q2 : 2 ^ d ≤ 4 := by have : d = 0 ∨ d = 1 ∨ d = 2 := by omega
                            rcases this with rfl | rfl | rfl <;> decide
  have ll : f1.length * f2.length < 2 ^ 10 := pw_lt (Nat.lt_of_le_of_lt l1 (nF16 d)) (Nat.lt_of_le_of_lt l2 (nF16 d)) (by decide)
  have le : ∀ {n}, n ≤ 400000 → ∀ {a}, a < 2 ^ n → a < 2 ^ 400000 := fun {n} h {a} ha => Nat.lt_of_lt_of_le ha (Nat.pow_le_pow_right (by decide) h)
  refine ⟨F1.nd, F2.nd, by rw [sizeLine_eq]; omega, fun x hx y hy => ?_, D, M, E, N, D0, E0, ?_, ?_, le (by omega) (pw_lt M1 N1 (Nat.le_refl _)), le (by omega) M1, le (by omega) N1, hq, hr2⟩
  · have a := (F1.keys x hx).1
    have b := (F2.keys y hy).1
    rw [sizeLine_eq]
    omega
  · exact Nat.lt_of_lt_of_le (pw_lt D1 E1 (Nat.le_refl _)) (Nat.pow_le_pow_right (by decide) (by omega))
  · exact le (by omega) (pw_lt ll (pw_lt M1 N1 (Nat.le_refl _)) (Nat.le_refl _))
theorem FOk.sm (F : FOk names d t fm) (hd : d ≤ 3) : Sm fm := by
  obtain ⟨D, M, D0, D1, M1, hq⟩ := F.bq
  have q4 : 4 ^ d ≤ 64 := by have : d = 0 ∨ d = 1 ∨ d = 2 ∨ d = 3 := by omega
                             rcases this with rfl | rfl | rfl | rfl <;> decide
  have q2 : 2 ^ d ≤ 8 := by have : d = 0 ∨ d = 1 ∨ d = 2 ∨ d = 3 := by omega
                            rcases this with rfl | rfl | rfl | rfl <;> decide
  intro x hx
  exact ⟨Nat.lt_of_le_of_lt ((hq x hx).num_le D0) (Nat.lt_of_lt_of_le M1 (Nat.pow_le_pow_right (by decide) (by omega))), Nat.lt_of_le_of_lt ((hq x hx).den_le D0) (Nat.lt_of_lt_of_le D1 (Nat.pow_le_pow_right (by decide) (by omega)))⟩
end
end E2

set_option Elab.async false
set_option linter.all false
set_option maxRecDepth 100000
set_option maxHeartbeats 1000000
/-! _law_form -/
namespace E2
open PySem PySem.Spec PyProof.Rows L2
open C8 (Cal Mak Met InsC pe_c pe_mt pe_mt0 call_isC clsBody)
/-- the form of an expression -/
def frm : Tr → Fm
  | .num n => if n = 0 then [] else [([], (n : Rat))]
  | .var z => [([z], 1)]
  | .div t k => mapM (fun _ => true) (fun q => q * Rat.divInt 1 k) (frm t)
  | .bin 0 l r => addF (frm l) (frm r)
  | .bin 1 l r => addF (frm l) (negM (frm r))
  | .bin (_ + 2) l r => mulF (frm l) (frm r)
def spLawForm (P : Program) (w : World) (K : PySem.W.Frag) (C : Addr) (d : Nat) : Sp := fun vs H Q _ => ∃ (b : Addr) (t : Tr) (names : List Str), vs = [.ref b] ∧ TrAt K H t b ∧ TrOk names d t ∧ (∀ z ∈ names, LetOk z) ∧ ∀ H' p, Same H H' → FmAt P w K C H' p (frm t) → FOk names d t (frm t) → Q (.ref p) H'
def spLawFormP (P : Program) (w : World) (K : PySem.W.Frag) (C : Addr) : Nat → Sp
  | 0 => fun _ _ _ _ => False
  | d + 1 => spLawForm P w K C d
section
variable {P : Program} {w : World} {K : PySem.W.Frag} {mg : Str → Option Value} {base : Heap} {C : Addr}
theorem scLawForm : FnScope ["_law_tree_here", "_law_first", "_law_second"] ["_law_tree_here"] (defScope sLawForm) := ⟨rfl, rfl, rfl, by decide +kernel, rfl, by decide +kernel, by decide +kernel⟩
theorem u36 {names : List Str} {d : Nat} {t : Tr} (h : TrOk names d t) (hd : d ≤ 2) : uT t ≤ 36 := by
  have := (uT_le h).2
  have e : d = 0 ∨ d = 1 ∨ d = 2 := by omega
  rcases e with rfl | rfl | rfl
  · exact Nat.le_trans this (by decide)
  · exact Nat.le_trans this (by decide)
  · exact Nat.le_trans this (by decide)
theorem fok_num {names : List Str} {d : Nat} {n : Int} (hd : d ≤ 3) (h : n.natAbs < 2 ^ 40) : FOk names d (.num n) (if n = 0 then [] else [([], (n : Rat))]) := by
  refine fok_leaf hd rfl ?_ fun g => ?_
  · by_cases c : n = 0
    · exact .inl (if_pos c)
    · exact .inr ⟨[], n, if_neg c, Nat.zero_le _, fun z hz => absurd hz List.not_mem_nil, fun z => c (Rat.intCast_inj.mp (z.trans (by rfl : (0 : Rat) = ((0 : Int) : Rat)))), Bq.int.mono (Nat.le_of_lt h)⟩
  · have e : tv g (.num n) = (n : Rat) := by
      show (n : Rat) / ((1 : Int) : Rat) = n
      have e1 : ((1 : Int) : Rat) = 1 := rfl
      rw [e1]
      grind
    rw [e]
    by_cases c : n = 0
    · rw [if_pos c, c]
      rfl
    · rw [if_neg c]
      show (n : Rat) * ((1 : Int) : Rat) + 0 = n
      have e1 : ((1 : Int) : Rat) = 1 := rfl
      rw [e1]
      grind
theorem fok_var {names : List Str} {d : Nat} {z : Str} (hd : d ≤ 3) (h : z ∈ names) : FOk names d (.var z) [([z], 1)] := by
  refine fok_leaf hd rfl (.inr ⟨[z], 1, rfl, Nat.le_refl _, fun y hy => by rw [List.mem_singleton.mp hy]; exact h, by decide, ⟨1, by rw [Rat.one_mul]; rfl, by decide⟩⟩) fun g => ?_
  show (1 : Rat) * ((g z * 1 : Int) : Rat) + 0 = (g z : Rat) / ((1 : Int) : Rat)
  have e1 : ((1 : Int) : Rat) = 1 := rfl
  rw [Int.mul_one, e1]
  grind
theorem ok_lawForm {f : Addr} {fd : FuncData} (F : Fun K "_law_form" "_law_form" sLawForm f fd) (d : Nat) (hd : d ≤ 3) (Nu : Cal P w K mg base 3 "number" (spNumber P w K C) []) (Le : Cal P w K mg base 3 "letter" (spLetter P w K C) []) (Ov : Met P w K mg base 4 C "over" (spOver P w K C) [])
    (Oa : OpM P w K mg base 5 C "__add__" (spAdd P w K C)) (Os : OpM P w K mg base 6 C "__sub__" (spSub P w K C)) (Om : OpM P w K mg base 5 C "__mul__" (spMul P w K C)) (R : Cal P w K mg base (6 + d) "_law_form" (spLawFormP P w K C d) []) : FnOk P w K mg base CX0 (7 + d) f fd ["_law_tree_here"] (spLawForm P w K C d) := by
  obtain ⟨fa, fda, pa, oa, Fa, ba⟩ := Oa.ex
  obtain ⟨fs, fds, ps, os, Fs, bs⟩ := Os.ex
  obtain ⟨fm_, fdm, pm, om, Fm_, bm⟩ := Om.ex
  have e5 : 7 + d = (6 + d) + 1 := by omega
  rw [e5]
  refine F.ok scLawForm (fun vs H Q E h => ?_) (fun cdv A outer s H vs Q E hr h => ?_)
  · obtain ⟨b, t, names, rfl, _⟩ := h
    rfl
  · obtain ⟨b, t, names, rfl, ht, tk, hn, k⟩ := h
    refine ⟨_, pss_cons (ps_if (pt_cmpR op_eq (pe_ix ix_tup (pv 0) pe_int (fun _ _ => rfl)) pe_str (nomark _)) (pss_one (ps_ret (pe_c Nu hr (by omega) rfl (pa_cons (pe_ix ix_tup (pv 0) pe_int (fun _ _ => rfl)) pa_nil)))) pss_nil)
      (pss_cons (ps_if (pt_cmpR op_eq (pe_ix ix_tup (pv 0) pe_int (fun _ _ => rfl)) pe_str (nomark _)) (pss_one (ps_ret (pe_c Le hr (by omega) rfl (pa_cons (pe_ix ix_tup (pv 0) pe_int (fun _ _ => rfl)) pa_nil)))) pss_nil)
      (pss_cons (ps_set (i := 1) scLawForm.nd rfl (Or.inl rfl) (pe_c R hr (by omega) rfl (pa_cons (pe_ix ix_tup (pv 0) pe_int (fun _ _ => rfl)) pa_nil)))
      (pss_cons (ps_if (pt_cmpR op_eq (pe_ix ix_tup (pv 0) pe_int (fun _ _ => rfl)) pe_str (nomark _)) (pss_one (ps_ret (pe_mt Ov hr (by omega) (pv 1) (pa_cons (pe_ix ix_tup (pv 0) pe_int (fun _ _ => rfl)) pa_nil)))) pss_nil)
      (pss_cons (ps_set (i := 2) scLawForm.nd rfl (Or.inl rfl) (pe_c R hr (by omega) rfl (pa_cons (pe_ix ix_tup (pv 0) pe_int (fun _ _ => rfl)) pa_nil)))
      (pss_cons (ps_if (pt_cmpR op_eq (pe_ix ix_tup (pv 0) pe_int (fun _ _ => rfl)) pe_str (nomark _)) (pss_one (ps_ret (pe_op (op_own (op := .Mult) om Fm_ (hr.mono (by omega)) bm) (pv 1) (pv 2)))) pss_nil)
      (pss_one (ps_ret (pe_ifExp (pt_cmpR op_eq (pe_ix ix_tup (pv 0) pe_int (fun _ _ => rfl)) pe_str (nomark _)) (pe_op (op_own (op := .Sub) os Fs (hr.mono (by omega)) bs) (pv 1) (pv 2)) (pe_op (op_own (op := .Add) oa Fa (hr.mono (by omega)) ba) (pv 1) (pv 2)))))))))), ?_⟩
    match t, ht, tk with
    | .num n, ht, tk =>
      have tk : n.natAbs < 2 ^ 40 := by cases d <;> exact tk
      exact ⟨_, rfl, b, _, 0, _, rfl, rfl, ht, rfl, rfl, _, rfl, iteEq ⟨_, rfl, b, _, 1, _, rfl, rfl, ht, rfl, n, rfl, fun H' p S np hp => k H' p S hp (fok_num hd tk)⟩⟩
    | .var z, ht, tk =>
      have hz : z ∈ names := by cases d <;> exact tk
      refine ⟨_, rfl, b, _, 0, _, rfl, rfl, ht, rfl, rfl, _, rfl, iteNe (ns (by decide)) ?_⟩
      dsimp only [tNext]
      exact ⟨_, rfl, b, _, 0, _, rfl, rfl, ht, rfl, rfl, _, rfl, iteEq ⟨_, rfl, b, _, 1, _, rfl, rfl, ht, rfl, z, rfl, hn z hz, fun H' p S np hp => k H' p S hp (fok_var hd hz)⟩⟩
    | .div t c, ⟨bt, ht, hbt⟩, tk =>
      cases d with
      | zero => exact tk.elim
      | succ d =>
      obtain ⟨tk, c0, c1⟩ := tk
      refine ⟨_, rfl, b, _, 0, _, rfl, rfl, ht, rfl, rfl, _, rfl, iteNe (ns (by decide)) ?_⟩
      dsimp only [tNext]
      refine ⟨_, rfl, b, _, 0, _, rfl, rfl, ht, rfl, rfl, _, rfl, iteNe (ns (by decide)) ?_⟩
      dsimp only [tNext]
      refine seq_asg ⟨_, rfl, b, _, 1, _, rfl, rfl, ht, rfl, bt, t, names, rfl, hbt, tk, hn, fun H1 p S1 hp F1 => ?_⟩
      have ht1 := ht.same S1
      refine ⟨_, rfl, b, _, 0, _, rfl, rfl, ht1, rfl, rfl, _, rfl, iteEq ?_⟩
      have sl := F1.len
      have n5 := nF16 d
      have hp' := hp
      obtain ⟨dx, dd, kvs, a1, a2, a3⟩ := hp
      refine ⟨_, rfl, p, dx, _, rfl, a1, rfl, _, rfl, b, _, 2, _, rfl, rfl, ht1, rfl, p, c, _, rfl, by omega, ?_, hp', F1.nd, by rw [sizeLine_eq]; omega, F1.sm (by omega), fun H2 q S2 nq hq => ?_⟩
      · exact Nat.lt_of_lt_of_le (show c.natAbs < 2 ^ 4 by omega) (Nat.pow_le_pow_right (by decide) (by decide))
      · exact k H2 q (S1.trans S2) hq (F1.div (by omega) tk c0 c1)
    | .bin o l r, ⟨bl, br, ht, hbl, hbr⟩, tk =>
      cases d with
      | zero => exact tk.elim
      | succ d =>
      obtain ⟨ho, tkl, tkr⟩ := tk
      have o3 : o = 0 ∨ o = 1 ∨ o = 2 := by omega
      refine ⟨_, rfl, b, _, 0, _, rfl, rfl, ht, rfl, rfl, _, rfl, iteNe (ns (by rcases o3 with rfl | rfl | rfl <;> decide)) ?_⟩
      dsimp only [tNext]
      refine ⟨_, rfl, b, _, 0, _, rfl, rfl, ht, rfl, rfl, _, rfl, iteNe (ns (by rcases o3 with rfl | rfl | rfl <;> decide)) ?_⟩
      dsimp only [tNext]
      refine seq_asg ⟨_, rfl, b, _, 1, _, rfl, rfl, ht, rfl, bl, l, names, rfl, hbl, tkl, hn, fun H1 p S1 hp F1 => ?_⟩
      have ht1 := ht.same S1
      refine ⟨_, rfl, b, _, 0, _, rfl, rfl, ht1, rfl, rfl, _, rfl, iteNe (ns (by rcases o3 with rfl | rfl | rfl <;> decide)) ?_⟩
      dsimp only [tNext]
      refine seq_asg ⟨_, rfl, b, _, 2, _, rfl, rfl, ht1, rfl, br, r, names, rfl, hbr.same S1, tkr, hn, fun H2 p2 S2 hp2 F2 => ?_⟩
      have ht2 := ht1.same S2
      have S12 := S1.trans S2
      have hpp := hp.same S2
      have hpp' := hpp
      have hp2' := hp2
      obtain ⟨dx, dd, kvs, a1, a2, a3⟩ := hpp
      obtain ⟨dx2, dd2, kvs2, b1, b2, b3⟩ := hp2
      have l2 : (frm r).length ≤ sizeLine := by have := F2.len; have := nF16 d; rw [sizeLine_eq]; omega
      rcases o3 with rfl | rfl | rfl
      · refine ⟨_, rfl, b, _, 0, _, rfl, rfl, ht2, rfl, rfl, _, rfl, iteNe (ns (by decide)) ?_⟩
        dsimp only [tNext]
        refine ret_of ⟨_, rfl, b, _, 0, _, rfl, rfl, ht2, rfl, rfl, _, rfl, iteNe (ns (by decide)) ?_⟩
        exact ⟨_, rfl, _, rfl, p, p2, dx, _, dx2, _, rfl, rfl, a1, b1, p, .ref p2, _, _, rfl, hpp', .inr ⟨p2, rfl, hp2'⟩, F1.szs F2 (by omega), fun H3 q S3 nq hq => k H3 q (S12.trans S3) hq (F1.add F2 (by omega) (u36 tkl (by omega)) (u36 tkr (by omega)) rfl fun g => tv_add tkl tkr)⟩
      · refine ⟨_, rfl, b, _, 0, _, rfl, rfl, ht2, rfl, rfl, _, rfl, iteNe (ns (by decide)) ?_⟩
        dsimp only [tNext]
        refine ret_of ⟨_, rfl, b, _, 0, _, rfl, rfl, ht2, rfl, rfl, _, rfl, iteEq ?_⟩
        have F3 : FOk names d (.bin 1 (.num 0) r) (negM (frm r)) := F2.neg' (by simp [uT]) fun g => by
          have t0 : TrOk names d (.num 0) := by cases d <;> exact (show (0 : Int).natAbs < 2 ^ 40 by decide)
          rw [tv_sub t0 tkr]
          have e0 : tv g (.num 0) = 0 := by
            show ((0 : Int) : Rat) / ((1 : Int) : Rat) = 0
            have e1 : ((1 : Int) : Rat) = 1 := rfl
            have e2 : ((0 : Int) : Rat) = 0 := rfl
            rw [e1, e2]
            grind
          rw [e0]
          grind
        have hev : ∀ g, tv g (.bin 1 l r) = tv g l + tv g (.bin 1 (.num 0) r) := fun g => by
          have t0 : TrOk names d (.num 0) := by cases d <;> exact (show (0 : Int).natAbs < 2 ^ 40 by decide)
          rw [tv_sub tkl tkr, tv_sub t0 tkr]
          have e0 : tv g (.num 0) = 0 := by
            show ((0 : Int) : Rat) / ((1 : Int) : Rat) = 0
            have e1 : ((1 : Int) : Rat) = 1 := rfl
            have e2 : ((0 : Int) : Rat) = 0 := rfl
            rw [e1, e2]
            grind
          rw [e0]
          grind
        exact ⟨_, rfl, _, rfl, p, p2, dx, _, dx2, _, rfl, rfl, a1, b1, p, .ref p2, _, _, rfl, hpp', .inr ⟨p2, rfl, hp2'⟩, F1.szs F3 (by omega), F2.nd, l2, fun H3 q S3 nq hq => k H3 q (S12.trans S3) hq (F1.add F3 (by omega) (u36 tkl (by omega)) (by have := u36 tkr (by omega : d ≤ 2); simp [uT]; omega) (by simp [uT]) hev)⟩
      · refine ⟨_, rfl, b, _, 0, _, rfl, rfl, ht2, rfl, rfl, _, rfl, iteEq ?_⟩
        exact ⟨_, rfl, _, rfl, p, p2, dx, _, dx2, _, rfl, rfl, a1, b1, p, .ref p2, _, _, rfl, hpp', .inr ⟨p2, rfl, hp2'⟩, F1.szm F2 (by omega), fun H3 q lz S3 nq hl hq => k H3 q (S12.trans S3) (by rw [mulT_list hl] at hq; exact hq) (by have h := F1.mul F2 (by omega) tkl tkr hl; rw [mulT_list hl] at h; exact h)⟩
end
end E2

set_option Elab.async false
set_option linter.all false
set_option maxRecDepth 100000
set_option maxHeartbeats 1000000
/-! a.degree() -/
namespace E2
open PySem PySem.Spec PyProof.Rows L2
open C8 (Cal Mak Met InsC pe_c pe_mt pe_mt0 call_isC clsBody)
abbrev sDegree : Stmt := meth 9
def degI (fm : Fm) : Int := hiI 0 (fm.map fun x => (x.1.length : Int))
def spDeg (P : Program) (w : World) (K : PySem.W.Frag) (C : Addr) : Sp := fun vs H Q _ => ∃ a fm, vs = [.ref a] ∧ FmAt P w K C H a fm ∧ fm.length ≤ 100000 ∧ (∀ x ∈ fm, x.1.length ≤ 100000) ∧ ∀ H', Same H H' → Q (.int (degI fm)) H'
section
variable {P : Program} {w : World} {K : PySem.W.Frag} {mg : Str → Option Value} {base : Heap} {C : Addr}
theorem scDeg : FnScope ["self", "names"] ["self"] (defScope sDegree) := ⟨rfl, rfl, rfl, by decide +kernel, rfl, by decide +kernel, by decide +kernel⟩
abbrev rLenQ (K : PySem.W.Frag) : List V → Hp → VK → Prop := fun xs H Q => ∃ p ys, xs = [.ref p] ∧ (SqL K H p ys ∨ SqT K H p ys) ∧ Q (.int (ys.length : Nat)) H
theorem ok_deg {f : Addr} {fd : FuncData} (F : Fun K "degree" "Form.degree" sDegree f fd) (T : Fx P w K mg base C) (hmax : mg "max" = none) (hlen : mg "len" = none) : FnOk P w K mg base CX0 1 f fd ["self"] (spDeg P w K C) := by
  refine F.ok scDeg (fun vs H Q E h => ?_) (fun cdv A outer s H vs Q E hr h => ?_)
  · obtain ⟨a, fm, rfl, _⟩ := h
    rfl
  · obtain ⟨a, fm, rfl, ⟨dx, d, kvs, ha, hd, hf⟩, hl, hml, k⟩ := h
    refine ⟨_, pss_one (ps_ret (pe_maxD (hr.mono (by decide)) rfl (by rfl) hmax (pe_lock (pe_lc (own := [("names", 1)]) (g := gName 1) (tt := tYes) (te := tCB (rLenQ K) (tCons (tVar 1) tNil)) rfl scDeg.nd (pi_keysN (pe_fld (pv 0) rfl))
        (blkOk_by (own := [("names", 1)]) (N := ["self", "names"]) (sc := defScope sDegree) (by decide +kernel))
        (fun _ _ _ _ _ => pg_name (i := 1) scDeg.nd rfl (Or.inl rfl)) (fun _ _ _ _ _ => pts_nil) (fun _ _ _ _ _ => by exact pe_callB call_len_seq (by rfl) hlen PySem.boot_len (pa_cons (pv 1) pa_nil)))) pe_int)), ?_⟩
    have nad : a ≠ d := ne_of ha hd (by intro z; cases z)
    have z5 : (300000 : Nat) ≤ sizeLine := by rw [sizeLine_eq]; decide
    refine ret_of ?_
    refine ⟨d, DfO P w d kvs, hd, trivial, fun od => ?_⟩
    have h1 : (upd H d (.frz od (DfO P w d kvs))) d = some (.frz od (DfO P w d kvs)) := upd_same
    have hf1 : FmKv K (upd H d (.frz od (DfO P w d kvs))) kvs fm := hf.imp (.off hd noTup_df)
    refine ⟨_, rfl, a, C, dx, _, _, rfl, by rw [upd_ne nad]; exact ha, T.cl, T.na, rfl, d, od, kvs, rfl, upd_same, fun D nD => ?_⟩
    have neD : D ≠ d := by
      rintro rfl
      rw [upd_same] at nD
      cases nD
    have nDH : H D = none := by rwa [upd_ne neD] at nD
    have S0 : ∀ z : HO, Same H (upd (upd (upd H d (.frz od (DfO P w d kvs))) D z) d (DfO P w d kvs)) := fun z b o e => by
      by_cases c : b = d
      · subst c
        rw [upd_same, ← hd, e]
      · rw [upd_ne c, upd_ne (ne_of_none e nDH), upd_ne c]
        exact e
    generalize hH1 : upd H d (.frz od (DfO P w d kvs)) = H1 at hf1 nD h1 S0 ⊢
    refine lc_it walk_keysN (fun i H' => H' = upd H1 D (.lst (((fm.take i).map fun x => (x.1.length : Int)).map V.int))) rfl (fun i H' _ e => by rw [e, upd_ne (Ne.symm neD)]; exact h1) ?_ ?_
    · rintro i x H' H'' hi rfl ⟨rfl, kk, b, av, hkv, rfl⟩
      obtain ⟨m, q, b', a1, hm, e, tb, sa⟩ := hf1.get hkv
      obtain ⟨rfl, e2⟩ := Prod.mk.inj e
      obtain ⟨rfl, rfl⟩ := Prod.mk.inj e2
      rw [kS_kV] at tb
      have tb2 := tb.same (Same.upd (o := .lst (((fm.take i).map fun x => (x.1.length : Int)).map V.int)) nD)
      have hil : i < fm.length := by rw [← hf.length]; exact hi
      refine ⟨rfl, iteT (B := False) ⟨_, rfl, b, _, rfl, .inr tb2.sq, _, upd_same, ?_, ?_⟩⟩
      · rw [List.length_map, List.length_map, List.length_take]
        omega
      · rw [upd_upd, take_snoc hm, List.map_append, List.map_append, List.length_map]
        rfl
    · rintro H' rfl
      rw [hf.length, List.take_length]
      refine ⟨by rw [upd_ne (Ne.symm neD)]; exact h1, D, fm.map (fun x => (x.1.length : Int)), rfl, SqL.of (by rw [upd_ne neD]; exact upd_same), 0, rfl, rfl, ?_⟩
      exact k _ (S0 _)
end
end E2

set_option Elab.async false
set_option linter.all false
set_option maxRecDepth 100000
set_option maxHeartbeats 1000000
/-! _law_values -/
namespace E2
open PySem PySem.Spec PyProof.Rows L2
open C8 (Cal Mak Met InsC pe_c pe_mt pe_mt0 call_isC clsBody)
abbrev sValues : Stmt := top 31
def spValues (K : PySem.W.Frag) : Sp := fun vs H Q _ => ∃ (a l : Addr) (names : List Str) (n : Nat), vs = [.ref a, .ref l] ∧ PurseAt H a (n + 12 * names.length) ∧ SqL K H l (names.map V.str) ∧ l ≠ a ∧ names.length ≤ 12 ∧ (∀ z ∈ names, LetOk z) ∧
  ∀ H' dv g, VlAt H' dv names g → H dv = none → PurseAt H' a n → SameB a H H' → Q (.ref dv) H'
/-- what the dict holds by then -/
def VlI (H : Hp) (D : Addr) (names : List Str) (i : Nat) : Prop := ∃ kvs, H D = some (.dK kvs) ∧ ValsOk kvs ∧ kvs.length ≤ i ∧ ∀ z ∈ names.take i, ∃ m : Int, valV kvs (Sum.inr z) = some (.int m) ∧ m.natAbs < 2 ^ 100
theorem mem_putK {kvs : List (Key × V)} {k : Key} {v : V} {x : Key × V} (h : x ∈ putK kvs k v) : x ∈ kvs ∨ x = (k, v) := by
  unfold putK at h
  split at h
  · obtain ⟨y, hy, e⟩ := List.mem_map.mp h
    by_cases c : y.1 = k
    · rw [if_pos c] at e
      exact .inr (by rw [← e, c])
    · rw [if_neg c] at e
      exact .inl (e ▸ hy)
  · rcases List.mem_append.mp h with h | h
    · exact .inl h
    · exact .inr (by simpa using h)
theorem VlI.put {H : Hp} {D : Addr} {names : List Str} {i : Nat} {z : Str} {m : Int} (h : VlI H D names i) (hz : names[i]? = some z) (lz : LetOk z) (hm : m.natAbs < 2 ^ 100) :
    ∃ kvs, H D = some (.dK kvs) ∧ kvs.length ≤ i ∧ VlI (upd H D (.dK (putK kvs (Sum.inr z) (.int m)))) D names (i + 1) := by
  obtain ⟨kvs, hD, vo, ll, hv⟩ := h
  refine ⟨kvs, hD, ll, _, upd_same, fun x hx => ?_, Nat.le_trans (length_putK _ _ _) (by omega), fun y hy => ?_⟩
  · rcases mem_putK hx with hx | rfl
    · exact vo x hx
    · exact ⟨z, m, rfl, lz⟩
  · rw [valV_put]
    by_cases c : y = z
    · rw [if_pos (by rw [c])]
      exact ⟨m, rfl, hm⟩
    · rw [if_neg (fun e => c (Sum.inr.inj e))]
      rw [take_snoc hz] at hy
      rcases List.mem_append.mp hy with hy | hy
      · exact hv y hy
      · exact absurd (List.mem_singleton.mp hy) c
def gOf (kvs : List (Key × V)) (z : Str) : Int := match valV kvs (Sum.inr z) with
  | some (.int m) => m
  | _ => 0
theorem VlI.at {H : Hp} {D : Addr} {names : List Str} {n : Nat} (h : VlI H D names n) (hn : names.length ≤ n) (l : n ≤ 1000) : ∃ g, VlAt H D names g := by
  obtain ⟨kvs, hD, vo, ll, hv⟩ := h
  refine ⟨gOf kvs, kvs, hD, vo, by omega, fun z hz => ?_⟩
  obtain ⟨m, e, b⟩ := hv z (by rw [List.take_of_length_le hn]; exact hz)
  have eg : gOf kvs z = m := by unfold gOf; rw [e]
  rw [eg]
  exact ⟨e, b⟩
theorem VlI.step {H H' : Hp} {D : Addr} {names : List Str} {i : Nat} (h : VlI H D names i) (e : ∀ o, H D = some o → H' D = some o) : VlI H' D names i := let ⟨kvs, hD, r⟩ := h; ⟨kvs, e _ hD, r⟩
theorem seven {d5 far w : Int} (h5 : 0 ≤ d5 ∧ d5 < 99) (hf : far.natAbs < 2 ^ 100) (w0 : 0 ≤ w) (w1 : w < 7) : ∃ m : Int, atI [V.int 0, V.int 1, V.int 2, V.int 3, V.int (0 - 1), V.int d5, V.int far] w = some (.int m) ∧ m.natAbs < 2 ^ 100 := by
  have : w = 0 ∨ w = 1 ∨ w = 2 ∨ w = 3 ∨ w = 4 ∨ w = 5 ∨ w = 6 := by omega
  rcases this with rfl | rfl | rfl | rfl | rfl | rfl | rfl
  · exact ⟨0, rfl, by decide⟩
  · exact ⟨1, rfl, by decide⟩
  · exact ⟨2, rfl, by decide⟩
  · exact ⟨3, rfl, by decide⟩
  · exact ⟨0 - 1, rfl, by decide⟩
  · exact ⟨d5, rfl, by omega⟩
  · exact ⟨far, rfl, hf⟩
section
variable {P : Program} {w : World} {K : PySem.W.Frag} {mg : Str → Option Value} {base : Heap}
theorem scValues : FnScope ["_law_purse_here", "_law_names_here", "_law_found", "_law_name", "_law_far"] ["_law_purse_here", "_law_names_here"] (defScope sValues) := ⟨rfl, rfl, rfl, by decide +kernel, rfl, by decide +kernel, by decide +kernel⟩
theorem ok_values {f : Addr} {fd : FuncData} (F : Fun K "_law_values" "_law_values" sValues f fd) (D : Cal P w K mg base 2 "_law_draw" spDraw []) : FnOk P w K mg base CX0 3 f fd ["_law_purse_here", "_law_names_here"] (spValues K) := by
  refine F.ok scValues (fun vs H Q E h => ?_) (fun cdv A outer s H vs Q E hr h => ?_)
  · obtain ⟨a, l, names, n, rfl, _⟩ := h
    rfl
  · obtain ⟨a, l, names, n, rfl, hp, hs, ne, hl, hz, k⟩ := h
    have u1 := Nat.lt_of_le_of_lt (Nat.add_le_add_left (by decide : 1 ≤ 64) _) hr.units
    refine ⟨_, pss_cons (ps_set (i := 2) scValues.nd rfl (Or.inl rfl) pe_dnewK)
      (pss_cons (ps_for PassesOwn.never rfl (pi_list (pv 1)) (pg_name (i := 3) scValues.nd rfl (Or.inl rfl))
        (pss_cons (ps_set (i := 4) scValues.nd rfl (Or.inl rfl) (pe_op op_sub (pe_c D hr (by decide) rfl (pa_cons (pv 0) (pa_cons (pe_op op_pow pe_int pe_int) pa_nil))) (pe_op op_pow pe_int pe_int)))
        (pss_one (ps_dput u1 (pv 2) (pv 3) (pe_ix ix_list (pe_lstS (pa_cons pe_int (pa_cons pe_int (pa_cons pe_int (pa_cons pe_int (pa_cons (pe_op op_sub pe_int pe_int) (pa_cons (pe_c D hr (by decide) rfl (pa_cons (pv 0) (pa_cons pe_int pa_nil))) (pa_cons (pv 4) pa_nil)))))))) (pe_c D hr (by decide) rfl (pa_cons (pv 0) (pa_cons pe_int pa_nil))) (fun _ _ => rfl)) rfl))))
      (pss_one (ps_ret (pv 2)))), ?_⟩
    refine seq_asg fun dv nd => ?_
    have nda : dv ≠ a := by
      rintro rfl
      obtain ⟨ys, e⟩ := hp.lst
      rw [nd] at e
      cases e
    refine ⟨_, rfl, l, rfl, ⟨_, hs.same (Same.upd nd)⟩, for_it (walk_list (xs := names.map V.str)) (fun i σ' H' => (∃ u v, σ' = [some (.ref a), some (.ref l), some (.ref dv), u, v]) ∧ SameB a H H' ∧ PurseAt H' a (n + 12 * (names.length - i)) ∧ VlI H' dv names i) ⟨⟨none, none, rfl⟩, fun c o _ e => Same.upd nd _ _ e, hp.same (Same.upd nd), [], upd_same, fun x hx => absurd hx List.not_mem_nil, Nat.le_refl _, fun z hz => absurd hz (by simp)⟩ (fun i σ' H' _ q => E2.SqL.sameB hs q.2.1 ne) ?_ ?_⟩
    · rintro i x σ' H1 H2 hi ⟨⟨u, v, rfl⟩, S, hpi, vi⟩ ⟨rfl, hx⟩
      rw [List.length_map] at hi
      obtain ⟨z, hz2, rfl⟩ : ∃ z, names[i]? = some z ∧ x = V.str z := by
        rw [List.getElem?_map] at hx
        obtain ⟨z, hz, e⟩ := Option.map_eq_some_iff.mp hx
        exact ⟨z, hz, e.symm⟩
      have lz := hz z (List.mem_of_getElem? hz2)
      have c1 : CPow 10 20 := ⟨by decide, by decide, by decide⟩
      have c2 : CPow 10 19 := ⟨by decide, by decide, by decide⟩
      have e12 : n + 12 * (names.length - i) = (n + 12 * (names.length - (i + 1)) + 8) + 4 := by omega
      rw [e12] at hpi
      refine seq_asg ⟨_, rfl, 10, 20, rfl, rfl, c1, a, _, _, rfl, hpi, by decide +kernel, by decide +kernel, fun r H3 r0 r1 hp3 S3 => ⟨10, 19, rfl, rfl, c2, _, _, rfl, rfl, ?_⟩⟩
      have hp3' := hp3.less (show n + 12 * (names.length - (i + 1)) + 4 + 4 ≤ n + 12 * (names.length - (i + 1)) + 8 by omega)
      refine ⟨_, _, rfl, rfl, _, rfl, a, 99, n + 12 * (names.length - (i + 1)) + 4, rfl, hp3', by decide, by decide, fun d5 H4 d50 d51 hp4 S4 => ⟨_, rfl, (by show 7 ≤ sizeLine; decide), fun pl H5 S5 n5 h5 => ?_⟩⟩
      have npl : pl ≠ a := by
        rintro rfl
        obtain ⟨ys, e⟩ := hp4.lst
        rw [n5] at e
        cases e
      refine ⟨_, rfl, a, 7, n + 12 * (names.length - (i + 1)), rfl, hp4.same S5, by decide, by decide, fun w H6 w0 w1 hp6 S6 => ?_⟩
      obtain ⟨m, hat, hm⟩ := seven (far := r - 10 ^ (19 : Int).toNat) ⟨d50, d51⟩ (by
        have e1 : (10 : Int) ^ (20 : Int).toNat = 100000000000000000000 := by decide +kernel
        have e2 : (10 : Int) ^ (19 : Int).toNat = 10000000000000000000 := by decide +kernel
        rw [e1] at r1
        rw [e2]
        omega) w0 w1
      have SB : SameB a H H6 := (((S.trans S3).trans S4).to S5).trans S6
      have vi6 : VlI H6 dv names i := vi.step fun o e => S6 _ _ nda (S5 _ _ (S4 _ _ nda (S3 _ _ nda e)))
      obtain ⟨kvs, hD, ll, vn⟩ := vi6.put hz2 lz hm
      refine ⟨pl, _, w, _, rfl, rfl, E2.SqL.sameB (SqL.of h5) S6 npl, hat, _, rfl, _, rfl, dv, _, rfl, DPut.k (k := Sum.inr z) hD (by rw [sizeLine_eq]; omega), ⟨_, _, rfl⟩, fun c o nc e => ?_, ?_, vn⟩
      · have nd2 : c ≠ dv := by
          rintro rfl
          rw [nd] at e
          cases e
        rw [upd_ne nd2]
        exact SB _ _ nc e
      · obtain ⟨p0, p1, p2, p3, e, rr⟩ := hp6
        exact ⟨p0, p1, p2, p3, by rw [upd_ne (Ne.symm nda)]; exact e, rr⟩
    · rintro σ' H1 ⟨⟨u, v, rfl⟩, S, hpi, vi⟩
      rw [List.length_map] at hpi vi
      obtain ⟨g, hg⟩ := vi.at (Nat.le_refl _) (by omega)
      exact ⟨_, rfl, k H1 dv g hg nd (hpi.less (by omega)) S⟩
end
end E2

set_option Elab.async false
set_option linter.all false
set_option maxRecDepth 100000
set_option maxHeartbeats 1000000
/-! _law_names -/
namespace E2
open PySem PySem.Spec PyProof.Rows L2
open C8 (Cal Mak Met InsC pe_c pe_mt pe_mt0 call_isC clsBody)
abbrev sNames : Stmt := top 32
/-- a letter, not the one that stands nowhere -/
def LetA (z : Str) : Prop := LetOk z ∧ z ≠ "absent"
def spNames (K : PySem.W.Frag) : Sp := fun vs H Q _ => ∃ (a : Addr) (m n : Nat), vs = [.ref a, .int (m : Int)] ∧ m ≤ 3 ∧ PurseAt H a (n + 20 * m) ∧
  ∀ (H' : Hp) (l : Addr) (names : List Str), names.length = m → (∀ z ∈ names, LetA z) → H' l = some (.lst (names.map V.str)) → H l = none → PurseAt H' a n → SameB a H H' → Q (.ref l) H'
theorem strOk_of {z : Str} (h : LetOk z) : PyData.strOk z = true := by
  unfold PyData.strOk
  rw [Array.all_eq_true']
  intro c hc
  have := h.2.2 c (Array.mem_toList_iff.mpr hc)
  exact decide_eq_true (by omega)
def fixed : List Str := ["n", "m", "k", "i", "j", "size", "abcdefghij", "z", "row", "width", "column"]
def alpha : Str := "abcdefghijklmnopqrstuvwxyz"
theorem alpha_k : ∀ k, k < 26 → alpha.cps.toList[k]? = some (97 + k) := by decide
theorem alpha_at {c : Int} (h0 : 0 ≤ c) (h1 : c < 26) : ∃ ch, atI alpha.cps.toList c = some ch ∧ 97 ≤ ch ∧ ch ≤ 122 := by
  have hk := alpha_k c.toNat (by omega)
  refine ⟨97 + c.toNat, ?_, by omega, by omega⟩
  unfold atI ixN
  rw [if_pos h0, if_pos (show c < (alpha.cps.toList.length : Int) from h1)]
  exact hk
/-- a word that is being made -/
def Wo (w : Str) (j : Nat) : Prop := w.length = j ∧ ∀ c ∈ w.cps.toList, 97 ≤ c ∧ c ≤ 122
theorem Wo.snoc {w : Str} {j c : Nat} (h : Wo w j) (c0 : 97 ≤ c) (c1 : c ≤ 122) : Wo (w ++ ⟨#[c]⟩) (j + 1) := by
  obtain ⟨h1, h2⟩ := h
  have e : (w ++ (⟨#[c]⟩ : Str)).cps = w.cps ++ #[c] := rfl
  refine ⟨?_, fun x hx => ?_⟩
  · show (w ++ (⟨#[c]⟩ : Str)).cps.size = j + 1
    rw [e, Array.size_append]
    have : w.cps.size = j := h1
    rw [this]
    rfl
  · rw [e] at hx
    simp only [Array.toList_append, List.mem_append] at hx
    rcases hx with hx | hx
    · exact h2 x hx
    · simp only [List.mem_singleton] at hx
      omega
theorem inV_strs (z : Str) (fs : List Str) : inV (.str z) (fs.map V.str) = decide (z ∈ fs) := by
  unfold inV
  rw [Bool.eq_iff_iff]
  simp only [List.any_eq_true, List.mem_map, decide_eq_true_eq]
  constructor
  · rintro ⟨y, ⟨x, hx, rfl⟩, e⟩
    have : x = z := by simpa [eqV] using e
    exact this ▸ hx
  · intro h
    exact ⟨_, ⟨z, h, rfl⟩, by simp [eqV]⟩
theorem one_new {fs : List Str} (h : fs.length ≤ 2) : ∃ z ∈ fixed, z ∉ fs := by
  by_cases h1 : ("n" : Str) ∈ fs
  · by_cases h2 : ("m" : Str) ∈ fs
    · by_cases h3 : ("k" : Str) ∈ fs
      · exfalso
        have d : (["n", "m", "k"] : List Str).Nodup := by decide
        have sub : (["n", "m", "k"] : List Str) ⊆ fs := by
          intro x hx
          simp only [List.mem_cons, List.not_mem_nil, or_false] at hx
          rcases hx with rfl | rfl | rfl
          · exact h1
          · exact h2
          · exact h3
        have := List.Nodup.length_le_of_subset d sub
        simp at this
        omega
      · exact ⟨"k", by decide, h3⟩
    · exact ⟨"m", by decide, h2⟩
  · exact ⟨"n", by decide, h1⟩
theorem fixed_ok : ∀ z ∈ fixed, LetA z := by
  intro z hz
  simp only [fixed, List.mem_cons, List.not_mem_nil, or_false] at hz
  rcases hz with rfl | rfl | rfl | rfl | rfl | rfl | rfl | rfl | rfl | rfl | rfl
  all_goals exact ⟨⟨by decide, by decide, by decide⟩, by decide⟩
section
variable {P : Program} {w : World} {K : PySem.W.Frag} {mg : Str → Option Value} {base : Heap}
theorem scNames : FnScope ["_law_purse_here", "_law_many", "_law_found", "_law_turn", "_law_word", "_law_spot", "_law_some", "_law_name"] ["_law_purse_here", "_law_many"] (defScope sNames) := ⟨rfl, rfl, rfl, by decide +kernel, rfl, by decide +kernel, by decide +kernel⟩
theorem ok_names {f : Addr} {fd : FuncData} (F : Fun K "_law_names" "_law_names" sNames f fd) (B : Bt4 mg) (D : Cal P w K mg base 2 "_law_draw" spDraw []) (O : Cal P w K mg base 3 "_law_one_of" (spOneOf K) []) : FnOk P w K mg base CX0 4 f fd ["_law_purse_here", "_law_many"] (spNames K) := by
  refine F.ok scNames (fun vs H Q E h => ?_) (fun cdv A outer s H vs Q E hr h => ?_)
  · obtain ⟨a, m, n, rfl, _⟩ := h
    rfl
  · obtain ⟨a, m, n, rfl, m3, hp, k⟩ := h
    refine ⟨_, pss_cons (ps_set (i := 2) scNames.nd rfl (Or.inr rfl) (pe_lstS pa_nil))
      (pss_cons (ps_for PassesOwn.never rfl (pi_range1 rfl B.rng_ (pa_cons (pv 1) pa_nil)) (pg_name (i := 3) scNames.nd rfl (Or.inl rfl))
        (pss_cons (ps_set (i := 4) scNames.nd rfl (Or.inl rfl) pe_str)
        (pss_cons (ps_for PassesOwn.never rfl (pi_range1 rfl B.rng_ (pa_cons (pe_op op_add pe_int (pe_c D hr (by decide) rfl (pa_cons (pv 0) (pa_cons pe_int pa_nil)))) pa_nil)) (pg_name (i := 5) scNames.nd rfl (Or.inl rfl))
          (pss_one (ps_set (i := 4) scNames.nd rfl (Or.inl rfl) (pe_op op_add_str (pv 4) (pe_ix ix_str pe_str (pe_c D hr (by decide) rfl (pa_cons (pv 0) (pa_cons pe_int pa_nil))) (fun _ _ => rfl))))))
        (pss_cons (ps_set (i := 6) scNames.nd rfl (Or.inl rfl) (pe_lstS (pa_cons pe_str (pa_cons pe_str (pa_cons pe_str (pa_cons pe_str (pa_cons pe_str (pa_cons pe_str (pa_cons pe_str (pa_cons pe_str (pa_cons pe_str (pa_cons pe_str (pa_cons pe_str (pa_cons (pv 4) (pa_cons (pv 4) (pa_cons (pv 4) pa_nil))))))))))))))))
        (pss_one (ps_expr (pe_bm PySem.F.plainAttrs_list PySem.F.slot_list_append PySem.F.type_list_append mt_append (pv 2) (pa_cons (pe_c O hr (by decide) rfl (pa_cons (pv 0) (pa_cons (pe_lc (own := [("_law_name", 7)]) (g := gName 7) (tt := tTest (tOp (rIn K true) (tVar 7) (tVar 2))) (te := tVar 7) rfl scNames.nd (pi_list (pv 6))
            (blkOk_by (own := [("_law_name", 7)]) (N := ["_law_purse_here", "_law_many", "_law_found", "_law_turn", "_law_word", "_law_spot", "_law_some", "_law_name"]) (sc := defScope sNames) (by decide +kernel))
            (fun _ _ _ _ _ => pg_name (i := 7) scNames.nd rfl (Or.inl rfl)) (fun _ _ _ _ _ => pts_one (by exact pt_cmpR op_notIn_seq (pv 7) (pv 2) (by rfl))) (fun _ _ _ _ _ => pv 7)) pa_nil))) pa_nil))))))))
      (pss_one (ps_ret (pv 2)))), ?_⟩
    refine seq_asg ⟨(by show 0 ≤ sizeLine; decide), fun fl H1 S1 n1 h1 => ?_⟩
    have nfa : fl ≠ a := by
      rintro rfl
      obtain ⟨ys, e⟩ := hp.lst
      rw [n1] at e
      cases e
    refine ⟨_, rfl, (m : Int), rfl, by omega, by omega, for_it (walk_range (n := (m : Int).toNat)) (fun i σ' H' => (∃ u3 u4 u5 u6, σ' = [some (.ref a), some (.int (m : Int)), some (.ref fl), u3, u4, u5, u6, none]) ∧ SameB a H H' ∧ PurseAt H' a (n + 20 * (m - i)) ∧ ∃ fs : List Str, fs.length = i ∧ (∀ z ∈ fs, LetA z) ∧ H' fl = some (.lst (fs.map V.str))) ⟨⟨none, none, none, none, rfl⟩, fun c o _ e => S1 _ _ e, hp.same S1, [], rfl, fun z hz => absurd hz List.not_mem_nil, h1⟩ (fun _ _ _ _ _ => trivial) ?_ ?_⟩
    · rintro i x σ' H2 H3 hi ⟨⟨u3, u4, u5, u6, rfl⟩, S, hpi, fs, hf, fok, hfl⟩ ⟨rfl, rfl⟩
      have hi : i < m := by omega
      have e20 : n + 20 * (m - i) = (n + 20 * (m - (i + 1)) + 16) + 4 := by omega
      rw [e20] at hpi
      refine seq_asg ⟨_, rfl, a, 3, _, rfl, hpi, by decide, by decide, fun r H4 r0 r1 hp4 S4 => ⟨_, _, rfl, rfl, 1 + r, rfl, by omega, by omega, ?_⟩⟩
      refine for_it (walk_range (n := (1 + r).toNat)) (fun j σ' H' => (∃ w v5, σ' = [some (.ref a), some (.int (m : Int)), some (.ref fl), some (.int (0 + (i : Int))), some (.str w), v5, u6, none] ∧ Wo w j) ∧ SameB a H H' ∧ PurseAt H' a (n + 20 * (m - (i + 1)) + 4 + 4 * (3 - j)) ∧ H' fl = some (.lst (fs.map V.str))) ⟨⟨"", u5, rfl, rfl, fun c hc => absurd hc List.not_mem_nil⟩, S.trans S4, hp4.less (by omega), S4 _ _ nfa hfl⟩ (fun _ _ _ _ _ => trivial) ?_ ?_
      · rintro j y σ' H5 H6 hj ⟨⟨wd, v5, rfl, wo⟩, S5, hp5, hfl5⟩ ⟨rfl, rfl⟩
        have hj3 : j < 3 := by omega
        have e4 : n + 20 * (m - (i + 1)) + 4 + 4 * (3 - j) = (n + 20 * (m - (i + 1)) + 4 + 4 * (3 - (j + 1))) + 4 := by omega
        rw [e4] at hp5
        refine ⟨_, rfl, _, rfl, a, 26, _, rfl, hp5, by decide, by decide, fun c H7 c0 c1 hp7 S7 => ?_⟩
        obtain ⟨ch, hat, ch0, ch1⟩ := alpha_at c0 c1
        exact ⟨alpha, c, ch, rfl, rfl, (by show 26 ≤ sizeLine; decide), hat, _, _, rfl, rfl, (by rw [wo.1, sizeLine_eq]; show j + 1 ≤ _; omega), ⟨_, _, rfl, wo.snoc ch0 ch1⟩, S5.trans S7, hp7, S7 _ _ nfa hfl5⟩
      rintro σ' H5 ⟨⟨wd, v5, rfl, wo⟩, S5, hp5, hfl5⟩
      have wl : LetA wd := ⟨⟨by rw [wo.1]; omega, by rw [wo.1]; omega, wo.2⟩, fun e => by
        have h := wo.1
        rw [e] at h
        have h2 : ("absent" : Str).length = 6 := by decide
        omega⟩
      dsimp only
      refine seq_asg ⟨_, rfl, _, rfl, _, rfl, (by show 14 ≤ sizeLine; decide), fun sl H6 S6 n6 h6 => ?_⟩
      have hs6 : H6 sl = some (.lst ((fixed ++ [wd, wd, wd]).map V.str)) := h6
      have sok : ∀ z ∈ fixed ++ [wd, wd, wd], LetA z := by
        intro z hz
        rcases List.mem_append.mp hz with h | h
        · exact fixed_ok z h
        · simp only [List.mem_cons, List.not_mem_nil, or_false] at h
          rcases h with rfl | rfl | rfl <;> exact wl
      have hfl6 := S6 _ _ hfl5
      have slen : (fixed ++ [wd, wd, wd]).length = 14 := rfl
      have hfx : ∀ z ∈ fixed, z ∈ fixed ++ [wd, wd, wd] := fun z hz => List.mem_append.mpr (.inl hz)
      generalize fixed ++ [wd, wd, wd] = so at hs6 sok slen hfx
      have flat : ∀ l : List Str, (l.map V.str).all flatV = true := fun l => by
        induction l with
        | nil => rfl
        | cons z l ih => rw [List.map_cons, List.all_cons, ih]; rfl
      refine ⟨_, rfl, .inl ⟨rfl, _, SqL.of hfl6⟩, _, rfl, _, rfl, sl, rfl, ⟨_, SqL.of hs6⟩, fun DD nDD => ?_⟩
      have nDa : DD ≠ a := by
        rintro rfl
        obtain ⟨ys, e⟩ := (hp5.same S6).lst
        rw [nDD] at e
        cases e
      refine lc_it (walk_list (xs := so.map V.str)) (fun j H7 => Same H6 H7 ∧ H7 DD = some (.lst (((so.take j).filter fun z => !decide (z ∈ fs)).map V.str))) ⟨Same.upd nDD, upd_same⟩ (fun j H7 _ q => SqL.of (q.1 _ _ hs6)) ?_ ?_
      · rintro j y H7 H8 hj ⟨S7, hDD⟩ ⟨rfl, hy⟩
        rw [List.length_map] at hj
        obtain ⟨z, hz, rfl⟩ : ∃ z, so[j]? = some z ∧ y = V.str z := by
          rw [List.getElem?_map] at hy
          obtain ⟨z, hz, e⟩ := Option.map_eq_some_iff.mp hy
          exact ⟨z, hz, e.symm⟩
        refine ⟨rfl, _, rfl, _, rfl, fl, fs.map V.str, rfl, .inl (SqL.of (S7 _ _ hfl6)), rfl, flat fs, _, rfl, ?_⟩
        show if (!inV (.str z) (fs.map V.str)) = true then _ else _
        rw [inV_strs]
        cases hc : (!decide (z ∈ fs)) with
        | true =>
          refine iteT (B := False) ⟨_, rfl, _, hDD, ?_, ?_, ?_⟩
          · rw [List.length_map, sizeLine_eq]
            have := List.length_filter_le (fun z => !decide (z ∈ fs)) (so.take j)
            rw [List.length_take] at this
            omega
          · intro c o e
            rw [upd_ne (ne_of_none e nDD)]
            exact S7 _ _ e
          · rw [upd_same, take_snoc hz, List.filter_append, List.filter_cons, if_pos hc, List.filter_nil, List.map_append]
            rfl
        | false =>
          refine iteF ⟨S7, ?_⟩
          rw [take_snoc hz, List.filter_append, List.filter_cons, if_neg (by rw [hc]; exact Bool.false_ne_true), List.filter_nil, List.append_nil]
          exact hDD
      · rintro H7 ⟨S7, hDD⟩
        rw [List.length_map, List.take_length] at hDD
        obtain ⟨z0, hz0, hn0⟩ := one_new (fs := fs) (by omega)
        have hin : z0 ∈ so.filter fun z => !decide (z ∈ fs) := List.mem_filter.mpr ⟨hfx z0 hz0, by simp [hn0]⟩
        have l0 : 0 < (so.filter fun z => !decide (z ∈ fs)).length := List.length_pos_of_mem hin
        have l1 : (so.filter fun z => !decide (z ∈ fs)).length ≤ 14 := by rw [← slen]; exact List.length_filter_le _ _
        refine ⟨a, DD, _, n + 20 * (m - (i + 1)), rfl, ((hp5.less (show n + 20 * (m - (i + 1)) + 4 ≤ _ by omega)).same S6).same S7, SqL.of hDD, nDa, by rw [List.length_map]; exact l0, by rw [List.length_map]; omega, fun r2 H8 hr2 hp8 S8 => ?_⟩
        obtain ⟨z, hz, rfl⟩ := List.mem_map.mp hr2
        have hzo := sok z (List.mem_filter.mp hz).1
        have hfl8 := S8 _ _ nfa (S7 _ _ hfl6)
        have SA : SameB a H H8 := ((S5.to S6).to S7).trans S8
        refine ⟨fl, _, _, rfl, rfl, hfl8, by rw [List.length_map, sizeLine_eq]; omega, ⟨_, _, _, _, rfl⟩, fun c o nc e => ?_, ?_, fs ++ [z], by rw [List.length_append, hf]; rfl, fun y hy => ?_, by rw [upd_same, List.map_append]; rfl⟩
        · have nfc : c ≠ fl := by
            rintro rfl
            rw [n1] at e
            cases e
          rw [upd_ne nfc]
          exact SA _ _ nc e
        · obtain ⟨p0, p1, p2, p3, e, rr⟩ := hp8
          exact ⟨p0, p1, p2, p3, by rw [upd_ne (Ne.symm nfa)]; exact e, rr⟩
        · rcases List.mem_append.mp hy with h | h
          · exact fok y h
          · rw [List.mem_singleton.mp h]
            exact hzo
    · rintro σ' H2 ⟨⟨u3, u4, u5, u6, rfl⟩, S, hpi, fs, hf, fok, hfl⟩
      exact ⟨_, rfl, k H2 fl fs (by rw [hf]; exact Int.toNat_natCast m) fok hfl (by
        exact n1) (hpi.less (by omega)) S⟩
end
end E2

set_option Elab.async false
set_option linter.all false
set_option maxRecDepth 100000
set_option maxHeartbeats 1000000
/-! _law_common -/
namespace E2
open PySem PySem.Spec PyProof.Rows L2
open C8 (Cal Mak Met InsC pe_c pe_mt pe_mt0 call_isC clsBody)
abbrev sCommon : Stmt := top 33
def spCommon : Sp := fun vs H Q _ => ∃ a b : Int, vs = [.int a, .int b] ∧ 0 ≤ b ∧ b < 2 ^ 140 ∧ Q (.int ((Int.gcd a b : Nat) : Int)) H
theorem half_step {a b : Int} {k : Nat} (h0 : 0 < b) (h1 : b < a) (h2 : a * b < 2 ^ (k + 1)) : 0 ≤ a % b ∧ a % b < b ∧ b * (a % b) < 2 ^ k := by
  have e1 := Int.emod_nonneg a (show b ≠ 0 by omega)
  have e2 := Int.emod_lt_of_pos a h0
  refine ⟨e1, e2, ?_⟩
  have e3 : 2 * (a % b) ≤ a := by
    have q1 : 1 ≤ a / b := (Int.le_ediv_iff_mul_le h0).mpr (by omega)
    have e4 := Int.mul_ediv_add_emod a b
    have e5 : b * 1 ≤ b * (a / b) := Int.mul_le_mul_of_nonneg_left q1 (by omega)
    omega
  have e6 : b * (2 * (a % b)) ≤ b * a := Int.mul_le_mul_of_nonneg_left e3 (by omega)
  have e7 : b * (2 * (a % b)) = 2 * (b * (a % b)) := by rw [Int.mul_left_comm]
  have e8 : b * a = a * b := Int.mul_comm _ _
  have e9 : (2 : Int) ^ (k + 1) = 2 ^ k * 2 := Int.pow_succ _ _
  omega
theorem gcd_step (a b : Int) : Int.gcd b (a % b) = Int.gcd a b := by
  rw [Int.emod_def, Int.gcd_sub_mul_left_right, Int.gcd_comm]
theorem abs_nat (x : Int) : (if x < 0 then -x else x) = ((x.natAbs : Nat) : Int) := by
  split <;> omega
section
variable {P : Program} {w : World} {K : PySem.W.Frag} {mg : Str → Option Value} {base : Heap} {C : Addr}
theorem scCommon : FnScope ["_law_one", "_law_other", "_law_turn"] ["_law_one", "_law_other"] (defScope sCommon) := ⟨rfl, rfl, rfl, by decide +kernel, rfl, by decide +kernel, by decide +kernel⟩
theorem ok_common {f : Addr} {fd : FuncData} (F : Fun K "_law_common" "_law_common" sCommon f fd) (hrng : mg "range" = none) (habs : mg "abs" = none) : FnOk P w K mg base CX0 1 f fd ["_law_one", "_law_other"] spCommon := by
  refine F.ok scCommon (fun vs H Q E h => ?_) (fun cdv A outer s H vs Q E hr h => ?_)
  · obtain ⟨a, b, rfl, _⟩ := h
    rfl
  · obtain ⟨a, b, rfl, b0, b1, k⟩ := h
    refine ⟨_, pss_cons (ps_for PassesOwn.never rfl (pi_range1 rfl hrng (pa_cons pe_int pa_nil)) (pg_name (i := 2) scCommon.nd rfl (Or.inl rfl))
        (pss_cons (ps_if (pt_cmpR op_eq (pv 1) pe_int (nomark _)) (pss_one (ps_ret (pe_callB call_abs (by rfl) habs (by decide +kernel) (pa_cons (pv 0) pa_nil)))) pss_nil)
        (pss_one (ps_par (i := 0) (j := 1) (by rfl) scCommon.nd rfl rfl (by decide) rfl rfl (pa_cons (pv 1) (pa_cons (pe_op op_mod (pv 0) (pv 1)) pa_nil)) (by rfl)))))
      (pss_one (ps_ret (pe_callB call_abs (by rfl) habs (by decide +kernel) (pa_cons (pv 0) pa_nil)))), ?_⟩
    refine ⟨300, rfl, by decide, by decide, for_it (walk_range (n := 300)) (fun i σ' H' => H' = H ∧ ∃ (x y : Int) (u : Option V), σ' = [some (.int x), some (.int y), u] ∧ Int.gcd x y = Int.gcd a b ∧ ((i = 0 ∧ x = a ∧ y = b) ∨ (1 ≤ i ∧ 0 ≤ y ∧ y < x ∧ x * y < 2 ^ (281 - i)))) ⟨rfl, a, b, none, rfl, rfl, .inl ⟨rfl, rfl, rfl⟩⟩ (fun _ _ _ _ _ => trivial) ?_ ?_⟩
    · rintro i x0 σ' H1 H2 hi ⟨rfl, x, y, u, rfl, hg, hc⟩ ⟨rfl, rfl⟩
      have y0 : 0 ≤ y := by rcases hc with ⟨_, _, rfl⟩ | ⟨_, h, _⟩ <;> assumption
      refine ⟨_, rfl, rfl, _, rfl, iteD (fun h => ?_) (fun h => ?_)⟩
      · have h0 : y = 0 := by injection h
        subst h0
        rw [Int.gcd_zero_right] at hg
        refine ⟨_, rfl, x, rfl, ?_⟩
        rw [abs_nat, hg]
        exact k
      · have h0 : ¬ y = 0 := fun z => h (by rw [z])
        dsimp only [tNext]
        refine ⟨_, rfl, _, rfl, _, rfl, _, _, rfl, rfl, (show 0 < y by omega), _, _, rfl, rfl, y, x % y, _, rfl, (gcd_step x y).trans hg, .inr ⟨by omega, ?_⟩⟩
        have yp : 0 < y := by omega
        rcases hc with ⟨rfl, rfl, rfl⟩ | ⟨i1, _, hlt, hp⟩
        · have e1 := Int.emod_nonneg x h0
          have e2 := Int.emod_lt_of_pos x yp
          refine ⟨e1, e2, ?_⟩
          have e3 : y * (x % y) ≤ y * y := Int.mul_le_mul_of_nonneg_left (by omega) (by omega)
          have e4 : y * y < 2 ^ 140 * 2 ^ 140 := Int.mul_lt_mul b1 (by omega) yp (by decide)
          have e5 : (2 : Int) ^ 140 * 2 ^ 140 = 2 ^ (281 - (0 + 1)) := by decide +kernel
          omega
        · by_cases ci : i < 281
          · have e : 281 - i = (281 - (i + 1)) + 1 := by omega
            rw [e] at hp
            exact half_step yp hlt hp
          · have e : 281 - i = 0 := by omega
            rw [e] at hp
            have : 1 * 1 ≤ x * y := Int.mul_le_mul (by omega) (by omega) (by decide) (by omega)
            omega
    · rintro σ' H2 ⟨rfl, x, y, u, rfl, hg, hc⟩
      rcases hc with ⟨h, _⟩ | ⟨_, h0, hlt, hp⟩
      · cases h
      · have y0 : y = 0 := by
          rcases Int.lt_or_eq_of_le h0 with h | h
          · have : 1 * 1 ≤ x * y := Int.mul_le_mul (by omega) (by omega) (by decide) (by omega)
            have e : (2 : Int) ^ (281 - 300) = 1 := rfl
            omega
          · exact h.symm
        subst y0
        rw [Int.gcd_zero_right] at hg
        refine ⟨_, rfl, x, rfl, ?_⟩
        rw [abs_nat, hg]
        exact k
end
end E2

set_option Elab.async false
set_option linter.all false
set_option maxRecDepth 100000
set_option maxHeartbeats 1000000
/-! forms with small whole numbers: their sizes by a check -/
namespace L2
open PySem PySem.Spec PyProof.Rows
theorem eqFm_refl (a : Fm) : eqFm a a = true := by
  unfold eqFm
  simp
end L2
namespace E2
open PySem PySem.Spec PyProof.Rows L2
def smB (fm : Fm) : Bool := fm.all (fun x => x.2.den == 1 && decide (x.2.num.natAbs ≤ 1000000) && decide (x.1.length ≤ 100)) && decide (fm.length ≤ 100) && decide (fm.map (·.1)).Nodup
def lF (z : Str) : Fm := [([z], 1)]
def szHB (o : Fm) : Fm → List Fm → Bool
  | _, [] => true
  | a, p :: r => smB a && smB o && smB (mulF a o) && smB p && szHB o (addF (mulF a o) p) r
theorem sm_mem {fm : Fm} (h : smB fm = true) : (∀ x ∈ fm, x.2.den = 1 ∧ x.2.num.natAbs ≤ 1000000 ∧ x.1.length ≤ 100) ∧ fm.length ≤ 100 ∧ (fm.map (·.1)).Nodup := by
  unfold smB at h
  rw [Bool.and_eq_true, Bool.and_eq_true] at h
  obtain ⟨⟨h1, h2⟩, h3⟩ := h
  refine ⟨fun x hx => ?_, of_decide_eq_true h2, of_decide_eq_true h3⟩
  have := List.all_eq_true.mp h1 x hx
  rw [Bool.and_eq_true, Bool.and_eq_true] at this
  exact ⟨eq_of_beq this.1.1, of_decide_eq_true this.1.2, of_decide_eq_true this.2⟩
theorem bq_one {q : Rat} (h1 : q.den = 1) (h2 : q.num.natAbs ≤ 1000000) : Bq 1 1000000 q := by
  refine ⟨q.num, ?_, h2⟩
  have e : q = (q.num : Rat) := Rat.ext rfl h1
  rw [← e]
  show q * ((1 : Nat) : Rat) = q
  exact Rat.mul_one q
theorem sz_lt : 100000 ≤ sizeLine := by rw [sizeLine_eq]; decide
theorem pw (n : Nat) (h : n < 2 ^ 100) : n < 2 ^ 400000 := Nat.lt_of_lt_of_le h (Nat.pow_le_pow_right (by decide) (by decide))
theorem szs_of {a b : Fm} (ha : smB a = true) (hb : smB b = true) : Szs a b := by
  obtain ⟨a1, a2, a3⟩ := sm_mem ha
  obtain ⟨b1, b2, b3⟩ := sm_mem hb
  have z := sz_lt
  refine ⟨a3, b3, by omega, 1, 1000000, 1000000, by decide, Nat.one_lt_two_pow (by decide), pw _ ?_, pw _ (by decide), fun x hx => bq_one (a1 x hx).1 (a1 x hx).2.1, fun x hx => bq_one (b1 x hx).1 (b1 x hx).2.1⟩
  omega
theorem szm_of {a b : Fm} (ha : smB a = true) (hb : smB b = true) : SzM a b := by
  obtain ⟨a1, a2, a3⟩ := sm_mem ha
  obtain ⟨b1, b2, b3⟩ := sm_mem hb
  have z := sz_lt
  have l : a.length * b.length ≤ 100 * 100 := Nat.mul_le_mul a2 b2
  refine ⟨a3, b3, by omega, fun x hx y hy => by have := (a1 x hx).2.2; have := (b1 y hy).2.2; omega, 1, 1000000, 1, 1000000, by decide, by decide, Nat.one_lt_two_pow (by decide), pw _ ?_, pw _ (by decide), pw _ (by decide), pw _ (by decide), fun x hx => bq_one (a1 x hx).1 (a1 x hx).2.1, fun x hx => bq_one (b1 x hx).1 (b1 x hx).2.1⟩
  omega
theorem szh_of {o : Fm} : ∀ {ps : List Fm} {a : Fm}, szHB o a ps = true → SzH o a ps
  | [], _, _ => trivial
  | p :: r, a, h => by
    unfold szHB at h
    rw [Bool.and_eq_true, Bool.and_eq_true, Bool.and_eq_true, Bool.and_eq_true] at h
    obtain ⟨⟨⟨⟨h1, h2⟩, h3⟩, h4⟩, h5⟩ := h
    exact ⟨szm_of h1 h2, szs_of h3 h4, szh_of h5⟩
end E2

set_option Elab.async false
set_option linter.all false
set_option maxRecDepth 100000
set_option maxHeartbeats 2000000
/-! A set of texts, by the list of its members. -/
namespace L2
open PySem PySem.Spec PyProof.Rows
/-- an entry is a text under its hash -/
def GoodS (P : Program) (w : World) (e : Int × Value) : Prop := ∃ (x : Str) (t : Tok), e = ((PySem.strKind P w).hash x, .str x t)
def keyS (e : Int × Value) : Str := match e.2 with
  | .str x _ => x
  | _ => Str.empty
def SetS (P : Program) (w : World) (h : Heap) (a : Addr) (ks : List Str) : Prop := ∃ o es ep t, h.get? a = some o ∧ o.ExactSet ∧ o.data = .set es ep t ∧ (∀ e ∈ es.toList, GoodS P w e) ∧ (es.toList.map keyS).Perm ks ∧ ks.Nodup ∧
  es.size < scanBound ∧ t.fits es.size = true ∧ Ris t.place.toList ∧ (w.params.followText "set-order" = true ∨ t.led = true)
section
variable {P : Program} {w : World} {h h' : Heap} {a : Addr} {ks : List Str}
theorem SetS.at (R : SetS P w h a ks) (k : ∀ o, h.get? a = some o → h'.get? a = some o) : SetS P w h' a ks := let ⟨o, es, ep, t, ho, r⟩ := R; ⟨o, es, ep, t, k o ho, r⟩
theorem goodS_is {e : Int × Value} (g : GoodS P w e) (k : Str) : (PySem.strKind P w).is k e.2 = true ↔ keyS e = k := by
  obtain ⟨x, t, rfl⟩ := g
  unfold keyS
  show Value.isStrOf k (.str x t) = true ↔ x = k
  simp [Value.isStrOf]
theorem goodS_elems {l : List (Int × Value)} (g : ∀ e ∈ l, GoodS P w e) : ElemsOf (PySem.strKind P w) l := fun e he => by
  obtain ⟨x, t, rfl⟩ := g e he
  exact ⟨⟨x, strKind_is P w x t, rfl⟩, rfl⟩
theorem goodS_mem {l : List (Int × Value)} (g : ∀ e ∈ l, GoodS P w e) (k : Str) : k ∈ l.map keyS ↔ ∃ e ∈ l, (PySem.strKind P w).is k e.2 = true := by
  rw [List.mem_map]
  exact ⟨fun ⟨e, he, q⟩ => ⟨e, he, (goodS_is (g e he) k).mpr q⟩, fun ⟨e, he, q⟩ => ⟨e, he, (goodS_is (g e he) k).mp q⟩⟩
theorem setS_new (w : World) (P : Program) (h : Heap) : SetS P w (h.push { cls := .type "set", dict := none, data := .set #[] 0 (.fresh 0 0 (!w.params.followText "set-order")) }) h.objs.size [] := by
  refine ⟨_, #[], 0, _, Heap.get?_push_size _ rfl, ⟨rfl, rfl, rfl⟩, rfl, fun e he => absurd he (by simp), .nil, List.nodup_nil, by decide, rfl, List.Pairwise.nil, ?_⟩
  cases c : w.params.followText "set-order" with
  | true => exact .inl rfl
  | false => exact .inr rfl
end
section
variable {P : Program} {w : World} {A : Around} {E : Value → Shared → Prop} {s : Shared} {a : Addr} {ks : List Str}
/-- sorted of it -/
theorem setS_sorted {Q : Value → Shared → Prop} (R : SetS P w s.heap a ks) (hh : A.handled = none)
    (hQ : ∀ s' p (out : Array Value) (c : Nat) (ys : List Str), (∀ b o, s.heap.get? b = some o → s'.heap.get? b = some o) → s'.gens = s.gens → s'.os = s.os → s.heap.objs.size ≤ p → s'.heap.get? p = some (seqObj "list" out c) → StrsAre out.toList ys → ys.Perm ks → sortedS ys = true → Q (.ref p) s') :
    wpAny (model P w) A (call (.builtin "sorted") [.ref a]) Q E s := by
  obtain ⟨o, es, ep, t, ho, hex, hd, g, pm0, nd, hb, hf, hr, hl⟩ := R
  refine Calls.call_function_entry kind_sorted plain_sorted entry_sorted (args_sorted1 _) ?_
  unfold Builtin.«sorted»
  refine wpAny_bind (m := checkCount "sorted" 1 1 _) (wpAny_pure ?_)
  refine wpAny_bind (collect_set (A := A.in1) hh ⟨o, ho, hex.1, hd⟩ hf hb hr hl fun s1 vs k1 hz g1 o1 pm => ?_)
  have vl : vs.length < scanBound := by rw [pm.length_eq, List.length_map, Array.length_toList]; exact hb
  have texts : ∀ l : List Value, (∀ v ∈ l, ∃ x tk, v = Value.str x tk) → StrsAre l (l.map fun v => keyS (0, v)) := by
    intro l
    induction l with
    | nil => intro _; exact .nil
    | cons v l ih =>
      intro h
      obtain ⟨x, tk, rfl⟩ := h v (List.mem_cons.mpr (.inl rfl))
      exact .cons x tk (ih fun u hu => h u (List.mem_cons.mpr (.inr hu)))
  have hS := texts vs fun v hv => by
    obtain ⟨e, he, q⟩ := List.mem_map.mp (pm.mem_iff.mp hv)
    obtain ⟨x, tk, rfl⟩ := g e he
    exact ⟨x, tk, q.symm⟩
  have pk : (vs.map fun v => keyS (0, v)).Perm ks := by
    refine (pm.map fun v => keyS (0, v)).trans ?_
    rw [List.map_map]
    exact pm0
  have zl : vs.length ≤ sizeLine := fits_of_scanBound vl
  refine wpAny_bind (wpAny_newList ?_ zl)
  have hoL : (s1.heap.push (seqObj "list" vs.toArray 0)).get? s1.heap.objs.size = some (seqObj "list" vs.toArray 0) := Heap.get?_push_size _ rfl
  refine wpAny_bind (wpAny_holding (wpAny_call_entry slot_list_sort ⟨_, hoL, rfl⟩ entry_list_sort (list_sort_treeKAny strKind_oneLt hoL hS.keysOf (fun v₁ v₂ rest e => keyKind_strs (by rw [← e]; exact hS)) zl fun st' hp hs => ⟨_, rfl, ?_⟩) (args_list_sort _)))
  obtain ⟨ys, h1, h2, h3⟩ := sorted_out_str hS hp hs
  obtain ⟨c, hc⟩ := sortedHeap_at (vs := vs) (out := (arrOf st').map (·.2)) hoL
  refine wpAny_pure ⟨_, rfl, hQ _ s1.heap.objs.size _ c ys (fun b u e => ?_) g1 o1 hz hc h1 (h2.trans pk) h3⟩
  have q := k1 b u e
  have hlt := Heap.lt_size q
  show (sortedHeap (s1.heap.push (seqObj "list" vs.toArray 0)) s1.heap.objs.size vs _).get? b = some u
  rw [sortedHeap_old (Nat.ne_of_lt hlt) (by rw [size_push']; exact Nat.lt_succ_of_lt hlt)]
  exact Heap.get?_push_of_some _ q
end
end L2

set_option Elab.async false
set_option linter.all false
set_option maxRecDepth 100000
set_option maxHeartbeats 2000000
/-! A set of texts: one more. -/
namespace L2
open PySem PySem.Spec PyProof.Rows
section
variable {P : Program} {w : World} {A : Around} {E : Value → Shared → Prop} {s : Shared} {a : Addr} {ks : List Str}
/-- the entries laid down, and once more where the table is too full -/
theorem setS_tail {g : Bool → Sem Unit} (hg : ∀ (b : Bool) (s₁ : Shared) (Q' : Unit → Shared → Prop), Q' () s₁ → wpAny (model P w) A (g b) Q' E s₁) {o : Obj} {es es1 : Array (Int × Value)} {ep : Nat} {t t2 : SetTable} {ks1 : List Str}
    (ho : s.heap.get? a = some o) (hex : o.ExactSet) (hd : o.data = .set es ep t) (g1 : ∀ e ∈ es1.toList, GoodS P w e) (p1 : (es1.toList.map keyS).Perm ks1) (n1 : ks1.Nodup) (hb : es1.size < scanBound) (hf : t2.fits es1.size = true) (hr : Ris t2.place.toList)
    (hl : w.params.followText "set-order" = true ∨ t2.led = true) {wasDummy : Bool} {R : Option Bool → Shared → Prop} (hR : ∀ h', Heap.SameBut a s.heap h' → SetS P w h' a ks1 → R (some true) { s with heap := h' }) :
    wpAny (model P w) A (do
        storeSet a es1 t2
        if (!wasDummy && t2.tooFull) = true then do
            g (relayAll t2 es1 (SetTable.grown es1.size)).2.2
            storeSet a (relayAll t2 es1 (SetTable.grown es1.size)).1 (relayAll t2 es1 (SetTable.grown es1.size)).2.1
            pure (some true)
          else pure (some true)) R E s := by
  have at_ : ∀ {h : Heap} {o : Obj} {es es' : Array (Int × Value)} {ep : Nat} {t t' : SetTable}, h.get? a = some o → o.data = .set es ep t → (h.update a (Obj.putSet es' t')).get? a = some { o with data := .set es' (ep + 1) t' } := by
    intro h o es es' ep t t' ho hd
    have q := Heap.get?_update_self (Obj.putSet es' t') ho (by rw [putSet_of es' t' hd]; rfl)
    rwa [putSet_of es' t' hd] at q
  refine wpAny_bind (wpAny_storeSet_of ho hd ?_ (fits_of_scanBound hb))
  have h1 := at_ (es' := es1) (t' := t2) ho hd
  have b1 := Heap.SameBut.update s.heap a (Obj.putSet es1 t2)
  split
  · have pm := relayAll_perm t2 es1 (SetTable.grown es1.size)
    have z1 := relayAll_fits t2 es1 (SetTable.grown es1.size)
    have z2 := relayAll_ris t2 es1 (SetTable.grown es1.size)
    have z3 := relayAll_led t2 es1 (SetTable.grown es1.size)
    generalize relayAll t2 es1 (SetTable.grown es1.size) = Z at pm z1 z2 z3 ⊢
    obtain ⟨es2, t3, gave⟩ := Z
    dsimp only at pm z1 z2 z3 ⊢
    have es : es2.size = es1.size := by rw [← Array.length_toList, pm.length_eq, Array.length_toList]
    refine wpAny_bind (hg _ _ _ (wpAny_bind (wpAny_storeSet_of h1 rfl (wpAny_pure (hR _ (b1.trans (Heap.SameBut.update _ a _)) ?_)) (fits_of_scanBound (by rw [es]; exact hb)))))
    exact ⟨_, es2, _, t3, at_ h1 rfl, hex, rfl, fun e he => g1 e (pm.mem_iff.mp he), (pm.map keyS).trans p1, n1, by rw [es]; exact hb, z1, z2, hl.imp id fun z => by rw [z3]; exact z⟩
  · exact wpAny_pure (hR _ b1 ⟨_, es1, _, t2, h1, hex, rfl, g1, p1, n1, hb, hf, hr, hl⟩)
theorem setS_hashed {x : Str} {tk : Tok} {Q : Bool → Shared → Prop} (R : SetS P w s.heap a ks) (room : ks.length + 1 < scanBound)
    (hQ : ∀ b h', Heap.SameBut a s.heap h' → SetS P w h' a (if x ∈ ks then ks else x :: ks) → Q b { s with heap := h' }) : wpAny (model P w) A (setAddHashed a (.str x tk) ((PySem.strKind P w).hash x)) Q E s := by
  obtain ⟨o, es, ep, t, ho, hex, hd, g, pm0, nd, hb, hf, hr, hl⟩ := R
  have hkey : (PySem.strKind P w).is x (.str x tk) = true := strKind_is P w x tk
  have hsc : (Value.str x tk).scannable = true := rfl
  have hel := goodS_elems g
  unfold setAddHashed setAddHashedIn
  refine wpAny_holding (wpAny_bind (wpAny_setState_of ho hd hf ?_))
  dsimp only
  rw [byScan_of hsc hb hel]
  simp only [↓reduceIte]
  unfold setAddByScan
  refine wpAny_bind ?_
  refine wpAny_bind (wpAny_rule ?_)
  refine wpAny_bind (wpAny_setScan_of hkey ho hd hf hel ?_)
  cases hfi : List.findIdx? (fun e => (PySem.strKind P w).is x e.2) es.toList with
  | some j =>
    dsimp only
    obtain ⟨hj, pj, _⟩ := List.findIdx?_eq_some_iff_getElem.mp hfi
    have hin : x ∈ ks := pm0.mem_iff.mp ((goodS_mem g x).mpr ⟨es.toList[j], List.getElem_mem hj, pj⟩)
    refine wpAny_pure (wpAny_pure (hQ _ s.heap (Heap.SameBut.refl a s.heap) ?_))
    rw [if_pos hin]
    exact ⟨o, es, ep, t, ho, hex, hd, g, pm0, nd, hb, hf, hr, hl⟩
  | none =>
    dsimp only
    have hnot : x ∉ ks := fun z => by
      obtain ⟨e, he, q⟩ := (goodS_mem g x).mp (pm0.mem_iff.mpr z)
      have c := List.findIdx?_eq_none_iff.mp hfi e he
      rw [q] at c
      cases c
    rw [if_neg hnot] at hQ
    have gw : ∀ (b : Bool) {s₁ : Shared} {Q' : Unit → Shared → Prop}, Q' () s₁ → wpAny (model P w) A (match b with | true => rule "set.scan.the-table-gave-way" | false => pure ()) Q' E s₁ :=
      fun b s₁ Q' q => by cases b <;> first | exact wpAny_pure q | exact wpAny_rule q
    have pm := layNew_perm t es ((PySem.strKind P w).hash x) (.str x tk)
    have y1 := layNew_fits t es ((PySem.strKind P w).hash x) (.str x tk)
    have y2 := layNew_ris t es ((PySem.strKind P w).hash x) (.str x tk) hr
    have y3 := layNew_led t es ((PySem.strKind P w).hash x) (.str x tk)
    generalize layNew t es ((PySem.strKind P w).hash x) (.str x tk) = Z at pm y1 y2 y3 ⊢
    obtain ⟨es1, t1, wasDummy, gave⟩ := Z
    dsimp only at pm y1 y2 y3 ⊢
    rw [Array.toList_push] at pm
    have pc : es1.toList.Perm (((PySem.strKind P w).hash x, Value.str x tk) :: es.toList) := pm.trans (List.perm_append_singleton _ _)
    have g1 : ∀ e ∈ es1.toList, GoodS P w e := fun e he => by
      rcases List.mem_cons.mp (pc.mem_iff.mp he) with z | z
      · exact ⟨x, tk, z⟩
      · exact g e z
    have p1 : (es1.toList.map keyS).Perm (x :: ks) := (pc.map keyS).trans (List.Perm.cons x pm0)
    have n1 : (x :: ks).Nodup := List.nodup_cons.mpr ⟨hnot, nd⟩
    have size1 : es1.size = ks.length + 1 := by
      have := p1.length_eq
      rw [List.length_map, Array.length_toList, List.length_cons] at this
      exact this
    have b1 : es1.size < scanBound := by rw [size1]; exact room
    have l1 : w.params.followText "set-order" = true ∨ t1.led = true := hl.imp id fun z => by rw [y3]; exact z
    refine wpAny_bind (gw _ ?_)
    split
    · refine wpAny_bind ?_
      rw [hashByValue_scannable 8 hsc]
      refine wpAny_pure ?_
      refine setS_tail ?_ ho hex hd g1 p1 n1 b1 ?_ ?_ ?_ ?_
      · intro b s₁ Q' q; cases b <;> first | exact wpAny_pure q | exact wpAny_rule q
      · first | (split <;> first | exact y1 | exact SetTable.fits_plain_off y1) | exact y1
      · first | (split <;> exact y2) | exact y2
      · first | (split <;> exact l1) | exact l1
      · intro h' sb r; dsimp only; exact wpAny_pure (hQ _ h' sb r)
    · refine wpAny_bind (wpAny_pure ?_)
      simp only [↓reduceIte]
      refine setS_tail ?_ ho hex hd g1 p1 n1 b1 y1 y2 l1 ?_
      · intro b s₁ Q' q; cases b <;> first | exact wpAny_pure q | exact wpAny_rule q
      · intro h' sb r; dsimp only; exact wpAny_pure (hQ _ h' sb r)
theorem SetS.typeIs (R : SetS P w s.heap a ks) : s.TypeIs (.ref a) "set" := let ⟨o, _, _, _, ho, hex, _⟩ := R; ⟨o, ho, hex.1⟩
theorem setS_add {x : Str} {tk : Tok} {Q : Value → Shared → Prop} (R : SetS P w s.heap a ks) (room : ks.length + 1 < scanBound)
    (hQ : ∀ h' t, Heap.SameBut a s.heap h' → SetS P w h' a (if x ∈ ks then ks else x :: ks) → Q .none { s with heap := h', toks := t }) : wpAny (model P w) A (call (.builtin "set.add") [.ref a, .str x tk]) Q E s := by
  refine wpAny_call_entry F.slot_set_add R.typeIs F.entry_set_add ?_ (F.args_set_add_2 _ _)
  unfold Builtin.«set.add» Builtin.Frozenset.oneOther
  simp only [List.isEmpty_nil, bind_assoc]
  unfold Builtin.Frozenset.addrOf setAdd
  refine wpAny_bind (wpAny_pure ?_)
  try dsimp only
  refine wpAny_bind (wpAny_pure ?_)
  try dsimp only
  refine wpAny_bind ?_
  refine wpAny_holding ?_
  refine wpAny_bind ((PySem.strKind P w).pyHash (strKind_is P w x tk) ?_)
  refine setS_hashed (s := { s with toks := s.toks + 1 }) R room fun _ h' sb r => ?_
  show wpAny _ _ (ret Value.none) _ _ _
  exact wpAny_pure ⟨_, rfl, hQ h' _ sb r⟩
end
end L2

set_option Elab.async false
set_option linter.all false
set_option maxRecDepth 100000
set_option maxHeartbeats 2000000
/-! A set of texts made by a comprehension of two clauses without tests. -/
namespace L2
open PySem PySem.Spec PyProof.Rows
/-- the set of texts at a, as a thing that is followed -/
def SetSO (P : Program) (w : World) (a : Addr) (ks : List Str) : HO := .ext fun h => SetS P w h a ks
theorem setSO_new {P P' : Program} {w w' : World} {H : Hp} {h : Heap} {a : Addr} {ks : List Str} (R : SetS P w h a ks) : ObjOk P' w' H h a (SetSO P w a ks) := by
  have ⟨o, _, _, _, ho, _⟩ := R
  exact ⟨R, ⟨o, ho⟩, fun h1 h2 p k => SetS.at p k⟩
/-- one text more -/
def putS (ks : List Str) (x : Str) : List Str := if x ∈ ks then ks else x :: ks
section
variable {X : Cx}
theorem setSO_get {pins : List (Addr × Obj)} {σ : L2.St} {H : Hp} {s : Shared} {P : Program} {w : World} {a : Addr} {ks : List Str} (I : Inv X pins σ H s) (ha : H a = some (SetSO P w a ks)) : SetS P w s.heap a ks := (I.hok a _ ha).1
theorem addS_ok {pins : List (Addr × Obj)} {σ : L2.St} {H : Hp} {s : Shared} {E : Value → Shared → Prop} {D : Addr} {ks : List Str} {x : Str} {tk : Tok} {Q : Value → Shared → Prop} (I : Inv X pins σ H s) (hD : H D = some (SetSO X.prog X.w D ks)) (room : ks.length + 1 < scanBound)
    (h : ∀ s', Inv X pins σ (upd H D (SetSO X.prog X.w D (putS ks x))) s' → Q .none s') : wpAny (model X.prog X.w) X.A (call (.builtin "set.add") [.ref D, .str x tk]) Q E s := by
  refine setS_add (setSO_get I hD) room fun h' t sb new => ?_
  obtain ⟨o, _, _, _, ho, _⟩ := id new
  exact h _ (I.write (e := D) (t' := t) (by rw [hD]; trivial) (.inl rfl) (fun b u hb hu => (sb.2 b hb).trans hu) ⟨o, ho⟩ (setSO_new new))
end
section
variable {prog : Program} {w : World} {A : Around} {R : Result → Shared → Prop} {s : Shared} {elt t0 i0 t1 i1 : Expr} {scope : Scope} {pos : Pos} {it acc : Value} {env : Env}
/-- the comprehension that is spoken of -/
abbrev sc2 (elt t0 i0 t1 i1 : Expr) (scope : Scope) (pos : Pos) : Expr := .SetComp elt [⟨t0, i0, [], 0⟩, ⟨t1, i1, [], 0⟩] scope pos
theorem eval_sc2 : eval (sc2 elt t0 i0 t1 i1 scope pos) env = comprehension (sc2 elt t0 i0 t1 i1 scope pos) scope env (firstIterPos [⟨t0, i0, [], 0⟩, ⟨t1, i1, [], 0⟩] pos) (newSet (.type "set")) false (eval i0 env) := rfl
theorem sc2_turn0 : compTurn (sc2 elt t0 i0 t1 i1 scope pos) 0 it acc env = (do
      standAt i0.pos
      match ← pyNext it with
      | none => pure (.done .next)
      | some v =>
        letOwnedTupleGo t0 it v
        assign t0 env v
        let src ← eval i1 env
        standAt i1.pos
        let src ← foldedSetIterable i1 env src
        let _ ← runOwn (.compStart (sc2 elt t0 i0 t1 i1 scope pos) 1 (← holding [src] (pyIter src)) acc env) env
        again (.compLoop (sc2 elt t0 i0 t1 i1 scope pos) 0 it acc env)) := by rfl
theorem sc2_turn1 : compTurn (sc2 elt t0 i0 t1 i1 scope pos) 1 it acc env = (do
      standAt i1.pos
      match ← pyNext it with
      | none => pure (.done .next)
      | some v =>
        letOwnedTupleGo t1 it v
        assign t1 env v
        (do let u ← eval elt env; standAt elt.pos; let _ ← call (.builtin "set.add") [acc, u])
        again (.compLoop (sc2 elt t0 i0 t1 i1 scope pos) 1 it acc env)) := by rfl
end
end L2
namespace L2
open PySem PySem.Spec PyProof.Rows
section
variable {prog : Program} {w : World} {A : Around} {R : Result → Shared → Prop} {s : Shared} {elt t0 i0 t1 i1 : Expr} {scope : Scope} {pos : Pos} {it acc : Value} {env : Env}
/-- nothing is raised -/
abbrev NoE : Value → Shared → Prop := fun _ _ => False
/-- the outer loop, J by what is left to do -/
theorem sc2_loop0 (hs : ∀ x, foldedSetIterable i1 env x = pure x) (J : Nat → Shared → Prop)
    (turn : ∀ n s, J n s → wpAny (model prog w) A (pyNext it) (fun r s1 => match r with
      | none => R (.ok .next) s1
      | some v => wpAny (model prog w) A (letOwnedTupleGo t0 it v) (fun _ s2 => wpAny (model prog w) A (assign t0 env v) (fun _ s3 => wpAny (model prog w) A (eval i1 env) (fun x s4 => wpAny (model prog w) A (pyIter x) (fun it1 s5 =>
          codeAny (model prog w) A (.compStart (sc2 elt t0 i0 t1 i1 scope pos) 1 it1 acc env) (fun r s' => match r with
            | .ok _ => ∃ m, m < n ∧ J m s'
            | .error _ => False) s5) NoE s4) NoE s3) NoE s2) NoE s1) NoE s) (n : Nat) (h : J n s) : codeAny (model prog w) A (.compLoop (sc2 elt t0 i0 t1 i1 scope pos) 0 it acc env) R s := by
  refine codeAny_loop rfl J (fun n s hJ => ?_) n h
  show wpAny _ A ((compTurn (sc2 elt t0 i0 t1 i1 scope pos) 0 it acc env).onRaise (fun x => do noteFrame x env; theTreesLotGoes x)) _ _ s
  refine wpAny_noted ?_
  rw [sc2_turn0]
  refine wpAny_bind (wpAny_standAt (wpAny_bind (thnF (turn n s hJ) fun r s1 h1 => ?_)))
  cases r with
  | none => exact wpAny_pure h1
  | some v =>
    refine wpAny_bind (thnF h1 fun _ s2 h2 => wpAny_bind (thnF h2 fun _ s3 h3 => wpAny_bind (thnF h3 fun x s4 h4 => wpAny_bind (wpAny_standAt (wpAny_bind (wpAny_of_eq (hs x) (wpAny_bind (wpAny_holding (thnF h4 fun it1 s5 h5 => ?_)))))))))
    refine wpAny_bind (wpAny_runOwn ?_)
    rw [Around.mark_none]
    refine codeAny_mono h5 fun r s' hr => ?_
    cases r with
    | ok f => first | exact wpAny_pure ⟨rfl, hr⟩ | exact wpAny_bind (wpAny_pure (wpAny_pure ⟨rfl, hr⟩))
    | error e => exact hr.elim
/-- the inner loop -/
theorem sc2_loop1 (J : Nat → Shared → Prop)
    (turn : ∀ n s, J n s → wpAny (model prog w) A (pyNext it) (fun r s1 => match r with
      | none => R (.ok .next) s1
      | some v => wpAny (model prog w) A (letOwnedTupleGo t1 it v) (fun _ s2 => wpAny (model prog w) A (assign t1 env v) (fun _ s3 => wpAny (model prog w) A (eval elt env) (fun x s4 =>
          wpAny (model prog w) A (call (.builtin "set.add") [acc, x]) (fun _ s5 => ∃ m, m < n ∧ J m s5) NoE s4) NoE s3) NoE s2) NoE s1) NoE s) (n : Nat) (h : J n s) :
    codeAny (model prog w) A (.compLoop (sc2 elt t0 i0 t1 i1 scope pos) 1 it acc env) R s := by
  refine codeAny_loop rfl J (fun n s hJ => ?_) n h
  show wpAny _ A ((compTurn (sc2 elt t0 i0 t1 i1 scope pos) 1 it acc env).onRaise (fun x => do noteFrame x env; theTreesLotGoes x)) _ _ s
  refine wpAny_noted ?_
  rw [sc2_turn1]
  refine wpAny_bind (wpAny_standAt (wpAny_bind (thnF (turn n s hJ) fun r s1 h1 => ?_)))
  cases r with
  | none => exact wpAny_pure h1
  | some v =>
    refine wpAny_bind (thnF h1 fun _ s2 h2 => wpAny_bind (thnF h2 fun _ s3 h3 => ?_))
    exact wpAny_bind (wpAny_bind (thnF h3 fun x s4 h4 => wpAny_bind (wpAny_standAt (wpAny_bind (thnF h4 fun _ s5 h5 => wpAny_pure (wpAny_pure ⟨rfl, h5⟩))))))
/-- the inner loop's start -/
theorem sc2_start1 (h0 : codeAny (model prog w) A (.compLoop (sc2 elt t0 i0 t1 i1 scope pos) 1 it acc env) R s)
    (h : wpAny (model prog w) A (pyIter it) (fun it' s' => codeAny (model prog w) A (.compLoop (sc2 elt t0 i0 t1 i1 scope pos) 1 it' acc env) R s')
      (notedBy (model prog w) A env fun x s' => R (.error x) s') s) : codeAny (model prog w) A (.compStart (sc2 elt t0 i0 t1 i1 scope pos) 1 it acc env) R s := by
  refine codeAny_of_tree ?_
  show wpAny _ _ ((compStart (sc2 elt t0 i0 t1 i1 scope pos) 1 it acc env).onRaise (fun x => do noteFrame x env; standAt theWindowsPlace)) _ _ s
  refine wpAny_notedAt ?_
  unfold compStart
  show wpAny _ _ (ask >>= _) _ _ s
  refine wpAny_bind (wpAny_askSetting (wpAny_ite ?_))
  split
  · first
      | exact wpAny_bind (wpAny_pure (wpAny_pure (And.intro rfl h0)))
      | exact wpAny_pure (And.intro rfl h0)
  · first
      | exact wpAny_bind (wpAny_rule (wpAny_bind (wpAny_standAt (wpAny_bind (wpAny_mono h (fun it' s' h' => wpAny_pure (And.intro rfl h')) fun _ _ x => x)))))
      | (refine wpAny_bind (wpAny_rule ?_); show wpAny _ _ (standAt i1.pos >>= _) _ _ s; exact wpAny_bind (wpAny_standAt (wpAny_bind (wpAny_mono h (fun it' s' h' => wpAny_pure (And.intro rfl h')) fun _ _ x => x))))
end
section
variable {X : Cx}
/-- {elt for tg in iter for tg1 in iter1}: as tLc2 without tests, D the set -/
def tSc2 (P : Program) (w : World) (wi : TI) (g : TG) (wi1 : TI) (g1 : TG) (te : TE) (vs vs1 : List Nat) : TE := fun σ H Q => wi σ H fun J H1 => ∀ D, H1 D = none → ∃ W : Nat → Nat → Hp → Prop, (∃ m, W 0 m (upd H1 D (SetSO P w D []))) ∧ ∀ i m H, W i m H →
  (J.stop i H ∧ Q (.ref D) H) ∨ (J.go i H ∧ ∃ Nx : Hp → Prop, (∀ H', Nx H' → ∃ m', m' < m ∧ W (i + 1) m' H') ∧ ∀ x H', J.yld i H x H' → g x (wipe σ vs) H' fun σ2 H2 => wipe σ2 vs = wipe σ vs ∧
    wi1 σ2 H2 fun J1 H4 => ∃ W1 : Nat → Nat → Hp → Prop, (∃ m, W1 0 m H4) ∧ ∀ j k H, W1 j k H →
      (J1.stop j H ∧ Nx H) ∨ (J1.go j H ∧ ∃ Nx1 : Hp → Prop, (∀ H', Nx1 H' → ∃ k', k' < k ∧ W1 (j + 1) k' H') ∧ ∀ x H', J1.yld j H x H' → g1 x (wipe σ2 vs1) H' fun σ3 H5 => wipe σ3 vs1 = wipe σ2 vs1 ∧
        te σ3 H5 fun y H7 => ∃ z ks, y = .str z ∧ H7 D = some (SetSO P w D ks) ∧ ks.length + 1 < scanBound ∧ Nx1 (upd H7 D (SetSO P w D (putS ks z)))))
/-- what a block's part is, wherever the block starts -/
abbrev InBlk (X : Cx) (scope : Scope) (p : Cx → Prop) : Prop := ∀ (s : Shared) (H : Hp) (C : Addr) (cl : List (Str × Addr)) (fp : List Addr), p (X.blk s H scope (compEnvC scope cl C X.env) fp)
theorem pe_sc2 {elt tg iter tg1 iter1 : Expr} {scope : Scope} {own : List (Str × Nat)} {vs1 : List Nat} {pos : Pos} {wi wi1 : TI} {g g1 : TG} {te : TE} (hc : X.calm = true) (hN : X.N.Nodup) (hi : PI X tg iter wi) (ok : BlkOk X.N X.env.scope scope own) (hv : ∀ i ∈ vs1, i ∈ own.map (·.2))
    (hg : InBlk X scope fun Y => PG Y tg g) (hi1 : InBlk X scope fun Y => PI Y tg1 iter1 wi1) (hg1 : InBlk X scope fun Y => PG Y tg1 g1) (he : InBlk X scope fun Y => PE Y elt te)
    (hs : ∀ x, foldedSetIterable iter X.env x = pure x := by intro _; rfl) (hs1 : ∀ env x, foldedSetIterable iter1 env x = pure x := by intro _ _; rfl) :
    PE X (sc2 elt tg iter tg1 iter1 scope pos) (tSc2 X.prog X.w wi g wi1 g1 te (own.map (·.2)) vs1) := by
  refine ⟨fun pins s σ H Q I h => ?_⟩
  rw [eval_sc2]
  have caught : ∀ y ∈ scope.names, y.2 = .free → ∃ c, X.env.cells.lookup y.1 = some c := fun y hy e => by
    rcases ok.free y hy e with k | k
    · exact I.ok.has _ (.inl k)
    · exact I.ok.has _ (.inr k)
  refine wpAny_comprehension_free (use := none) rfl hs (closure_ok caught) ok.kind (fun y hy e => by rw [ok.uniq y hy, e]) (thn (hi.run pins s σ H _ I h) fun xv s1 hx => thn hx fun itv s2 h2 => ?_)
  obtain ⟨it, fp, tn, J, H2, rfl, I2, T, st2, f2, q⟩ := h2
  refine PpSet.newSet_ok (newEnv_comp ?_)
  generalize hD : s2.heap.objs.size = D
  obtain ⟨W, ⟨m0, w0⟩, turn⟩ := q D (I2.hok.fresh (Nat.le_of_eq hD))
  have fb : ∀ b ∈ fp, b < s2.heap.objs.size := fun b hb => let ⟨o, e, _⟩ := T.obj _ _ st2 b hb; Heap.lt_size e
  -- the set, laid
  have nw := setS_new X.w X.prog s2.heap
  generalize hnew : s2.heap.push { cls := .type "set", dict := none, data := .set #[] 0 (.fresh 0 0 (!X.w.params.followText "set-order")) } = h3 at nw
  have keep3 : ∀ b o, s2.heap.get? b = some o → h3.get? b = some o := fun b o e => by rw [← hnew]; exact Heap.get?_push_of_some _ e
  have size3 : h3.objs.size = s2.heap.objs.size + 1 := by rw [← hnew, Heap.size_push]
  rw [hD] at nw
  have I3 : Inv X pins σ (upd H2 D (SetSO X.prog X.w D [])) { s2 with heap := h3 } := I2.laid (t' := s2.toks) keep3 (Nat.le_of_eq hD) (setSO_new nw)
  have f3 : ∀ b ∈ fp, FpOk X pins (upd H2 D (SetSO X.prog X.w D [])) b ∧ b < h3.objs.size := fun b hb => by
    refine ⟨⟨?_, (f2 b hb).2⟩, by rw [size3]; exact Nat.lt_succ_of_lt (fb b hb)⟩
    rw [upd_ne (by rw [← hD]; exact Nat.ne_of_lt (fb b hb))]
    exact (f2 b hb).1
  have st3 : tn 0 h3 := T.keep _ _ _ st2 fun b _ o e => keep3 b o e
  generalize hs3 : ({ s2 with heap := h3 } : Shared) = s3 at I3
  have eh : s3.heap = h3 := by rw [← hs3]
  rw [← eh] at st3 f3 size3
  have I4 := block_start I3 ok hN f3
  generalize hH3 : upd H2 D (SetSO X.prog X.w D []) = H3 at I3 I4 w0 f3
  show codeAny _ _ (.compStart (sc2 elt tg iter tg1 iter1 scope pos) 0 (.ref it) (.ref D) (compEnvC scope (cellsFrom (s3.heap.objs.size + 1) scope.names (cloFrom X.env.cells scope.names [])) s3.heap.objs.size X.env))
    (compPost (model X.prog X.w) X.A X.xe none (EP X pins σ Q) (.ref D) s3.heap.objs.size) { s3 with heap := pushCells (s3.heap.push { cls := .type "dict", data := .dict #[] }) scope.names }
  have pg := hg s3 H3 s3.heap.objs.size (cellsFrom (s3.heap.objs.size + 1) scope.names (cloFrom X.env.cells scope.names [])) fp
  have pi1 := hi1 s3 H3 s3.heap.objs.size (cellsFrom (s3.heap.objs.size + 1) scope.names (cloFrom X.env.cells scope.names [])) fp
  have pg1 := hg1 s3 H3 s3.heap.objs.size (cellsFrom (s3.heap.objs.size + 1) scope.names (cloFrom X.env.cells scope.names [])) fp
  have pe := he s3 H3 s3.heap.objs.size (cellsFrom (s3.heap.objs.size + 1) scope.names (cloFrom X.env.cells scope.names [])) fp
  generalize hce : compEnvC scope (cellsFrom (s3.heap.objs.size + 1) scope.names (cloFrom X.env.cells scope.names [])) s3.heap.objs.size X.env = ce at I4 pg pi1 pg1 pe ⊢
  have cL : ce.locals = s3.heap.objs.size := by rw [← hce]; rfl
  generalize hs4 : ({ s3 with heap := pushCells (s3.heap.push { cls := .type "dict", data := .dict #[] }) scope.names } : Shared) = s4 at I4 ⊢
  have st4 : tn 0 s4.heap := by
    rw [← hs4]
    exact T.keep _ _ _ st3 fun b _ o e => pushCells_keeps _ _ _ _ (Heap.get?_push_of_some _ e)
  have pinned : ∀ {σ' : L2.St} {H' : Hp} {s' : Shared}, Inv (X.blk s3 H3 scope ce fp) [] σ' H' s' → (∀ b ∈ fp, H' b = none) → ∀ b ∈ fp, FpOk (X.blk s3 H3 scope ce fp) [] H' b := fun {σ' H' s'} I' hn b hb =>
    ⟨hn b hb, (I'.ok.exf b hb).1, I'.ok.exfs b hb, .inl hb, fun x c e => (I'.ok.exf b hb).2 x c e, fun p hp => absurd (show p ∈ ([] : List (Addr × Obj)) ++ [] from hp) (by simp)⟩
  have loop : codeAny (model X.prog X.w) X.A (.compLoop (sc2 elt tg iter tg1 iter1 scope pos) 0 (.ref it) (.ref D) ce) (compPost (model X.prog X.w) X.A X.xe none (EP X pins σ Q) (.ref D) s3.heap.objs.size) s4 := by
    refine sc2_loop0 (hs1 ce) (fun n s' => ∃ i H', Inv (X.blk s3 H3 scope ce fp) [] (wipe σ (own.map (·.2))) H' s' ∧ tn i s'.heap ∧ (∀ b ∈ fp, H' b = none) ∧ W i n H') ?_ m0 ⟨0, H3, I4, st4, fun b hb => (f3 b hb).1.1, w0⟩
    rintro n s5 ⟨i, H5, I5, st5, n5, w5⟩
    rcases turn i n H5 w5 with ⟨stop, qq⟩ | ⟨go, Nx, hNx, step⟩
    · refine thnF (T.done (X.blk s3 H3 scope ce fp) rfl rfl rfl hc i [] s5 _ H5 NoE I5 (pinned I5 n5) st5 stop) fun r s6 ⟨hr, I6⟩ => ?_
      subst hr
      have I7 : Inv X pins σ H5 s6 := I3.call' (ch := fp) I6.os I6.base I6.hok I6.bare fun b hb => ⟨(f3 b hb).1.2.2.2.1, (f3 b hb).1.2.1, (f3 b hb).1.2.2.2.2.1, (f3 b hb).1.2.2.2.2.2⟩
      have free5 : H5 ce.locals = none := I6.free
      obtain ⟨m, hn, _⟩ := I6.loc
      have hn : s6.heap.Ns ce.locals m := hn
      rw [cL] at hn free5
      obtain ⟨f0, f1, _, g3, f4, f5⟩ := I3.fpOk (Nat.le_refl _) free5
      exact ⟨m, hn, fun h'' sb => ⟨.ref D, H5, I7.turned (t' := s6.toks) (fun b o hb e => (sb.2 b hb).trans e) f0 f1 g3 f4 f5, rfl, qq⟩⟩
    · refine thnF (T.item (X.blk s3 H3 scope ce fp) rfl rfl rfl hc i [] s5 _ H5 NoE I5 (pinned I5 n5) st5 go) fun r s6 ⟨u, hr, h6⟩ => ?_
      subst hr
      refine thnF h6 fun _ s7 ⟨x, H7, I7, r7, y7, st7, n7⟩ => ?_
      have I7p := I7.pinned (pinned I7 n7) (T.obj _ _ st7)
      refine thnF (pg.run _ s7 _ H7 x u _ I7p r7 (step x H7 y7)) fun _ s8 ⟨σ8, H8, I8, hw8, q8⟩ => ?_
      refine thnF (pi1.run _ s8 σ8 H8 _ I8 q8) fun xv s9 hx => thnF hx fun itv s10 h10 => ?_
      obtain ⟨it1, fp1, tn1, J1, H11, rfl, I11, T1, st11, f11, W1, ⟨m1, w1⟩, turn1⟩ := h10
      have loop1 : codeAny (model X.prog X.w) X.A (.compLoop (sc2 elt tg iter tg1 iter1 scope pos) 1 (.ref it1) (.ref D) ce)
          (fun r s' => match r with
            | .ok _ => ∃ m, m < n ∧ ∃ i H', Inv (X.blk s3 H3 scope ce fp) [] (wipe σ (own.map (·.2))) H' s' ∧ tn i s'.heap ∧ (∀ b ∈ fp, H' b = none) ∧ W i m H'
            | .error _ => False) s10 := by
        refine sc2_loop1 (fun k s' => ∃ j H', Inv (X.blk s3 H3 scope ce fp) ([] ++ pinsAt fp s7.heap) (wipe σ8 vs1) H' s' ∧ tn1 j s'.heap ∧ (∀ b ∈ fp1, H' b = none) ∧ W1 j k H') ?_ m1 ⟨0, H11, I11.weak (wipe_length _ _) (fun j v e => (wipe_some e).1), st11, fun b hb => (f11 b hb).1, w1⟩
        rintro k s12 ⟨j, H12, I12, st12, n12, w12⟩
        rcases turn1 j k H12 w12 with ⟨stop1, nx1⟩ | ⟨go1, Nx1, hNx1, step1⟩
        · refine thnF (T1.done (X.blk s3 H3 scope ce fp) rfl rfl rfl hc j _ s12 _ H12 NoE I12 (fun b hb => ⟨n12 b hb, (f11 b hb).2⟩) st12 stop1) fun r s13 ⟨hr, I13⟩ => ?_
          subst hr
          obtain ⟨m', hm, w'⟩ := hNx H12 nx1
          have pin' : ∀ b ∈ fp, ∀ o, s7.heap.get? b = some o → s13.heap.get? b = some o ∧ H12 b = none := fun b hb o e =>
            let z := I13.pin (b, o) (List.mem_append_right _ (List.mem_append_right _ (mem_pinsAt hb e)))
            ⟨z.1, z.2.1⟩
          refine ⟨m', hm, i + 1, H12, (I13.unpinned (pins := [])).weak ?_ (fun j v e => ?_), T.keep _ _ _ st7 fun b hb o e => (pin' b hb o e).1, fun b hb => ?_, w'⟩
          · have z := congrArg List.length hw8
            rw [wipe_length, wipe_length] at z
            rw [wipe_length, wipe_length]
            exact z.symm
          · rw [← hw8] at e
            obtain ⟨e1, e2⟩ := wipe_some e
            rw [wipe_out fun z => e2 (hv j z)]
            exact e1
          · obtain ⟨o, e, _⟩ := T.obj _ _ st7 b hb
            exact (pin' b hb o e).2
        · refine thnF (T1.item (X.blk s3 H3 scope ce fp) rfl rfl rfl hc j _ s12 _ H12 NoE I12 (fun b hb => ⟨n12 b hb, (f11 b hb).2⟩) st12 go1) fun r s13 ⟨u1, hr, h13⟩ => ?_
          subst hr
          refine thnF h13 fun _ s14 ⟨x1, H14, I14, r14, y14, st14, n14⟩ => ?_
          have I14p := I14.pinned (fun b hb => ⟨n14 b hb, (f11 b hb).2⟩) (T1.obj _ _ st14)
          refine thnF (pg1.run _ s14 _ H14 x1 u1 _ I14p r14 (step1 x1 H14 y14)) fun _ s15 ⟨σ15, H15, I15, hw15, q15⟩ => ?_
          refine thnF (pe.run _ s15 σ15 H15 _ I15 q15) fun v s16 ⟨yv, H16, I16, r16, z, ks, ey, hD16, room, nx⟩ => ?_
          subst ey
          obtain ⟨tk, rfl⟩ : ∃ tk, v = Value.str z tk := r16
          refine addS_ok (X := X.blk s3 H3 scope ce fp) I16 hD16 room fun s17 I17 => ?_
          obtain ⟨m', hm, w'⟩ := hNx1 _ nx
          have pin' : ∀ b ∈ fp1, ∀ o, s14.heap.get? b = some o → s17.heap.get? b = some o ∧ (upd H16 D (SetSO X.prog X.w D (putS ks z))) b = none := fun b hb o e =>
            let z := I17.pin (b, o) (List.mem_append_right _ (List.mem_append_right _ (mem_pinsAt hb e)))
            ⟨z.1, z.2.1⟩
          refine ⟨m', hm, j + 1, _, I17.unpinned.weak (by rw [← hw15, wipe_length]) (fun j v e => by rw [← hw15] at e; exact (wipe_some e).1), T1.keep _ _ _ st14 fun b hb o e => (pin' b hb o e).1, fun b hb => ?_, w'⟩
          obtain ⟨o, e, _⟩ := T1.obj _ _ st14 b hb
          exact (pin' b hb o e).2
      exact sc2_start1 loop1 (T1.self X.A 0 _ _ _ st11 loop1)
  exact PpSet.codeAny_compStart_set loop (T.self X.A 0 _ _ _ st4 loop)
end
end L2

set_option Elab.async false
set_option linter.all false
set_option maxRecDepth 100000
set_option maxHeartbeats 2000000
/-! sorted of a set of texts; a set of texts from a form's terms -/
namespace L2
open PySem PySem.Spec PyProof.Rows
def rSortedSS (P : Program) (w : World) : List V → Hp → VK → Prop := fun vs H Q => ∃ (a : Addr) (ks : List Str), vs = [V.ref a] ∧ H a = some (SetSO P w a ks) ∧ ∀ ys : List Str, ys.Perm ks → ks.Nodup → sortedS ys = true → NewQ H (.lst (ys.map V.str)) Q
theorem cr_sortedSS {X : Cx} (hc : X.calm = true) : CallR X (.builtin "sorted") (rSortedSS X.prog X.w) := by
  intro pins s σ H vs us Q I r h
  obtain ⟨a, ks, rfl, ha, q⟩ := h
  have R := setSO_get I ha
  rw [Vals.ref1 r]
  refine setS_sorted R (I.ok.hd hc) fun s' p out c ys kp gn os pn ho ss pm so => ?_
  obtain ⟨_, es, _, _, _, _, _, _, pm0, nd, hb, _⟩ := R
  have lk : ks.length = es.size := by rw [← pm0.length_eq, List.length_map, Array.length_toList]
  have hlen : (ys.map V.str).length ≤ sizeLine := by
    rw [List.length_map, pm.length_eq, lk]
    exact fits_of_scanBound hb
  have I2 : Inv X pins σ (upd H p (.lst (ys.map V.str))) { s with heap := s'.heap, toks := s.toks } := I.laid (t' := s.toks) kp pn ⟨hlen, _, c, vals_of_strs ss, ho⟩
  have I3 : Inv X pins σ (upd H p (.lst (ys.map V.str))) s' := I2.call' (ch := []) os (Un.kept fun _ _ e => e) (I2.hok.kept fun _ _ e => e) (by rw [gn]; exact I2.bare) (fun _ z => nomatch z)
  exact ⟨.ref p, _, I3, rfl, (q ys pm nd so).at (I.hok.fresh pn)⟩
theorem mem_putS {ks : List Str} {x z : Str} : x ∈ putS ks z ↔ x ∈ ks ∨ x = z := by
  unfold putS
  split
  · rename_i h
    exact ⟨.inl, fun q => q.elim id fun e => e ▸ h⟩
  · rw [List.mem_cons]
    exact ⟨fun q => q.elim .inr .inl, fun q => q.elim .inr .inl⟩
theorem len_putS (ks : List Str) (z : Str) : (putS ks z).length ≤ ks.length + 1 := by
  unfold putS
  split
  · exact Nat.le_succ _
  · exact Nat.le_refl _
/-- these texts, laid one by one -/
def putAll (ks xs : List Str) : List Str := xs.foldl putS ks
theorem mem_putAll : ∀ {xs ks : List Str} {x : Str}, x ∈ putAll ks xs ↔ x ∈ ks ∨ x ∈ xs
  | [], ks, x => by simp [putAll]
  | z :: xs, ks, x => by
    show x ∈ putAll (putS ks z) xs ↔ _
    rw [mem_putAll, mem_putS, List.mem_cons, or_assoc]
theorem len_putAll : ∀ (xs ks : List Str), (putAll ks xs).length ≤ ks.length + xs.length
  | [], ks => Nat.le_refl _
  | z :: xs, ks => by
    have h1 := len_putAll xs (putS ks z)
    have h2 := len_putS ks z
    show (putAll (putS ks z) xs).length ≤ _
    rw [List.length_cons]
    omega
theorem putAllS_snoc (ks xs : List Str) (z : Str) : putS (putAll ks xs) z = putAll ks (xs ++ [z]) := by unfold putAll; rw [List.foldl_append]; rfl
theorem putAll_app (ks xs zs : List Str) : putAll (putAll ks xs) zs = putAll ks (xs ++ zs) := by unfold putAll; rw [List.foldl_append]
/-- all letters of the terms, one behind the other -/
def lets (fm : Fm) : List Str := fm.flatMap (·.1)
theorem len_lets (fm : Fm) : (lets fm).length = (fm.map fun x => x.1.length).sum := by unfold lets; rw [List.length_flatMap]
theorem lets_take {fm : Fm} {i : Nat} {x : Mon × Rat} (h : fm[i]? = some x) : lets (fm.take (i + 1)) = lets (fm.take i) ++ x.1 := by
  unfold lets
  rw [take_snoc h, List.flatMap_append, List.flatMap_cons, List.flatMap_nil, List.append_nil]
theorem len_take_lets (fm : Fm) (i : Nat) : (lets (fm.take i)).length ≤ (lets fm).length := by
  have h : lets fm = lets (fm.take i) ++ lets (fm.drop i) := by unfold lets; rw [← List.flatMap_append, List.take_append_drop]
  rw [h, List.length_append]
  exact Nat.le_add_right _ _
section
variable {P : Program} {w : World} {J J1 : It} {n : Nat} {G : Hp → Prop} {Y : Nat → Hp → V → Hp → Prop} {wi1 : TI} {g g1 : TG} {te : TE} {vs vs1 : List Nat} {σ : L2.St} {D : Addr} {H0 : Hp}
/-- the outer walk of such a comprehension -/
theorem sc2_it {Qd : Hp → Prop} (wk : Walk J n G Y) (Pv : Nat → Hp → Prop) (h0 : Pv 0 H0) (hG : ∀ i H, i ≤ n → Pv i H → G H)
    (hs : ∀ i x H H', i < n → Pv i H → Y i H x H' → g x (wipe σ vs) H' fun σ2 H2 => wipe σ2 vs = wipe σ vs ∧
      wi1 σ2 H2 fun J1 H4 => ∃ W1 : Nat → Nat → Hp → Prop, (∃ m, W1 0 m H4) ∧ ∀ j k H, W1 j k H →
        (J1.stop j H ∧ Pv (i + 1) H) ∨ (J1.go j H ∧ ∃ Nx1 : Hp → Prop, (∀ H', Nx1 H' → ∃ k', k' < k ∧ W1 (j + 1) k' H') ∧ ∀ x H', J1.yld j H x H' → g1 x (wipe σ2 vs1) H' fun σ3 H5 => wipe σ3 vs1 = wipe σ2 vs1 ∧
          te σ3 H5 fun y H7 => ∃ z ks, y = .str z ∧ H7 D = some (SetSO P w D ks) ∧ ks.length + 1 < scanBound ∧ Nx1 (upd H7 D (SetSO P w D (putS ks z)))))
    (hd : ∀ H, Pv n H → Qd H) :
    ∃ W : Nat → Nat → Hp → Prop, (∃ m, W 0 m H0) ∧ ∀ i m H, W i m H →
      (J.stop i H ∧ Qd H) ∨ (J.go i H ∧ ∃ Nx : Hp → Prop, (∀ H', Nx H' → ∃ m', m' < m ∧ W (i + 1) m' H') ∧ ∀ x H', J.yld i H x H' → g x (wipe σ vs) H' fun σ2 H2 => wipe σ2 vs = wipe σ vs ∧
        wi1 σ2 H2 fun J1 H4 => ∃ W1 : Nat → Nat → Hp → Prop, (∃ m, W1 0 m H4) ∧ ∀ j k H, W1 j k H →
          (J1.stop j H ∧ Nx H) ∨ (J1.go j H ∧ ∃ Nx1 : Hp → Prop, (∀ H', Nx1 H' → ∃ k', k' < k ∧ W1 (j + 1) k' H') ∧ ∀ x H', J1.yld j H x H' → g1 x (wipe σ2 vs1) H' fun σ3 H5 => wipe σ3 vs1 = wipe σ2 vs1 ∧
            te σ3 H5 fun y H7 => ∃ z ks, y = .str z ∧ H7 D = some (SetSO P w D ks) ∧ ks.length + 1 < scanBound ∧ Nx1 (upd H7 D (SetSO P w D (putS ks z))))) := by
  refine ⟨fun i m H => m = n - i ∧ i ≤ n ∧ Pv i H, ⟨n, by simp, Nat.zero_le _, h0⟩, ?_⟩
  rintro i m H ⟨rfl, hi, p⟩
  have q := hG i H hi p
  by_cases hlt : i < n
  · exact .inr ⟨wk.goes i H hlt q, Pv (i + 1), fun H' p' => ⟨n - (i + 1), by omega, rfl, hlt, p'⟩, fun x H' y => hs i x H H' hlt p (wk.yields i H x H' hlt q y)⟩
  · obtain rfl : i = n := by omega
    exact .inl ⟨wk.stops H q, hd H p⟩
/-- the inner one -/
theorem sc2_in {Nx : Hp → Prop} (wk : Walk J1 n G Y) (Pv : Nat → Hp → Prop) (h0 : Pv 0 H0) (hG : ∀ i H, i ≤ n → Pv i H → G H)
    (hs : ∀ j x H H', j < n → Pv j H → Y j H x H' → g1 x (wipe σ vs1) H' fun σ3 H5 => wipe σ3 vs1 = wipe σ vs1 ∧
      te σ3 H5 fun y H7 => ∃ z ks, y = .str z ∧ H7 D = some (SetSO P w D ks) ∧ ks.length + 1 < scanBound ∧ Pv (j + 1) (upd H7 D (SetSO P w D (putS ks z))))
    (hd : ∀ H, Pv n H → Nx H) :
    ∃ W1 : Nat → Nat → Hp → Prop, (∃ m, W1 0 m H0) ∧ ∀ j k H, W1 j k H →
      (J1.stop j H ∧ Nx H) ∨ (J1.go j H ∧ ∃ Nx1 : Hp → Prop, (∀ H', Nx1 H' → ∃ k', k' < k ∧ W1 (j + 1) k' H') ∧ ∀ x H', J1.yld j H x H' → g1 x (wipe σ vs1) H' fun σ3 H5 => wipe σ3 vs1 = wipe σ vs1 ∧
        te σ3 H5 fun y H7 => ∃ z ks, y = .str z ∧ H7 D = some (SetSO P w D ks) ∧ ks.length + 1 < scanBound ∧ Nx1 (upd H7 D (SetSO P w D (putS ks z)))) := by
  refine ⟨fun i m H => m = n - i ∧ i ≤ n ∧ Pv i H, ⟨n, by simp, Nat.zero_le _, h0⟩, ?_⟩
  rintro i m H ⟨rfl, hi, p⟩
  have q := hG i H hi p
  by_cases hlt : i < n
  · exact .inr ⟨wk.goes i H hlt q, Pv (i + 1), fun H' p' => ⟨n - (i + 1), by omega, rfl, hlt, p'⟩, fun x H' y => hs i x H H' hlt p (wk.yields i H x H' hlt q y)⟩
  · obtain rfl : i = n := by omega
    exact .inl ⟨wk.stops H q, hd H p⟩
end
end L2

set_option Elab.async false
set_option linter.all false
set_option maxRecDepth 100000
set_option maxHeartbeats 1000000
/-! how many texts a set holds -/
namespace L2
open PySem PySem.Spec PyProof.Rows
theorem nodup_putS {ks : List Str} {x : Str} (h : ks.Nodup) : (putS ks x).Nodup := by
  unfold putS
  split
  · exact h
  · rename_i c
    exact List.nodup_cons.mpr ⟨c, h⟩
theorem nodup_putAll : ∀ {xs ks : List Str}, ks.Nodup → (putAll ks xs).Nodup
  | [], _, h => h
  | z :: xs, ks, h => nodup_putAll (xs := xs) (nodup_putS (x := z) h)
theorem putAll_small {l m : List Str} (h : ∀ x ∈ l, x ∈ m) : (putAll [] l).length ≤ m.length :=
  E2.nodup_le (nodup_putAll List.nodup_nil) fun x hx => by
    rcases mem_putAll.mp hx with z | z
    · cases z
    · exact h x z
theorem lets_take_mem {fm : Fm} {i : Nat} {x : Str} (h : x ∈ lets (fm.take i)) : x ∈ lets fm := by
  obtain ⟨y, hy, hx⟩ := List.mem_flatMap.mp h
  exact List.mem_flatMap.mpr ⟨y, List.mem_of_mem_take hy, hx⟩
end L2

set_option Elab.async false
set_option linter.all false
set_option maxRecDepth 100000
set_option maxHeartbeats 1000000
/-! a.letters() -/
namespace E2
open PySem PySem.Spec PyProof.Rows L2
open C8 (Cal Mak Met InsC pe_c pe_mt pe_mt0 call_isC clsBody)
section
variable {P : Program} {w : World} {K : PySem.W.Frag} {mg : Str → Option Value} {base : Heap} {C : Addr}
theorem scLetters : FnScope ["self", "names", "name"] ["self"] (defScope sLetters) := ⟨rfl, rfl, rfl, by decide +kernel, rfl, by decide +kernel, by decide +kernel⟩
theorem ok_letters {f : Addr} {fd : FuncData} (F : Fun K "letters" "Form.letters" sLetters f fd) (T : Fx P w K mg base C) (B : Bt3 mg) : FnOk P w K mg base CX0 2 f fd ["self"] (spLetters P w K C) := by
  refine F.ok scLetters (fun vs H Q E h => ?_) (fun cdv A outer s H vs Q E hr h => ?_)
  · obtain ⟨a, fm, rfl, _⟩ := h
    rfl
  · obtain ⟨a, fm, rfl, ⟨dx, d, kvs, ha, hd, hf⟩, hli, k⟩ := h
    refine ⟨_, pss_one (ps_ret (pe_callB (cr_sortedSS rfl) (by rfl) B.srt_ (by decide +kernel) (pa_cons (pe_lock (pe_sc2 (own := [("names", 1), ("name", 2)]) (vs1 := [2]) (g := gName 1) (wi1 := iTup K (tVar 1)) (g1 := gName 2) (te := tVar 2) rfl scLetters.nd (pi_keysN (pe_fld (pv 0) rfl))
      (blkOk_by (own := [("names", 1), ("name", 2)]) (N := ["self", "names", "name"]) (sc := defScope sLetters) (by decide +kernel)) (by decide)
      (fun _ _ _ _ _ => pg_name (i := 1) scLetters.nd rfl (Or.inl rfl)) (fun _ _ _ _ _ => pi_tup (pv 1)) (fun _ _ _ _ _ => pg_name (i := 2) scLetters.nd rfl (Or.inl rfl)) (fun _ _ _ _ _ => pv 2))) pa_nil))), ?_⟩
    have nad : a ≠ d := ne_of ha hd (by intro z; cases z)
    refine ⟨d, DfO P w d kvs, hd, trivial, fun od => ?_⟩
    refine ⟨_, rfl, a, C, dx, _, _, rfl, by rw [upd_ne nad]; exact ha, T.cl, T.na, rfl, d, od, kvs, rfl, upd_same, fun D nD => ?_⟩
    have neD : D ≠ d := by
      rintro rfl
      rw [upd_same] at nD
      cases nD
    have nDH : H D = none := by rwa [upd_ne neD] at nD
    have h1 : (upd H d (.frz od (DfO P w d kvs))) d = some (.frz od (DfO P w d kvs)) := upd_same
    have hf1 : FmKv K (upd H d (.frz od (DfO P w d kvs))) kvs fm := hf.imp (.off hd noTup_df)
    have small : ∀ l : List Str, (∀ z ∈ l, z ∈ lets fm) → (putAll [] l).length ≤ 1000 := fun l hl2 => by
      obtain ⟨names, n1, n2⟩ := hli
      refine Nat.le_trans (putAll_small (m := names) fun z hz => ?_) n1
      obtain ⟨x, hx, hxz⟩ := List.mem_flatMap.mp (hl2 z hz)
      exact n2 x hx z hxz
    have S0 : ∀ z : HO, Same H (upd (upd (upd H d (.frz od (DfO P w d kvs))) D z) d (DfO P w d kvs)) := fun z b o e => by
      by_cases c : b = d
      · subst c
        rw [upd_same, ← hd, e]
      · rw [upd_ne c, upd_ne (ne_of_none e nDH), upd_ne c]
        exact e
    generalize hH1 : upd H d (.frz od (DfO P w d kvs)) = H1 at hf1 nD h1 S0 ⊢
    refine sc2_it walk_keysN (fun i H' => H' = upd H1 D (SetSO P w D (putAll [] (lets (fm.take i))))) rfl (fun i H' _ e => by rw [e, upd_ne (Ne.symm neD)]; exact h1) ?_ ?_
    · rintro i x H' H'' hi rfl ⟨rfl, kk, b, av, hkv, rfl⟩
      obtain ⟨m, q, b', a1, hm, e, tb, sa⟩ := hf1.get hkv
      obtain ⟨rfl, e2⟩ := Prod.mk.inj e
      obtain ⟨rfl, rfl⟩ := Prod.mk.inj e2
      rw [kS_kV] at tb
      have hb : ∀ z : HO, SqT K (upd H1 D z) b (m.map V.str) := fun z => (tb.same (Same.upd nD)).sq
      have ltk := lets_take hm
      have ln := len_take_lets fm (i + 1)
      rw [ltk, List.length_append] at ln
      have ln : (lets (fm.take i)).length + m.length ≤ (lets fm).length := ln
      refine ⟨rfl, _, rfl, b, rfl, ⟨_, hb _⟩, ?_⟩
      refine sc2_in (walk_tup (xs := m.map V.str)) (fun j H' => H' = upd H1 D (SetSO P w D (putAll [] (lets (fm.take i) ++ m.take j)))) ?_ ?_ ?_ ?_
      · rw [List.take_zero, List.append_nil]
      · rintro j H' _ rfl
        exact hb _
      · rintro j x H' H'' hj rfl ⟨rfl, hx⟩
        rw [List.getElem?_map] at hx
        cases hz : m[j]? with
        | none => rw [hz] at hx; cases hx
        | some z =>
          rw [hz] at hx
          cases hx
          refine ⟨rfl, _, rfl, z, _, rfl, upd_same, ?_, ?_⟩
          · have := small (lets (fm.take i) ++ m.take j) (fun y hy => by
              have h1 : y ∈ lets (fm.take (i + 1)) := by
                rw [ltk]
                rcases List.mem_append.mp hy with h | h
                · exact List.mem_append.mpr (.inl h)
                · exact List.mem_append.mpr (.inr (List.mem_of_mem_take h))
              exact lets_take_mem h1)
            exact Nat.lt_of_le_of_lt (Nat.succ_le_succ this) (by decide)
          · rw [upd_upd, putAllS_snoc, List.append_assoc, ← take_snoc hz]
            rfl
      · rintro H' rfl
        rw [List.length_map, List.take_length, ltk]
    · rintro H' rfl
      rw [hf.length, List.take_length]
      refine ⟨by rw [upd_ne (Ne.symm neD)]; exact h1, D, _, rfl, by rw [upd_ne neD]; exact upd_same, fun ys pm nd so p H2 S np hp => ?_⟩
      refine k H2 p ys ((S0 _).trans S) ((S0 _).free np) hp (by rw [pm.length_eq]; exact small _ fun _ h => h) so (pm.nodup_iff.mpr nd) fun x => ?_
      rw [pm.mem_iff, mem_putAll]
      unfold lets
      rw [List.mem_flatMap]
      constructor
      · rintro (h | ⟨y, hy, hx⟩)
        · cases h
        · exact ⟨y.1, List.mem_map.mpr ⟨y, hy, rfl⟩, hx⟩
      · rintro ⟨m, hm, hx⟩
        obtain ⟨y, hy, rfl⟩ := List.mem_map.mp hm
        exact .inr ⟨y, hy, hx⟩
end
end E2

set_option Elab.async false
set_option linter.all false
set_option maxRecDepth 100000
set_option maxHeartbeats 1000000
/-! _law_put_once_right: the forms in numbers -/
namespace E2
open PySem PySem.Spec PyProof.Rows L2
instance (s : Str) : Decidable (LetOk s) := by unfold LetOk; infer_instance
def ls19 : List Str := ["a", "b", "c", "d", "e", "f", "g", "h", "i", "j", "k", "l", "m", "o", "p", "q", "r", "s", "t"]
def prG (k : Nat) : Fm := (ls19.take k).foldl (fun a z => mulF a (lF z)) (lF "n")
def toG (k : Nat) : Fm := (ls19.take k).foldl (fun a z => addF a (lF z)) (numM 0)
def poA (i : Nat) : Bool := smB (prG i) && smB (toG i) && smB (lF (ls19.getD i "a")) && decide (LetOk (ls19.getD i "a"))
def poF : Fm := putF "n" (prG 19) (toG 19)
def poB : Bool := smB (prG 19) && smB (toG 19) && szHB (toG 19) [] (powF "n" (prG 19)).reverse && smB poF && decide (poF.length = 19) && decide (degI poF = 20) && decide ((poF.map fun x => x.1.length).sum ≤ 1000) && poF.all (fun x => decide (("n" : Str) ∉ x.1))
def poC : Bool := smB (lF "n") && smB (mulF (toG 19) (lF "n")) && smB (numM 3) && szHB (numM 3) [] (powF "n" (mulF (toG 19) (lF "n"))).reverse && eqFm (putF "n" (mulF (toG 19) (lF "n")) (numM 3)) (mulF (toG 19) (numM 3))
theorem poA_all : ∀ i ∈ List.range 19, poA i = true := by decide +kernel
theorem poB_is : poB = true := by decide +kernel
theorem poC_is : poC = true := by decide +kernel
end E2

set_option Elab.async false
set_option linter.all false
set_option maxRecDepth 100000
set_option maxHeartbeats 1000000
/-! _law_purses -/
namespace E2
open PySem PySem.Spec PyProof.Rows L2
open C8 (Cal Mak Met InsC pe_c pe_mt pe_mt0 call_isC clsBody)
def spPurses (K : PySem.W.Frag) : Sp := fun vs H Q _ => ∃ (sc : Addr) (ns : List Int) (few : Int), vs = [.ref sc, .int few] ∧ 0 ≤ few ∧ few ≤ 63 ∧ SqL K H sc (ns.map V.int) ∧ ns.length ≤ 63 ∧ ∀ (H' : Hp) (p : Addr) (as : List Addr), Same H H' → H' p = some (.lst (as.map V.ref)) → as.Nodup → (∀ b ∈ as, PurseAt H' b (2 ^ 60)) → p ∉ as → Q (.ref p) H'
theorem pne {H : Hp} {D b : Addr} {as : List Addr} {n : Nat} (hD : H D = some (.lst (as.map V.ref))) (hb : PurseAt H b n) : b ≠ D := by
  rintro rfl
  obtain ⟨p0, p1, p2, p3, e, _⟩ := hb
  rw [hD] at e
  cases as with
  | nil => cases e
  | cons x xs => cases e
theorem PurseAt.off {H : Hp} {D b : Addr} {n : Nat} {o : HO} (hb : PurseAt H b n) (ne : b ≠ D) : PurseAt (upd H D o) b n := by
  obtain ⟨p0, p1, p2, p3, e, r⟩ := hb
  exact ⟨p0, p1, p2, p3, by rw [upd_ne ne]; exact e, r⟩
section
variable {P : Program} {w : World} {K : PySem.W.Frag} {mg : Str → Option Value} {base : Heap} {C : Addr}
theorem scPurses : FnScope ["_law_script", "_law_few", "_law_at"] ["_law_script", "_law_few"] (defScope sPurses) := ⟨rfl, rfl, rfl, by decide +kernel, rfl, by decide +kernel, by decide +kernel⟩
theorem ok_purses {f : Addr} {fd : FuncData} (F : Fun K "_law_purses" "_law_purses" sPurses f fd) (B : Bt4 mg) (Pu : Cal P w K mg base 1 "_law_purse" (spPurse K) []) : FnOk P w K mg base CX0 2 f fd ["_law_script", "_law_few"] (spPurses K) := by
  refine F.ok scPurses (fun vs H Q E h => ?_) (fun cdv A outer s H vs Q E hr h => ?_)
  · obtain ⟨sc, ns, few, rfl, _⟩ := h
    rfl
  · obtain ⟨sc, ns, few, rfl, f0, f63, hs, hl, k⟩ := h
    refine ⟨_, pss_one (ps_ret (pe_lc (own := [("_law_at", 2)]) (g := gName 2) (tt := tYes) (te := tCall (spPurse K) [] E0 (tCons (tVar 0) (tCons (tVar 2) tNil))) rfl scPurses.nd (pi_range1 rfl B.rng_ (pa_cons (pe_callB (call_max2 rfl) (by rfl) B.max_ (by decide +kernel) (pa_cons pe_int (pa_cons (pe_callB (call_min2 rfl) (by rfl) B.min_ (by decide +kernel) (pa_cons (pv 1) (pa_cons (pe_callB call_len_seq (by rfl) B.len_ PySem.boot_len (pa_cons (pv 0) pa_nil)) pa_nil))) pa_nil))) pa_nil))
      (blkOk_by (own := [("_law_at", 2)]) (N := ["_law_script", "_law_few", "_law_at"]) (sc := defScope sPurses) (by decide +kernel))
      (fun _ _ _ _ _ => pg_name (i := 2) scPurses.nd rfl (Or.inl rfl)) (fun _ _ _ _ _ => pts_nil) (fun _ _ _ _ _ => by exact pe_c Pu hr (by decide) rfl (pa_cons (pv 0) (pa_cons (pv 2) pa_nil))))), ?_⟩
    refine ret_of ⟨_, rfl, _, rfl, sc, _, rfl, .inl hs, _, _, rfl, _, _, rfl, _, rfl, ?_, ?_, fun D nD => ?_⟩
    · split <;> split <;> omega
    · rw [List.length_map]
      split <;> split <;> omega
    refine lc_it walk_range (fun i H' => Same H H' ∧ ∃ as : List Addr, as.length = i ∧ H' D = some (.lst (as.map V.ref)) ∧ as.Nodup ∧ ∀ b ∈ as, PurseAt H' b (2 ^ 60)) ⟨Same.upd nD, [], rfl, upd_same, List.nodup_nil, fun b hb => absurd hb List.not_mem_nil⟩ (fun _ _ _ _ => trivial) ?_ ?_
    · rintro i x H1 H2 hi ⟨S, as, la, hD, nd, hp⟩ ⟨rfl, rfl⟩
      have hi20 : i < 64 := by
        rw [List.length_map] at hi
        refine Nat.lt_of_lt_of_le hi ?_
        split <;> split <;> omega
      refine ⟨rfl, iteT (B := False) ⟨_, rfl, _, rfl, sc, 0 + (i : Int), ns, rfl, hs.same S, by omega, by omega, fun H3 p S3 np hp3 => ?_⟩⟩
      have hD3 := S3 _ _ hD
      have npa : p ∉ as := fun h => by
        obtain ⟨ys, e⟩ := (hp p h).lst
        rw [np] at e
        cases e
      refine ⟨_, hD3, by rw [List.length_map, la, sizeLine_eq]; omega, fun c o e => ?_, as ++ [p], by rw [List.length_append, la]; rfl, by rw [upd_same, List.map_append]; rfl, ?_, fun b hb => ?_⟩
      · rw [upd_ne (ne_of_none e nD)]
        exact S3 _ _ (S _ _ e)
      · exact List.nodup_append.mpr ⟨nd, List.nodup_cons.mpr ⟨List.not_mem_nil, List.nodup_nil⟩, fun x hx y hy => by
          rw [List.mem_singleton.mp hy]
          rintro rfl
          exact npa hx⟩
      · rcases List.mem_append.mp hb with h | h
        · exact ((hp b h).same S3).off (pne hD (hp b h))
        · rw [List.mem_singleton.mp h]
          exact hp3.off (pne hD3 hp3)
    · rintro H1 ⟨S, as, la, hD, nd, hp⟩
      exact k H1 D as S hD nd hp fun h => pne hD (hp D h) rfl
end
end E2

set_option Elab.async false
set_option linter.all false
set_option maxRecDepth 100000
set_option maxHeartbeats 1000000
/-! _law_put_once_right -/
namespace E2
open PySem PySem.Spec PyProof.Rows L2
open C8 (Cal Mak Met InsC pe_c pe_mt pe_mt0 call_isC clsBody)
open LamX (Tabs ExtN TabB CodeO)
abbrev sPutOnce : Stmt := top 39
structure OpI (P : Program) (w : World) (K : PySem.W.Frag) (mg : Str → Option Value) (base : Heap) (k : Nat) (C : Addr) (name : String) (sp : Sp) : Prop where
  ex : ∃ (f : Addr) (fd : FuncData) (ps : List Str), OwnOpI K C name f ∧ FnOk P w K mg base CX0 k f fd ps sp ∧ Binds K fd ps []
def spTrueT (TT : List (Addr × Str)) : Sp := fun vs H Q _ => vs = [] ∧ Tabs TT H ∧ ∀ H', ExtN H H' → Tabs TT H' → Q (.bl true) H'
theorem FmAt.ext {P : Program} {w : World} {K : PySem.W.Frag} {C : Addr} {H H' : Hp} {a : Addr} {fm : Fm} (h : FmAt P w K C H a fm) (ex : ExtN H H') : FmAt P w K C H' a fm := by
  have mv : Mv K H H' := by
    constructor
    · intro a xs h
      rcases h with (h | ⟨o, h⟩) | h
      · exact .inl (.inl (ex _ _ h fun _ z => nomatch z))
      · exact .inl (.inr ⟨o, ex _ _ h fun _ z => nomatch z⟩)
      · exact .inr h
    · rintro q xs ⟨o, h1, h2⟩
      exact ⟨o, ex _ _ h1 (fun _ z => nomatch z), h2⟩
  obtain ⟨dx, d, kvs, h1, h2, h3⟩ := h
  exact ⟨dx, d, kvs, ex _ _ h1 (fun _ z => nomatch z), ex _ _ h2 (fun _ z => nomatch (show HO.ext _ = _ from z)), h3.imp mv⟩
theorem mul_int {P : Program} {w : World} {K : PySem.W.Frag} {C : Addr} {H : Hp} {a : Addr} {n : Int} {fa : Fm} {Q : VK} (ha : FmAt P w K C H a fa) (z : SzM fa (numM n)) (k : ∀ H' c, Same H H' → H c = none → FmAt P w K C H' c (mulF fa (numM n)) → Q (.ref c) H') : rOwnI C (spMul P w K C) (.ref a) (.int n) H Q := by
  obtain ⟨dx, d, kvs, h1, h2, h3⟩ := ha
  exact ⟨a, n, dx, _, rfl, rfl, h1, a, _, fa, numM n, rfl, ⟨dx, d, kvs, h1, h2, h3⟩, .inl ⟨n, rfl, rfl⟩, z, fun H' c l S n p f => k H' c S n (by rw [mulT_list p] at f; exact f)⟩
theorem mul_own {P : Program} {w : World} {K : PySem.W.Frag} {C : Addr} {H : Hp} {a b : Addr} {fa fb : Fm} {Q : VK} (ha : FmAt P w K C H a fa) (hb : FmAt P w K C H b fb) (z : SzM fa fb) (k : ∀ H' c, Same H H' → H c = none → FmAt P w K C H' c (mulF fa fb) → Q (.ref c) H') : rOwn C (spMul P w K C) (.ref a) (.ref b) H Q := by
  obtain ⟨x, y, u, v, h1, h2⟩ := own_refs ha hb
  exact ⟨a, b, x, _, u, _, rfl, rfl, h1, h2, mul_refs ha hb z k⟩
theorem add_own {P : Program} {w : World} {K : PySem.W.Frag} {C : Addr} {H : Hp} {a b : Addr} {fa fb : Fm} {Q : VK} (ha : FmAt P w K C H a fa) (hb : FmAt P w K C H b fb) (z : Szs fa fb) (k : ∀ H' c, Same H H' → H c = none → FmAt P w K C H' c (addF fa fb) → Q (.ref c) H') : rOwn C (spAdd P w K C) (.ref a) (.ref b) H Q := by
  obtain ⟨x, y, u, v, h1, h2⟩ := own_refs ha hb
  exact ⟨a, b, x, _, u, _, rfl, rfl, h1, h2, add_refs ha hb z k⟩
theorem eq_form {P : Program} {w : World} {K : PySem.W.Frag} {C : Addr} {H : Hp} {a b : Addr} {fa fb : Fm} {Q : VK} (ha : FmAt P w K C H a fa) (hb : FmAt P w K C H b fb) (q : Q (.bl (eqFm fa fb)) H) : rEqO P w K C (.ref a) (.ref b) H Q :=
  ⟨a, b, fa, fb, rfl, rfl, ha, hb, q⟩
theorem insF {P : Program} {w : World} {K : PySem.W.Frag} {C : Addr} {H : Hp} {b : Addr} {fm : Fm} (h : FmAt P w K C H b fm) : ∃ dx d, H b = some (.ins C dx [("_parts", V.ref d)]) := let ⟨dx, d, _, h1, _⟩ := h; ⟨dx, d, h1⟩
theorem inV3 (x : Str) : ∀ ys : List Str, inV (.str x) (ys.map V.str) = decide (x ∈ ys)
  | [] => rfl
  | y :: r => by
    have ih := inV3 x r
    unfold inV at ih ⊢
    rw [List.map_cons, List.any_cons, ih]
    by_cases c : x = y
    · subst c
      rw [show eqV (.str x) (.str x) = true by simp [eqV], decide_eq_true (List.mem_cons_self)]
      rfl
    · rw [show eqV (.str y) (.str x) = false by simp [eqV]; exact fun z => c z.symm, Bool.false_or]
      simp [c]
theorem flat3 (ys : List Str) : (ys.map V.str).all flatV = true := by
  rw [List.all_map]
  exact List.all_eq_true.mpr fun _ _ => rfl
theorem prG_snoc {i : Nat} (h : i < 19) : prG (i + 1) = mulF (prG i) (lF (ls19.getD i "a")) := by
  unfold prG
  have e : ls19[i]? = some (ls19.getD i "a") := by
    rw [List.getElem?_eq_getElem (show i < ls19.length from h), List.getD_eq_getElem?_getD, List.getElem?_eq_getElem (show i < ls19.length from h)]; rfl
  rw [take_snoc e, List.foldl_append]; rfl
theorem toG_snoc {i : Nat} (h : i < 19) : toG (i + 1) = addF (toG i) (lF (ls19.getD i "a")) := by
  unfold toG
  have e : ls19[i]? = some (ls19.getD i "a") := by
    rw [List.getElem?_eq_getElem (show i < ls19.length from h), List.getD_eq_getElem?_getD, List.getElem?_eq_getElem (show i < ls19.length from h)]; rfl
  rw [take_snoc e, List.foldl_append]; rfl
def txt19 : Str := "abcdefghijklmopqrst"
theorem sign_is : ∀ i ∈ List.range 19, txt19.cps[i]?.map (fun c => (⟨#[c]⟩ : Str)) = some (ls19.getD i "a") := by decide +kernel
section
variable {P : Program} {w : World} {K : PySem.W.Frag} {mg : Str → Option Value} {base : Heap} {C : Addr}
theorem scPutOnce : FnScope ["_law_product", "_law_total", "_law_letters", "_law_sign", "_law_built"] [] (defScope sPutOnce) := ⟨rfl, rfl, rfl, by decide +kernel, rfl, by decide +kernel, by decide +kernel⟩
theorem ok_putOnce {TT : List (Addr × Str)} {f : Addr} {fd : FuncData} (F : Fun K "_law_put_once_right" "_law_put_once_right" sPutOnce f fd) (hlen : mg "len" = none)
    (Le : Cal P w K mg base 3 "letter" (spLetter P w K C) []) (Nu : Cal P w K mg base 3 "number" (spNumber P w K C) []) (Oa : OpM P w K mg base 5 C "__add__" (spAdd P w K C)) (Om : OpM P w K mg base 5 C "__mul__" (spMul P w K C)) (Im : OpI P w K mg base 5 C "mul" (spMul P w K C)) (Ne : EqM P w K mg base 1 C)
    (Te : Met P w K mg base 2 C "terms" (spTerms TT P w K C) []) (De : Met P w K mg base 1 C "degree" (spDeg P w K C) []) (Ls : Met P w K mg base 2 C "letters" (spLetters P w K C) []) (Pu : Met P w K mg base 6 C "put" (spPut P w K C) []) :
    FnOk P w K mg base CX0 7 f fd [] (spTrueT TT) := by
  obtain ⟨fa, fda, pa, oa, Fa, ba⟩ := Oa.ex
  obtain ⟨fm_, fdm, pm, om, Fm_, bm⟩ := Om.ex
  obtain ⟨gm, gdm, qm, im, Gm, cm⟩ := Im.ex
  refine F.ok scPutOnce (fun vs H Q E h => ?_) (fun cdv A outer s H vs Q E hr h => ?_)
  · obtain ⟨rfl, _⟩ := h
    rfl
  · obtain ⟨rfl, tb, k⟩ := h
    refine ⟨_, pss_cons (ps_par3 (i := 0) (j := 1) (l := 2) (by rfl) scPutOnce.nd rfl rfl rfl (by decide) (by decide) (by decide) rfl rfl rfl (pa_cons (pe_c Le hr (by decide) rfl (pa_cons pe_str pa_nil)) (pa_cons (pe_c Nu hr (by decide) rfl (pa_cons pe_int pa_nil)) (pa_cons pe_str pa_nil))) (by rfl))
      (pss_cons (ps_for PassesOwn.never rfl (pi_str (pv 2)) (pg_name (i := 3) scPutOnce.nd rfl (Or.inl rfl))
        (pss_one (ps_par (i := 0) (j := 1) (by rfl) scPutOnce.nd rfl rfl (by decide) rfl rfl (pa_cons (pe_op (op_own (op := .Mult) om Fm_ (hr.mono (by decide)) bm) (pv 0) (pe_c Le hr (by decide) rfl (pa_cons (pv 3) pa_nil))) (pa_cons (pe_op (op_own (op := .Add) oa Fa (hr.mono (by decide)) ba) (pv 1) (pe_c Le hr (by decide) rfl (pa_cons (pv 3) pa_nil))) pa_nil)) (by rfl))))
      (pss_cons (ps_set (i := 4) scPutOnce.nd rfl (Or.inl rfl) (pe_mt Pu hr (by decide) (pv 0) (pa_cons pe_str (pa_cons (pv 1) pa_nil))))
      (pss_cons (ps_if (PW.pt (pw_or (pt_cmpR op_ne (pe_callB call_len_seq (by rfl) hlen PySem.boot_len (pa_cons (pe_mt0 Te hr (by decide) (pv 4)) pa_nil)) pe_int (nomark _)) (pw_or (pt_cmpR op_ne (pe_mt0 De hr (by decide) (pv 4)) pe_int (nomark _)) (pw_or1 (pt_cmpR op_in_seq pe_str (pe_mt0 Ls hr (by decide) (pv 4)) (by rfl)))))) (pss_one (ps_ret pe_bl)) pss_nil)
      (pss_one (ps_ret (pe_cmpR (op_eqO Ne hr (by decide)) (pe_mt Pu hr (by decide) (pe_op (op_own (op := .Mult) om Fm_ (hr.mono (by decide)) bm) (pv 1) (pe_c Le hr (by decide) rfl (pa_cons pe_str pa_nil))) (pa_cons pe_str (pa_cons (pe_c Nu hr (by decide) rfl (pa_cons pe_int pa_nil)) pa_nil)))
        (pe_op (op_ownI (op := .Mult) im Gm (hr.mono (by decide)) cm) (pv 1) pe_int) (nomark _))))))), ?_⟩
    have letn : LetOk "n" := by decide
    have pb : smB (prG 19) = true ∧ smB (toG 19) = true ∧ szHB (toG 19) [] (powF "n" (prG 19)).reverse = true ∧ smB poF = true ∧ poF.length = 19 ∧ degI poF = 20 ∧ (poF.map fun x => x.1.length).sum ≤ 1000 ∧ ∀ x ∈ poF, ("n" : Str) ∉ x.1 := by
      have h := poB_is
      unfold poB at h
      simp only [Bool.and_eq_true] at h
      obtain ⟨⟨⟨⟨⟨⟨⟨h1, h2⟩, h3⟩, h4⟩, h5⟩, h6⟩, h7⟩, h8⟩ := h
      exact ⟨h1, h2, h3, h4, of_decide_eq_true h5, of_decide_eq_true h6, of_decide_eq_true h7, fun x hx => of_decide_eq_true (List.all_eq_true.mp h8 x hx)⟩
    have pc : smB (lF "n") = true ∧ smB (mulF (toG 19) (lF "n")) = true ∧ smB (numM 3) = true ∧ szHB (numM 3) [] (powF "n" (mulF (toG 19) (lF "n"))).reverse = true ∧ eqFm (putF "n" (mulF (toG 19) (lF "n")) (numM 3)) (mulF (toG 19) (numM 3)) = true := by
      have h := poC_is
      unfold poC at h
      simp only [Bool.and_eq_true] at h
      obtain ⟨⟨⟨⟨h1, h2⟩, h3⟩, h4⟩, h5⟩ := h
      exact ⟨h1, h2, h3, h4, h5⟩
    obtain ⟨b1, b2, b3, b4, b5, b6, b7, b8⟩ := pb
    obtain ⟨c1, c2, c3, c4, c5⟩ := pc
    have szl := sz_lt
    refine ⟨"n", rfl, letn, fun H1 a1 S1 n1 f1 => ⟨0, rfl, fun H2 a2 S2 n2 f2 => ⟨_, _, _, rfl, ?_⟩⟩⟩
    dsimp only
    refine ⟨_, rfl, txt19, rfl, for_it (walk_str (z := txt19)) (fun i σ' H' => ∃ (p t : Addr) (u v : Option V), σ' = [some (.ref p), some (.ref t), some (.str txt19), u, v] ∧ Same H H' ∧ FmAt P w K C H' p (prG i) ∧ FmAt P w K C H' t (toG i))
      ⟨a1, a2, none, none, rfl, S1.trans S2, FmAt.same f1 S2, f2⟩ (fun _ _ _ _ _ => trivial) ?_ ?_⟩
    · rintro i x σ' H3 H4 hi ⟨p, t, u, v, rfl, S3, fp, ft⟩ ⟨rfl, c, hcz, rfl⟩
      have i19 : i < 19 := hi
      have sg := sign_is i (List.mem_range.mpr i19)
      rw [hcz] at sg
      have sg : (⟨#[c]⟩ : Str) = ls19.getD i "a" := Option.some.inj sg
      rw [sg]
      have pa1 := poA_all i (List.mem_range.mpr i19)
      unfold poA at pa1
      simp only [Bool.and_eq_true] at pa1
      obtain ⟨⟨⟨p1, p2⟩, p3⟩, p4⟩ := pa1
      have p4 := of_decide_eq_true p4
      refine ⟨_, rfl, _, rfl, _, rfl, p4, fun H5 d5 S5 n5 f5 => ?_⟩
      refine mul_own (FmAt.same fp S5) f5 (szm_of p1 p3) fun H6 e6 S6 n6 f6 => ?_
      refine ⟨_, rfl, _, rfl, _, rfl, p4, fun H7 d7 S7 n7 f7 => ?_⟩
      refine add_own (FmAt.same (FmAt.same (FmAt.same ft S5) S6) S7) f7 (szs_of p2 p3) fun H8 e8 S8 n8 f8 => ⟨_, _, rfl, e6, e8, _, _, rfl, (((S3.trans S5).trans S6).trans S7).trans S8, ?_, ?_⟩
      · rw [prG_snoc i19]; exact FmAt.same (FmAt.same f6 S7) S8
      · rw [toG_snoc i19]; exact f8
    · rintro σ' H3 ⟨p, t, u, v, rfl, S3, fp, ft⟩
      have fp : FmAt P w K C H3 p (prG 19) := fp
      have ft : FmAt P w K C H3 t (toG 19) := ft
      obtain ⟨sp1, sp2, sp3⟩ := sm_mem b1
      obtain ⟨dxp, dp, ip⟩ := insF fp
      dsimp only
      refine seq_asg ?_
      refine ⟨_, rfl, p, dxp, _, rfl, ip, rfl, _, rfl, p, t, "n", prG 19, toG 19, rfl, letn, fp, ft, sp3, by omega, fun x hx => Nat.le_trans (sp1 x hx).2.2 (by decide), szh_of b3, fun H4 b S4 nb4 fb => ?_⟩
      have fb : FmAt P w K C H4 b poF := fb
      obtain ⟨sq1, sq2, sq3⟩ := sm_mem b4
      obtain ⟨dxb, db, ib⟩ := insF fb
      have tb4 := (tb.ext S3).ext S4
      refine ⟨_, rfl, b, dxb, _, rfl, ib, rfl, b, poF, rfl, fb, sq3, by omega, fun x hx => Nat.le_trans (sq1 x hx).2.2 (by decide), tb4, fun H5 p5 zs ex5 tb5 np5 hp5 tz nd fz => ?_⟩
      have lz : zs.length = 19 := by
        have h1 := Paired.length tz
        have h2 : (trs poF).length = poF.length := by
          unfold trs sortM
          rw [List.length_map, List.length_mergeSort, List.length_map]
        omega
      refine ⟨p5, _, rfl, .inl (SqL.of hp5), rfl, _, rfl, ifF (by rw [List.length_map, lz]; rfl) ?_⟩
      have fb5 := FmAt.ext fb ex5
      obtain ⟨dxb5, db5, ib5⟩ := insF fb5
      refine ⟨_, rfl, b, dxb5, _, rfl, ib5, rfl, b, poF, rfl, fb5, by omega, fun x hx => Nat.le_trans (sq1 x hx).2.2 (by decide), fun H6 S6 => ⟨rfl, _, rfl, ifF (by rw [b6]; rfl) ?_⟩⟩
      have fb6 := FmAt.same fb5 S6
      obtain ⟨dxb6, db6, ib6⟩ := insF fb6
      refine ⟨_, rfl, b, dxb6, _, rfl, ib6, rfl, b, poF, rfl, fb6, letsIn_of b7, fun H7 p7 xs S7 np7 hp7 lx so ndx hmem => ?_⟩
      have nin : ("n" : Str) ∉ xs := fun z => by
        obtain ⟨m, hm, hz⟩ := (hmem _).mp z
        obtain ⟨x, hx, rfl⟩ := List.mem_map.mp hm
        exact b8 x hx hz
      refine ⟨p7, _, rfl, .inl (SqL.of hp7), rfl, flat3 _, _, rfl, ifF (by rw [if_neg Bool.false_ne_true, inV3, decide_eq_false nin]) ?_⟩
      dsimp only [tNext]
      have ex7 : ExtN H4 H7 := (ex5.trans (.of S6)).trans (.of S7)
      have tb7 := (tb5.ext S6).ext S7
      have ft7 := FmAt.ext (FmAt.same ft S4) ex7
      refine ret_of ?_
      refine ⟨_, rfl, "n", rfl, letn, fun H8 d8 S8 n8 f8 => ?_⟩
      refine mul_own (FmAt.same ft7 S8) f8 (szm_of b2 c1) fun H9 e9 S9 n9 f9 => ?_
      obtain ⟨dxe, de, ie⟩ := insF f9
      obtain ⟨sr1, sr2, sr3⟩ := sm_mem c2
      refine ⟨e9, dxe, _, rfl, ie, rfl, 3, rfl, fun H10 z10 S10 n10 f10 => ⟨e9, z10, "n", mulF (toG 19) (lF "n"), numM 3, rfl, letn, FmAt.same f9 S10, f10, sr3, by omega, fun x hx => Nat.le_trans (sr1 x hx).2.2 (by decide), szh_of c4, fun H11 r S11 n11 f11 => ⟨_, rfl, ?_⟩⟩⟩
      have SS := (((S8.trans S9).trans S10).trans S11)
      refine mul_int (FmAt.same ft7 SS) (szm_of b2 c3) fun H12 y S12 n12 f12 => ?_
      refine eq_form (FmAt.same f11 S12) f12 ?_
      rw [c5]
      have Sa := SS.trans S12
      exact k H12 ((((ExtN.of (S3.trans S4)).trans ex7).trans (.of Sa))) (tb7.ext Sa)
end
end E2

set_option Elab.async false
set_option linter.all false
set_option maxRecDepth 100000
set_option maxHeartbeats 1000000
/-! forms with fractions over one bottom: their sizes by a check; what terms() hands out, as data -/
namespace E2
open PySem PySem.Spec PyProof.Rows L2
def D0 : Nat := 36 * 10 ^ 20
def M0 : Nat := 10 ^ 60
def smQ (fm : Fm) : Bool := fm.all (fun x => decide (D0 = x.2.den * (D0 / x.2.den)) && decide ((x.2.num * ((D0 / x.2.den : Nat) : Int)).natAbs ≤ M0) && decide (x.1.length ≤ 100)) && decide (fm.length ≤ 100) && decide (fm.map (·.1)).Nodup
theorem bq_D0 {q : Rat} (h1 : D0 = q.den * (D0 / q.den)) (h2 : (q.num * ((D0 / q.den : Nat) : Int)).natAbs ≤ M0) : Bq D0 M0 q := by
  refine ⟨_, ?_, h2⟩
  have e1 : q * (q.den : Rat) = (q.num : Rat) := (rat_num q).symm
  have e2 : (D0 : Rat) = (q.den : Rat) * ((D0 / q.den : Nat) : Rat) := by
    rw [← Rat.natCast_mul, ← h1]
  rw [e2, ← Rat.mul_assoc, e1, Rat.intCast_mul]
  rfl
theorem smQ_mem {fm : Fm} (h : smQ fm = true) : (∀ x ∈ fm, Bq D0 M0 x.2 ∧ x.1.length ≤ 100) ∧ fm.length ≤ 100 ∧ (fm.map (·.1)).Nodup := by
  unfold smQ at h
  rw [Bool.and_eq_true, Bool.and_eq_true] at h
  obtain ⟨⟨h1, h2⟩, h3⟩ := h
  refine ⟨fun x hx => ?_, of_decide_eq_true h2, of_decide_eq_true h3⟩
  have := List.all_eq_true.mp h1 x hx
  rw [Bool.and_eq_true, Bool.and_eq_true] at this
  exact ⟨bq_D0 (of_decide_eq_true this.1.1) (of_decide_eq_true this.1.2), of_decide_eq_true this.2⟩
theorem pw2 (n : Nat) (h : n < 2 ^ 1000) : n < 2 ^ 400000 := Nat.lt_of_lt_of_le h (Nat.pow_le_pow_right (by decide) (by decide))
theorem pw3 (n : Nat) (h : n < 2 ^ 1000) : n < 2 ^ 4000 := Nat.lt_of_lt_of_le h (Nat.pow_le_pow_right (by decide) (by decide))
theorem szsQ_of {a b : Fm} (ha : smQ a = true) (hb : smQ b = true) : Szs a b := by
  obtain ⟨a1, a2, a3⟩ := smQ_mem ha
  obtain ⟨b1, b2, b3⟩ := smQ_mem hb
  have z := sz_lt
  have l1 : b.length * M0 ≤ 100 * M0 := Nat.mul_le_mul_right _ b2
  have l2 : M0 + 100 * M0 < 2 ^ 1000 := by decide +kernel
  exact ⟨a3, b3, by omega, D0, M0, M0, by decide +kernel, pw3 _ (by decide +kernel), pw2 _ (by omega), pw2 _ (by decide +kernel), fun x hx => (a1 x hx).1, fun x hx => (b1 x hx).1⟩
theorem szmQ_of {a b : Fm} (ha : smQ a = true) (hb : smQ b = true) : SzM a b := by
  obtain ⟨a1, a2, a3⟩ := smQ_mem ha
  obtain ⟨b1, b2, b3⟩ := smQ_mem hb
  have z := sz_lt
  have l : a.length * b.length ≤ 100 * 100 := Nat.mul_le_mul a2 b2
  have l1 : a.length * b.length * (M0 * M0) ≤ 100 * 100 * (M0 * M0) := Nat.mul_le_mul_right _ l
  have l2 : 100 * 100 * (M0 * M0) < 2 ^ 1000 := by decide +kernel
  exact ⟨a3, b3, by omega, fun x hx y hy => by have := (a1 x hx).2; have := (b1 y hy).2; omega, D0, M0, D0, M0, by decide +kernel, by decide +kernel, pw3 _ (by decide +kernel), pw2 _ (by omega), pw2 _ (by decide +kernel), pw2 _ (by decide +kernel), pw2 _ (by decide +kernel), fun x hx => (a1 x hx).1, fun x hx => (b1 x hx).1⟩
def szHQ (o : Fm) : Fm → List Fm → Bool
  | _, [] => true
  | a, p :: r => smQ a && smQ o && smQ (mulF a o) && smQ p && szHQ o (addF (mulF a o) p) r
theorem szhQ_of {o : Fm} : ∀ {ps : List Fm} {a : Fm}, szHQ o a ps = true → SzH o a ps
  | [], _, _ => trivial
  | p :: r, a, h => by
    unfold szHQ at h
    rw [Bool.and_eq_true, Bool.and_eq_true, Bool.and_eq_true, Bool.and_eq_true] at h
    obtain ⟨⟨⟨⟨h1, h2⟩, h3⟩, h4⟩, h5⟩ := h
    exact ⟨szmQ_of h1 h2, szsQ_of h3 h4, szhQ_of h5⟩
/-- what terms() hands out -/
def trD (fm : Fm) : PyData := .list (fm.map fun x => .tuple [.int x.2.num, .int (x.2.den : Int), .list (x.1.map PyData.str)])
theorem dp_trm {K : PySem.W.Frag} {H : Hp} {z : Addr × Addr} {x : Mon × Rat} (h : TrmAt H z x) : Dp K H (.ref z.1) (.tuple [.int x.2.num, .int (x.2.den : Int), .list (x.1.map PyData.str)]) :=
  .tup (SqT.of h.1) (.cons (.int _) (.cons (.int _) (.cons (.lst (SqL.of h.2) (dp_strs _)) .nil)))
theorem dp_trms {K : PySem.W.Frag} {H : Hp} {zs : List (Addr × Addr)} {fm : Fm} (h : TermsAt H zs fm) : DpAll K H (zs.map fun z => V.ref z.1) (fm.map fun x => PyData.tuple [.int x.2.num, .int (x.2.den : Int), .list (x.1.map PyData.str)]) := by
  unfold TermsAt at h
  induction h with
  | nil => exact .nil
  | cons r t ih => exact .cons (dp_trm r) ih
theorem dp_terms {K : PySem.W.Frag} {H : Hp} {p : Addr} {zs : List (Addr × Addr)} {fm : Fm} (hp : H p = some (.lst (zs.map fun z => V.ref z.1))) (h : TermsAt H zs fm) : Dp K H (.ref p) (trD fm) := .lst (SqL.of hp) (dp_trms h)
/-- a list of terms as a literal has it -/
def litD (l : List (Int × Int × List Str)) : PyData := .list (l.map fun x => .tuple [.int x.1, .int x.2.1, .list (x.2.2.map PyData.str)])
/-! _law_fractions_right, in numbers -/
def fN : Fm := lF "n"
def fM : Fm := lF "m"
def ovF (fm : Fm) (n : Int) : Fm := mapM (fun _ => true) (fun q => q * Rat.divInt 1 n) fm
def fSq : Fm := addF (mulF fN fN) (ovF fM 3)
def fHalf : Fm := putF "n" fSq (ovF fM 2)
def far : Int := 10 ^ 20
def negF (a : Fm) : Fm := mapM (fun _ => true) (fun q => -q) a
def subF (a b : Fm) : Fm := addF a (negF b)
def frA : Bool := smQ fN && smQ fM && smQ (ovF fM 3) && smQ (mulF fN fN) && smQ fSq && smQ (ovF fM 2) && szHQ (ovF fM 2) [] (powF "n" fSq).reverse && smQ fHalf
def frB : Bool := decide (degI fHalf = 2) && eqFm fHalf (addF (ovF (mulF fM fM) 4) (ovF fM 3)) && smQ (mulF fM fM) && smQ (ovF (mulF fM fM) 4)
def frC : Bool := smQ (subF fN fM) && smQ (negF fM) && szHQ fM [] (powF "n" (subF fN fM)).reverse && decide (putF "n" (subF fN fM) fM = []) && smQ (ovF fN 2) && smQ (numM 2) && smQ (mulF fM (numM 2)) && szHQ (mulF fM (numM 2)) [] (powF "n" (ovF fN 2)).reverse && eqFm (putF "n" (ovF fN 2) (mulF fM (numM 2))) fM
def frD : Bool := smQ (ovF fN far) && smQ (numM far) && smQ (mulF fN (numM far)) && smQ (numM 10) && eqFm (ovF (mulF fN (numM far)) (10 ^ 19)) (mulF fN (numM 10))
def frE : Bool := smQ (ovF fN (-3)) && smQ (negF fN) && smQ (subF fN fN) && szHQ fM [] (powF "n" (subF fN fN)).reverse && eqFm (putF "n" (subF fN fN) fM) (subF fN fN)
theorem frB_is : frB = true := by decide +kernel
theorem frC_is : frC = true := by decide +kernel
theorem frD_is : frD = true := by decide +kernel
theorem frE_is : frE = true := by decide +kernel
end E2

set_option Elab.async false
set_option linter.all false
set_option maxRecDepth 100000
set_option maxHeartbeats 1000000
set_option exponentiation.threshold 500000
/-! sizes of forms: how many terms, how many letters in a term, one denominator, how many bits -/
namespace E2
open PySem PySem.Spec PyProof.Rows L2
structure Bd (names : List Str) (fm : Fm) (n L D b : Nat) : Prop where
  can : Canon fm
  len : fm.length ≤ n
  key : ∀ x ∈ fm, x.1.length ≤ L ∧ ∀ z ∈ x.1, z ∈ names
  bq : ∀ x ∈ fm, Bq D (2 ^ b) x.2
structure Ok (n L D b : Nat) : Prop where
  n_ : n ≤ 2000
  l_ : L ≤ 100
  d0 : 0 < D
  d_ : D ≤ 2 ^ 100
  b_ : b ≤ 20000
theorem p2 {a b : Nat} (h : a ≤ b) : 2 ^ a ≤ 2 ^ b := Nat.pow_le_pow_right (by decide) h
section
variable {names : List Str} {f1 f2 fm : Fm} {n n1 n2 L L1 L2 D D1 D2 b b1 b2 : Nat}
theorem Bd.mono {n' L' b' : Nat} (A : Bd names fm n L D b) (hn : n ≤ n') (hL : L ≤ L') (hb : b ≤ b') : Bd names fm n' L' D b' :=
  ⟨A.can, Nat.le_trans A.len hn, fun x hx => ⟨Nat.le_trans (A.key x hx).1 hL, (A.key x hx).2⟩, fun x hx => (A.bq x hx).mono (p2 hb)⟩
theorem Bd.scale {k c : Nat} (A : Bd names fm n L D b) (hk : k ≤ 2 ^ c) : Bd names fm n L (D * k) (b + c) :=
  ⟨A.can, A.len, A.key, fun x hx => ((A.bq x hx).scale (k := k)).mono (by rw [Nat.pow_add]; exact Nat.mul_le_mul_left _ hk)⟩
theorem Bd.nil : Bd names [] n L D b := ⟨canon_nil, Nat.zero_le _, fun x hx => absurd hx List.not_mem_nil, fun x hx => absurd hx List.not_mem_nil⟩
theorem keys_addF {x : Mon × Rat} (h : x ∈ addF f1 f2) : x.1 ∈ f1.map (·.1) ∨ x.1 ∈ f2.map (·.1) := by
  obtain ⟨y, hy, rfl, _⟩ := keys_mapM h
  exact mem_addTo_key hy
theorem Bd.add {c : Nat} (A : Bd names f1 n1 L D b) (B : Bd names f2 n2 L D b) (hc : 1 + n2 ≤ 2 ^ c) : Bd names (addF f1 f2) (n1 + n2) L D (b + c) := by
  refine ⟨canon_addF A.can B.can, ?_, fun x hx => ?_, fun x hx => ?_⟩
  · exact Nat.le_trans length_mapM (Nat.le_trans (length_addTo _ _) (by have := A.len; have := B.len; omega))
  · rcases keys_addF hx with h | h
    · obtain ⟨y, hy, e⟩ := List.mem_map.mp h
      rw [← e]; exact A.key y hy
    · obtain ⟨y, hy, e⟩ := List.mem_map.mp h
      rw [← e]; exact B.key y hy
  · obtain ⟨y, hy, rfl, _⟩ := keys_mapM hx
    refine (bq_addTo f2 f1 _ A.bq B.bq y hy).mono ?_
    have h1 : 2 ^ b + f2.length * 2 ^ b = (1 + f2.length) * 2 ^ b := by rw [Nat.add_mul, Nat.one_mul]
    rw [h1, Nat.mul_comm, Nat.pow_add]
    exact Nat.mul_le_mul_left _ (Nat.le_trans (by have := B.len; omega) hc)
theorem allP_len : (allP f1 f2).length = f1.length * f2.length := allP_length f1 f2
theorem Bd.mulK (A : Bd names f1 n1 L1 D1 b1) (B : Bd names f2 n2 L2 D2 b2) {E M : Nat} (hz : ∀ x ∈ f1, ∀ y ∈ f2, Bq E M (x.2 * y.2)) {c : Nat} (hc : n1 * n2 * M ≤ 2 ^ c) : Bd names (mulF f1 f2) (n1 * n2) (L1 + L2) E c := by
  have ll : ((allP f1 f2).map mulT).length ≤ n1 * n2 := by rw [List.length_map, allP_len]; exact Nat.mul_le_mul A.len B.len
  refine ⟨canon_mulF _ _, ?_, fun x hx => ?_, fun x hx => ?_⟩
  · exact Nat.le_trans length_mapM (Nat.le_trans (length_addTo _ _) (by rw [List.length_nil]; omega))
  · obtain ⟨y, hy, rfl, _⟩ := keys_mapM hx
    rcases mem_addTo_key hy with h | h
    · exact absurd h List.not_mem_nil
    · obtain ⟨z, hz2, e⟩ := List.mem_map.mp h
      obtain ⟨p, hp, rfl⟩ := List.mem_map.mp hz2
      obtain ⟨m1, m2⟩ := mem_allP hp
      have pm : (mulT p).1.Perm (p.1.1 ++ p.2.1) := sortT_perm _
      have k1 := A.key _ m1
      have k2 := B.key _ m2
      show y.1.length ≤ _ ∧ ∀ z ∈ y.1, z ∈ names
      rw [← e]
      refine ⟨by rw [pm.length_eq, List.length_append]; omega, fun x hx => ?_⟩
      rcases List.mem_append.mp (pm.mem_iff.mp hx) with h | h
      · exact k1.2 x h
      · exact k2.2 x h
  · obtain ⟨y, hy, rfl, _⟩ := keys_mapM hx
    have q := bq_addTo (D := E) (N := M) ((allP f1 f2).map mulT) [] 0 (fun y hy => absurd hy List.not_mem_nil) (fun z hz2 => ?_) y hy
    · refine q.mono ?_
      rw [Nat.zero_add]
      exact Nat.le_trans (Nat.mul_le_mul_right _ ll) hc
    · obtain ⟨p, hp, rfl⟩ := List.mem_map.mp hz2
      obtain ⟨m1, m2⟩ := mem_allP hp
      exact hz _ m1 _ m2
theorem Bd.mul {c : Nat} (A : Bd names f1 n1 L1 D1 b1) (B : Bd names f2 n2 L2 D2 b2) (hc : n1 * n2 ≤ 2 ^ c) : Bd names (mulF f1 f2) (n1 * n2) (L1 + L2) (D1 * D2) (b1 + b2 + c) :=
  A.mulK B (fun x hx y hy => (A.bq x hx).mul (B.bq y hy)) (by
    rw [Nat.pow_add, Nat.pow_add, Nat.mul_comm (2 ^ b1 * 2 ^ b2)]
    exact Nat.mul_le_mul_right _ hc)
theorem Bd.neg (A : Bd names fm n L D b) : Bd names (negF fm) n L D b := by
  refine ⟨canon_neg A.can, Nat.le_trans length_mapM A.len, fun x hx => ?_, fun x hx => ?_⟩
  · obtain ⟨y, hy, rfl, _⟩ := keys_mapM hx
    exact A.key y hy
  · obtain ⟨y, hy, rfl, _⟩ := keys_mapM hx
    exact (A.bq y hy).neg
theorem Bd.over {k : Int} (A : Bd names fm n L D b) (hk : k ≠ 0) : Bd names (ovF fm k) n L (D * k.natAbs) b := by
  refine ⟨canon_scale (divInt_ne hk) A.can, Nat.le_trans length_mapM A.len, fun x hx => ?_, fun x hx => ?_⟩
  · obtain ⟨y, hy, rfl, _⟩ := keys_mapM hx
    exact A.key y hy
  · obtain ⟨y, hy, rfl, _⟩ := keys_mapM hx
    have := (A.bq y hy).mul (inv_bq hk)
    rw [Nat.mul_one] at this
    exact this
theorem Bd.num {k : Int} (h : k.natAbs ≤ 2 ^ b) : Bd names (numM k) 1 0 1 b := by
  unfold numM
  by_cases c : k = 0
  · rw [if_pos c]
    exact Bd.nil
  · rw [if_neg c]
    have one : ∀ x : Mon × Rat, x ∈ [(([] : Mon), (k : Rat))] → x = ([], (k : Rat)) := fun x hx => List.mem_singleton.mp hx
    refine ⟨⟨List.nodup_cons.mpr ⟨List.not_mem_nil, List.nodup_nil⟩, fun x hx => ?_, fun x hx => ?_⟩, Nat.le_refl _, fun x hx => ?_, fun x hx => ?_⟩
    · rw [one x hx]; rfl
    · rw [one x hx]
      exact fun z => c (Rat.intCast_inj.mp (z.trans (by rfl : (0 : Rat) = ((0 : Int) : Rat))))
    · rw [one x hx]
      exact ⟨Nat.le_refl _, fun z hz => absurd hz List.not_mem_nil⟩
    · rw [one x hx]
      exact Bq.int.mono h
theorem Bd.shr (A : Bd names fm n L D b) (name : Str) (k : Nat) : Bd names (shr name fm k) n L D b := by
  refine ⟨canon_shr A.can k, ?_, fun y hy => ?_, fun y hy => ?_⟩
  · unfold E2.shr
    rw [List.length_map]
    exact Nat.le_trans (List.length_filter_le _ _) A.len
  · obtain ⟨x, hx, _, rfl⟩ := mem_shr hy
    refine ⟨Nat.le_trans (List.length_filter_le _ _) (A.key x hx).1, fun z hz => (A.key x hx).2 z (List.mem_filter.mp hz).1⟩
  · obtain ⟨x, hx, _, rfl⟩ := mem_shr hy
    exact A.bq x hx
theorem Bd.szs (A : Bd names f1 n1 L1 D1 b1) (B : Bd names f2 n2 L2 D2 b2) (oa : Ok n1 L1 D1 b1) (ob : Ok n2 L2 D2 b2) : Szs f1 f2 := by
  have l1 := A.len
  have l2 := B.len
  have a1 := oa.n_
  have a2 := ob.n_
  have e : (2 : Nat) ^ 20000 * 2 ^ 100 = 2 ^ 20100 := by rw [← Nat.pow_add]
  have m1 : 2 ^ b1 * D2 ≤ 2 ^ 20100 := by rw [← e]; exact Nat.mul_le_mul (p2 oa.b_) ob.d_
  have m2 : 2 ^ b2 * D1 ≤ 2 ^ 20100 := by rw [← e]; exact Nat.mul_le_mul (p2 ob.b_) oa.d_
  refine ⟨A.can.nd, B.can.nd, by rw [sizeLine_eq]; omega, D1 * D2, 2 ^ b1 * D2, 2 ^ b2 * D1, Nat.mul_pos oa.d0 ob.d0, ?_, ?_, ?_, fun x hx => (A.bq x hx).scale, fun x hx => by rw [Nat.mul_comm D1]; exact (B.bq x hx).scale⟩
  · refine Nat.lt_of_le_of_lt (Nat.mul_le_mul oa.d_ ob.d_) ?_
    rw [← Nat.pow_add]
    exact Nat.pow_lt_pow_right (by decide) (by decide)
  · have h1 : f2.length * (2 ^ b2 * D1) ≤ 2 ^ 11 * 2 ^ 20100 := Nat.mul_le_mul (by omega) m2
    rw [← Nat.pow_add] at h1
    have h2 : (2 : Nat) ^ 20100 ≤ 2 ^ 20111 := p2 (by decide)
    have h3 : (2 : Nat) ^ 20112 = 2 * 2 ^ 20111 := Nat.pow_succ'
    have h4 : (2 : Nat) ^ 20112 < 2 ^ 400000 := Nat.pow_lt_pow_right (by decide) (by decide)
    have h5 : (11 + 20100) = 20111 := rfl
    rw [h5] at h1
    generalize (2 : Nat) ^ 20111 = x at *
    omega
  · exact Nat.lt_of_le_of_lt m2 (Nat.pow_lt_pow_right (by decide) (by decide))
theorem Bd.szm (A : Bd names f1 n1 L1 D1 b1) (B : Bd names f2 n2 L2 D2 b2) (oa : Ok n1 L1 D1 b1) (ob : Ok n2 L2 D2 b2) : SzM f1 f2 := by
  have l1 := A.len
  have l2 := B.len
  have a1 := oa.n_
  have a2 := ob.n_
  have ll : f1.length * f2.length ≤ 2000 * 2000 := Nat.mul_le_mul (by omega) (by omega)
  have mm : 2 ^ b1 * 2 ^ b2 ≤ 2 ^ 40000 := by rw [← Nat.pow_add]; exact p2 (by have := oa.b_; have := ob.b_; omega)
  refine ⟨A.can.nd, B.can.nd, by rw [sizeLine_eq]; omega, fun x hx y hy => ?_, D1, 2 ^ b1, D2, 2 ^ b2, oa.d0, ob.d0, ?_, ?_, ?_, ?_, ?_, A.bq, B.bq⟩
  · have := (A.key x hx).1
    have := (B.key y hy).1
    have := oa.l_
    have := ob.l_
    rw [sizeLine_eq]
    omega
  · refine Nat.lt_of_le_of_lt (Nat.mul_le_mul oa.d_ ob.d_) ?_
    rw [← Nat.pow_add]
    exact Nat.pow_lt_pow_right (by decide) (by decide)
  · have h1 : f1.length * f2.length * (2 ^ b1 * 2 ^ b2) ≤ 2 ^ 22 * 2 ^ 40000 := Nat.mul_le_mul (Nat.le_trans ll (by decide)) mm
    rw [show (2 : Nat) ^ 22 * 2 ^ 40000 = 2 ^ 40022 from (Nat.pow_add 2 22 40000).symm] at h1
    exact Nat.lt_of_le_of_lt h1 (Nat.pow_lt_pow_right (by decide) (by decide))
  · exact Nat.lt_of_le_of_lt mm (Nat.pow_lt_pow_right (by decide) (by decide))
  · exact Nat.lt_of_le_of_lt (p2 oa.b_) (Nat.pow_lt_pow_right (by decide) (by decide))
  · exact Nat.lt_of_le_of_lt (p2 ob.b_) (Nat.pow_lt_pow_right (by decide) (by decide))
theorem Bd.sm (A : Bd names fm n L D b) (o : Ok n L D b) : Sm fm := fun x hx =>
  ⟨Nat.lt_of_le_of_lt (Nat.le_trans ((A.bq x hx).num_le o.d0) (p2 o.b_)) (Nat.pow_lt_pow_right (by decide) (by decide)),
   Nat.lt_of_le_of_lt (Nat.le_trans ((A.bq x hx).den_le o.d0) o.d_) (Nat.pow_lt_pow_right (by decide) (by decide))⟩
theorem Bd.lets (A : Bd names fm n L D b) (h : names.length ≤ 1000) : LetsIn fm := ⟨names, h, fun x hx => (A.key x hx).2⟩
/-! Horner -/
def hN : Nat → Nat
  | 0 => 0
  | j + 1 => 4 * hN j + 4
theorem hN_le {j : Nat} (h : j ≤ 5) : hN j ≤ 1364 := by
  have : j = 0 ∨ j = 1 ∨ j = 2 ∨ j = 3 ∨ j = 4 ∨ j = 5 := by omega
  rcases this with rfl | rfl | rfl | rfl | rfl | rfl <;> decide
theorem horn_bd {o : Fm} {D : Nat} (hD : 0 < D) (hD2 : D ≤ 2 ^ 100) (O : Bd names o 4 4 1 200) : ∀ {ps : List Fm} {a : Fm} {j : Nat}, j + ps.length ≤ 5 → Bd names a (hN j) (4 * j) D (220 * (j + 1)) → (∀ p ∈ ps, Bd names p 4 4 D 200) → SzH o a ps ∧ Bd names (hornF o a ps) (hN (j + ps.length)) (4 * (j + ps.length)) D (220 * (j + ps.length + 1))
  | [], a, j, _, A, _ => ⟨trivial, A⟩
  | p :: r, a, j, hj, A, hp => by
    rw [List.length_cons] at hj ⊢
    have f1 := hN_le (j := j) (by omega)
    have f2 := hN_le (j := j + 1) (by omega)
    have oo : Ok 4 4 1 200 := ⟨by decide, by decide, by decide, Nat.one_le_two_pow, by decide⟩
    have oa : Ok (hN j) (4 * j) D (220 * (j + 1)) := ⟨by omega, by omega, hD, hD2, by omega⟩
    have M := A.mul (c := 13) O (by omega)
    have op : Ok 4 4 D 200 := ⟨by decide, by decide, hD, hD2, by decide⟩
    have B := hp p List.mem_cons_self
    rw [Nat.mul_one] at M
    have om : Ok (hN j * 4) (4 * j + 4) D (220 * (j + 1) + 200 + 13) := ⟨by have : hN (j + 1) = 4 * hN j + 4 := rfl; omega, by omega, hD, hD2, by omega⟩
    have S := (M.mono (Nat.le_refl _) (Nat.le_refl _) (Nat.le_refl _)).add (c := 3) (B.mono (Nat.le_refl _) (by omega : 4 ≤ 4 * j + 4) (by omega : 200 ≤ 220 * (j + 1) + 200 + 13)) (by decide)
    have S2 : Bd names (addF (mulF a o) p) (hN (j + 1)) (4 * (j + 1)) D (220 * (j + 1 + 1)) := S.mono (by show hN j * 4 + 4 ≤ 4 * hN j + 4; omega) (by omega) (by omega)
    obtain ⟨h1, h2⟩ := horn_bd hD hD2 O (ps := r) (j := j + 1) (by omega) S2 fun q hq => hp q (List.mem_cons_of_mem _ hq)
    have e : j + 1 + r.length = j + (r.length + 1) := by omega
    rw [e] at h2
    exact ⟨⟨A.szm O oa oo, M.szs B om op, h1⟩, h2⟩
theorem put_bd {o : Fm} {name : Str} {D : Nat} (hD : 0 < D) (hD2 : D ≤ 2 ^ 100) (O : Bd names o 4 4 1 200) (A : Bd names fm 4 4 D 200) : SzH o [] (powF name fm).reverse ∧ Bd names (putF name fm o) 1364 20 D 1320 := by
  have hn : (powF name fm).length ≤ 5 := by
    rw [powF_is A.can, List.length_map, List.length_range]
    have := hiN_le name (fm := fm) (B := 4) fun x hx => (A.key x hx).1
    omega
  obtain ⟨h1, h2⟩ := horn_bd hD hD2 O (ps := (powF name fm).reverse) (a := []) (j := 0) (by rw [List.length_reverse]; omega) Bd.nil fun p hp => by
    rw [powF_is A.can] at hp
    obtain ⟨k, _, rfl⟩ := List.mem_map.mp (List.mem_reverse.mp hp)
    exact A.shr name k
  rw [List.length_reverse, Nat.zero_add] at h2
  exact ⟨h1, h2.mono (hN_le hn) (by omega) (by omega)⟩
/-- times a multiple of the denominator: whole -/
theorem whole_mul {u : Nat} {k : Int} {M : Nat} (A : Bd names fm n L D b) (hu : ∀ x ∈ fm, Bq u M x.2) {k' : Int} (hk : k = (u : Int) * k') {c : Nat} (hc : n * 1 * (M * k'.natAbs) ≤ 2 ^ c) (h0 : k ≠ 0) {b2 : Nat} (hb : k.natAbs ≤ 2 ^ b2) : Bd names (mulF fm (numM k)) n L 1 c := by
  have N : Bd names (numM k) 1 0 1 b2 := Bd.num hb
  have := A.mulK N (E := 1) (M := M * k'.natAbs) (fun x hx y hy => ?_) hc
  · rw [Nat.mul_one, Nat.add_zero] at this
    exact this
  · unfold numM at hy
    rw [if_neg h0] at hy
    rw [List.mem_singleton.mp hy]
    obtain ⟨z, e, l⟩ := hu x hx
    refine ⟨z * k', ?_, by rw [Int.natAbs_mul]; exact Nat.mul_le_mul_right _ l⟩
    show x.2 * (k : Rat) * ((1 : Nat) : Rat) = _
    rw [hk, Rat.intCast_mul, Rat.intCast_mul, Rat.intCast_natCast, ← e]
    have e1 : ((1 : Nat) : Rat) = 1 := rfl
    rw [e1]
    grind
end
end E2

set_option Elab.async false
set_option linter.all false
set_option maxRecDepth 100000
/-! set(xs), xs a list of texts -/
namespace L2
open PySem PySem.Spec PyProof.Rows
abbrev nSetT (w : World) : Obj := { cls := .type "set", dict := none, data := .set #[] 0 (.fresh 0 0 (!w.params.followText "set-order")) }
section
variable {P : Program} {w : World} {A : Around} {E : Value → Shared → Prop} {s : Shared} {l : Addr} {items : Array Value} {xs : List Str}
theorem setS_new_at {h : Heap} {a : Addr} (ho : h.get? a = some (nSetT w)) : SetS P w h a [] := by
  refine ⟨_, #[], 0, _, ho, ⟨rfl, rfl, rfl⟩, rfl, fun e he => absurd he (by simp), .nil, List.nodup_nil, by decide, rfl, List.Pairwise.nil, ?_⟩
  cases c : w.params.followText "set-order" with
  | true => exact .inl rfl
  | false => exact .inr rfl
theorem putAll_le (ks : List Str) : (putAll [] ks).length ≤ ks.length := by
  have := len_putAll ks []
  simpa using this
theorem set_update_strs {I : Addr} {fp wr : List Addr} {G : Array GenState → Array GenState → Prop} {n : Nat} {Pv : Nat → Value → Prop} {St : Nat → Shared → Prop} {R : Result → Shared → Prop}
    (W : WalksS P w A.in1 I fp wr G n Pv St) (S : Addr) (hSf : S ∉ fp) (xs : List Str) (hn : n = xs.length) (hb : ∀ i, (putAll [] (xs.take i)).length + 1 < scanBound) (hval : ∀ i v, Pv i v → ∃ z t, xs[i]? = some z ∧ v = .str z t) :
    ∀ (k i : Nat) (s : Shared), n - i = k → i ≤ n → St i s → SetS P w s.heap S (putAll [] (xs.take i)) →
      (∀ s', Moved (S :: wr) G s s' → SetS P w s'.heap S (putAll [] xs) → R (.ok (.ret .none)) s') →
      codeAny (model P w) A (.builtin "set.update.loop" ⟨[.ref S, .ref I], []⟩) R s := by
  have hSw : S ∉ wr := fun h => hSf (W.sub _ h)
  have hsub : ∀ b ∈ wr, b ∈ S :: wr := fun b hb => List.mem_cons_of_mem _ hb
  intro k
  induction k with
  | zero =>
    intro i s hk' hi hst hS hR
    have hin : i = n := by omega
    subst hin
    refine codeAny_builtin F.entry_set_update_loop ?_
    rw [Around.under_plainId F.plain_set_update_loop _]
    show wpAny _ A.in1 (pyNext (.ref I) >>= _) _ _ s
    refine wpAny_bind (W.done s _ _ hst fun s' hm => ?_)
    show wpAny _ A.in1 (ret Value.none) _ _ s'
    have e : xs.take i = xs := List.take_of_length_le (by omega)
    rw [e] at hS
    exact wpAny_pure (hR s' (hm.mono hsub) (hS.at fun o e => hm.heap S o hSw e))
  | succ k ih =>
    intro i s hk' hi hst hS hR
    have hlt : i < n := by omega
    refine codeAny_builtin F.entry_set_update_loop ?_
    rw [Around.under_plainId F.plain_set_update_loop _]
    show wpAny _ A.in1 (pyNext (.ref I) >>= _) _ _ s
    refine wpAny_bind (W.item i s _ _ hlt hst fun v s' hP hst' hm => ?_)
    obtain ⟨z, t, hz, rfl⟩ := hval i v hP
    have hS' : SetS P w s'.heap S (putAll [] (xs.take i)) := hS.at fun o e => hm.heap S o hSw e
    have room := hb i
    show wpAny _ A.in1 (holding [Value.str z t] (setAdd S (.str z t)) >>= _) _ _ s'
    refine wpAny_bind (wpAny_holding ?_)
    unfold setAdd
    refine wpAny_holding ?_
    refine wpAny_bind ((PySem.strKind P w).pyHash (strKind_is P w z t) ?_)
    refine setS_hashed (s := { s' with toks := s'.toks + 1 }) hS' room fun _ h' hsb hS2 => ?_
    have hS3 : SetS P w h' S (putAll [] (xs.take (i + 1))) := by
      rw [take_snoc hz, ← putAllS_snoc]
      exact hS2
    refine wpAny_pure ⟨plainId_quiet F.plain_set_update_loop _, ih (i + 1) _ (by omega) hlt (W.frame _ s' _ _ hst' (Nat.le_succ _) fun b hb o e => ?_) hS3 fun s'' hm'' hS'' => ?_⟩
    · rw [hsb.2 b (fun h : b = S => hSf (by rw [← h]; exact hb))]; exact e
    · refine hR s'' (Moved.trans W.gtrans ((hm.mono hsub).then_heap (Nat.le_succ _) fun b o hb e => ?_) hm'') hS''
      rw [hsb.2 b (fun h : b = S => hb (by rw [h]; exact List.mem_cons_self))]; exact e
abbrev SetTDone (P : Program) (w : World) (s : Shared) (xs : List Str) (s₂ : Shared) : Prop := ∃ h' tk, s₂ = { s with heap := h', toks := tk } ∧ SetS P w h' s.heap.objs.size (putAll [] xs) ∧ ∀ b o, s.heap.get? b = some o → h'.get? b = some o
theorem strsV_at (hit : StrsAre items.toList xs) (i : Nat) (v : Value) (hv : items[i]? = some v) : ∃ z t, xs[i]? = some z ∧ v = .str z t := by
  have e : items.toList[i]? = some v := by rw [Array.getElem?_toList]; exact hv
  generalize items.toList = us at hit e
  clear hv
  induction hit generalizing i with
  | nil => cases e
  | cons n t r ih =>
    cases i with
    | zero => cases e; exact ⟨_, _, rfl, rfl⟩
    | succ i => exact ih i e
theorem strs_len {us : List Value} {xs : List Str} (h : StrsAre us xs) : us.length = xs.length := by
  induction h with
  | nil => rfl
  | cons n t r ih => simp [ih]
set_option maxHeartbeats 3200000 in
theorem set_init_strs (hh : A.handled = none) (hl : s.heap.IsList l items) (hit : StrsAre items.toList xs) (hb : ∀ i, (putAll [] (xs.take i)).length + 1 < scanBound) (T : Shared.TypeIs { s with heap := s.heap.push (nSetT w) } (.ref s.heap.objs.size) "set") {R : Result → Shared → Prop} (hR : ∀ s₂, SetTDone P w s xs s₂ → R (.ok (.ret .none)) s₂) :
    wpAny (model P w) A.in1 (Builtin.«set.__init__» ⟨[.ref s.heap.objs.size, .ref l], []⟩) (fun fin s' => match fin with | .done f => R (.ok f) s' | .again c' => c'.quiet = true ∧ codeAny (model P w) A c' R s') (fun e s' => R (.error e) s') { s with heap := s.heap.push (nSetT w) } := by
  have hS : (s.heap.push (nSetT w)).get? s.heap.objs.size = some (nSetT w) := Heap.get?_push_size _ rfl
  obtain ⟨⟨oc, od, dt, osl⟩, hol, rfl, nl, rfl⟩ := hl
  have h1 : (s.heap.push (nSetT w)).get? l = some { cls := .type "list", dict := od, data := .seq items nl, slots := osl } := Heap.get?_push_of_some _ hol
  have L1 : (s.heap.push (nSetT w)).IsList l items := ⟨_, h1, rfl, nl, rfl⟩
  have lS : l < s.heap.objs.size := Heap.lt_size hol
  have n1 := F.sub_list_set
  have n2 := F.sub_list_frozenset
  have n3 : (Value.type "list" == Value.type "dict") = false := by decide
  have isz : items.size = xs.length := by rw [← Array.length_toList]; exact strs_len hit
  unfold Builtin.«set.__init__» noKeywords Builtin.Frozenset.updateFrom
  generalize hPI : pyIter = PI
  wp_walk
  subst hPI
  refine wpAny_pyIter_list L1 ?_
  refine wpAny_bind (wpAny_runValue ?_)
  have sz : (s.heap.push (nSetT w)).objs.size = s.heap.objs.size + 1 := Heap.size_push ..
  have ne1 : l ≠ (s.heap.push (nSetT w)).objs.size := by rw [sz]; exact Nat.ne_of_lt (Nat.lt_succ_of_lt lS)
  have nf : s.heap.objs.size ∉ [(s.heap.push (nSetT w)).objs.size, l] := by
    rw [sz]
    simp only [List.mem_cons, List.not_mem_nil, or_false, not_or]
    exact ⟨Nat.ne_of_lt (Nat.lt_succ_self _), Nat.ne_of_gt lS⟩
  refine set_update_strs ((Walks.list (by simp [hh]) _ l ne1 items).toS) s.heap.objs.size nf xs isz hb (strsV_at hit) (items.size - 0) 0 _ (by omega) (Nat.zero_le _) ⟨⟨_, Heap.get?_push_size _ rfl, rfl, rfl⟩, L1.push _⟩ (setS_new_at (Heap.get?_push_of_some _ hS)) ?_
  rintro ⟨h', g2, d', tk', os'⟩ hm hS'
  obtain rfl : g2 = s.gens := hm.gens
  obtain rfl : d' = s.drawn := hm.drawn
  obtain rfl : os' = s.os := hm.os
  refine wpAny_pure ?_
  refine wpAny_pure (hR _ ⟨h', tk', rfl, hS', fun b o e => ?_⟩)
  have b0 : b < s.heap.objs.size := Heap.lt_size e
  refine hm.heap b o ?_ (Heap.get?_push_of_some _ (Heap.get?_push_of_some _ e))
  simp only [List.mem_cons, List.not_mem_nil, or_false, not_or]
  exact ⟨Nat.ne_of_lt b0, by rw [sz]; exact Nat.ne_of_lt (Nat.lt_succ_of_lt b0)⟩
set_option maxHeartbeats 3200000 in
theorem call_set_strs {Q : Value → Shared → Prop} (hh : A.handled = none) (hl : s.heap.IsList l items) (hit : StrsAre items.toList xs) (hb : ∀ i, (putAll [] (xs.take i)).length + 1 < scanBound) (h : ∀ s₂, SetTDone P w s xs s₂ → Q (.ref s.heap.objs.size) s₂) : wpAny (model P w) A (call (.type "set") [.ref l]) Q E s := by
  obtain ⟨c, tl, m1⟩ := F.called_set.mro
  have m2 := F.called_set.made
  have m3 := F.called_set.sub
  have m4 := F.called_set.notType
  have m5 := F.called_set.canCreate
  have m6 := F.typeCall_set_1 (.ref l)
  have T : Shared.TypeIs { s with heap := s.heap.push (nSetT w) } (.ref s.heap.objs.size) "set" := ⟨_, Heap.get?_push_size _ rfl, rfl⟩
  have m7 := F.called_set.init.lookup
  have m8 := F.called_set.init.bind (.ref s.heap.objs.size)
  refine wpAny_call (codeAny_of_tree (show wpAny _ _ (callAny (.type "set") _) _ _ _ from wpAny_pure ⟨Code.quiet_builtin _ (by decide +kernel), codeAny_builtin F.entry_type_call ?_⟩))
  rw [Around.under_plain (weight_type_call_type "set" [.ref l] []) rfl]
  repeat (any_goals (first | assumption | wp_step))
  refine codeAny_mono (code_set_led1 (.ref l) (E := E) (Q₁ := fun obj s₁ => obj = .ref s.heap.objs.size ∧ s₁ = { s with heap := s.heap.push (nSetT w) }) ⟨rfl, rfl⟩) fun r s₁ hr => ?_
  match r, hr with
  | .error e, hr => exact hr
  | .ok (.ret obj), ⟨e1, e2⟩ =>
    subst e1 e2
    repeat (any_goals (first | assumption | wp_step))
    refine codeAny_mono (codeAny_call_builtin (R := wants (fun r s₂ => r = .none ∧ SetTDone P w s xs s₂) E) F.called_set.init.plain F.entry_set_init (check_set_init_1 T (set_init_strs (by simp [hh]) hl hit hb T fun s₂ d => ⟨rfl, d⟩))) fun r₂ s₂ hr₂ => ?_
    match r₂, hr₂ with
    | .error e, hr₂ => exact hr₂
    | .ok (.ret r), ⟨e1, d⟩ =>
      subst e1
      repeat (any_goals (first | assumption | wp_step))
      exact h _ d
end
/-- set(xs), texts -/
def rSetLS (K : PySem.W.Frag) (P : Program) (w : World) : List V → Hp → VK → Prop := fun vs H Q => ∃ (a : Addr) (xs : List Str), vs = [V.ref a] ∧ SqL K H a (xs.map V.str) ∧ (∀ i, (putAll [] (xs.take i)).length + 1 < scanBound) ∧ ∀ p, H p = none → Q (.ref p) (upd H p (SetSO P w p (putAll [] xs)))
theorem cr_setLS {X : Cx} (hc : X.calm = true) : CallR X (.type "set") (rSetLS X.K X.prog X.w) := by
  intro pins s σ H vs us Q I r h
  obtain ⟨a, xs, rfl, hs, hz, q⟩ := h
  obtain ⟨its, rv, hl, _⟩ := I.list hs
  rw [Vals.ref1 r]
  refine call_set_strs (P := X.prog) (w := X.w) (I.ok.hd hc) hl.isList (by simpa using rv.strs) hz fun s₂ d => ?_
  obtain ⟨h', tk, rfl, R, k⟩ := d
  exact ⟨.ref s.heap.objs.size, _, I.laid (t' := tk) k (Nat.le_refl _) (setSO_new R), rfl, q _ (I.hok.fresh (Nat.le_refl _))⟩
end L2

set_option Elab.async false
set_option linter.all false
set_option maxRecDepth 100000
set_option maxHeartbeats 1000000
/-! sorted(xs), xs a list of data that is in order -/
namespace L2
open PySem PySem.Spec PySem.Calls PyProof.Rows
open PySem.W (dataLe AllAlike Sortable EachIs)
def rSortedD0 (K : PySem.W.Frag) : List V → Hp → VK → Prop := fun vs H Q => ∃ (a : Addr) (xs : List V) (ds : List PyData), vs = [V.ref a] ∧ SqL K H a xs ∧ DpAll K H xs ds ∧ AllAlike ds ∧ Sortable ds ∧ xs.length ≤ sizeLine ∧ (∀ d ∈ ds, d.depth ≤ 16) ∧ ds.Pairwise (fun x y => dataLe false id x y = true) ∧ NewQ H (.lst xs) Q
theorem each_zip : ∀ {vs : List Value} {ds : List PyData}, vs.length = ds.length → EachIs (fun (v : Value) (b : Value × PyData) => v = b.1) vs (vs.zip ds)
  | [], [], _ => .nil
  | v :: vs, d :: ds, h => .cons rfl (each_zip (by simpa using h))
theorem each_reads {h : Heap} : ∀ {vs : List Value} {ds : List PyData} {as : List Addr}, ReadsAll h vs ds as → EachIs (fun (v : Value) (b : Value × PyData) => ∃ as, Reads h v b.2 as) vs (vs.zip ds)
  | _, _, _, .nil => .nil
  | _, _, _, .cons a r => .cons ⟨_, a⟩ (each_reads r)
theorem each_out : ∀ {vs : List Value} {ds : List PyData} {out : List Value}, vs.length = ds.length → EachIs (fun (v : Value) (b : Value × PyData) => v = b.1) out (vs.zip ds) → out = vs
  | [], [], _, _, .nil => rfl
  | v :: vs, d :: ds, _, h, .cons e r => by rw [each_out (by simpa using h) r, e]
theorem dpAll_len {K : PySem.W.Frag} {H : Hp} : ∀ {xs : List V} {ds : List PyData}, DpAll K H xs ds → xs.length = ds.length
  | _, _, .nil => rfl
  | _, _, .cons _ r => by rw [List.length_cons, List.length_cons, dpAll_len r]
theorem cr_sortedD0 {X : Cx} (hu : X.A.units + 64 < cLine) : CallR X (.builtin "sorted") (rSortedD0 X.K) := by
  intro pins s σ H vs us Q I r h
  obtain ⟨a, xs, ds, rfl, hs, hd, al, so, hz, dp, pw, q⟩ := h
  obtain ⟨its, rv, hl, _⟩ := I.list hs
  rw [Vals.ref1 r]
  have l1 := rv.length
  have l2 := dpAll_len hd
  have l3 : its.length = ds.length := by omega
  obtain ⟨as, ra⟩ := Dp.readsAll I _ _ _ hd rv
  have em : (its.zip ds).map (fun b => b.2) = ds := List.map_snd_zip (by omega)
  have ms : (its.zip ds).mergeSort (dataLe false fun b : Value × PyData => b.2) = its.zip ds := by
    refine List.mergeSort_of_pairwise ?_
    have p2 : ((its.zip ds).map (fun b => b.2)).Pairwise (fun x y => dataLe false id x y = true) := by rw [em]; exact pw
    exact List.pairwise_map.mp p2
  refine PySem.W.sorted_data (enc := fun b : Value × PyData => b.2) (bs := its.zip ds) (R := fun v b => v = b.1) hl.isList (each_zip l3) (each_reads ra) (by rw [em]; exact al) (by rw [em]; exact so) (by rw [List.length_zip]; omega) (fun b hb => ?_) fun out lo eo => ?_
  · have := dp b.2 (by rw [← em]; exact List.mem_map.mpr ⟨b, hb, rfl⟩)
    omega
  · rw [ms] at eo
    obtain rfl := each_out l3 eo
    obtain ⟨c, hc⟩ := sortedAll_at s.heap out out.toArray
    exact ⟨.ref (s.heap.objs.size + 1), _, I.laid (t' := s.toks) (o := .lst xs) (fun _ _ => sortedAll_old) (Nat.le_succ _) ⟨hz, out, c, rv, hc⟩, rfl, q.at (I.hok.fresh (Nat.le_succ _))⟩
/-- (len(m), m), m a list -/
def kL (m : Mon) : PyData := .tuple [.int (m.length : Int), .list (m.map PyData.str)]
theorem toks_kL (m : Mon) : PySem.W.keyToks (kL m) = PySem.W.keyToks (kM m) := rfl
end L2

set_option Elab.async false
set_option linter.all false
set_option maxRecDepth 100000
set_option maxHeartbeats 1000000
/-! _law_fractions_right -/
namespace E2
open PySem PySem.Spec PyProof.Rows L2
open C8 (Cal Mak Met InsC pe_c pe_mt pe_mt0 call_isC clsBody)
open LamX (Tabs ExtN TabB CodeO)
abbrev sFracRight : Stmt := top 38
theorem frA_is : frA = true := by decide +kernel
theorem smQ_sm {fm : Fm} (h : smQ fm = true) : Sm fm := fun x hx => by
  have b := ((smQ_mem h).1 x hx).1
  have d0 : 0 < D0 := by decide +kernel
  refine ⟨Nat.lt_of_le_of_lt (b.num_le d0) (pw2 _ (by decide +kernel)), Nat.lt_of_le_of_lt (b.den_le d0) (pw3 _ (by decide +kernel))⟩
def mM : List Str := ["m"]
def mMM : List Str := ["m", "m"]
def mNN : List Str := ["n", "n"]
def mN : List Str := ["n"]
theorem sort1 (k : Mon) : sortM [k] = [k] := by
  unfold sortM
  simp [List.mergeSort]
theorem leA : PySem.W.dataLe false L2.kM mMM mM = false := by decide +kernel
theorem leB : PySem.W.dataLe false L2.kM mNN mM = false := by decide +kernel
theorem sort2a : sortM [mMM, mM] = [mM, mMM] := by
  unfold sortM
  simp [List.mergeSort, List.MergeSort.Internal.splitInTwo, List.merge, leA]
theorem sort2b : sortM [mNN, mM] = [mM, mNN] := by
  unfold sortM
  simp [List.mergeSort, List.MergeSort.Internal.splitInTwo, List.merge, leB]
theorem keysHalf : fHalf.map (·.1) = [mMM, mM] := by decide +kernel
theorem keysSq : fSq.map (·.1) = [mNN, mM] := by decide +kernel
theorem keysFar : (ovF fN far).map (·.1) = [mN] := by decide +kernel
theorem keysNeg : (ovF fN (-3)).map (·.1) = [mN] := by decide +kernel
def ltr (l : List (Mon × Int × Nat)) : Fm := l.map fun x => (x.1, mkRat x.2.1 x.2.2)
theorem trsHalf : trs fHalf = ltr [(mM, 1, 3), (mMM, 1, 4)] := by
  unfold trs
  rw [keysHalf, sort2a]
  decide +kernel
theorem trsSq : trs fSq = ltr [(mM, 1, 3), (mNN, 1, 1)] := by
  unfold trs
  rw [keysSq, sort2b]
  decide +kernel
theorem trsFar : trs (ovF fN far) = ltr [(mN, 1, 10 ^ 20)] := by
  unfold trs
  rw [keysFar, sort1]
  decide +kernel
theorem trsNeg : trs (ovF fN (-3)) = ltr [(mN, -1, 3)] := by
  unfold trs
  rw [keysNeg, sort1]
  decide +kernel
theorem dHalf : trD (trs fHalf) = litD [(1, 3, mM), (1, 4, mMM)] := by rw [trsHalf]; rfl
theorem dSq : trD (trs fSq) = litD [(1, 3, mM), (1, 1, mNN)] := by rw [trsSq]; rfl
theorem dFar : trD (trs (ovF fN far)) = litD [(1, 10 ^ 20, mN)] := by rw [trsFar]; rfl
theorem dNeg : trD (trs (ovF fN (-3))) = litD [(-1, 3, mN)] := by rw [trsNeg]; rfl
end E2

set_option Elab.async false
set_option linter.all false
set_option maxRecDepth 100000
set_option maxHeartbeats 1000000
/-! calls of a form's methods, sizes by the check -/
namespace E2
open PySem PySem.Spec PyProof.Rows L2
open LamX (Tabs ExtN TabB CodeO)
section
variable {P : Program} {w : World} {K : PySem.W.Frag} {C : Addr} {H : Hp} {Q : VK} {E : XK} {a b : Addr} {fm o : Fm}
theorem over_at {n : Int} (hb : FmAt P w K C H b fm) (hq : smQ fm = true) (n0 : n ≠ 0) (nz : n.natAbs < 2 ^ 100) (k : ∀ H' c, Same H H' → FmAt P w K C H' c (ovF fm n) → Q (.ref c) H') : spOver P w K C [.ref b, .int n] H Q E := by
  obtain ⟨h1, h2, h3⟩ := smQ_mem hq
  have z := sz_lt
  exact ⟨b, n, fm, rfl, n0, Nat.lt_of_lt_of_le nz (Nat.pow_le_pow_right (by decide) (by decide)), hb, h3, by omega, smQ_sm hq, fun H' c S _ h => k H' c S h⟩
theorem put_at {name : Str} (ha : FmAt P w K C H a fm) (hb : FmAt P w K C H b o) (hq : smQ fm = true) (hl : LetOk name) (hz : szHQ o [] (powF name fm).reverse = true) (k : ∀ H' c, Same H H' → FmAt P w K C H' c (putF name fm o) → Q (.ref c) H') : spPut P w K C [.ref a, .str name, .ref b] H Q E := by
  obtain ⟨h1, h2, h3⟩ := smQ_mem hq
  exact ⟨a, b, name, fm, o, rfl, hl, ha, hb, h3, by omega, fun x hx => Nat.le_trans (h1 x hx).2 (by decide), szhQ_of hz, fun H' c S _ h => k H' c S h⟩
theorem terms_at {TT : List (Addr × Str)} (ha : FmAt P w K C H a fm) (hq : smQ fm = true) (tb : Tabs TT H) (k : ∀ H' p, ExtN H H' → Tabs TT H' → Dp K H' (.ref p) (trD (trs fm)) → Q (.ref p) H') : spTerms TT P w K C [.ref a] H Q E := by
  obtain ⟨h1, h2, h3⟩ := smQ_mem hq
  exact ⟨a, fm, rfl, ha, h3, by omega, fun x hx => Nat.le_trans (h1 x hx).2 (by decide), tb, fun H' p zs ex tb2 _ hp tz _ _ => k H' p ex tb2 (dp_terms hp tz)⟩
theorem sub_own {fa fb : Fm} (ha : FmAt P w K C H a fa) (hb : FmAt P w K C H b fb) (qa : smQ fa = true) (qb : smQ fb = true) (qn : smQ (negF fb) = true) (k : ∀ H' c, Same H H' → FmAt P w K C H' c (subF fa fb) → Q (.ref c) H') : rOwn C (spSub P w K C) (.ref a) (.ref b) H Q := by
  obtain ⟨x, y, u, v, h1, h2⟩ := own_refs ha hb
  obtain ⟨g1, g2, g3⟩ := smQ_mem qb
  have z := sz_lt
  exact ⟨a, b, x, _, u, _, rfl, rfl, h1, h2, a, _, fa, fb, rfl, ha, .inr ⟨b, rfl, hb⟩, szsQ_of qa qn, g3, by omega, fun H' c S _ h => k H' c S h⟩
end
mutual
theorem dpS {K : PySem.W.Frag} {H H' : Hp} (S : Same H H') : ∀ {v : V} {d : PyData}, Dp K H v d → Dp K H' v d
  | _, _, .non => .non
  | _, _, .bl b => .bl b
  | _, _, .int i => .int i
  | _, _, .str x => .str x
  | _, _, .lst h a => .lst (h.same S) (dpSA S a)
  | _, _, .tup h a => .tup ((Mv.same S).sq _ _ h) (dpSA S a)
theorem dpSA {K : PySem.W.Frag} {H H' : Hp} (S : Same H H') : ∀ {vs : List V} {ds : List PyData}, DpAll K H vs ds → DpAll K H' vs ds
  | _, _, .nil => .nil
  | _, _, .cons a r => .cons (dpS S a) (dpSA S r)
end
end E2

set_option Elab.async false
set_option linter.all false
set_option maxRecDepth 100000
set_option maxHeartbeats 1000000
/-! _law_fractions_right -/
namespace E2
open PySem PySem.Spec PyProof.Rows L2
open C8 (Cal Mak Met InsC pe_c pe_mt pe_mt0 call_isC clsBody)
open LamX (Tabs ExtN TabB CodeO)
theorem lit_a {K : PySem.W.Frag} {σ : L2.St} {H : Hp} {Q : VK} {a b : Int} {x : Str} (k : ∀ H' t, Same H H' → Dp K H' (.ref t) (.tuple [.int a, .int b, .list [.str x]]) → Q (.ref t) H') : tTupS (tCons (tC (.int a)) (tCons (tC (.int b)) (tCons (tLst (tCons (tC (.str x)) tNil)) tNil))) σ H Q :=
  ⟨by show 1 ≤ sizeLine; decide, fun p np => ⟨by show 3 ≤ sizeLine; decide, fun t H' S nt ht => k H' t ((Same.upd np).trans S) (.tup (SqT.of ht) (.cons (.int _) (.cons (.int _) (.cons (.lst (SqL.of (S _ _ upd_same)) (.cons (.str _) .nil)) .nil))))⟩⟩
theorem lit_b {K : PySem.W.Frag} {σ : L2.St} {H : Hp} {Q : VK} {a b : Int} {x y : Str} (k : ∀ H' t, Same H H' → Dp K H' (.ref t) (.tuple [.int a, .int b, .list [.str x, .str y]]) → Q (.ref t) H') : tTupS (tCons (tC (.int a)) (tCons (tC (.int b)) (tCons (tLst (tCons (tC (.str x)) (tCons (tC (.str y)) tNil))) tNil))) σ H Q :=
  ⟨by show 2 ≤ sizeLine; decide, fun p np => ⟨by show 3 ≤ sizeLine; decide, fun t H' S nt ht => k H' t ((Same.upd np).trans S) (.tup (SqT.of ht) (.cons (.int _) (.cons (.int _) (.cons (.lst (SqL.of (S _ _ upd_same)) (.cons (.str _) (.cons (.str _) .nil))) .nil))))⟩⟩
theorem ne_data {K : PySem.W.Frag} {H : Hp} {Q : VK} {x y : V} {d : PyData} (hx : Dp K H x d) (hy : Dp K H y d) (sh : SeqAt.shaped d = true) (q : Q (.bl false) H) : rNeD K x y H Q :=
  ⟨d, d, hx, hy, sh, sh, by rw [SeqAt.eqv_refl _ (SeqAt.canLay_of_shaped sh)]; exact q⟩
theorem eq_data {K : PySem.W.Frag} {H : Hp} {Q : VK} {x y : V} {d : PyData} (hx : Dp K H x d) (hy : Dp K H y d) (sh : SeqAt.shaped d = true) (q : Q (.bl true) H) : rEqD K x y H Q :=
  ⟨d, d, hx, hy, sh, sh, by rw [SeqAt.eqv_refl _ (SeqAt.canLay_of_shaped sh)]; exact q⟩
theorem ne_formQ {P : Program} {w : World} {K : PySem.W.Frag} {C : Addr} {H : Hp} {a b : Addr} {fa fb : Fm} {Q : VK} (ha : FmAt P w K C H a fa) (hb : FmAt P w K C H b fb) (e : eqFm fa fb = true) (q : Q (.bl false) H) : rNeO P w K C (.ref a) (.ref b) H Q :=
  ⟨a, b, fa, fb, rfl, rfl, ha, hb, by rw [e]; exact q⟩
theorem frD_all : smQ (ovF fN far) = true ∧ smQ (numM far) = true ∧ smQ (mulF fN (numM far)) = true ∧ smQ (numM 10) = true ∧ eqFm (ovF (mulF fN (numM far)) (10 ^ 19)) (mulF fN (numM 10)) = true := by
  have h := frD_is
  unfold frD at h
  simp only [Bool.and_eq_true] at h
  obtain ⟨⟨⟨⟨h1, h2⟩, h3⟩, h4⟩, h5⟩ := h
  exact ⟨h1, h2, h3, h4, h5⟩
theorem frE_all : smQ (ovF fN (-3)) = true ∧ smQ (negF fN) = true ∧ smQ (subF fN fN) = true ∧ szHQ fM [] (powF "n" (subF fN fN)).reverse = true ∧ eqFm (putF "n" (subF fN fN) fM) (subF fN fN) = true := by
  have h := frE_is
  unfold frE at h
  simp only [Bool.and_eq_true] at h
  obtain ⟨⟨⟨⟨h1, h2⟩, h3⟩, h4⟩, h5⟩ := h
  exact ⟨h1, h2, h3, h4, h5⟩
theorem only_one {α : Type} [DecidableEq α] {xs : List α} {a : α} (nd : xs.Nodup) (h : ∀ x, x ∈ xs ↔ x = a) : xs = [a] := by
  cases xs with
  | nil => exact absurd ((h a).mpr rfl) List.not_mem_nil
  | cons y r =>
    have hy : y = a := (h y).mp List.mem_cons_self
    subst hy
    cases r with
    | nil => rfl
    | cons z r =>
      have hz : z = y := (h z).mp (List.mem_cons_of_mem _ List.mem_cons_self)
      subst hz
      exact absurd List.mem_cons_self (List.nodup_cons.mp nd).1
theorem lenHalf : fHalf.length = 2 ∧ (fHalf.map fun x => x.1.length).sum = 3 := by decide +kernel
theorem frB_all : degI fHalf = 2 ∧ eqFm fHalf (addF (ovF (mulF fM fM) 4) (ovF fM 3)) = true ∧ smQ (mulF fM fM) = true ∧ smQ (ovF (mulF fM fM) 4) = true := by
  have h := frB_is
  unfold frB at h
  simp only [Bool.and_eq_true] at h
  obtain ⟨⟨⟨h1, h2⟩, h3⟩, h4⟩ := h
  exact ⟨of_decide_eq_true h1, h2, h3, h4⟩
theorem frC_all : smQ (subF fN fM) = true ∧ smQ (negF fM) = true ∧ szHQ fM [] (powF "n" (subF fN fM)).reverse = true ∧ putF "n" (subF fN fM) fM = [] ∧ smQ (ovF fN 2) = true ∧ smQ (numM 2) = true ∧ smQ (mulF fM (numM 2)) = true ∧ szHQ (mulF fM (numM 2)) [] (powF "n" (ovF fN 2)).reverse = true ∧ eqFm (putF "n" (ovF fN 2) (mulF fM (numM 2))) fM = true := by
  have h := frC_is
  unfold frC at h
  simp only [Bool.and_eq_true] at h
  obtain ⟨⟨⟨⟨⟨⟨⟨⟨h1, h2⟩, h3⟩, h4⟩, h5⟩, h6⟩, h7⟩, h8⟩, h9⟩ := h
  exact ⟨h1, h2, h3, of_decide_eq_true h4, h5, h6, h7, h8, h9⟩
section
variable {P : Program} {w : World} {K : PySem.W.Frag} {mg : Str → Option Value} {base : Heap} {C : Addr}
theorem scFracR : FnScope ["_law_n", "_law_m", "_law_square", "_law_halved", "_law_far"] [] (defScope sFracRight) := ⟨rfl, rfl, rfl, by decide +kernel, rfl, by decide +kernel, by decide +kernel⟩
theorem ok_fracR {TT : List (Addr × Str)} {f : Addr} {fd : FuncData} (F : Fun K "_law_fractions_right" "_law_fractions_right" sFracRight f fd)
    (Le : Cal P w K mg base 3 "letter" (spLetter P w K C) []) (Oa : OpM P w K mg base 5 C "__add__" (spAdd P w K C)) (Os : OpM P w K mg base 6 C "__sub__" (spSub P w K C)) (Om : OpM P w K mg base 5 C "__mul__" (spMul P w K C)) (Im : OpI P w K mg base 5 C "mul" (spMul P w K C)) (Ne : EqM P w K mg base 1 C)
    (Ov : Met P w K mg base 4 C "over" (spOver P w K C) []) (Te : Met P w K mg base 2 C "terms" (spTerms TT P w K C) []) (De : Met P w K mg base 1 C "degree" (spDeg P w K C) []) (Ls : Met P w K mg base 2 C "letters" (spLetters P w K C) []) (Pu : Met P w K mg base 6 C "put" (spPut P w K C) []) :
    FnOk P w K mg base CX0 7 f fd [] (spTrueT TT) := by
  obtain ⟨fa, fda, pa, oa, Fa, ba⟩ := Oa.ex
  obtain ⟨fs_, fds, ps_, os, Fs_, bs⟩ := Os.ex
  obtain ⟨fm_, fdm, pm, om, Fm_, bm⟩ := Om.ex
  obtain ⟨gm, gdm, qm, im, Gm, cm⟩ := Im.ex
  refine F.ok scFracR (fun vs H Q E h => ?_) (fun cdv A outer s H vs Q E hr h => ?_)
  · obtain ⟨rfl, _⟩ := h
    rfl
  · obtain ⟨rfl, tb, k⟩ := h
    have hu := hr.units
    refine ⟨_, pss_cons (ps_par (i := 0) (j := 1) (by rfl) scFracR.nd rfl rfl (by decide) rfl rfl (pa_cons (pe_c Le hr (by decide) rfl (pa_cons pe_str pa_nil)) (pa_cons (pe_c Le hr (by decide) rfl (pa_cons pe_str pa_nil)) pa_nil)) (by rfl))
      (pss_cons (ps_set (i := 2) scFracR.nd rfl (Or.inl rfl) (pe_op (op_own (op := .Add) oa Fa (hr.mono (by decide)) ba) (pe_op (op_own (op := .Mult) om Fm_ (hr.mono (by decide)) bm) (pv 0) (pv 0)) (pe_mt Ov hr (by decide) (pv 1) (pa_cons pe_int pa_nil))))
      (pss_cons (ps_set (i := 3) scFracR.nd rfl (Or.inl rfl) (pe_mt Pu hr (by decide) (pv 2) (pa_cons pe_str (pa_cons (pe_mt Ov hr (by decide) (pv 1) (pa_cons pe_int pa_nil)) pa_nil))))
      (pss_cons (ps_if (PW.pt (pw_or (pt_cmpR (op_neD hu) (pe_mt0 Te hr (by decide) (pv 3)) (pe_lst (pa_cons (pe_tupS (pa_cons pe_int (pa_cons pe_int (pa_cons (pe_lst (pa_cons pe_str pa_nil)) pa_nil)))) (pa_cons (pe_tupS (pa_cons pe_int (pa_cons pe_int (pa_cons (pe_lst (pa_cons pe_str (pa_cons pe_str pa_nil))) pa_nil)))) pa_nil))) (nomark _)) (pw_or1 (pt_cmpR (op_neD hu) (pe_mt0 Ls hr (by decide) (pv 3)) (pe_lst (pa_cons pe_str pa_nil)) (nomark _))))) (pss_one (ps_ret pe_bl)) pss_nil)
      (pss_cons (ps_if (pt_cmpR op_ne (pe_mt0 De hr (by decide) (pv 3)) pe_int (nomark _)) (pss_one (ps_ret pe_bl)) pss_nil)
      (pss_cons (ps_if (PW.pt (pw_or (pt_cmpR (op_neO Ne hr (by decide)) (pv 3) (pe_op (op_own (op := .Add) oa Fa (hr.mono (by decide)) ba) (pe_mt Ov hr (by decide) (pe_op (op_own (op := .Mult) om Fm_ (hr.mono (by decide)) bm) (pv 1) (pv 1)) (pa_cons pe_int pa_nil)) (pe_mt Ov hr (by decide) (pv 1) (pa_cons pe_int pa_nil))) (nomark _)) (pw_or1 (pt_cmpR (op_neD hu) (pe_mt0 Te hr (by decide) (pv 2)) (pe_lst (pa_cons (pe_tupS (pa_cons pe_int (pa_cons pe_int (pa_cons (pe_lst (pa_cons pe_str pa_nil)) pa_nil)))) (pa_cons (pe_tupS (pa_cons pe_int (pa_cons pe_int (pa_cons (pe_lst (pa_cons pe_str (pa_cons pe_str pa_nil))) pa_nil)))) pa_nil))) (nomark _))))) (pss_one (ps_ret pe_bl)) pss_nil)
      (pss_cons (ps_if (PW.pt (pw_or (pt_cmpR (op_neD hu) (pe_mt0 Te hr (by decide) (pe_mt Pu hr (by decide) (pe_op (op_own (op := .Sub) os Fs_ (hr.mono (by decide)) bs) (pv 0) (pv 1)) (pa_cons pe_str (pa_cons (pv 1) pa_nil)))) (pe_lst pa_nil) (nomark _)) (pw_or1 (pt_cmpR (op_neO Ne hr (by decide)) (pe_mt Pu hr (by decide) (pe_mt Ov hr (by decide) (pv 0) (pa_cons pe_int pa_nil)) (pa_cons pe_str (pa_cons (pe_op (op_ownI (op := .Mult) im Gm (hr.mono (by decide)) cm) (pv 1) pe_int) pa_nil))) (pv 1) (nomark _))))) (pss_one (ps_ret pe_bl)) pss_nil)
      (pss_cons (ps_set (i := 4) scFracR.nd rfl (Or.inl rfl) (pe_op op_pow pe_int pe_int))
      (pss_cons (ps_if (PW.pt (pw_or (pt_cmpR (op_neD hu) (pe_mt0 Te hr (by decide) (pe_mt Ov hr (by decide) (pv 0) (pa_cons (pv 4) pa_nil))) (pe_lst (pa_cons (pe_tupS (pa_cons pe_int (pa_cons (pv 4) (pa_cons (pe_lst (pa_cons pe_str pa_nil)) pa_nil)))) pa_nil)) (nomark _)) (pw_or1 (pt_cmpR (op_neO Ne hr (by decide)) (pe_mt Ov hr (by decide) (pe_op (op_ownI (op := .Mult) im Gm (hr.mono (by decide)) cm) (pv 0) (pv 4)) (pa_cons (pe_op op_pow pe_int pe_int) pa_nil)) (pe_op (op_ownI (op := .Mult) im Gm (hr.mono (by decide)) cm) (pv 0) pe_int) (nomark _))))) (pss_one (ps_ret pe_bl)) pss_nil)
      (pss_one (ps_ret (pe_and (pe_cmpR (op_eqD hu) (pe_mt0 Te hr (by decide) (pe_mt Ov hr (by decide) (pv 0) (pa_cons (pe_un un_neg pe_int) pa_nil))) (pe_lst (pa_cons (pe_tupS (pa_cons (pe_un un_neg pe_int) (pa_cons pe_int (pa_cons (pe_lst (pa_cons pe_str pa_nil)) pa_nil)))) pa_nil)) (nomark _))
        (pe_one (pe_cmpR (op_eqO Ne hr (by decide)) (pe_mt Pu hr (by decide) (pe_op (op_own (op := .Sub) os Fs_ (hr.mono (by decide)) bs) (pv 0) (pv 0)) (pa_cons pe_str (pa_cons (pv 1) pa_nil))) (pe_op (op_own (op := .Sub) os Fs_ (hr.mono (by decide)) bs) (pv 0) (pv 0)) (nomark _)))))))))))))), ?_⟩
    have qa : smQ fN = true ∧ smQ fM = true ∧ smQ (ovF fM 3) = true ∧ smQ (mulF fN fN) = true ∧ smQ fSq = true ∧ smQ (ovF fM 2) = true ∧ szHQ (ovF fM 2) [] (powF "n" fSq).reverse = true ∧ smQ fHalf = true := by
      have h := frA_is
      unfold frA at h
      simp only [Bool.and_eq_true] at h
      obtain ⟨⟨⟨⟨⟨⟨⟨h1, h2⟩, h3⟩, h4⟩, h5⟩, h6⟩, h7⟩, h8⟩ := h
      exact ⟨h1, h2, h3, h4, h5, h6, h7, h8⟩
    obtain ⟨a1, a2, a3, a4, a5, a6, a7, a8⟩ := qa
    have letn : LetOk "n" := by decide
    have letm : LetOk "m" := by decide
    refine ⟨"n", rfl, letn, fun H1 n S1 _ fn => ⟨"m", rfl, letm, fun H2 m S2 _ fm => ⟨_, _, rfl, ?_⟩⟩⟩
    dsimp only
    have fn : FmAt P w K C H2 n fN := FmAt.same fn S2
    have fm : FmAt P w K C H2 m fM := fm
    have tb2 := (tb.ext S1).ext S2
    have X2 : ExtN H H2 := .of (S1.trans S2)
    -- square
    refine seq_asg ?_
    refine ⟨_, rfl, _, rfl, ?_⟩
    refine mul_own fn fn (szmQ_of a1 a1) fun H3 c3 S3 _ f3 => ?_
    obtain ⟨dxm, dm, im3⟩ := insF (FmAt.same fm S3)
    refine ⟨_, rfl, m, dxm, _, rfl, im3, rfl, ?_⟩
    try dsimp only [tCons, tNil, tC, List.nil_append, List.cons_append, List.append_nil]
    refine over_at (n := 3) (FmAt.same fm S3) a2 (by decide) (by decide) fun H4 c4 S4 f4 => ?_
    refine add_own (FmAt.same f3 S4) f4 (szsQ_of a4 a3) fun H5 sq S5 _ fsq => ?_
    have fsq : FmAt P w K C H5 sq fSq := fsq
    have S25 := (S3.trans S4).trans S5
    have fn5 := FmAt.same fn S25
    have fm5 := FmAt.same fm S25
    -- halved
    obtain ⟨dxs, ds, is5⟩ := insF fsq
    obtain ⟨dxm5, dm5, im5⟩ := insF fm5
    refine seq_asg ?_
    refine ⟨_, rfl, sq, dxs, _, rfl, is5, rfl, _, rfl, m, dxm5, _, rfl, im5, rfl, ?_⟩
    try dsimp only [tCons, tNil, tC, List.nil_append, List.cons_append, List.append_nil]
    refine over_at (n := 2) fm5 a2 (by decide) (by decide) fun H6 c6 S6 f6 => ?_
    try dsimp only [tCons, tNil, tC, List.nil_append, List.cons_append, List.append_nil]
    refine put_at (FmAt.same fsq S6) f6 a5 letn a7 fun H7 ha S7 fh => ?_
    have fh : FmAt P w K C H7 ha fHalf := fh
    have S57 := S6.trans S7
    have fn7 := FmAt.same fn5 S57
    have fm7 := FmAt.same fm5 S57
    have fs7 := FmAt.same fsq S57
    have tb7 := (tb2.ext S25).ext S57
    have X7 : ExtN H H7 := (X2.trans (.of S25)).trans (.of S57)
    -- halved.terms(), halved.letters()
    obtain ⟨dxh, dh, ih7⟩ := insF fh
    refine ⟨_, rfl, ha, dxh, _, rfl, ih7, rfl, ?_⟩
    try dsimp only [tCons, tNil, tC, List.nil_append, List.cons_append, List.append_nil]
    refine terms_at fh a8 tb7 fun H8 p8 ex8 tb8 d8 => ?_
    rw [dHalf] at d8
    refine lit_a (K := K) fun H9 t9 S9 d9 => ?_
    refine lit_b (K := K) fun H10 t10 S10 d10 => ?_
    refine ⟨by show 2 ≤ sizeLine; decide, fun p11 n11 => ?_⟩
    have S11 := Same.upd (o := .lst [.ref t9, .ref t10]) n11
    refine ne_data (dpS S11 (dpS S10 (dpS S9 d8))) (.lst (SqL.of upd_same) (.cons (dpS S11 (dpS S10 d9)) (.cons (dpS S11 d10) .nil))) (by decide +kernel) ⟨_, rfl, ifF rfl ?_⟩
    have S811 := (S9.trans S10).trans S11
    have tb11 := tb8.ext S811
    have X11 : ExtN H7 (upd H10 p11 (.lst [.ref t9, .ref t10])) := ex8.trans (.of S811)
    have fn11 := FmAt.ext fn7 X11
    have fm11 := FmAt.ext fm7 X11
    have fs11 := FmAt.ext fs7 X11
    have fh11 := FmAt.ext fh X11
    have X11 := X7.trans X11
    generalize upd H10 p11 (.lst [.ref t9, .ref t10]) = H11 at tb11 X11 fn11 fm11 fs11 fh11 ⊢
    obtain ⟨dxh2, dh2, ih11⟩ := insF fh11
    refine ⟨_, rfl, ha, dxh2, _, rfl, ih11, rfl, ha, fHalf, rfl, fh11, letsIn_of (by have := lenHalf.2; omega), fun H12 p12 xs S12 np12 hp12 lx so ndx hmem => ?_⟩
    have exs : xs = [("m" : Str)] := only_one ndx fun x => by
      rw [hmem, keysHalf]
      constructor
      · rintro ⟨k, hk, hx⟩
        have hk : k = mMM ∨ k = mM := by simpa using hk
        rcases hk with rfl | rfl
        · simpa [mMM] using hx
        · simpa [mM] using hx
      · rintro rfl
        exact ⟨mM, by simp, by simp [mM]⟩
    subst exs
    refine ⟨by show 1 ≤ sizeLine; decide, fun p13 n13 => ?_⟩
    have S13 := Same.upd (o := .lst [V.str "m"]) n13
    refine ne_data (d := .list [.str "m"]) (.lst (SqL.of (xs := [V.str "m"]) (S13 _ _ hp12)) (.cons (.str _) .nil)) (.lst (SqL.of upd_same) (.cons (.str _) .nil)) (by decide +kernel) ⟨_, rfl, ifF rfl ?_⟩
    dsimp only [tNext]
    have S1113 := S12.trans S13
    have tb13 := tb11.ext S1113
    have X13 := X11.trans (.of S1113)
    have fn13 := FmAt.same fn11 S1113
    have fm13 := FmAt.same fm11 S1113
    have fs13 := FmAt.same fs11 S1113
    have fh13 := FmAt.same fh11 S1113
    generalize upd H12 p13 (.lst [V.str "m"]) = H13 at tb13 X13 fn13 fm13 fs13 fh13 ⊢
    -- degree
    obtain ⟨sq1, sq2, sq3⟩ := smQ_mem a8
    obtain ⟨dxh3, dh3, ih13⟩ := insF fh13
    obtain ⟨r1, r2, r3, r4⟩ := frB_all
    refine ⟨_, rfl, ha, dxh3, _, rfl, ih13, rfl, ha, fHalf, rfl, fh13, by omega, fun x hx => Nat.le_trans (sq1 x hx).2 (by decide), fun H14 S14 => ⟨rfl, _, rfl, ifF (by rw [r1]; rfl) ?_⟩⟩
    dsimp only [tNext]
    have tb14 := tb13.ext S14
    have X14 := X13.trans (.of S14)
    have fn14 := FmAt.same fn13 S14
    have fm14 := FmAt.same fm13 S14
    have fs14 := FmAt.same fs13 S14
    have fh14 := FmAt.same fh13 S14
    -- halved != .., square.terms()
    refine ⟨_, rfl, _, rfl, _, rfl, ?_⟩
    refine mul_own fm14 fm14 (szmQ_of a2 a2) fun H15 c15 S15 _ f15 => ?_
    obtain ⟨dx15, d15, i15⟩ := insF f15
    refine ⟨c15, dx15, _, rfl, i15, rfl, ?_⟩
    try dsimp only [tCons, tNil, tC, List.nil_append, List.cons_append, List.append_nil]
    refine over_at (n := 4) f15 r3 (by decide) (by decide) fun H16 c16 S16 f16 => ?_
    have fm16 := FmAt.same (FmAt.same fm14 S15) S16
    obtain ⟨dx16, d16, i16⟩ := insF fm16
    refine ⟨_, rfl, m, dx16, _, rfl, i16, rfl, ?_⟩
    try dsimp only [tCons, tNil, tC, List.nil_append, List.cons_append, List.append_nil]
    refine over_at (n := 3) fm16 a2 (by decide) (by decide) fun H17 c17 S17 f17 => ?_
    refine add_own (FmAt.same f16 S17) f17 (szsQ_of r4 a3) fun H18 c18 S18 _ f18 => ?_
    have S1418 := ((S15.trans S16).trans S17).trans S18
    refine ne_formQ (FmAt.same fh14 S1418) f18 r2 ⟨_, rfl, ifF rfl ?_⟩
    have tb18 := tb14.ext S1418
    have fs18 := FmAt.same fs14 S1418
    obtain ⟨dx18, d18, i18⟩ := insF fs18
    refine ⟨_, rfl, sq, dx18, _, rfl, i18, rfl, ?_⟩
    try dsimp only [tCons, tNil, tC, List.nil_append, List.cons_append, List.append_nil]
    refine terms_at fs18 a5 tb18 fun H19 p19 ex19 tb19 d19 => ?_
    rw [dSq] at d19
    refine lit_a (K := K) fun H20 t20 S20 d20 => ?_
    refine lit_b (K := K) fun H21 t21 S21 d21 => ?_
    refine ⟨by show 2 ≤ sizeLine; decide, fun p22 n22 => ?_⟩
    have S22 := Same.upd (o := .lst [.ref t20, .ref t21]) n22
    refine ne_data (dpS S22 (dpS S21 (dpS S20 d19))) (.lst (SqL.of upd_same) (.cons (dpS S22 (dpS S21 d20)) (.cons (dpS S22 d21) .nil))) (by decide +kernel) ⟨_, rfl, ifF rfl ?_⟩
    dsimp only [tNext]
    have S1922 := (S20.trans S21).trans S22
    have tb22 := tb19.ext S1922
    have X1422 : ExtN H14 (upd H21 p22 (.lst [.ref t20, .ref t21])) := ((ExtN.of S1418).trans ex19).trans (.of S1922)
    have fn22 := FmAt.ext fn14 X1422
    have fm22 := FmAt.ext fm14 X1422
    have X22 := X14.trans X1422
    generalize upd H21 p22 (.lst [.ref t20, .ref t21]) = H22 at tb22 fn22 fm22 X22 ⊢
    -- (n - m).put, n.over(2).put
    obtain ⟨u1, u2, u3, u4, u5, u6, u7, u8, u9⟩ := frC_all
    refine ⟨_, rfl, _, rfl, ?_⟩
    refine sub_own fn22 fm22 a1 a2 u2 fun H23 c23 S23 f23 => ?_
    obtain ⟨dx23, d23, i23⟩ := insF f23
    refine ⟨c23, dx23, _, rfl, i23, rfl, _, rfl, ?_⟩
    try dsimp only [tCons, tNil, tC, List.nil_append, List.cons_append, List.append_nil]
    refine put_at f23 (FmAt.same fm22 S23) u1 letn u3 fun H24 c24 S24 f24 => ?_
    rw [u4] at f24
    obtain ⟨dx24, d24, i24⟩ := insF f24
    refine ⟨c24, dx24, _, rfl, i24, rfl, ?_⟩
    try dsimp only [tCons, tNil, tC, List.nil_append, List.cons_append, List.append_nil]
    have tb24 := (tb22.ext S23).ext S24
    refine terms_at f24 (by decide +kernel) tb24 fun H25 p25 ex25 tb25 d25 => ?_
    refine ⟨by show 0 ≤ sizeLine; decide, fun p26 n26 => ?_⟩
    have S26 := Same.upd (o := .lst []) n26
    have d25 : Dp K H25 (.ref p25) (.list []) := by
      have e : trD (trs []) = .list [] := by
        unfold trs sortM
        simp [trD]
      rw [e] at d25
      exact d25
    refine ne_data (dpS S26 d25) (.lst (SqL.of upd_same) .nil) (by decide +kernel) ⟨_, rfl, ifF rfl ?_⟩
    have X2226 : ExtN H22 (upd H25 p26 (.lst [])) := ((ExtN.of (S23.trans S24)).trans ex25).trans (.of S26)
    have tb26 := tb25.ext S26
    have fn26 := FmAt.ext fn22 X2226
    have fm26 := FmAt.ext fm22 X2226
    have X26 := X22.trans X2226
    generalize upd H25 p26 (.lst []) = H26 at tb26 fn26 fm26 X26 ⊢
    obtain ⟨dx26, d26, i26⟩ := insF fn26
    refine ⟨_, rfl, n, dx26, _, rfl, i26, rfl, ?_⟩
    try dsimp only [tCons, tNil, tC, List.nil_append, List.cons_append, List.append_nil]
    refine over_at (n := 2) fn26 a1 (by decide) (by decide) fun H27 c27 S27 f27 => ?_
    obtain ⟨dx27, d27, i27⟩ := insF f27
    refine ⟨c27, dx27, _, rfl, i27, rfl, _, rfl, ?_⟩
    refine mul_int (n := 2) (FmAt.same fm26 S27) (szmQ_of a2 u6) fun H28 c28 S28 _ f28 => ?_
    try dsimp only [tCons, tNil, tC, List.nil_append, List.cons_append, List.append_nil]
    refine put_at (FmAt.same f27 S28) f28 u5 letn u8 fun H29 c29 S29 f29 => ?_
    have S2629 := (S27.trans S28).trans S29
    refine ⟨_, rfl, ?_⟩
    refine ne_formQ f29 (FmAt.same fm26 S2629) u9 ⟨_, rfl, ifF rfl ?_⟩
    dsimp only [tNext]
    have tb29 := tb26.ext S2629
    have fn29 := FmAt.same fn26 S2629
    have fm29 := FmAt.same fm26 S2629
    have X29 := X26.trans (.of S2629)
    -- far
    obtain ⟨v1, v2, v3, v4, v5⟩ := frD_all
    have pw10 : CPow 10 20 := ⟨by decide, by decide, by decide⟩
    have pw19 : CPow 10 19 := ⟨by decide, by decide, by decide⟩
    refine seq_asg ?_
    refine ⟨10, 20, rfl, rfl, pw10, ?_⟩
    have hfar : ((10 : Int) ^ (20 : Int).toNat) = far := rfl
    dsimp only
    rw [hfar]
    obtain ⟨dx29, d29, i29⟩ := insF fn29
    refine ⟨_, rfl, n, dx29, _, rfl, i29, rfl, _, rfl, ?_⟩
    try dsimp only [tCons, tNil, tC, List.nil_append, List.cons_append, List.append_nil]
    refine over_at (n := far) fn29 a1 (by decide) (by decide) fun H30 c30 S30 f30 => ?_
    obtain ⟨dx30, d30, i30⟩ := insF f30
    refine ⟨c30, dx30, _, rfl, i30, rfl, ?_⟩
    try dsimp only [tCons, tNil, tC, List.nil_append, List.cons_append, List.append_nil]
    refine terms_at f30 v1 (tb29.ext S30) fun H31 p31 ex31 tb31 d31 => ?_
    rw [dFar] at d31
    refine ⟨_, rfl, by show 1 ≤ sizeLine; decide, fun l32 n32 => ⟨by show 3 ≤ sizeLine; decide, fun t33 H33 S33 n33 h33 => ⟨by show 1 ≤ sizeLine; decide, fun p34 n34 => ?_⟩⟩⟩
    have S32 := Same.upd (o := .lst [V.str "n"]) n32
    have S34 := Same.upd (o := .lst [.ref t33]) n34
    refine ne_data (dpS S34 (dpS S33 (dpS S32 d31))) (.lst (SqL.of upd_same) (.cons (.tup (SqT.of (S34 _ _ h33)) (.cons (.int _) (.cons (.int _) (.cons (.lst (SqL.of (xs := [V.str "n"]) (S34 _ _ (S33 _ _ upd_same))) (.cons (.str _) .nil)) .nil)))) .nil)) (by decide +kernel) ⟨_, rfl, ifF rfl ?_⟩
    have X2935 : ExtN H29 (upd H33 p34 (.lst [.ref t33])) := ((((ExtN.of S30).trans ex31).trans (.of S32)).trans (.of S33)).trans (.of S34)
    have tb35 := ((tb31.ext S32).ext S33).ext S34
    have fn35 := FmAt.ext fn29 X2935
    have fm35 := FmAt.ext fm29 X2935
    have X35 := X29.trans X2935
    generalize upd H33 p34 (.lst [.ref t33]) = H35 at tb35 fn35 fm35 X35 ⊢
    refine ⟨_, rfl, _, rfl, ?_⟩
    refine mul_int (n := far) fn35 (szmQ_of a1 v2) fun H36 c36 S36 _ f36 => ?_
    obtain ⟨dx36, d36, i36⟩ := insF f36
    refine ⟨c36, dx36, _, rfl, i36, rfl, 10, 19, rfl, rfl, pw19, ?_⟩
    try dsimp only [tCons, tNil, tC, List.nil_append, List.cons_append, List.append_nil]
    refine over_at (n := 10 ^ 19) f36 v3 (by decide) (by decide) fun H37 c37 S37 f37 => ?_
    have S3537 := S36.trans S37
    refine ⟨_, rfl, ?_⟩
    refine mul_int (n := 10) (FmAt.same fn35 S3537) (szmQ_of a1 v4) fun H38 c38 S38 _ f38 => ?_
    refine ne_formQ (FmAt.same f37 S38) f38 v5 ⟨_, rfl, ifF rfl ?_⟩
    dsimp only [tNext]
    have S3538 := S3537.trans S38
    have tb38 := tb35.ext S3538
    have fn38 := FmAt.same fn35 S3538
    have fm38 := FmAt.same fm35 S3538
    have X38 := X35.trans (.of S3538)
    -- the last row
    obtain ⟨w1, w2, w3, w4, w5⟩ := frE_all
    refine ret_of ?_
    obtain ⟨dx38, d38, i38⟩ := insF fn38
    refine ⟨_, rfl, n, dx38, _, rfl, i38, rfl, 3, rfl, ?_⟩
    try dsimp only [tCons, tNil, tC, List.nil_append, List.cons_append, List.append_nil]
    refine over_at (n := -3) fn38 a1 (by decide) (by decide) fun H39 c39 S39 f39 => ?_
    obtain ⟨dx39, d39, i39⟩ := insF f39
    refine ⟨c39, dx39, _, rfl, i39, rfl, ?_⟩
    try dsimp only [tCons, tNil, tC, List.nil_append, List.cons_append, List.append_nil]
    refine terms_at f39 w1 (tb38.ext S39) fun H40 p40 ex40 tb40 d40 => ?_
    rw [dNeg] at d40
    refine ⟨1, rfl, by show 1 ≤ sizeLine; decide, fun l41 n41 => ⟨by show 3 ≤ sizeLine; decide, fun t42 H42 S42 n42 h42 => ⟨by show 1 ≤ sizeLine; decide, fun p43 n43 => ?_⟩⟩⟩
    have S41 := Same.upd (o := .lst [V.str "n"]) n41
    have S43 := Same.upd (o := .lst [.ref t42]) n43
    refine eq_data (dpS S43 (dpS S42 (dpS S41 d40))) (.lst (SqL.of upd_same) (.cons (.tup (SqT.of (S43 _ _ h42)) (.cons (.int _) (.cons (.int _) (.cons (.lst (SqL.of (xs := [V.str "n"]) (S43 _ _ (S42 _ _ upd_same))) (.cons (.str _) .nil)) .nil)))) .nil)) (by decide +kernel) ⟨true, rfl, iteT (B := False) ?_⟩
    have X3844 : ExtN H38 (upd H42 p43 (.lst [.ref t42])) := ((((ExtN.of S39).trans ex40).trans (.of S41)).trans (.of S42)).trans (.of S43)
    have tb44 := ((tb40.ext S41).ext S42).ext S43
    have fn44 := FmAt.ext fn38 X3844
    have fm44 := FmAt.ext fm38 X3844
    have X44 := X38.trans X3844
    generalize upd H42 p43 (.lst [.ref t42]) = H44 at tb44 fn44 fm44 X44 ⊢
    refine ⟨_, rfl, _, rfl, ?_⟩
    refine sub_own fn44 fn44 a1 a1 w2 fun H45 c45 S45 f45 => ?_
    obtain ⟨dx45, d45, i45⟩ := insF f45
    refine ⟨c45, dx45, _, rfl, i45, rfl, _, rfl, ?_⟩
    try dsimp only [tCons, tNil, tC, List.nil_append, List.cons_append, List.append_nil]
    refine put_at f45 (FmAt.same fm44 S45) w3 letn w4 fun H46 c46 S46 f46 => ?_
    refine ⟨_, rfl, _, rfl, ?_⟩
    have S4446 := S45.trans S46
    refine sub_own (FmAt.same fn44 S4446) (FmAt.same fn44 S4446) a1 a1 w2 fun H47 c47 S47 f47 => ?_
    refine eq_form (FmAt.same f46 S47) f47 ?_
    rw [w5]
    exact k H47 (X44.trans (.of (S4446.trans S47))) (tb44.ext (S4446.trans S47))
end
end E2

set_option Elab.async false
set_option linter.all false
set_option maxRecDepth 100000
set_option maxHeartbeats 1000000
/-! the terms of a form in their order, as data -/
namespace E2
open PySem PySem.Spec PyProof.Rows L2
open PySem.W (dataLe AllAlike Sortable)
theorem leM_tot : PySem.W.TotalLe (dataLe false L2.kM) := PySem.W.sortLe_total _ _ _
theorem toksS_inj : ∀ {xs ys : List Str}, PySem.W.keyToksAll (xs.map PyData.str) = PySem.W.keyToksAll (ys.map PyData.str) → xs = ys
  | [], [], _ => rfl
  | [], y :: ys, h => by
    rw [List.map_nil, List.map_cons] at h
    simp [PySem.W.keyToksAll] at h
  | x :: xs, [], h => by
    rw [List.map_nil, List.map_cons] at h
    simp [PySem.W.keyToksAll] at h
  | x :: xs, y :: ys, h => by
    rw [List.map_cons, List.map_cons] at h
    simp only [PySem.W.keyToksAll, PySem.W.keyToks, List.cons_append, List.nil_append, List.cons.injEq, true_and, Sum.inr.injEq] at h
    rw [str_ext h.1, toksS_inj h.2]
theorem kM_inj {m n : Mon} (h : PySem.W.keyToks (L2.kM m) = PySem.W.keyToks (L2.kM n)) : m = n := by
  unfold L2.kM at h
  simp only [PySem.W.keyToks, PySem.W.keyToksAll, List.cons_append, List.nil_append, List.cons.injEq, true_and] at h
  exact toksS_inj (List.append_cancel_right h.2)
theorem leM_anti {m n : Mon} (h : dataLe false L2.kM m n = true) (k : dataLe false L2.kM n m = true) : m = n := by
  refine kM_inj ?_
  have e : ∀ a b : Mon, dataLe false L2.kM a b = !(listOrd itemOrd).blt (PySem.W.keyToks (L2.kM b)) (PySem.W.keyToks (L2.kM a)) := fun _ _ => rfl
  rw [e] at h k
  exact (listOrd itemOrd).total _ _ (by simpa using k) (by simpa using h)
theorem sortM_pw (l : List Mon) : (sortM l).Pairwise fun a b => dataLe false L2.kM a b = true :=
  List.pairwise_mergeSort (fun a b c => leM_tot.trans a b c) (fun a b => by have := leM_tot.total a b; simpa using this) l
theorem sortM_perm (l : List Mon) : (sortM l).Perm l := List.mergeSort_perm l _
theorem sortM_of_perm {l m : List Mon} (h : l.Perm m) : sortM l = sortM m :=
  List.Perm.eq_of_pairwise (le := fun a b => dataLe false L2.kM a b = true) (fun _ _ _ _ => leM_anti) (sortM_pw l) (sortM_pw m) ((sortM_perm l).trans (h.trans (sortM_perm m).symm))
theorem trs_keys (fm : Fm) : (trs fm).map (·.1) = sortM (fm.map (·.1)) := by
  unfold trs
  rw [List.map_map]
  show (sortM (fm.map (·.1))).map (fun m => m) = _
  rw [List.map_id']
theorem trs_perm {fm : Fm} (nd : (fm.map (·.1)).Nodup) : (trs fm).Perm fm := by
  have p : (trs fm).Perm ((fm.map (·.1)).map fun m => (m, (valM fm m).getD 0)) := (sortM_perm _).map _
  have e : ((fm.map (·.1)).map fun m => (m, (valM fm m).getD 0)) = fm := by
    rw [List.map_map]
    have : ∀ x ∈ fm, ((fun m => (m, (valM fm m).getD 0)) ∘ (·.1)) x = id x := fun x hx => by
      show (x.1, (valM fm x.1).getD 0) = x
      rw [valM_of_mem nd x hx]
      rfl
    rw [List.map_congr_left this, List.map_id]
  rw [e] at p
  exact p
theorem keys_perm {a b : Fm} (ca : Canon a) (cb : Canon b) (h : pol a = pol b) : (a.map (·.1)).Perm (b.map (·.1)) := by
  have sub : ∀ {a b : Fm}, Canon a → Canon b → pol a = pol b → ∀ m ∈ a.map (·.1), m ∈ b.map (·.1) := fun {a b} ca cb h m hm => by
    rcases valM_nz cb m with ⟨e1, e2⟩ | ⟨q, _, _, e⟩
    · rcases valM_nz ca m with ⟨_, f2⟩ | ⟨q, f1, _, _⟩
      · exact absurd hm f2
      · rw [valM_same ca cb h, e1] at f1
        cases f1
    · exact e
  have l1 := nodup_le' ca.nd (sub ca cb h)
  have l2 := nodup_le' cb.nd (sub cb ca h.symm)
  exact perm_of_sub ca.nd (sub ca cb h) l2
/-- equal polynomials have one list of terms -/
theorem trs_of_pol {a b : Fm} (ca : Canon a) (cb : Canon b) (h : pol a = pol b) : trs a = trs b := by
  unfold trs
  rw [sortM_of_perm (keys_perm ca cb h)]
  refine List.map_congr_left fun m _ => ?_
  rw [valM_same ca cb h]
theorem pol_of_trs {a b : Fm} (ca : Canon a) (cb : Canon b) (h : trs a = trs b) : pol a = pol b := by
  have p : a.Perm b := (trs_perm ca.nd).symm.trans (by rw [h]; exact trs_perm cb.nd)
  exact pol_eq fun f => pr_perm p f
theorem ev_trs (g : Str → Int) {fm : Fm} (nd : (fm.map (·.1)).Nodup) : ev g (trs fm) = ev g fm := by
  rw [ev_pr, ev_pr]
  exact pr_perm (trs_perm nd) _
/-! as data -/
theorem eqv_strs : ∀ xs ys : List Str, PyData.eqvAll (xs.map PyData.str) (ys.map PyData.str) = true → xs = ys
  | [], [], _ => rfl
  | [], y :: ys, h => by simp [PyData.eqvAll] at h
  | x :: xs, [], h => by simp [PyData.eqvAll] at h
  | x :: xs, y :: ys, h => by
    rw [List.map_cons, List.map_cons] at h
    simp only [PyData.eqvAll, PyData.eqv, Bool.and_eq_true] at h
    rw [eq_of_beq h.1, eqv_strs xs ys h.2]
theorem eqv_trs : ∀ a b : Fm, PyData.eqvAll (a.map fun x => .tuple [.int x.2.num, .int (x.2.den : Int), .list (x.1.map PyData.str)]) (b.map fun x => .tuple [.int x.2.num, .int (x.2.den : Int), .list (x.1.map PyData.str)]) = true → a = b
  | [], [], _ => rfl
  | [], y :: ys, h => by simp [PyData.eqvAll] at h
  | x :: xs, [], h => by simp [PyData.eqvAll] at h
  | x :: xs, y :: ys, h => by
    rw [List.map_cons, List.map_cons] at h
    simp only [PyData.eqvAll, PyData.eqv, Bool.and_eq_true, beq_iff_eq] at h
    obtain ⟨⟨h1, h2, h3, _⟩, h4⟩ := h
    have e1 : x.2 = y.2 := Rat.ext h1 (by omega)
    rw [eqv_trs xs ys h4]
    rw [show x = y from Prod.ext (eqv_strs _ _ h3) e1]
theorem eqv_trD {a b : Fm} (h : PyData.eqv (trD a) (trD b) = true) : a = b := eqv_trs a b (by simpa [trD, PyData.eqv] using h)
def StrsOk (fm : Fm) : Prop := ∀ x ∈ fm, ∀ z ∈ x.1, PyData.strOk z = true
theorem canLay_trs : ∀ {fm : Fm}, StrsOk fm → PyData.canLayAll0 (fm.map fun x => .tuple [.int x.2.num, .int (x.2.den : Int), .list (x.1.map PyData.str)]) = true
  | [], _ => rfl
  | x :: r, h => by
    have h1 := canLay_strs x.1 (h x List.mem_cons_self)
    have h2 := canLay_trs (fm := r) fun y hy => h y (List.mem_cons_of_mem _ hy)
    rw [List.map_cons]
    simp only [PyData.canLayAll0, PyData.canLay0, h1, h2, Bool.and_self, Bool.and_true]
theorem depth_trs : ∀ fm : Fm, PyData.depthAll (fm.map fun x => .tuple [.int x.2.num, .int (x.2.den : Int), .list (x.1.map PyData.str)]) ≤ 8
  | [] => by simp [PyData.depthAll]
  | x :: r => by
    have h2 := depth_trs r
    rw [List.map_cons]
    simp only [PyData.depthAll, PyData.depth, depth_strs]
    omega
theorem shaped_trD {fm : Fm} (h : StrsOk fm) : SeqAt.shaped (trD fm) = true := by
  have h1 : PyData.canLay0 (trD fm) = true := by
    unfold trD
    simp only [PyData.canLay0]
    exact canLay_trs h
  have h2 : PyData.depth (trD fm) ≤ 64 := by
    have := depth_trs fm
    unfold trD
    simp only [PyData.depth]
    omega
  show (PyData.canLay0 _ && decide (PyData.depth _ ≤ 64)) = true
  rw [h1, decide_eq_true h2]
  rfl
/-- the lists of letters behind their lengths, in order -/
theorem kL_pw (fm : Fm) : ((trs fm).map fun x => kL x.1).Pairwise fun x y => dataLe false id x y = true := by
  have h := sortM_pw (fm.map (·.1))
  rw [← trs_keys] at h
  have h2 := List.pairwise_map.mp h
  exact List.pairwise_map.mpr h2
theorem alike_kL (l : List Mon) : AllAlike (l.map kL) := fun d hd e he => by
  obtain ⟨m, _, rfl⟩ := List.mem_map.mp hd
  obtain ⟨n, _, rfl⟩ := List.mem_map.mp he
  simp [kL, PySem.W.alike, PySem.W.alikeAll, alike_strs]
theorem depth_kL (m : Mon) : PyData.depth (kL m) ≤ 16 := by
  simp only [kL, PyData.depth, PyData.depthAll, depth_strs]
  omega
end E2

set_option Elab.async false
set_option linter.all false
set_option maxRecDepth 100000
set_option maxHeartbeats 1000000
set_option exponentiation.threshold 500000
/-! _law_terms_right -/
namespace E2
open PySem PySem.Spec PyProof.Rows L2
open C8 (Cal Mak Met InsC pe_c pe_mt pe_mt0 call_isC clsBody)
open PySem.W (dataLe AllAlike Sortable)
abbrev sTermsR : Stmt := top 34
/-! the sum of the terms over the product of their bottoms -/
def auS (g : Str → Int) (p : Int × Int) (x : Mon × Rat) : Int × Int := (p.1 * (x.2.den : Int) + x.2.num * evM g x.1 * p.2, p.2 * (x.2.den : Int))
def auF (g : Str → Int) (l : Fm) : Int × Int := l.foldl (auS g) (0, 1)
theorem auF_snoc {g : Str → Int} {l : Fm} {i : Nat} {x : Mon × Rat} (h : l[i]? = some x) : auF g (l.take (i + 1)) = auS g (auF g (l.take i)) x := by
  unfold auF
  rw [take_snoc h, List.foldl_append]; rfl
theorem auF_val (g : Str → Int) : ∀ (l : Fm) (p : Int × Int), 0 < p.2 → 0 < (l.foldl (auS g) p).2 ∧ ((l.foldl (auS g) p).1 : Rat) * (p.2 : Rat) = ((l.foldl (auS g) p).2 : Rat) * ((p.1 : Rat) + ev g l * (p.2 : Rat))
  | [], p, h => ⟨h, by show (p.1 : Rat) * (p.2 : Rat) = (p.2 : Rat) * ((p.1 : Rat) + 0 * (p.2 : Rat)); grind⟩
  | x :: l, p, h => by
    have dp : (0 : Int) < (x.2.den : Int) := by have := x.2.den_pos; omega
    have h2 : 0 < (auS g p x).2 := Int.mul_pos h dp
    obtain ⟨a, b⟩ := auF_val g l (auS g p x) h2
    refine ⟨a, ?_⟩
    rw [List.foldl_cons]
    generalize (l.foldl (auS g) (auS g p x)) = r at a b ⊢
    have e2 : ((auS g p x).2 : Rat) = (p.2 : Rat) * (x.2.den : Rat) := by
      show ((p.2 * (x.2.den : Int) : Int) : Rat) = _
      rw [Rat.intCast_mul, Rat.intCast_natCast]
    have e1 : ((auS g p x).1 : Rat) = (p.1 : Rat) * (x.2.den : Rat) + (x.2.num : Rat) * (evM g x.1 : Rat) * (p.2 : Rat) := by
      show ((p.1 * (x.2.den : Int) + x.2.num * evM g x.1 * p.2 : Int) : Rat) = _
      rw [Rat.intCast_add, Rat.intCast_mul, Rat.intCast_mul, Rat.intCast_mul, Rat.intCast_natCast]
    rw [e1, e2, rat_num] at b
    have dn : (x.2.den : Rat) ≠ 0 := by
      intro z
      rw [← Rat.intCast_natCast] at z
      have := Rat.intCast_inj.mp (z.trans (by rfl : (0 : Rat) = ((0 : Int) : Rat)))
      omega
    have e3 : ev g (x :: l) = x.2 * (evM g x.1 : Rat) + ev g l := rfl
    rw [e3]
    have b2 : (x.2.den : Rat) * ((r.1 : Rat) * (p.2 : Rat)) = (x.2.den : Rat) * ((r.2 : Rat) * ((p.1 : Rat) + (x.2 * (evM g x.1 : Rat) + ev g l) * (p.2 : Rat))) := by grind
    generalize (r.1 : Rat) * (p.2 : Rat) = y1 at b2 ⊢
    generalize (r.2 : Rat) * ((p.1 : Rat) + (x.2 * (evM g x.1 : Rat) + ev g l) * (p.2 : Rat)) = y2 at b2 ⊢
    grind
theorem auF_ev (g : Str → Int) (l : Fm) : 0 < (auF g l).2 ∧ ((auF g l).1 : Rat) = ((auF g l).2 : Rat) * ev g l := by
  obtain ⟨a, b⟩ := auF_val g l (0, 1) (by decide)
  refine ⟨a, ?_⟩
  have e1 : ((1 : Int) : Rat) = 1 := rfl
  have e0 : ((0 : Int) : Rat) = 0 := rfl
  simp only [e1, e0] at b
  unfold auF
  grind
theorem auF_lt {g : Str → Int} {e B : Nat} : ∀ {l : Fm}, (∀ x ∈ l, x.2.den ≤ 2 ^ e ∧ (x.2.num * evM g x.1).natAbs ≤ 2 ^ B) → ∀ i, i ≤ l.length → (auF g (l.take i)).2.natAbs ≤ 2 ^ (e * i) ∧ (auF g (l.take i)).1.natAbs ≤ i * (2 ^ B * 2 ^ (e * i)) := by
  intro l h i
  induction i with
  | zero => intro _; rw [List.take_zero]; exact ⟨by show (1 : Int).natAbs ≤ _; exact Nat.one_le_two_pow, by show (0 : Int).natAbs ≤ _; exact Nat.zero_le _⟩
  | succ i ih =>
    intro hi
    obtain ⟨u, a⟩ := ih (by omega)
    have hx : l[i]? = some l[i] := List.getElem?_eq_getElem (by omega)
    obtain ⟨d, n⟩ := h _ (List.mem_of_getElem? hx)
    generalize l[i] = x at hx d n
    rw [auF_snoc hx]
    generalize auF g (l.take i) = p at u a
    have e1 : 2 ^ (e * (i + 1)) = 2 ^ (e * i) * 2 ^ e := by rw [Nat.mul_succ, Nat.pow_add]
    constructor
    · show (p.2 * (x.2.den : Int)).natAbs ≤ _
      rw [Int.natAbs_mul, Int.natAbs_natCast, e1]
      exact Nat.mul_le_mul u d
    · show (p.1 * (x.2.den : Int) + x.2.num * evM g x.1 * p.2).natAbs ≤ _
      refine Nat.le_trans (Int.natAbs_add_le _ _) ?_
      rw [Int.natAbs_mul, Int.natAbs_natCast, Int.natAbs_mul (x.2.num * evM g x.1)]
      have h1 := Nat.mul_le_mul a d
      have h2 := Nat.mul_le_mul n u
      have one : 1 ≤ 2 ^ e := Nat.one_le_two_pow
      have h3 : 2 ^ B * 2 ^ (e * i) ≤ 2 ^ B * 2 ^ (e * i) * 2 ^ e := Nat.le_mul_of_pos_right _ (Nat.pow_pos (by decide))
      have e4 : (i + 1) * (2 ^ B * 2 ^ (e * (i + 1))) = i * (2 ^ B * 2 ^ (e * i)) * 2 ^ e + 2 ^ B * 2 ^ (e * i) * 2 ^ e := by
        rw [e1, Nat.add_mul, Nat.one_mul, ← Nat.mul_assoc (2 ^ B), ← Nat.mul_assoc i]
      omega
theorem auF_small {g : Str → Int} {e B : Nat} {l : Fm} (h : ∀ x ∈ l, x.2.den ≤ 2 ^ e ∧ (x.2.num * evM g x.1).natAbs ≤ 2 ^ B) (he : e * l.length ≤ 8900) (hl : l.length ≤ 2000) {i : Nat} (hi : i ≤ l.length) : (auF g (l.take i)).2.natAbs < 2 ^ 8950 ∧ (auF g (l.take i)).1.natAbs < 2 ^ (B + 9000) := by
  obtain ⟨u, a⟩ := auF_lt h i hi
  have ei : e * i ≤ 8900 := Nat.le_trans (Nat.mul_le_mul_left _ hi) he
  refine ⟨Nat.lt_of_le_of_lt (Nat.le_trans u (p2 ei)) (Nat.pow_lt_pow_right (by decide) (by decide)), Nat.lt_of_le_of_lt a ?_⟩
  have h1 : i * (2 ^ B * 2 ^ (e * i)) ≤ 2 ^ 11 * (2 ^ B * 2 ^ 8900) := Nat.mul_le_mul (by omega) (Nat.mul_le_mul_left _ (p2 ei))
  have e5 : 2 ^ 11 * (2 ^ B * 2 ^ 8900) = 2 ^ (11 + (B + 8900)) := by rw [Nat.pow_add, Nat.pow_add]
  rw [e5] at h1
  exact Nat.lt_of_le_of_lt h1 (Nat.pow_lt_pow_right (by decide) (by omega))
/-- sizes that the loops want -/
structure Sz5 (n L D b e : Nat) : Prop where
  n_ : n ≤ 2000
  l_ : L ≤ 50
  d0 : 0 < D
  de : D ≤ 2 ^ e
  d6 : D < 2 ^ 64
  b_ : b ≤ 20000
  en : e * n ≤ 8900
def spTermsR (P : Program) (w : World) (K : PySem.W.Frag) (C : Addr) : Sp := fun vs H Q _ => ∃ (p d a : Addr) (zs : List (Addr × Addr)) (fm : Fm) (names : List Str) (g : Str → Int) (n L D b e : Nat), vs = [.ref p, .ref d, .ref a] ∧ H p = some (.lst (zs.map fun z => V.ref z.1)) ∧ TermsAt H zs (trs fm) ∧ FmAt P w K C H a fm ∧ Bd names fm n L D b ∧ Sz5 n L D b e ∧ names.length ≤ 12 ∧ (∀ z ∈ names, LetOk z) ∧ VlAt H d names g ∧ ∀ H', Same H H' → Q (.bl true) H'
theorem dpAll_get {K : PySem.W.Frag} {H : Hp} : ∀ {xs : List V} {ds : List PyData}, xs.length = ds.length → (∀ (i : Nat) v d, xs[i]? = some v → ds[i]? = some d → Dp K H v d) → DpAll K H xs ds
  | [], [], _, _ => .nil
  | x :: xs, d :: ds, h, k => .cons (k 0 x d rfl rfl) (dpAll_get (by simpa using h) fun i v e h1 h2 => k (i + 1) v e h1 h2)
theorem paired_ix {α β : Type} {R : α → β → Prop} {as : List α} {bs : List β} (h : Paired R as bs) {i : Nat} {b : β} (e : bs[i]? = some b) : ∃ a, as[i]? = some a ∧ R a b := by
  induction h generalizing i with
  | nil => cases e
  | cons r t ih =>
    cases i with
    | zero => cases e; exact ⟨_, rfl, r⟩
    | succ i => exact ih e
/-- [(len(m), m) for m in seen] -/
theorem lc_kL {K : PySem.W.Frag} {x0 x1 x2 x3 x4 x6 x7 x8 x9 : Option V} {H : Hp} {Q : VK} {seen : Addr} {zs : List (Addr × Addr)} {ts : Fm} (hs : H seen = some (.lst (zs.map fun z => V.ref z.2))) (ht : TermsAt H zs ts) (hz : ts.length ≤ 100000)
    (k : ∀ H' p xs, Same H H' → H' p = some (.lst xs) → DpAll K H' xs (ts.map fun x => kL x.1) → xs.length ≤ 100000 → Q (.ref p) H') :
    tLc (iList K (tVar 5)) (gName 8) tYes (tTupS (tCons (tCB (rLenQ K) (tCons (tVar 8) tNil)) (tCons (tVar 8) tNil))) [8] [x0, x1, x2, x3, x4, some (.ref seen), x6, x7, x8, x9] H Q := by
  have lz : zs.length = ts.length := Paired.length ht
  refine ⟨_, rfl, seen, rfl, ⟨_, SqL.of hs⟩, fun D nD => ?_⟩
  refine lc_it (walk_list (xs := zs.map fun z => V.ref z.2)) (fun i H' => Same H H' ∧ ∃ tt : List Addr, tt.length = i ∧ H' D = some (.lst (tt.map V.ref)) ∧ ∀ (j : Nat) t, tt[j]? = some t → ∃ x z, ts[j]? = some x ∧ zs[j]? = some z ∧ H' t = some (.tup [.int (x.1.length : Nat), .ref z.2]))
    ⟨Same.upd nD, [], rfl, upd_same, fun j t h => by cases h⟩ (fun i H' _ q => SqL.of (q.1 _ _ hs)) ?_ ?_
  · rintro i v H1 H2 hi ⟨S, tt, lt, hD, ht1⟩ ⟨rfl, hx⟩
    rw [List.length_map] at hi
    rw [List.getElem?_map] at hx
    obtain ⟨z, hz1, rfl⟩ := Option.map_eq_some_iff.mp hx
    have htx : ts[i]? = some ts[i] := List.getElem?_eq_getElem (by omega)
    obtain ⟨z', hz2, tr1, tr2⟩ := paired_ix ht htx
    obtain rfl : z = z' := Option.some.inj (hz1.symm.trans hz2)
    generalize ts[i] = x at htx tr1 tr2
    refine ⟨rfl, iteT (B := False) ⟨_, rfl, z.2, _, rfl, .inl (SqL.of (S _ _ tr2)), _, rfl, by show 2 ≤ sizeLine; decide, fun t H3 S3 n3 h3 => ⟨_, S3 _ _ hD, by rw [List.length_map, sizeLine_eq]; omega, ?_, tt ++ [t], by rw [List.length_append, lt]; rfl, by rw [upd_same, List.map_append]; rfl, fun j u hu => ?_⟩⟩⟩
    · intro c o e
      rw [upd_ne (ne_of_none e nD)]
      exact S3 _ _ (S _ _ e)
    · have neD : ∀ {c o}, H2 c = some o → (∀ ys, o ≠ .lst ys) → c ≠ D := fun e ne => by
        rintro rfl
        rw [hD] at e
        exact ne _ (Option.some.inj e).symm
      rw [List.getElem?_append] at hu
      by_cases c : j < tt.length
      · rw [if_pos c] at hu
        obtain ⟨x', z', e1, e2, e3⟩ := ht1 j u hu
        exact ⟨x', z', e1, e2, by rw [upd_ne (neD e3 (by intro ys z; cases z))]; exact S3 _ _ e3⟩
      · rw [if_neg c] at hu
        have hj : j - tt.length = 0 := by
          rcases Nat.eq_zero_or_pos (j - tt.length) with q | q
          · exact q
          · rw [List.getElem?_eq_none (by simp; omega)] at hu
            cases hu
        rw [hj] at hu
        cases hu
        have : j = i := by omega
        subst this
        have nt : t ≠ D := by
          rintro rfl
          rw [hD] at n3
          cases n3
        refine ⟨x, z, htx, hz1, ?_⟩
        rw [upd_ne nt, h3, List.length_map]
  · rintro H1 ⟨S, tt, lt, hD, ht1⟩
    rw [List.length_map] at lt
    refine k H1 D _ S hD (dpAll_get (by rw [List.length_map, List.length_map]; omega) fun j v d hv hd => ?_) (by rw [List.length_map]; omega)
    rw [List.getElem?_map] at hv hd
    obtain ⟨t, ht2, rfl⟩ := Option.map_eq_some_iff.mp hv
    obtain ⟨x, hx, rfl⟩ := Option.map_eq_some_iff.mp hd
    obtain ⟨x', z, e1, e2, e3⟩ := ht1 j t ht2
    obtain rfl : x = x' := Option.some.inj (hx.symm.trans e1)
    obtain ⟨z', hz2, _, tr2⟩ := paired_ix ht hx
    obtain rfl : z = z' := Option.some.inj (e2.symm.trans hz2)
    exact .tup (SqT.of e3) (.cons (.int _) (.cons (.lst (SqL.of (S _ _ tr2)) (dp_strs _)) .nil))
end E2

set_option Elab.async false
set_option linter.all false
set_option maxRecDepth 100000
set_option maxHeartbeats 1000000
set_option exponentiation.threshold 500000
/-! _law_terms_right -/
namespace E2
open PySem PySem.Spec PyProof.Rows L2
open C8 (Cal Mak Met InsC pe_c pe_mt pe_mt0 call_isC clsBody)
open PySem.W (dataLe AllAlike Sortable)
theorem _root_.L2.Room.u65 {k : Nat} {A : Around} (r : L2.Room k A) : A.units + 65 < cLine := by have := r.un; omega
theorem sif_op {r : R2} {ta tb : TE} {A B u : TS} {D : Ends} {σ : L2.St} {H : Hp} (h : ta σ H fun x H1 => tb σ H1 fun y H2 => r x y H2 fun v H3 => ∃ k, v = .bl k ∧ if k = true then A { D with nx := u D } σ H3 else B { D with nx := u D } σ H3) : tSeq (tIfS (tTest (tOp r ta tb)) A B) u D σ H := h
theorem tcb_one {r : List V → Hp → VK → Prop} {ta : TE} {σ : L2.St} {H : Hp} {Q : VK} (h : ta σ H fun x H1 => r [x] H1 Q) : tCB r (tCons ta tNil) σ H Q := h
theorem any_keys {m : Mon} : ∀ ms : List Mon, m ∉ ms → ((ms.map fun x => PyData.list (x.map PyData.str)).any fun z => PyData.eqv z (.list (m.map PyData.str))) = false
  | [], _ => rfl
  | x :: r, h => by
    rw [List.map_cons, List.any_cons, any_keys r fun z => h (List.mem_cons_of_mem _ z), Bool.or_false]
    cases e : PyData.eqv (.list (x.map PyData.str)) (.list (m.map PyData.str)) with
    | false => rfl
    | true =>
      have := eqv_strs x m (by simpa [PyData.eqv] using e)
      exact absurd (by rw [this]; exact List.mem_cons_self) h
theorem shaped_keys {ms : List Mon} (h : ∀ m ∈ ms, ∀ z ∈ m, PyData.strOk z = true) : SeqAt.shaped (.list (ms.map fun x => PyData.list (x.map PyData.str))) = true := by
  have h1 : PyData.canLayAll0 (ms.map fun x => PyData.list (x.map PyData.str)) = true := by
    induction ms with
    | nil => rfl
    | cons x r ih =>
      rw [List.map_cons]
      simp only [PyData.canLayAll0, PyData.canLay0, canLay_strs x (h x List.mem_cons_self), ih fun m hm => h m (List.mem_cons_of_mem _ hm), Bool.and_self]
  have h2 : PyData.depthAll (ms.map fun x => PyData.list (x.map PyData.str)) ≤ 4 := by
    clear h h1
    induction ms with
    | nil => simp [PyData.depthAll]
    | cons x r ih =>
      rw [List.map_cons]
      simp only [PyData.depthAll, PyData.depth, depth_strs]
      omega
  have h3 : PyData.canLay0 (.list (ms.map fun x => PyData.list (x.map PyData.str))) = true := by simp only [PyData.canLay0, h1]
  have h4 : PyData.depth (.list (ms.map fun x => PyData.list (x.map PyData.str))) ≤ 64 := by simp only [PyData.depth]; omega
  show (PyData.canLay0 _ && decide (PyData.depth _ ≤ 64)) = true
  rw [h3, decide_eq_true h4]
  rfl
theorem shaped_kL {ms : List Mon} (h : ∀ m ∈ ms, ∀ z ∈ m, PyData.strOk z = true) : SeqAt.shaped (.list (ms.map kL)) = true := by
  have h1 : PyData.canLayAll0 (ms.map kL) = true := by
    induction ms with
    | nil => rfl
    | cons x r ih =>
      rw [List.map_cons]
      simp only [kL, PyData.canLayAll0, PyData.canLay0, canLay_strs x (h x List.mem_cons_self), Bool.and_self, Bool.and_true, Bool.true_and]
      exact ih fun m hm => h m (List.mem_cons_of_mem _ hm)
  have h2 : PyData.depthAll (ms.map kL) ≤ 16 := by
    clear h h1
    induction ms with
    | nil => simp [PyData.depthAll]
    | cons x r ih =>
      rw [List.map_cons]
      have := depth_kL x
      simp only [PyData.depthAll]
      omega
  have h3 : PyData.canLay0 (.list (ms.map kL)) = true := by simp only [PyData.canLay0, h1]
  have h4 : PyData.depth (.list (ms.map kL)) ≤ 64 := by simp only [PyData.depth]; omega
  show (PyData.canLay0 _ && decide (PyData.depth _ ≤ 64)) = true
  rw [h3, decide_eq_true h4]
  rfl
section
variable {P : Program} {w : World} {K : PySem.W.Frag} {mg : Str → Option Value} {base : Heap} {C : Addr}
theorem scTermsR : FnScope ["_law_terms", "_law_values_here", "_law_form_here", "_law_above", "_law_under", "_law_seen", "_law_many", "_law_bottom", "_law_names_here", "_law_name"] ["_law_terms", "_law_values_here", "_law_form_here"] (defScope sTermsR) := ⟨rfl, rfl, rfl, by decide +kernel, rfl, by decide +kernel, by decide +kernel⟩
theorem ok_termsR {f : Addr} {fd : FuncData} (F : Fun K "_law_terms_right" "_law_terms_right" sTermsR f fd) (hsrt : mg "sorted" = none) (hlen : mg "len" = none) (Cm : Cal P w K mg base 1 "_law_common" spCommon []) (At : Met P w K mg base 3 C "at" (spAt P w K C) []) :
    FnOk P w K mg base CX0 4 f fd ["_law_terms", "_law_values_here", "_law_form_here"] (spTermsR P w K C) := by
  refine F.ok scTermsR (fun vs H Q E h => ?_) (fun cdv A outer s H vs Q E hr h => ?_)
  · obtain ⟨p, d, a, zs, fm, names, g, n, L, D, b, e, rfl, _⟩ := h
    rfl
  · obtain ⟨p, d, a, zs, fm, names, g, n, L, D, b, e, rfl, hp, ht, hf, bd, sz, hnl, hno, hv, k⟩ := h
    have u1 := Nat.lt_of_le_of_lt (Nat.add_le_add_left (by decide : 1 ≤ 64) _) hr.units
    refine ⟨_, pss_cons (ps_par3 (i := 3) (j := 4) (l := 5) (by rfl) scTermsR.nd rfl rfl rfl (by decide) (by decide) (by decide) rfl rfl rfl (pa_cons pe_int (pa_cons pe_int (pa_cons (pe_lstS pa_nil) pa_nil))) (by rfl))
      (pss_cons (ps_for PassesOwn.never rfl (pi_list (pv 0)) (pg_tup rfl (pgs_cons (pg_name (i := 6) scTermsR.nd rfl (Or.inl rfl)) (pgs_cons (pg_name (i := 7) scTermsR.nd rfl (Or.inl rfl)) (pgs_cons (pg_name (i := 8) scTermsR.nd rfl (Or.inl rfl)) pgs_nil))))
        (pss_cons (ps_if (PW.pt (pw_or (pt_cmpR op_eq (pv 6) pe_int (nomark _)) (pw_or (pt_cmpR op_lt (pv 7) pe_int (by rfl)) (pw_or (pt_cmpR op_ne (pe_c Cm hr (by decide) rfl (pa_cons (pv 6) (pa_cons (pv 7) pa_nil))) pe_int (nomark _)) (pw_or (pt_cmpR (op_neD hr.units) (pv 8) (pe_callB cr_sortedS (by rfl) hsrt (by decide +kernel) (pa_cons (pv 8) pa_nil)) (nomark _)) (pw_or1 (pt_cmpR (op_inD hr.u65) (pv 8) (pv 5) (by rfl)))))))) (pss_one (ps_ret pe_bl)) pss_nil)
        (pss_cons (ps_expr (pe_bm PySem.F.plainAttrs_list PySem.F.slot_list_append PySem.F.type_list_append mt_append (pv 5) (pa_cons (pv 8) pa_nil)))
        (pss_cons (ps_for PassesOwn.never rfl (pi_list (pv 8)) (pg_name (i := 9) scTermsR.nd rfl (Or.inl rfl)) (pss_one (ps_set (i := 6) scTermsR.nd rfl (Or.inl rfl) (pe_op op_mulW (pv 6) (pe_dget u1 (pv 1) (pv 9) (fun _ _ => rfl))))))
        (pss_one (ps_par (i := 3) (j := 4) (by rfl) scTermsR.nd rfl rfl (by decide) rfl rfl (pa_cons (pe_op op_add (pe_op op_mulW (pv 3) (pv 7)) (pe_op op_mulW (pv 6) (pv 4))) (pa_cons (pe_op op_mulW (pv 4) (pv 7)) pa_nil)) (by rfl)))))))
      (pss_cons (ps_if (pt_cmpR (op_neD hr.units) (pe_lc (own := [("_law_names_here", 8)]) (g := gName 8) (tt := tYes) (te := tTupS (tCons (tCB (rLenQ K) (tCons (tVar 8) tNil)) (tCons (tVar 8) tNil))) rfl scTermsR.nd (pi_list (pv 5))
          (blkOk_by (own := [("_law_names_here", 8)]) (N := ["_law_terms", "_law_values_here", "_law_form_here", "_law_above", "_law_under", "_law_seen", "_law_many", "_law_bottom", "_law_names_here", "_law_name"]) (sc := defScope sTermsR) (by decide +kernel))
          (fun _ _ _ _ _ => pg_name (i := 8) scTermsR.nd rfl (Or.inl rfl)) (fun _ _ _ _ _ => pts_nil) (fun _ _ _ _ _ => by exact pe_tupS (pa_cons (pe_callB call_len_seq (by rfl) hlen PySem.boot_len (pa_cons (pv 8) pa_nil)) (pa_cons (pv 8) pa_nil))))
        (pe_callB (cr_sortedD0 hr.units) (by rfl) hsrt (by decide +kernel) (pa_cons (pe_lc (own := [("_law_names_here", 8)]) (g := gName 8) (tt := tYes) (te := tTupS (tCons (tCB (rLenQ K) (tCons (tVar 8) tNil)) (tCons (tVar 8) tNil))) rfl scTermsR.nd (pi_list (pv 5))
          (blkOk_by (own := [("_law_names_here", 8)]) (N := ["_law_terms", "_law_values_here", "_law_form_here", "_law_above", "_law_under", "_law_seen", "_law_many", "_law_bottom", "_law_names_here", "_law_name"]) (sc := defScope sTermsR) (by decide +kernel))
          (fun _ _ _ _ _ => pg_name (i := 8) scTermsR.nd rfl (Or.inl rfl)) (fun _ _ _ _ _ => pts_nil) (fun _ _ _ _ _ => by exact pe_tupS (pa_cons (pe_callB call_len_seq (by rfl) hlen PySem.boot_len (pa_cons (pv 8) pa_nil)) (pa_cons (pv 8) pa_nil)))) pa_nil)) (nomark _)) (pss_one (ps_ret pe_bl)) pss_nil)
      (pss_one (ps_ret (pe_cmpR op_eq (pe_mt At hr (by decide) (pv 2) (pa_cons (pv 1) pa_nil)) (pe_ifExp (pt_cmpR op_eq (pe_op op_modN (pv 3) (pv 4)) pe_int (nomark _)) (pe_op op_fdivW (pv 3) (pv 4)) pe_non) (nomark _)))))), ?_⟩
    obtain ⟨kvs, hd, vok, hkl, hg⟩ := hv
    have mem : ∀ {x}, x ∈ trs fm → x ∈ fm := fun h => (trs_perm bd.can.nd).mem_iff.mp h
    have lt : (trs fm).length = fm.length := (trs_perm bd.can.nd).length_eq
    have lf := bd.len
    have lzs : zs.length = (trs fm).length := Paired.length ht
    have n2 := sz.n_
    have l5 := sz.l_
    have keys : ((trs fm).map (·.1)).Nodup := (((trs_perm bd.can.nd).map (·.1)).nodup_iff).mpr bd.can.nd
    have sok : ∀ x ∈ trs fm, ∀ z ∈ x.1, PyData.strOk z = true := fun x hx z hz => strOk_of (hno z ((bd.key x (mem hx)).2 z hz))
    have hB : ∀ x ∈ trs fm, x.2.den ≤ 2 ^ e ∧ (x.2.num * evM g x.1).natAbs ≤ 2 ^ 45000 := fun x hx => by
      have hx := mem hx
      refine ⟨Nat.le_trans ((bd.bq x hx).den_le sz.d0) sz.de, ?_⟩
      have h1 := Nat.le_trans ((bd.bq x hx).num_le sz.d0) (p2 sz.b_)
      have h2 := prod_lt g x.1 fun y hy => Nat.lt_of_lt_of_le (hg y ((bd.key x hx).2 y hy)).2 (Nat.pow_le_pow_right (by decide) (by decide))
      have kl := (bd.key x hx).1
      rw [Int.natAbs_mul]
      refine Nat.le_trans (Nat.mul_le_mul h1 (Nat.le_of_lt h2)) ?_
      rw [← Nat.pow_add]
      exact p2 (by omega)
    have len8 : e * (trs fm).length ≤ 8900 := Nat.le_trans (Nat.mul_le_mul_left _ (by omega)) sz.en
    have small : ∀ i, i ≤ (trs fm).length → (auF g ((trs fm).take i)).2.natAbs < 2 ^ 8950 ∧ (auF g ((trs fm).take i)).1.natAbs < 2 ^ 54000 := fun i hi => auF_small (B := 45000) hB len8 (by omega) hi
    refine ⟨by show 0 ≤ sizeLine; decide, fun seen H1 S1 n1 h1 => ⟨_, _, _, rfl, ?_⟩⟩
    dsimp only
    refine ⟨_, rfl, p, rfl, ⟨_, SqL.of (S1 _ _ hp)⟩, for_it (walk_list (xs := zs.map fun z => V.ref z.1)) (fun i σ' H' => Same H H' ∧ H' seen = some (.lst ((zs.take i).map fun z => V.ref z.2)) ∧ ∃ u6 u7 u8 u9, σ' = [some (.ref p), some (.ref d), some (.ref a), some (.int (auF g ((trs fm).take i)).1), some (.int (auF g ((trs fm).take i)).2), some (.ref seen), u6, u7, u8, u9])
      ⟨S1, h1, none, none, none, none, rfl⟩ (fun i σ' H' _ q => SqL.of (q.1 _ _ hp)) ?_ ?_⟩
    · rintro i v σ' H2 H3 hi ⟨S2, hseen, u6, u7, u8, u9, rfl⟩ ⟨rfl, hx⟩
      rw [List.length_map] at hi
      rw [List.getElem?_map] at hx
      obtain ⟨z, hz1, rfl⟩ := Option.map_eq_some_iff.mp hx
      have htx : (trs fm)[i]? = some (trs fm)[i] := List.getElem?_eq_getElem (by omega)
      obtain ⟨z', hz2, tr1, tr2⟩ := paired_ix ht htx
      obtain rfl : z = z' := Option.some.inj (hz1.symm.trans hz2)
      generalize (trs fm)[i] = x at htx tr1 tr2
      have hxm := List.mem_of_getElem? htx
      have hxf := mem hxm
      have kx := bd.key x hxf
      have so := bd.can.so x hxf
      have nz := bd.can.nz x hxf
      have sk := sok x hxm
      have nnz : x.2.num ≠ 0 := fun z => nz (Rat.num_eq_zero.mp z)
      have dpos := x.2.den_pos
      have dl := Nat.le_trans ((bd.bq x hxf).den_le sz.d0) (Nat.le_of_lt sz.d6)
      have tr1' := S2 _ _ tr1
      have tr2' := S2 _ _ tr2
      refine ⟨z.1, _, rfl, SqT.of tr1', rfl, _, _, rfl, _, _, rfl, _, _, rfl, rfl, ?_⟩
      refine ⟨_, rfl, rfl, _, rfl, ifF (decide_eq_false fun q => nnz (V.int.inj q)) ?_⟩
      refine ⟨_, rfl, _, _, rfl, rfl, _, rfl, ifF (decide_eq_false (by omega)) ?_⟩
      refine ⟨_, rfl, _, rfl, x.2.num, (x.2.den : Int), rfl, by omega, ?_, ?_⟩
      · have : ((x.2.den : Nat) : Int) < ((2 ^ 140 : Nat) : Int) := Int.ofNat_lt.mpr (Nat.lt_of_le_of_lt dl (by decide))
        exact_mod_cast this
      have g1 : ((Int.gcd x.2.num (x.2.den : Int) : Nat) : Int) = 1 := by
        have := x.2.reduced
        show ((Nat.gcd x.2.num.natAbs x.2.den : Nat) : Int) = 1
        rw [this]
        rfl
      rw [g1]
      refine ⟨rfl, _, rfl, ifF rfl ?_⟩
      refine ⟨_, rfl, _, rfl, z.2, x.1, rfl, SqL.of tr2', by omega, fun ys q pm sy nq => ?_⟩
      obtain rfl : ys = x.1 := by rw [sortT_one pm sy, so]
      have S3 := Same.upd (o := .lst (x.1.map V.str)) nq
      refine ne_data (d := .list (x.1.map PyData.str)) (.lst (SqL.of (S3 _ _ tr2')) (dp_strs _)) (.lst (SqL.of upd_same) (dp_strs _)) (shaped_strs _ sk) ⟨_, rfl, ifF rfl ?_⟩
      have hs3 := S3 _ _ hseen
      have SS := S2.trans S3
      generalize upd H3 q (.lst (x.1.map V.str)) = H4 at hs3 SS
      have dps : DpAll K H4 ((zs.take i).map fun z => V.ref z.2) ((((trs fm).take i).map (·.1)).map fun m => PyData.list (m.map PyData.str)) := by
        refine dpAll_get (by simp only [List.length_map, List.length_take]; omega) fun j v dd hv hd => ?_
        rw [List.getElem?_map] at hv hd
        rw [List.getElem?_map] at hd
        obtain ⟨z', hz', rfl⟩ := Option.map_eq_some_iff.mp hv
        obtain ⟨m, hm, rfl⟩ := Option.map_eq_some_iff.mp hd
        obtain ⟨y, hy, rfl⟩ := Option.map_eq_some_iff.mp hm
        rw [List.getElem?_take] at hz' hy
        split at hz'
        · rename_i c
          rw [if_pos c] at hy
          obtain ⟨z2, e2, _, t2⟩ := paired_ix ht hy
          obtain rfl : z' = z2 := Option.some.inj (hz'.symm.trans e2)
          exact .lst (SqL.of (SS _ _ t2)) (dp_strs _)
        · cases hz'
      have nin : x.1 ∉ ((trs fm).take i).map (·.1) := fun q => by
        obtain ⟨y, hy, e⟩ := List.mem_map.mp q
        obtain ⟨j, hj, hjy⟩ := List.mem_iff_getElem.mp hy
        rw [List.length_take] at hj
        rw [List.getElem_take] at hjy
        have := nodup_ix keys (i := j) (j := i) (x := x.1) (by rw [List.getElem?_map, List.getElem?_eq_getElem (by omega), hjy]; show some y.1 = _; rw [e]) (by rw [List.getElem?_map, htx]; rfl)
        omega
      refine ⟨_, rfl, _, rfl, .list (x.1.map PyData.str), _, .lst (SqL.of (SS _ _ tr2)) (dp_strs _), .lst (SqL.of hs3) dps, shaped_strs _ sk, shaped_keys fun m hm => ?_, ?_⟩
      · obtain ⟨y, hy, rfl⟩ := List.mem_map.mp hm
        exact sok y (List.mem_of_mem_take hy)
      rw [any_keys _ nin]
      refine ⟨_, rfl, ifF rfl ?_⟩
      dsimp only [tNext]
      refine ⟨_, rfl, .inl ⟨rfl, _, SqL.of hs3⟩, _, rfl, seen, _, _, rfl, rfl, hs3, by rw [List.length_map, List.length_take, sizeLine_eq]; omega, ?_⟩
      have n5 : H seen = none := n1
      have S5 : Same H (upd H4 seen (.lst (((zs.take i).map fun z => V.ref z.2) ++ [.ref z.2]))) := fun c o e => by
        rw [upd_ne (ne_of_none e n5)]
        exact SS _ _ e
      have hs5 : (upd H4 seen (.lst (((zs.take i).map fun z => V.ref z.2) ++ [.ref z.2]))) seen = some (.lst ((zs.take (i + 1)).map fun z => V.ref z.2)) := by
        rw [upd_same, take_snoc hz1, List.map_append]
        rfl
      generalize upd H4 seen (.lst (((zs.take i).map fun z => V.ref z.2) ++ [.ref z.2])) = H5 at S5 hs5
      obtain ⟨sm2, sm1⟩ := small i (by omega)
      have bnum := Nat.lt_of_le_of_lt (Nat.le_trans ((bd.bq x hxf).num_le sz.d0) (p2 sz.b_)) (show 2 ^ 20000 < 2 ^ 20001 from Nat.pow_lt_pow_right (by decide) (by decide))
      refine ⟨_, rfl, z.2, rfl, ⟨_, SqL.of (S5 _ _ tr2)⟩, for_it (walk_list (xs := x.1.map V.str)) (fun j σ' H' => H' = H5 ∧ ∃ u9, σ' = [some (.ref p), some (.ref d), some (.ref a), some (.int (auF g ((trs fm).take i)).1), some (.int (auF g ((trs fm).take i)).2), some (.ref seen), some (.int (x.2.num * prodI ((x.1.take j).map g))), some (.int (x.2.den : Int)), some (.ref z.2), u9])
        ⟨rfl, u9, by rw [List.take_zero]; show _ = [_, _, _, _, _, _, some (V.int (x.2.num * 1)), _, _, _]; rw [Int.mul_one]; rfl⟩ (fun j σ' H' _ q => by rw [q.1]; exact SqL.of (S5 _ _ tr2)) ?_ ?_⟩
      · rintro j y σ' H6 H7 hj ⟨rfl, u9, rfl⟩ ⟨rfl, hy⟩
        rw [List.length_map] at hj
        rw [List.getElem?_map] at hy
        obtain ⟨c, hc, rfl⟩ := Option.map_eq_some_iff.mp hy
        have hcm := List.mem_of_getElem? hc
        obtain ⟨gv, gb⟩ := hg c (kx.2 c hcm)
        have p1 := prod_lt g (x.1.take j) fun y hy => Nat.lt_of_lt_of_le (hg y (kx.2 y (List.mem_of_mem_take hy))).2 (Nat.pow_le_pow_right (by decide) (by decide))
        have tl : (x.1.take j).length ≤ 50 := by rw [List.length_take]; omega
        have w1 := wide_lt bnum p1
        refine ⟨_, rfl, _, rfl, _, rfl, d, _, rfl, by show DGet H7 d (V.str c) (some (V.int (g c))); rw [← gv]; exact DGet.k (k := Sum.inr c) (S5 _ _ hd), _, _, rfl, rfl, cmw w1 gb (by omega) (by decide) (by omega), rfl, some (.str c), ?_⟩
        rw [take_snoc hc, List.map_append, prodI_append]
        show _ = [_, _, _, _, _, _, some (V.int (_ * (_ * (g c * 1)))), _, _, _]
        rw [Int.mul_one, ← Int.mul_assoc]
        rfl
      · rintro σ' H6 ⟨rfl, u9, rfl⟩
        rw [List.length_map, List.take_length]
        have w2 : (x.2.num * prodI (x.1.map g)).natAbs < 2 ^ 45001 := Nat.lt_of_le_of_lt (hB x hxm).2 (Nat.pow_lt_pow_right (by decide) (by decide))
        have d64 : ((x.2.den : Nat) : Int).natAbs < 2 ^ 65 := by rw [Int.natAbs_natCast]; exact Nat.lt_of_le_of_lt dl (by decide)
        refine ⟨_, rfl, _, rfl, _, _, rfl, rfl, cmw sm1 d64 (by decide) (by decide) (by decide), _, rfl, _, rfl, _, _, rfl, rfl, cmw w2 sm2 (by decide) (by decide) (by decide), _, _, rfl, rfl, _, rfl, _, rfl, _, _, rfl, rfl, cmw sm2 d64 (by decide) (by decide) (by decide), _, _, rfl, S5, hs5, some (.int (x.2.num * prodI (x.1.map g))), some (.int (x.2.den : Int)), some (.ref z.2), u9, ?_⟩
        rw [auF_snoc htx]
        rfl
    · rintro σ' H2 ⟨S2, hseen, u6, u7, u8, u9, rfl⟩
      rw [List.length_map] at hseen ⊢
      rw [List.take_length] at hseen
      rw [lzs, List.take_length]
      have hts := TermsAt.imp (H' := H2) ht fun z _ x h => ⟨S2 _ _ h.1, S2 _ _ h.2⟩
      refine sif_op (lc_kL hseen hts (by omega) fun H3 q1 xs1 S3 hq1 dp1 lx1 => ?_)
      have hts3 := TermsAt.imp (H' := H3) hts fun z _ x h => ⟨S3 _ _ h.1, S3 _ _ h.2⟩
      refine tcb_one (lc_kL (S3 _ _ hseen) hts3 (by omega) fun H4 q2 xs2 S4 hq2 dp2 lx2 => ?_)
      have em : (trs fm).map (fun x => kL x.1) = ((trs fm).map (·.1)).map kL := by rw [List.map_map]; rfl
      refine ⟨q2, xs2, _, rfl, SqL.of hq2, dp2, by rw [em]; exact alike_kL _, .inl (fun dd hd => ?_), by rw [sizeLine_eq]; omega, fun dd hd => ?_, kL_pw fm, fun q3 H5 S5 n5 h5 => ?_⟩
      · obtain ⟨y, _, rfl⟩ := List.mem_map.mp hd
        exact ⟨_, _, rfl⟩
      · obtain ⟨y, _, rfl⟩ := List.mem_map.mp hd
        exact depth_kL _
      have shp : SeqAt.shaped (.list ((trs fm).map fun x => kL x.1)) = true := by
        rw [em]
        refine shaped_kL fun m hm => ?_
        obtain ⟨y, hy, rfl⟩ := List.mem_map.mp hm
        exact sok y hy
      refine ne_data (d := .list ((trs fm).map fun x => kL x.1)) (.lst (SqL.of (S5 _ _ (S4 _ _ hq1))) (dpSA S5 (dpSA S4 dp1))) (.lst (SqL.of h5) (dpSA S5 dp2)) shp ⟨_, rfl, ifF rfl ?_⟩
      dsimp only [tNext]
      have S25 := ((S2.trans S3).trans S4).trans S5
      have hf5 := FmAt.same hf S25
      obtain ⟨dx, df, ia⟩ := insF hf5
      obtain ⟨sm2, sm1⟩ := small (trs fm).length (Nat.le_refl _)
      rw [List.take_length] at sm1 sm2
      obtain ⟨up, uv⟩ := auF_ev g (trs fm)
      rw [ev_trs g bd.can.nd] at uv
      have urat : ((auF g (trs fm)).2 : Rat) ≠ 0 := fun z => by
        have := Rat.intCast_inj.mp (z.trans (by rfl : (0 : Rat) = ((0 : Int) : Rat)))
        omega
      refine ret_of ?_
      refine ⟨_, rfl, a, dx, _, rfl, ia, rfl, _, rfl, a, d, fm, kvs, g, D, 2 ^ b, rfl, hf5, bd.lets (by omega), fun x hx => by have := (bd.key x hx).1; omega, S25 _ _ hd, vok, hkl, fun x hx z hz => ?_, sz.d0, sz.d6, Nat.lt_of_le_of_lt (p2 sz.b_) (Nat.pow_lt_pow_right (by decide) (by decide)), bd.bq, fun H6 S6 => ⟨fun m hm => ?_, fun no => ?_⟩⟩
      · obtain ⟨g1, g2⟩ := hg z ((bd.key x hx).2 z hz)
        exact ⟨g1, Nat.lt_of_lt_of_le g2 (Nat.pow_le_pow_right (by decide) (by decide))⟩
      · rw [hm] at uv
        have e1 : (auF g (trs fm)).1 = (auF g (trs fm)).2 * m := by
          apply Rat.intCast_inj.mp
          rw [uv, Rat.intCast_mul]
        refine ⟨_, rfl, _, rfl, _, _, rfl, rfl, by omega, rfl, _, rfl, iteD (fun _ => ?_) (fun h => absurd ?_ h)⟩
        · refine ⟨_, rfl, _, rfl, _, _, rfl, rfl, wide_div up sm2 (by decide) (by decide), rfl, ?_⟩
          have e2 : (auF g (trs fm)).1 / (auF g (trs fm)).2 = m := by rw [e1]; exact Int.mul_ediv_cancel_left _ (by omega)
          show Q (.bl (decide (V.int m = V.int ((auF g (trs fm)).1 / (auF g (trs fm)).2)))) H6
          rw [e2, decide_eq_true rfl]
          exact k _ (S25.trans S6)
        · show V.int ((auF g (trs fm)).1.fmod (auF g (trs fm)).2) = V.int 0
          rw [e1, Int.mul_fmod_right]
      · refine ⟨_, rfl, _, rfl, _, _, rfl, rfl, by omega, rfl, _, rfl, iteD (fun h => ?_) (fun _ => ?_)⟩
        · exfalso
          have h0 : (auF g (trs fm)).1.fmod (auF g (trs fm)).2 = 0 := by injection h
          obtain ⟨m, hm⟩ := Int.dvd_of_fmod_eq_zero h0
          refine no m ?_
          rw [hm, Rat.intCast_mul] at uv
          grind
        · refine ⟨rfl, ?_⟩
          rw [decide_eq_true rfl]
          exact k _ (S25.trans S6)
end
end E2

set_option Elab.async false
set_option linter.all false
set_option maxRecDepth 100000
set_option maxHeartbeats 1000000
/-! repr of a list of data without dicts -/
namespace L2
open PySem PySem.Spec PyProof.Rows
def rReprD (K : PySem.W.Frag) : List V → Hp → VK → Prop := fun xs H Q => ∃ (p : Addr) (v : V) (vs : List V) (d : PyData) (ds : List PyData), xs = [.ref p] ∧ H p = some (.lst (v :: vs)) ∧ DpAll K H (v :: vs) (d :: ds) ∧ PyData.showableAll (d :: ds) = true ∧ PyData.hasDictAll (d :: ds) = false ∧ PyData.depthAll (d :: ds) ≤ 20 ∧
  (PyData.list (d :: ds)).shown.length ≤ sizeLine ∧ Q (.str (PyData.list (d :: ds)).shown) H
theorem call_reprD {X : Cx} (hg : X.A.guards = some []) (hu : X.A.units + 64 < cLine) : CallR X (.builtin "repr") (rReprD X.K) := by
  rintro pins s σ H xs us Q I r ⟨p, v, vs, d, ds, rfl, hp, hv, hs, hn, hd, hz, q⟩
  rw [Vals.ref1 r]
  obtain ⟨_, its, m, rv, _, he⟩ := I.lstM hp
  obtain ⟨as, ra⟩ := Dp.readsAll I (d :: ds) (v :: vs) its hv rv
  have hz2 : (listText (PyData.shownAll (d :: ds))).length ≤ sizeLine := by simpa only [PyData.shown] using hz
  obtain ⟨bs, hb, hk⟩ := ReprAllK.of_readsAll (prog := X.prog) (w := X.w) ra hs (fun z => by rw [hn] at z; cases z) (fun t ht => Nat.le_trans (listText_mem_le ht) hz2)
  have ro : Reads s.heap (.ref p) (.list (d :: ds)) _ := .list he rfl rfl ra
  have nb : p ∉ bs := not_mem_of_deeper ro (by simp only [PyData.depth]; omega) hb
  match its, rv, he, hk with
  | x :: l, _, he, hk =>
    refine call_repr_slot (T := "list") (idr := "list.__repr__") (by omega) ⟨_, he, rfl⟩ PySem.F.slot_list_repr.toG (call_list_reprK he rfl rfl nb (by simpa using hk.length_eq) (fun i y e => hk.item i y (by simpa using e)) hg (fun b _ => Clear.nil b) (by show X.A.units + 1 + _ < cLine; omega) (fun _ _ e => e) (fun h' u tk k => ?_) hz2)
    exact ⟨_, _, rfl, .str (PyData.list (d :: ds)).shown, H, I.kept (t' := tk) k, ⟨u, by simp only [PyData.shown]⟩, q⟩
end L2

set_option Elab.async false
set_option linter.all false
set_option maxRecDepth 100000
set_option maxHeartbeats 1000000
/-! repr of a list of terms -/
namespace L2
open PySem PySem.Spec PyProof.Rows
def rReprL (K : PySem.W.Frag) : List V → Hp → VK → Prop := fun xs H Q => ∃ (p : Addr) (vs : List V) (ds : List PyData), xs = [.ref p] ∧ H p = some (.lst vs) ∧ DpAll K H vs ds ∧ PyData.showableAll ds = true ∧ PyData.hasDictAll ds = false ∧ PyData.depthAll ds ≤ 20 ∧
  (PyData.list ds).shown.length ≤ sizeLine ∧ Q (.str (PyData.list ds).shown) H
theorem call_reprL {X : Cx} (hg : X.A.guards = some []) (hu : X.A.units + 64 < cLine) : CallR X (.builtin "repr") (rReprL X.K) := by
  rintro pins s σ H xs us Q I r ⟨p, vs, ds, rfl, hp, hv, hs, hn, hd, hz, q⟩
  cases hv with
  | cons a b => exact call_reprD hg hu pins s σ H _ us Q I r ⟨p, _, _, _, _, rfl, hp, .cons a b, hs, hn, hd, hz, q⟩
  | nil =>
    rw [Vals.ref1 r]
    obtain ⟨_, its, m, rv, _, he⟩ := I.lstM hp
    cases rv
    refine call_repr_slot (T := "list") (idr := "list.__repr__") (by omega) ⟨_, he, rfl⟩ PySem.F.slot_list_repr.toG (call_list_repr_empty ⟨_, he, rfl⟩ he rfl ?_)
    have e : (PyData.list []).shown = ("[]" : Str) := by simp only [PyData.shown, PyData.shownAll]; exact listText_nil
    rw [e] at q
    exact ⟨_, _, rfl, .str ("[]" : Str), H, I.tok _, ⟨s.toks, rfl⟩, q⟩
theorem listText_le (ts : List Str) : (listText ts).length ≤ piled ts + 2 := by
  cases ts with
  | nil => rw [listText_nil]; decide
  | cons t r =>
    have h := textFrom_length_pos r 1 (("[" : Str) ++ (if (0 : Nat) > 0 then ", " else "" : String) ++ t) (Nat.succ_pos 0)
    have e : ((("[" : Str) ++ (if (0 : Nat) > 0 then ", " else "" : String) ++ t)).length = 1 + t.length := by
      rw [strLen_append, strLen_append]; rfl
    have hX : (listText (t :: r)).length = (textFrom 0 "[" (t :: r)).length + 1 := by
      show (textFrom 0 "[" (t :: r) ++ "]").length = _
      rw [strLen_append]; rfl
    have hY : (textFrom 0 "[" (t :: r)).length = (textFrom 1 (("[" : Str) ++ (if (0 : Nat) > 0 then ", " else "" : String) ++ t) r).length := rfl
    rw [hX, hY, h, e, piled_cons]; omega
theorem tupleText_le (ts : List Str) : (tupleText ts).length ≤ piled ts + 3 := by
  unfold tupleText
  rw [strLen_append, strLen_append]
  have e1 : ((("(" : String) : Str)).length = 1 := rfl
  have e3 : (((if ts.length == 1 then ",)" else ")" : String) : Str)).length ≤ 2 := by split <;> decide
  rw [e1]
  by_cases h : ts = []
  · subst h
    have : (Str.join ", " []).length = 0 := rfl
    omega
  · have := join_length_add ts h
    omega
end L2
namespace E2
open PySem PySem.Spec PyProof.Rows L2
theorem showable_strs : ∀ l : List Str, PyData.showableAll (l.map PyData.str) = true
  | [] => rfl
  | x :: l => by
    rw [List.map_cons]
    simp only [PyData.showableAll, PyData.showable, showable_strs l, Bool.and_self]
theorem noDict_strs : ∀ l : List Str, PyData.hasDictAll (l.map PyData.str) = false
  | [] => rfl
  | x :: l => by
    rw [List.map_cons]
    simp only [PyData.hasDictAll, PyData.hasDict, noDict_strs l, Bool.or_self]
abbrev trL (fm : Fm) : List PyData := fm.map fun x => .tuple [.int x.2.num, .int (x.2.den : Int), .list (x.1.map PyData.str)]
theorem log_lt {n b : Nat} (h : n ≤ 2 ^ b) (hb : b < 1919) : n.log2 < 1920 := by
  have h2 : n < 2 ^ 1920 := Nat.lt_of_le_of_lt h (Nat.pow_lt_pow_right (by decide) (by omega))
  exact PySem.Flt.log2_lt_of (by decide) h2
theorem showable_trs {b : Nat} (hb : b < 1919) : ∀ {fm : Fm}, (∀ x ∈ fm, x.2.num.natAbs ≤ 2 ^ b ∧ x.2.den ≤ 2 ^ b) → PyData.showableAll (trL fm) = true
  | [], _ => rfl
  | x :: r, h => by
    have h2 := showable_trs hb (fm := r) fun y hy => h y (List.mem_cons_of_mem _ hy)
    obtain ⟨a, c⟩ := h x List.mem_cons_self
    unfold trL at h2 ⊢
    rw [List.map_cons]
    simp only [PyData.showableAll, PyData.showable, h2, showable_strs, Bool.and_true, Bool.and_eq_true, decide_eq_true_eq]
    exact ⟨log_lt a hb, by rw [Int.natAbs_natCast]; exact log_lt c hb⟩
theorem noDict_trs : ∀ fm : Fm, PyData.hasDictAll (trL fm) = false
  | [] => rfl
  | x :: r => by
    have h2 := noDict_trs r
    unfold trL at h2 ⊢
    rw [List.map_cons]
    simp only [PyData.hasDictAll, PyData.hasDict, h2, noDict_strs, Bool.or_self]
theorem int_len {n : Int} (h : n.natAbs.log2 < 1920) : (PyData.int n).shown.length ≤ 1921 := by
  have := int_text_length_le (a := n) (k := 1920) (by decide) h
  have e : (PyData.int n).shown.length = (toString n).length := by
    unfold PyData.shown
    exact PySem.ofString_length _
  omega
theorem str_len {z : Str} (hz : LetOk z) : (PyData.str z).shown.length ≤ 102 := by
  have h := PySem.StrLaws.reprText_len z fun c hc => by have := (hz.2.2 c hc).2; exact Nat.lt_of_le_of_lt this (by decide)
  have e : (PyData.str z).shown = reprText z := by unfold PyData.shown; rfl
  rw [e]
  have := hz.2.1
  omega
theorem piled_strs : ∀ {l : List Str}, (∀ z ∈ l, LetOk z) → piled (PyData.shownAll (l.map PyData.str)) ≤ 104 * l.length
  | [], _ => Nat.le_refl _
  | x :: l, h => by
    have ih := piled_strs (l := l) fun z hz => h z (List.mem_cons_of_mem _ hz)
    have hx := str_len (h x List.mem_cons_self)
    rw [List.map_cons]
    simp only [PyData.shownAll, piled_cons, List.length_cons]
    omega
theorem piled_trs {L b : Nat} (hb : b < 1919) : ∀ {fm : Fm}, (∀ x ∈ fm, x.2.num.natAbs ≤ 2 ^ b ∧ x.2.den ≤ 2 ^ b) → (∀ x ∈ fm, x.1.length ≤ L ∧ ∀ z ∈ x.1, LetOk z) → piled (PyData.shownAll (trL fm)) ≤ (3860 + 104 * L) * fm.length
  | [], _, _ => by simp [trL, PyData.shownAll, piled]
  | x :: r, h, k => by
    have ih := piled_trs hb (L := L) (fm := r) (fun y hy => h y (List.mem_cons_of_mem _ hy)) fun y hy => k y (List.mem_cons_of_mem _ hy)
    obtain ⟨a, c⟩ := h x List.mem_cons_self
    obtain ⟨k1, k2⟩ := k x List.mem_cons_self
    have i1 := int_len (log_lt a hb)
    have i2 := int_len (n := (x.2.den : Int)) (by rw [Int.natAbs_natCast]; exact log_lt c hb)
    have i3 := piled_strs k2
    have i4 := listText_le (PyData.shownAll (x.1.map PyData.str))
    have e : trL (x :: r) = .tuple [.int x.2.num, .int (x.2.den : Int), .list (x.1.map PyData.str)] :: trL r := rfl
    rw [e]
    have i5 := tupleText_le [(PyData.int x.2.num).shown, (PyData.int (x.2.den : Int)).shown, listText (PyData.shownAll (x.1.map PyData.str))]
    have e2 : (PyData.tuple [.int x.2.num, .int (x.2.den : Int), .list (x.1.map PyData.str)]).shown = tupleText [(PyData.int x.2.num).shown, (PyData.int (x.2.den : Int)).shown, listText (PyData.shownAll (x.1.map PyData.str))] := by
      simp only [PyData.shown, PyData.shownAll]
    simp only [PyData.shownAll, piled_cons, List.length_cons, e2]
    simp only [piled_cons, piled_nil] at i5
    have i6 : 104 * x.1.length ≤ 104 * L := Nat.mul_le_mul_left _ k1
    rw [Nat.mul_succ]
    omega
theorem shown_trs {L b n : Nat} (hb : b < 1919) {fm : Fm} (h : ∀ x ∈ fm, x.2.num.natAbs ≤ 2 ^ b ∧ x.2.den ≤ 2 ^ b) (k : ∀ x ∈ fm, x.1.length ≤ L ∧ ∀ z ∈ x.1, LetOk z) (hn : fm.length ≤ n) (hs : (3860 + 104 * L) * n ≤ 16000000) : (PyData.list (trL fm)).shown.length ≤ sizeLine := by
  have i1 := piled_trs hb h k
  have i2 := listText_le (PyData.shownAll (trL fm))
  have e : (PyData.list (trL fm)).shown = listText (PyData.shownAll (trL fm)) := by simp only [PyData.shown]
  rw [e, sizeLine_eq]
  have := Nat.mul_le_mul_left (3860 + 104 * L) hn
  omega
/-- repr(terms) -/
theorem repr_trs {K : PySem.W.Frag} {H : Hp} {Q : VK} {p : Addr} {zs : List (Addr × Addr)} {fm : Fm} {L b n : Nat} (hp : H p = some (.lst (zs.map fun z => V.ref z.1))) (ht : TermsAt H zs fm) (hb : b < 1919) (h : ∀ x ∈ fm, x.2.num.natAbs ≤ 2 ^ b ∧ x.2.den ≤ 2 ^ b) (k : ∀ x ∈ fm, x.1.length ≤ L ∧ ∀ z ∈ x.1, LetOk z) (hn : fm.length ≤ n) (hs : (3860 + 104 * L) * n ≤ 16000000) (q : Q (.str (PyData.list (trL fm)).shown) H) :
    rReprL K [.ref p] H Q :=
  ⟨p, _, _, rfl, hp, dp_trms ht, showable_trs hb h, noDict_trs fm, Nat.le_trans (depth_trs fm) (by decide), shown_trs hb h k hn hs, q⟩
end E2

set_option Elab.async false
set_option linter.all false
set_option maxRecDepth 100000
set_option maxHeartbeats 1000000
/-! what stays where lists alone change; a call where no repr is under way -/
namespace L2
open PySem PySem.Spec PyProof.Rows
open LamX (Tabs ExtN TabB CodeO)
structure CalG (P : Program) (w : World) (K : PySem.W.Frag) (mg : Str → Option Value) (base : Heap) (k : Nat) (x : Str) (sp : Sp) : Prop where
  ex : ∃ (f : Addr) (fd : FuncData) (ps : List Str), FnG P w K mg base k f fd ps sp ∧ mg x = some (.ref f) ∧ PySem.W.keepIn K (.ref f) = true ∧ Binds K fd ps []
section
variable {X : Cx} {k j : Nat} {x : Str} {sp : Sp} {p pos : Pos} {e : Expr} {es : List Expr} {t : TA}
theorem pe_cG (gA : X.A.guards = some []) (c : CalG X.prog X.w X.K X.mg X.base k x sp) (hr : Room j X.A) (hk : k ≤ j) (hg : Gl X x) (ha : PA X (e :: es) t)
    (hdb : (x == ("__debug__" : Str)) = false := by decide) (he : starEach (e :: es) X.env = (false, eval e X.env) :: starEach es X.env := by rfl) (hpl : (backTo pos (starEach es X.env)).any (·.1) = false := by rfl) :
    PE X (.Call (.Name x p) (e :: es) [] pos) (tCall sp [] C8.E0 t) := by
  obtain ⟨f, fd, ps, F, hm, kp, hb⟩ := c.ex
  refine ⟨fun pins s σ H Q I h => ?_⟩
  refine wpAny_Call_Name_kw (ld_glob I hg hm ?_ hdb)
  refine PySem.W.callWith_K (h₀ := X.base) I.ok.mod.kin kp (thn (ha.run pos pins s σ H _ I h) fun us s1 ⟨vs, H1, I1, r, h1⟩ => ⟨I1.kIn, ?_⟩) he hpl
  have r2 : Vals (vs ++ []) (us ++ []) := r.append .nil
  have hl : (us ++ []).length = ps.length := by rw [← r2.length]; exact F.len _ _ _ _ h1
  refine wpAny_call (codeAny_mono (F.go X.A X.stack s1 H1 ⟨us, []⟩ (us ++ []) (vs ++ []) Q C8.E0 gA (hr.mono hk) I1.env0 (hb s1 us I1.kIn hl) r2 h1) fun r s' hq => ?_)
  cases r with
  | error e => exact pass0 pins σ H1 s1 e s' I1 hq
  | ok fl =>
    cases fl with
    | ret u => exact I1.after hq
    | next => exact False.elim hq
    | brk => exact False.elim hq
    | cont => exact False.elim hq
end
end L2
namespace E2
open PySem PySem.Spec PyProof.Rows L2
open LamX (Tabs ExtN TabB CodeO)
/-- all but lists and tables -/
def ExtL (H H' : Hp) : Prop := ∀ b o, H b = some o → (∀ xs, o ≠ .lst xs) → (∀ ps, o ≠ .tbl ps) → H' b = some o
/-- all but D and tables -/
def ExtB (D : Addr) (H H' : Hp) : Prop := ∀ b o, b ≠ D → H b = some o → (∀ ps, o ≠ .tbl ps) → H' b = some o
theorem ExtB.refl (D : Addr) (H : Hp) : ExtB D H H := fun _ _ _ e _ => e
theorem ExtB.trans {D : Addr} {H H1 H2 : Hp} (a : ExtB D H H1) (b : ExtB D H1 H2) : ExtB D H H2 := fun c o n e t => b c o n (a c o n e t) t
theorem ExtB.of {D : Addr} {H H' : Hp} (S : Same H H') : ExtB D H H' := fun _ _ _ e _ => S _ _ e
theorem ExtB.ofB {D : Addr} {H H' : Hp} (S : SameB D H H') : ExtB D H H' := fun _ _ n e _ => S _ _ n e
theorem ExtB.ofN {D : Addr} {H H' : Hp} (S : ExtN H H') : ExtB D H H' := fun _ _ _ e t => S _ _ e t
theorem ExtB.toL {D : Addr} {H H' : Hp} {xs : List V} (S : ExtB D H H') (hD : H D = some (.lst xs)) : ExtL H H' := fun b o e l t =>
  S b o (by rintro rfl; rw [hD] at e; exact l _ (Option.some.inj e).symm) e t
theorem FmAt.extL {P : Program} {w : World} {K : PySem.W.Frag} {C : Addr} {H H' : Hp} {a : Addr} {fm : Fm} (h : FmAt P w K C H a fm) (ex : ExtL H H') : FmAt P w K C H' a fm := by
  have mv : Mv K H H' := by
    constructor
    · intro a xs h
      rcases h with (h | ⟨o, h⟩) | h
      · exact .inl (.inl (ex _ _ h (fun _ z => nomatch z) fun _ z => nomatch z))
      · exact .inl (.inr ⟨o, ex _ _ h (fun _ z => nomatch z) fun _ z => nomatch z⟩)
      · exact .inr h
    · rintro q xs ⟨o, h1, h2⟩
      exact ⟨o, ex _ _ h1 (fun _ z => nomatch z) (fun _ z => nomatch z), h2⟩
  obtain ⟨dx, d, kvs, h1, h2, h3⟩ := h
  exact ⟨dx, d, kvs, ex _ _ h1 (fun _ z => nomatch z) (fun _ z => nomatch z), ex _ _ h2 (fun _ z => nomatch (show HO.ext _ = _ from z)) (fun _ z => nomatch (show HO.ext _ = _ from z)), h3.imp mv⟩
theorem tabs_offL {T : List (Addr × Str)} {D : Addr} {H : Hp} {xs : List V} {v : HO} (t : Tabs T H) (hD : H D = some (.lst xs)) : Tabs T (upd H D v) := fun p hp =>
  let ⟨ps, h1, h2, h3⟩ := t p hp
  ⟨ps, by rw [upd_ne (ne_of h1 hD (by intro w; cases w))]; exact h1, h2, fun pos cv e => let ⟨c, e1, e2⟩ := h3 pos cv e; ⟨c, e1, by rw [upd_ne (ne_of e2 hD (by unfold CodeO; intro w; cases w))]; exact e2⟩⟩
theorem tabs_sameB {T : List (Addr × Str)} {D : Addr} {H H' : Hp} {xs : List V} (t : Tabs T H) (S : SameB D H H') (hD : H D = some (.lst xs)) : Tabs T H' := fun p hp =>
  let ⟨ps, h1, h2, h3⟩ := t p hp
  ⟨ps, S _ _ (ne_of h1 hD (by intro w; cases w)) h1, h2, fun pos cv e => let ⟨c, e1, e2⟩ := h3 pos cv e; ⟨c, e1, S _ _ (ne_of e2 hD (by unfold CodeO; intro w; cases w)) e2⟩⟩
theorem sorted_one {xs ys : List Str} (a : sortedS xs = true) (b : sortedS ys = true) (c : xs.Nodup) (d : ys.Nodup) (h : ∀ x, x ∈ xs ↔ x ∈ ys) : xs = ys := by
  have l := nodup_le' d fun x hx => (h x).mpr hx
  have p := perm_of_sub c (fun x hx => (h x).mp hx) l
  exact List.Perm.eq_of_pairwise (le := fun a b => leT a b = true) (fun _ _ _ _ => leT_anti) (sorted_pw a) (sorted_pw b) p
theorem deg_is {fm : Fm} {m : Int} (nd : (fm.map (·.1)).Nodup) (h1 : m ∈ (0 : Int) :: (trs fm).map fun x => (x.1.length : Int)) (h2 : ∀ y ∈ (0 : Int) :: (trs fm).map fun x => (x.1.length : Int), y ≤ m) : m = degI fm := by
  have pm := (trs_perm nd).map fun x => (x.1.length : Int)
  obtain ⟨a, b⟩ := hiI_ge (fm.map fun x => (x.1.length : Int)) fun n hn => by obtain ⟨x, _, rfl⟩ := List.mem_map.mp hn; omega
  have d0 : 0 ≤ degI fm := by
    unfold degI
    rcases b with e | e
    · omega
    · obtain ⟨x, _, e2⟩ := List.mem_map.mp e
      omega
  have u : m ≤ degI fm := by
    rcases List.mem_cons.mp h1 with rfl | h
    · exact d0
    · exact a m (pm.mem_iff.mp h)
  have v : degI fm ≤ m := by
    have m0 := h2 0 List.mem_cons_self
    rcases b with e | e
    · unfold degI; omega
    · exact h2 _ (List.mem_cons_of_mem _ (pm.mem_iff.mpr e))
  omega
theorem kit_tt {K : PySem.W.Frag} : PySem.W.kitOne K (.type "tuple") (.type "tuple") = some true := by kernel_rfl
theorem kit_ll {K : PySem.W.Frag} : PySem.W.kitOne K (.type "list") (.type "list") = some true := by kernel_rfl
/-- [len(some) for many, bottom, some in terms] -/
theorem lc_len {K : PySem.W.Frag} {x0 x1 x2 x4 x5 x6 x7 x8 x9 x10 x11 : Option V} {H : Hp} {Q : VK} {p : Addr} {zs : List (Addr × Addr)} {ts : Fm} (hp : H p = some (.lst (zs.map fun z => V.ref z.1))) (ht : TermsAt H zs ts) (hz : ts.length ≤ 100000)
    (k : ∀ H' q, Same H H' → H' q = some (.lst ((ts.map fun x => (x.1.length : Int)).map V.int)) → Q (.ref q) H') :
    tLc (iList K (tVar 3)) (gTup K 3 (gCons (gName 8) (gCons (gName 9) (gCons (gName 10) gNil)))) tYes (tCB (rLenQ K) (tCons (tVar 10) tNil)) [8, 9, 10] [x0, x1, x2, some (.ref p), x4, x5, x6, x7, x8, x9, x10, x11] H Q := by
  have lz : zs.length = ts.length := Paired.length ht
  refine ⟨_, rfl, p, rfl, ⟨_, SqL.of hp⟩, fun D nD => ?_⟩
  refine lc_it (walk_list (xs := zs.map fun z => V.ref z.1)) (fun i H' => Same H H' ∧ H' D = some (.lst (((ts.take i).map fun x => (x.1.length : Int)).map V.int)))
    ⟨Same.upd nD, upd_same⟩ (fun i H' _ q => SqL.of (q.1 _ _ hp)) ?_ ?_
  · rintro i v H1 H2 hi ⟨S, hD⟩ ⟨rfl, hx⟩
    rw [List.length_map] at hi
    rw [List.getElem?_map] at hx
    obtain ⟨z, hz1, rfl⟩ := Option.map_eq_some_iff.mp hx
    have htx : ts[i]? = some ts[i] := List.getElem?_eq_getElem (by omega)
    obtain ⟨z', hz2, tr1, tr2⟩ := paired_ix ht htx
    obtain rfl : z = z' := Option.some.inj (hz1.symm.trans hz2)
    generalize ts[i] = x at htx tr1 tr2
    refine ⟨z.1, _, rfl, SqT.of (S _ _ tr1), rfl, _, _, rfl, _, _, rfl, _, _, rfl, rfl, rfl, iteT (B := False) ⟨_, rfl, z.2, _, rfl, .inl (SqL.of (S _ _ tr2)), _, hD, by rw [List.length_map, List.length_map, List.length_take, sizeLine_eq]; omega, ?_, ?_⟩⟩
    · intro c o e
      rw [upd_ne (ne_of_none e nD)]
      exact S _ _ e
    · rw [upd_same, take_snoc htx, List.map_append, List.map_append, List.length_map]
      rfl
  · rintro H1 ⟨S, hD⟩
    rw [List.length_map, lz, List.take_length] at hD
    exact k H1 D S hD
end E2

set_option Elab.async false
set_option linter.all false
set_option maxRecDepth 100000
set_option maxHeartbeats 1000000
set_option exponentiation.threshold 500000
/-! _law_form_right -/
namespace E2
open PySem PySem.Spec PyProof.Rows L2
open C8 (Cal Mak Met InsC pe_c pe_mt pe_mt0 call_isC clsBody)
open LamX (Tabs ExtN TabB CodeO)
abbrev sFormR : Stmt := top 35
theorem iteTq {b : Bool} {A B : Prop} (h : b = true) (x : A) : if b = true then A else B := by rw [if_pos h]; exact x
theorem op_cb {r : List V → Hp → VK → Prop} {r2 : R2} {ta tb : TE} {σ : L2.St} {H : Hp} {Q : VK} (h : ta σ H fun x H1 => r [x] H1 fun v H2 => tb σ H2 fun y H3 => r2 v y H3 Q) : tOp r2 (tCB r (tCons ta tNil)) tb σ H Q := h
theorem and_op {ta tb : TE} {σ : L2.St} {H : Hp} {Q : VK} (h : ta σ H fun x H1 => ∃ c, x = .bl c ∧ if c = true then tb σ H1 Q else Q (.bl false) H1) : tAndV ta tb σ H Q := h
structure BtF (mg : Str → Option Value) : Prop where
  rng_ : mg "range" = none
  len_ : mg "len" = none
  max_ : mg "max" = none
  srt_ : mg "sorted" = none
  set_ : mg "set" = none
  rep_ : mg "repr" = none
  isi_ : mg "isinstance" = none
  tup_ : mg "tuple" = none
  lst_ : mg "list" = none
def spFormR (TT : List (Addr × Str)) (P : Program) (w : World) (K : PySem.W.Frag) (C : Addr) : Sp := fun vs H Q _ => ∃ (a b l : Addr) (names : List Str) (fm : Fm) (m n L D bb e : Nat), vs = [.ref a, .ref b, .ref l] ∧ PurseAt H a (m + 36 * names.length) ∧ FmAt P w K C H b fm ∧ SqL K H l (names.map V.str) ∧ l ≠ a ∧ names.length ≤ 12 ∧ (∀ z ∈ names, LetOk z) ∧
  Bd names fm n L D bb ∧ Sz5 n L D bb e ∧ bb < 1919 ∧ D ≤ 2 ^ bb ∧ (3860 + 104 * L) * n ≤ 16000000 ∧ Tabs TT H ∧ ∀ H', ExtB a H H' → PurseAt H' a m → Tabs TT H' → Q (.bl true) H'
section
variable {P : Program} {w : World} {K : PySem.W.Frag} {mg : Str → Option Value} {base : Heap} {C : Addr}
theorem scFormR : FnScope ["_law_purse_here", "_law_form_here", "_law_names_here", "_law_terms", "_law_turn", "_law_every", "_law_term", "_law_most", "_law_many", "_law_bottom", "_law_some", "_law_noted"] ["_law_purse_here", "_law_form_here", "_law_names_here"] (defScope sFormR) := ⟨rfl, rfl, rfl, by decide +kernel, rfl, by decide +kernel, by decide +kernel⟩
theorem ok_formR {TT : List (Addr × Str)} {f : Addr} {fd : FuncData} (F : Fun K "_law_form_right" "_law_form_right" sFormR f fd) (B : BtF mg)
    (Te : Met P w K mg base 2 C "terms" (spTerms TT P w K C) []) (De : Met P w K mg base 1 C "degree" (spDeg P w K C) []) (Ls : Met P w K mg base 2 C "letters" (spLetters P w K C) [])
    (Va : Cal P w K mg base 3 "_law_values" (spValues K) []) (Tr : Cal P w K mg base 4 "_law_terms_right" (spTermsR P w K C) []) :
    FnG P w K mg base 5 f fd ["_law_purse_here", "_law_form_here", "_law_names_here"] (spFormR TT P w K C) := by
  refine F.okG scFormR (fun vs H Q E h => ?_) (fun cdv A outer s H vs Q E gA hr h => ?_)
  · obtain ⟨a, b, l, names, fm, m, n, L, D, bb, e, rfl, _⟩ := h
    rfl
  · obtain ⟨a, b, l, names, fm, m, n, L, D, bb, e, rfl, hpa, hf, hl, nla, hnl, hno, bd, sz, b19, db, shn, tb, k⟩ := h
    refine ⟨_, pss_cons (ps_set (i := 3) scFormR.nd rfl (Or.inl rfl) (pe_mt0 Te hr (by decide) (pv 1)))
      (pss_cons (ps_for PassesOwn.never rfl (pi_range1 rfl B.rng_ (pa_cons pe_int pa_nil)) (pg_name (i := 4) scFormR.nd rfl (Or.inl rfl))
        (pss_one (ps_if (pt_not (pt_val (pe_c Tr hr (by decide) rfl (pa_cons (pv 3) (pa_cons (pe_c Va hr (by decide) rfl (pa_cons (pv 0) (pa_cons (pv 2) pa_nil))) (pa_cons (pv 1) pa_nil)))))) (pss_one (ps_ret pe_bl)) pss_nil)))
      (pss_cons (ps_set (i := 5) scFormR.nd rfl (Or.inl rfl) (pe_lstS pa_nil))
      (pss_cons (ps_for PassesOwn.never rfl (pi_list (pv 3)) (pg_name (i := 6) scFormR.nd rfl (Or.inl rfl))
        (pss_cons (ps_if (PW.pt (pw_or (pt_not (pt_val (pe_callB call_isi (by rfl) B.isi_ (by decide +kernel) (pa_cons (pv 6) (pa_cons (pe_bltn (v := .ty "tuple") (by rfl) B.tup_ (by decide +kernel) rfl) pa_nil))))) (pw_or (pt_cmpR op_ne (pe_callB call_len_seq (by rfl) B.len_ PySem.boot_len (pa_cons (pv 6) pa_nil)) pe_int (nomark _))
            (pw_or1 (pt_not (pt_val (pe_callB call_isi (by rfl) B.isi_ (by decide +kernel) (pa_cons (pe_ix ix_tup (pv 6) pe_int (fun _ _ => rfl)) (pa_cons (pe_bltn (v := .ty "list") (by rfl) B.lst_ (by decide +kernel) rfl) pa_nil))))))))) (pss_one (ps_ret pe_bl)) pss_nil)
        (pss_one (ps_set (i := 5) scFormR.nd rfl (Or.inl rfl) (pe_op op_catS (pv 5) (pe_ix ix_tup (pv 6) pe_int (fun _ _ => rfl)))))))
      (pss_cons (ps_set (i := 7) scFormR.nd rfl (Or.inl rfl) (pe_callB (cr_max rfl) (by rfl) B.max_ (by decide +kernel) (pa_cons (pe_op op_catS (pe_lstS (pa_cons pe_int pa_nil)) (pe_lc (own := [("_law_many", 8), ("_law_bottom", 9), ("_law_some", 10)]) (g := gTup K 3 (gCons (gName 8) (gCons (gName 9) (gCons (gName 10) gNil)))) (tt := tYes) (te := tCB (rLenQ K) (tCons (tVar 10) tNil)) rfl scFormR.nd (pi_list (pv 3))
          (blkOk_by (own := [("_law_many", 8), ("_law_bottom", 9), ("_law_some", 10)]) (N := ["_law_purse_here", "_law_form_here", "_law_names_here", "_law_terms", "_law_turn", "_law_every", "_law_term", "_law_most", "_law_many", "_law_bottom", "_law_some", "_law_noted"]) (sc := defScope sFormR) (by decide +kernel))
          (fun _ _ _ _ _ => pg_tup rfl (pgs_cons (pg_name (i := 8) scFormR.nd rfl (Or.inl rfl)) (pgs_cons (pg_name (i := 9) scFormR.nd rfl (Or.inl rfl)) (pgs_cons (pg_name (i := 10) scFormR.nd rfl (Or.inl rfl)) pgs_nil)))) (fun _ _ _ _ _ => pts_nil) (fun _ _ _ _ _ => by exact pe_callB call_len_seq (by rfl) B.len_ PySem.boot_len (pa_cons (pv 10) pa_nil)))) pa_nil)))
      (pss_cons (ps_if (PW.pt (pw_or (pt_cmpR (op_neD hr.units) (pe_mt0 Ls hr (by decide) (pv 1)) (pe_callB (cr_sortedSS rfl) (by rfl) B.srt_ (by decide +kernel) (pa_cons (pe_callTy (cr_setLS rfl) (by rfl) B.set_ (by decide +kernel) (pa_cons (pv 5) pa_nil)) pa_nil)) (nomark _)) (pw_or1 (pt_cmpR op_ne (pe_mt0 De hr (by decide) (pv 1)) (pv 7) (nomark _))))) (pss_one (ps_ret pe_bl)) pss_nil)
      (pss_cons (ps_set (i := 11) scFormR.nd rfl (Or.inl rfl) (pe_callB (call_reprL gA hr.units) (by rfl) B.rep_ (by decide +kernel) (pa_cons (pv 3) pa_nil)))
      (pss_cons (ps_for PassesOwn.never rfl (pi_list (pv 3)) (pg_tup rfl (pgs_cons (pg_name (i := 8) scFormR.nd rfl (Or.inl rfl)) (pgs_cons (pg_name (i := 9) scFormR.nd rfl (Or.inl rfl)) (pgs_cons (pg_name (i := 10) scFormR.nd rfl (Or.inl rfl)) pgs_nil))))
        (pss_one (ps_expr (pe_bm PySem.F.plainAttrs_list PySem.F.slot_list_append PySem.F.type_list_append mt_append (pv 10) (pa_cons pe_str pa_nil)))))
      (pss_cons (ps_expr (pe_bm PySem.F.plainAttrs_list PySem.F.slot_list_append PySem.F.type_list_append mt_append (pv 3) (pa_cons pe_str pa_nil)))
      (pss_cons (ps_expr (pe_bm PySem.F.plainAttrs_list PySem.F.slot_list_append PySem.F.type_list_append mt_append (pe_mt0 Ls hr (by decide) (pv 1)) (pa_cons pe_str pa_nil)))
      (pss_one (ps_ret (pe_and (pe_cmpR op_eq (pe_callB (call_reprL gA hr.units) (by rfl) B.rep_ (by decide +kernel) (pa_cons (pe_mt0 Te hr (by decide) (pv 1)) pa_nil)) (pv 11) (nomark _))
        (pe_one (pe_cmpR (op_eqD hr.units) (pe_mt0 Ls hr (by decide) (pv 1)) (pe_callB (cr_sortedSS rfl) (by rfl) B.srt_ (by decide +kernel) (pa_cons (pe_callTy (cr_setLS rfl) (by rfl) B.set_ (by decide +kernel) (pa_cons (pv 5) pa_nil)) pa_nil)) (nomark _))))))))))))))), ?_⟩
    have mem : ∀ {x}, x ∈ trs fm → x ∈ fm := fun h => (trs_perm bd.can.nd).mem_iff.mp h
    have ltr : (trs fm).length = fm.length := (trs_perm bd.can.nd).length_eq
    have lf := bd.len
    have n2 := sz.n_
    have l5 := sz.l_
    obtain ⟨ya, ea⟩ := hpa.lst
    have lets_ := bd.lets (by omega)
    have keyl : ∀ x ∈ fm, x.1.length ≤ 100000 := fun x hx => by have := (bd.key x hx).1; omega
    have hrep : ∀ x ∈ trs fm, x.2.num.natAbs ≤ 2 ^ bb ∧ x.2.den ≤ 2 ^ bb := fun x hx => ⟨(bd.bq x (mem hx)).num_le sz.d0, Nat.le_trans ((bd.bq x (mem hx)).den_le sz.d0) db⟩
    have hkey : ∀ x ∈ trs fm, x.1.length ≤ L ∧ ∀ z ∈ x.1, LetOk z := fun x hx => ⟨(bd.key x (mem hx)).1, fun z hz => hno z ((bd.key x (mem hx)).2 z hz)⟩
    -- terms
    obtain ⟨dx, df, ib⟩ := insF hf
    refine seq_asg ⟨_, rfl, b, dx, _, rfl, ib, rfl, b, fm, rfl, hf, bd.can.nd, by omega, keyl, tb, fun H1 p zs ex1 tb1 newp hp ht ndz newz => ?_⟩
    have lz : zs.length = (trs fm).length := Paired.length ht
    have hpa1 : PurseAt H1 a (m + 36 * names.length) := by
      obtain ⟨p0, p1, p2, p3, ee, rr⟩ := hpa
      exact ⟨p0, p1, p2, p3, ex1 _ _ ee (fun _ z => nomatch z), rr⟩
    have hl1 : SqL K H1 l (names.map V.str) := by
      rcases hl with (h | ⟨o, h⟩) | h
      · exact .inl (.inl (ex1 _ _ h fun _ z => nomatch z))
      · exact .inl (.inr ⟨o, ex1 _ _ h fun _ z => nomatch z⟩)
      · exact .inr h
    have hf1 := FmAt.ext hf ex1
    obtain ⟨ya1, ea1⟩ := hpa1.lst
    have pa_ne : p ≠ a := by
      rintro rfl
      obtain ⟨ps, e2⟩ := newp _ ea
      cases e2
    have za_ne : ∀ z ∈ zs, z.2 ≠ a := fun z hz => by
      rintro e2
      obtain ⟨ps, e3⟩ := (newz z hz).1 _ (by rw [e2]; exact ea)
      cases e3
    have zt_ne : ∀ {i : Nat} {z : Addr × Addr} {x : Mon × Rat}, zs[i]? = some z → (trs fm)[i]? = some x → z.1 ≠ a := fun {i z x} hz hx => by
      rintro e2
      obtain ⟨z', hz', t1, _⟩ := paired_ix ht hx
      obtain rfl : z = z' := Option.some.inj (hz.symm.trans hz')
      rw [e2, ea1] at t1
      cases t1
    have keepT : ∀ {H' : Hp}, SameB a H1 H' → TermsAt H' zs (trs fm) := fun {H'} S => by
      unfold TermsAt
      have aux : ∀ {as : List (Addr × Addr)} {bs : Fm}, Paired (TrmAt H1) as bs → (∀ z ∈ as, z.2 ≠ a) → Paired (TrmAt H') as bs := by
        intro as bs h
        induction h with
        | nil => intro _; exact .nil
        | @cons z x as bs r t ih =>
          intro hn
          refine .cons ⟨S _ _ ?_ r.1, S _ _ (hn z List.mem_cons_self) r.2⟩ (ih fun y hy => hn y (List.mem_cons_of_mem _ hy))
          rintro rfl
          have := r.1
          rw [ea1] at this
          cases this
      exact aux ht za_ne
    -- the turns
    have e36 : m + 36 * names.length = m + 12 * names.length * (3 - 0) := by omega
    rw [e36] at hpa1
    refine ⟨3, rfl, by decide, by decide, for_it (walk_range (n := 3)) (fun i σ' H' => (∃ u, σ' = [some (.ref a), some (.ref b), some (.ref l), some (.ref p), u, none, none, none, none, none, none, none]) ∧ SameB a H1 H' ∧ PurseAt H' a (m + 12 * names.length * (3 - i))) ⟨⟨none, rfl⟩, SameB.refl _ _, hpa1⟩ (fun _ _ _ _ _ => trivial) ?_ ?_⟩
    · rintro i x σ' H2 H3 hi ⟨⟨u, rfl⟩, S2, hp2⟩ ⟨rfl, rfl⟩
      have hi3 : i < 3 := hi
      have e12 : m + 12 * names.length * (3 - i) = (m + 12 * names.length * (3 - (i + 1))) + 12 * names.length := by
        have : 3 - i = (3 - (i + 1)) + 1 := by omega
        rw [this, Nat.mul_succ]
        omega
      rw [e12] at hp2
      refine ⟨_, rfl, _, rfl, _, rfl, a, l, names, _, rfl, hp2, E2.SqL.sameB hl1 S2 nla, nla, by omega, hno, fun H4 dv g hv nd4 hp4 S4 => ?_⟩
      have S14 := S2.trans S4
      refine ⟨_, rfl, p, dv, b, zs, fm, names, g, n, L, D, bb, e, rfl, S14 _ _ pa_ne hp, keepT S14, FmAt.sameL hf1 S14 ea1, bd, sz, hnl, hno, hv, fun H5 S5 => ⟨true, rfl, iteF ?_⟩⟩
      exact ⟨⟨_, rfl⟩, S14.to S5, hp4.same S5⟩
    rintro σ' H2 ⟨⟨u, rfl⟩, S2, hp2⟩
    have hp2 : PurseAt H2 a m := by
      have e0 : m + 12 * names.length * (3 - 3) = m := by omega
      rw [e0] at hp2
      exact hp2
    have hpT2 := S2 _ _ pa_ne hp
    have ht2 := keepT S2
    have hf2 := FmAt.sameL hf1 S2 ea1
    have tb2 : Tabs TT H2 := tabs_sameB tb1 S2 ea1
    have X2 : ExtB a H H2 := (ExtB.ofN ex1).trans (.ofB S2)
    -- every
    dsimp only
    refine seq_asg ⟨by show 0 ≤ sizeLine; decide, fun ev0 H3 S3 n3 h3 => ?_⟩
    refine ⟨_, rfl, p, rfl, ⟨_, SqL.of (S3 _ _ hpT2)⟩, for_it (walk_list (xs := zs.map fun z => V.ref z.1)) (fun i σ' H' => Same H2 H' ∧ ∃ ev u6, H2 ev = none ∧ H' ev = some (.lst ((lets ((trs fm).take i)).map V.str)) ∧ σ' = [some (.ref a), some (.ref b), some (.ref l), some (.ref p), u, some (.ref ev), u6, none, none, none, none, none])
      ⟨S3, ev0, none, n3, h3, rfl⟩ (fun i σ' H' _ q => SqL.of (q.1 _ _ hpT2)) ?_ ?_⟩
    · rintro i v σ' H4 H5 hi ⟨S4, ev, u6, nev, hev, rfl⟩ ⟨rfl, hx⟩
      rw [List.length_map] at hi
      rw [List.getElem?_map] at hx
      obtain ⟨z, hz1, rfl⟩ := Option.map_eq_some_iff.mp hx
      have htx : (trs fm)[i]? = some (trs fm)[i] := List.getElem?_eq_getElem (by omega)
      obtain ⟨z', hz2, tr1, tr2⟩ := paired_ix ht2 htx
      obtain rfl : z = z' := Option.some.inj (hz1.symm.trans hz2)
      generalize (trs fm)[i] = x at htx tr1 tr2
      have kx := hkey x (List.mem_of_getElem? htx)
      refine ⟨_, rfl, _, _, _, _, true, rfl, .ty "tuple", .base (.tup (S4 _ _ tr1)), kit_tt, true, rfl, iteF ?_⟩
      refine ⟨_, rfl, z.1, _, rfl, .inr (SqT.of (S4 _ _ tr1)), rfl, _, rfl, ifF rfl ?_⟩
      refine ⟨_, rfl, z.1, _, 2, _, rfl, rfl, SqT.of (S4 _ _ tr1), rfl, _, _, _, _, true, rfl, .ty "list", .base (.lst (S4 _ _ tr2)), kit_ll, true, rfl, iteF ?_⟩
      dsimp only [tNext]
      have ll : (lets ((trs fm).take i)).length ≤ 2000 * 50 := by
        rw [len_lets]
        have aux : ∀ (l : Fm), (∀ x ∈ l, x.1.length ≤ 50) → (l.map fun x => x.1.length).sum ≤ l.length * 50 := by
          intro l
          induction l with
          | nil => intro _; exact Nat.zero_le _
          | cons y l ih =>
            intro h
            have h1 := ih fun x hx => h x (List.mem_cons_of_mem _ hx)
            have h2 := h y List.mem_cons_self
            rw [List.map_cons, List.sum_cons, List.length_cons, Nat.succ_mul]
            omega
        refine Nat.le_trans (aux _ fun x hx => by have := (hkey x (List.mem_of_mem_take hx)).1; omega) (Nat.mul_le_mul_right _ ?_)
        rw [List.length_take]
        omega
      refine ⟨_, rfl, _, rfl, z.1, _, 2, _, rfl, rfl, SqT.of (S4 _ _ tr1), rfl, ev, z.2, _, _, rfl, rfl, hev, S4 _ _ tr2, by rw [List.length_map, List.length_map, sizeLine_eq]; have := kx.1; omega, fun q H6 S6 nq hq => ⟨S4.trans S6, q, _, S4.free nq, ?_, rfl⟩⟩
      rw [hq, lets_take htx, List.map_append]
    rintro σ' H3' ⟨S3', ev, u6, nev, hev, rfl⟩
    rw [List.length_map, lz, List.take_length] at hev
    clear h3 n3 S3
    generalize H3' = H3 at S3' hev
    have evm : ∀ x, x ∈ lets (trs fm) ↔ ∃ k ∈ fm.map (·.1), x ∈ k := fun x => by
      unfold lets
      rw [List.mem_flatMap]
      constructor
      · rintro ⟨y, hy, hx⟩
        exact ⟨y.1, List.mem_map.mpr ⟨y, mem hy, rfl⟩, hx⟩
      · rintro ⟨k, hk, hx⟩
        obtain ⟨y, hy, rfl⟩ := List.mem_map.mp hk
        exact ⟨y, (trs_perm bd.can.nd).mem_iff.mpr hy, hx⟩
    have room : ∀ i, (putAll [] ((lets (trs fm)).take i)).length + 1 < scanBound := fun i => by
      have := putAll_small (l := (lets (trs fm)).take i) (m := names) fun z hz => by
        obtain ⟨kk, hk, hz2⟩ := (evm z).mp (List.mem_of_mem_take hz)
        obtain ⟨y, hy, rfl⟩ := List.mem_map.mp hk
        exact (bd.key y hy).2 z hz2
      have : scanBound = 4096 := rfl
      omega
    -- letters() against sorted(set(every))
    have srt : ∀ {H' : Hp} {xs : List Str} {Q' : VK}, H' ev = some (.lst ((lets (trs fm)).map V.str)) → sortedS xs = true → xs.Nodup → (∀ x, x ∈ xs ↔ ∃ m ∈ fm.map (·.1), x ∈ m) →
        (∀ H'' q, Same H' H'' → H'' q = some (.lst (xs.map V.str)) → Q' (.ref q) H'') → rSetLS K P w [.ref ev] H' (fun x H2 => rSortedSS P w [x] H2 Q') := fun {H' xs Q'} hev' so nd hm kk => by
      refine ⟨ev, _, rfl, SqL.of hev', room, fun q nq => ⟨q, _, rfl, upd_same, fun ys pm ndk sy p' H'' S' np' hp' => ?_⟩⟩
      have e2 : ys = xs := sorted_one sy so (pm.nodup_iff.mpr ndk) nd fun x => by
        rw [pm.mem_iff, mem_putAll, hm, ← evm]
        constructor
        · rintro (h | h)
          · cases h
          · exact h
        · exact .inr
      rw [e2] at hp'
      exact kk H'' p' ((Same.upd nq).trans S') hp'
    -- most
    dsimp only
    refine seq_asg ⟨by show 1 ≤ sizeLine; decide, fun l0 H4 S4 n4 h4 => ?_⟩
    have ht3 := TermsAt.imp (H' := H4) ht2 fun z _ x h => ⟨S4 _ _ (S3' _ _ h.1), S4 _ _ (S3' _ _ h.2)⟩
    refine lc_len (S4 _ _ (S3' _ _ hpT2)) ht3 (by omega) fun H5 q5 S5 h5 => ?_
    refine ⟨l0, q5, [.int 0], _, rfl, rfl, S5 _ _ h4, h5, by simp only [List.length_map, List.length_cons, List.length_nil]; rw [sizeLine_eq]; omega, fun q6 H6 S6 n6 h6 => ⟨q6, (0 : Int) :: (trs fm).map (fun x : Mon × Rat => (x.1.length : Int)), rfl, SqL.of (xs := ((0 : Int) :: (trs fm).map (fun x : Mon × Rat => (x.1.length : Int))).map V.int) h6, Nat.succ_pos _, fun mx hm1 hm2 => ?_⟩⟩
    obtain rfl := deg_is bd.can.nd hm1 hm2
    try dsimp only
    have S26 : Same H2 H6 := (((S3'.trans S4).trans S5).trans S6)
    have hev6 := S6 _ _ (S5 _ _ (S4 _ _ hev))
    have hf6 := FmAt.same hf2 S26
    obtain ⟨dx6, df6, ib6⟩ := insF hf6
    refine ⟨_, rfl, b, dx6, _, rfl, ib6, rfl, b, fm, rfl, hf6, lets_, fun H7 p7 xs S7 np7 hp7 lx so ndx hmem => ?_⟩
    have sok : ∀ z ∈ xs, PyData.strOk z = true := fun z hz => by
      obtain ⟨kk, hk, hz2⟩ := (hmem z).mp hz
      obtain ⟨y, hy, rfl⟩ := List.mem_map.mp hk
      exact strOk_of (hno z ((bd.key y hy).2 z hz2))
    refine ⟨_, rfl, srt (S7 _ _ hev6) so ndx hmem fun H8 q8 S8 h8 => ?_⟩
    refine ne_data (d := .list (xs.map PyData.str)) (.lst (SqL.of (S8 _ _ hp7)) (dp_strs _)) (.lst (SqL.of h8) (dp_strs _)) (shaped_strs _ sok) ⟨_, rfl, ifF rfl ?_⟩
    have S28 := (S26.trans S7).trans S8
    have hf8 := FmAt.same hf2 S28
    obtain ⟨dx8, df8, ib8⟩ := insF hf8
    refine ⟨_, rfl, b, dx8, _, rfl, ib8, rfl, b, fm, rfl, hf8, by omega, keyl, fun H9 S9 => ⟨_, rfl, rfl, _, rfl, ifF (by rw [decide_eq_true rfl]; rfl) ?_⟩⟩
    dsimp only [tNext]
    have S29 := S28.trans S9
    have ht9 := TermsAt.imp (H' := H9) ht2 fun z _ x h => ⟨S29 _ _ h.1, S29 _ _ h.2⟩
    have hp9 := S29 _ _ hpT2
    have hev9 := S9 _ _ (S8 _ _ (S7 _ _ hev6))
    -- noted
    refine seq_asg (tcb_one ⟨_, rfl, repr_trs hp9 ht9 b19 hrep hkey (by omega) shn ?_⟩)
    try dsimp only
    -- spoilt
    have X9 : ExtB a H H9 := X2.trans (.of S29)
    have tb9 := tb2.ext S29
    have hp9' := hp2.same S29
    have hf9 := FmAt.same hf2 S29
    have z2 : ∀ {i : Nat} {z : Addr × Addr}, zs[i]? = some z → NewT H z.2 ∧ z.2 ≠ p := fun hz => newz _ (List.mem_of_getElem? hz)
    have zix : ∀ {i j : Nat} {z y : Addr × Addr}, zs[i]? = some z → zs[j]? = some y → z.2 = y.2 → i = j := fun {i j z y} h1 h2 e2 => nodup_ix ndz (i := i) (j := j) (x := y.2) (by rw [List.getElem?_map, h1]; show some z.2 = _; rw [e2]) (by rw [List.getElem?_map, h2]; rfl)
    have zlst : ∀ {i : Nat} {z : Addr × Addr}, zs[i]? = some z → ∃ x, (trs fm)[i]? = some x ∧ H9 z.1 = some (.tup [.int x.2.num, .int (x.2.den : Int), .ref z.2]) ∧ H9 z.2 = some (.lst (x.1.map V.str)) := fun {i z} hz => by
      have hi : i < (trs fm).length := by have := (List.getElem?_eq_some_iff.mp hz).1; omega
      have htx : (trs fm)[i]? = some (trs fm)[i] := List.getElem?_eq_getElem hi
      obtain ⟨z', hz2, tr1, tr2⟩ := paired_ix ht9 htx
      obtain rfl : z = z' := Option.some.inj (hz.symm.trans hz2)
      exact ⟨_, htx, tr1, tr2⟩
    have not2 : ∀ {b' : Addr} {o : HO}, H9 b' = some o → (∀ xs, o ≠ .lst xs) → ∀ (j : Nat) (z : Addr × Addr), zs[j]? = some z → b' ≠ z.2 := fun {b' o} e2 ne j z hz => by
      rintro rfl
      obtain ⟨x, _, _, h2⟩ := zlst hz
      rw [e2] at h2
      exact ne _ (Option.some.inj h2)
    refine ⟨_, rfl, p, rfl, ⟨_, SqL.of hp9⟩, for_it (walk_list (xs := zs.map fun z => V.ref z.1)) (fun i σ' H' => (∀ b' o, H9 b' = some o → (∀ (j : Nat) (z : Addr × Addr), j < i → zs[j]? = some z → b' ≠ z.2) → H' b' = some o) ∧ Tabs TT H' ∧ ∃ u8 u9 u10, σ' = [some (.ref a), some (.ref b), some (.ref l), some (.ref p), u, some (.ref ev), u6, some (.int (degI fm)), u8, u9, u10, some (.str (PyData.list (trL (trs fm))).shown)])
      ⟨fun _ _ e2 _ => e2, tb9, none, none, none, rfl⟩ (fun i σ' H' _ q => SqL.of (q.1 _ _ hp9 fun (j : Nat) (z : Addr × Addr) _ hz e2 => (z2 hz).2 e2.symm)) ?_ ?_⟩
    · rintro i v σ' H10 H11 hi ⟨I10, tb10, u8, u9, u10, rfl⟩ ⟨rfl, hx⟩
      rw [List.length_map] at hi
      rw [List.getElem?_map] at hx
      obtain ⟨z, hz1, rfl⟩ := Option.map_eq_some_iff.mp hx
      obtain ⟨x, hx2, t1, t2⟩ := zlst hz1
      have t1' := I10 _ _ t1 fun j y _ hy => not2 t1 (fun _ q => nomatch q) j y hy
      have t2' := I10 _ _ t2 fun j y hj hy e2 => by have := zix hz1 hy e2; omega
      have kx := hkey x (List.mem_of_getElem? hx2)
      refine ⟨z.1, _, rfl, SqT.of t1', rfl, _, _, rfl, _, _, rfl, _, _, rfl, rfl, ?_⟩
      refine ⟨_, rfl, .inl ⟨rfl, _, SqL.of t2'⟩, z.2, _, _, rfl, rfl, t2', by rw [List.length_map, sizeLine_eq]; omega, fun b' o e2 nn => ?_, tabs_offL tb10 t2', _, _, _, rfl⟩
      rw [upd_ne (nn i z (Nat.lt_succ_self _) hz1)]
      exact I10 _ _ e2 fun j y hj hy => nn j y (Nat.lt_succ_of_lt hj) hy
    rintro σ' H10 ⟨I10, tb10, u8, u9, u10, rfl⟩
    rw [List.length_map] at I10
    have hp10 : H10 p = some (.lst (zs.map fun z => V.ref z.1)) := I10 _ _ hp9 fun j z _ hz e2 => (z2 hz).2 e2.symm
    have hev10 : H10 ev = some (.lst ((lets (trs fm)).map V.str)) := I10 _ _ hev9 fun j z _ hz e2 => by
      obtain ⟨x, hx2, _, _⟩ := zlst hz
      obtain ⟨z', hz', _, t2⟩ := paired_ix ht2 hx2
      obtain rfl : z = z' := Option.some.inj (hz.symm.trans hz')
      rw [e2, t2] at nev
      cases nev
    have X10 : ExtB a H H10 := fun b' o n e2 t2 => I10 _ _ (X9 _ _ n e2 t2) fun j z _ hz e3 => by
      obtain ⟨ps, e4⟩ := (z2 hz).1 o (by rw [← e3]; exact e2)
      exact t2 _ e4
    have hpa10 : PurseAt H10 a m := by
      obtain ⟨p0, p1, p2, p3, ee, rr⟩ := hp9'
      exact ⟨p0, p1, p2, p3, I10 _ _ ee (fun j z _ hz e2 => za_ne z (List.mem_of_getElem? hz) e2.symm), rr⟩
    -- terms.append
    refine ⟨_, rfl, .inl ⟨rfl, _, SqL.of hp10⟩, p, _, _, rfl, rfl, hp10, by rw [List.length_map, sizeLine_eq]; omega, ?_⟩
    have pev : ev ≠ p := by
      rintro rfl
      rw [hpT2] at nev
      cases nev
    have X11 : ExtB a H (upd H10 p (.lst ((zs.map fun z => V.ref z.1) ++ [.str "spoilt"]))) := fun b' o n e2 t2 => by
      have nb : b' ≠ p := by
        rintro rfl
        obtain ⟨ps, e4⟩ := newp o e2
        exact t2 _ e4
      rw [upd_ne nb]
      exact X10 _ _ n e2 t2
    have tb11 : Tabs TT (upd H10 p (.lst ((zs.map fun z => V.ref z.1) ++ [.str "spoilt"]))) := tabs_offL tb10 hp10
    have hev11 : (upd H10 p (.lst ((zs.map fun z => V.ref z.1) ++ [.str "spoilt"]))) ev = some (.lst ((lets (trs fm)).map V.str)) := by rw [upd_ne pev]; exact hev10
    have hpa11 : PurseAt (upd H10 p (.lst ((zs.map fun z => V.ref z.1) ++ [.str "spoilt"]))) a m := by
      obtain ⟨p0, p1, p2, p3, ee, rr⟩ := hpa10
      exact ⟨p0, p1, p2, p3, by rw [upd_ne (Ne.symm pa_ne)]; exact ee, rr⟩
    generalize upd H10 p (.lst ((zs.map fun z => V.ref z.1) ++ [.str "spoilt"])) = H11 at X11 tb11 hev11 hpa11 ⊢
    have hf11 := FmAt.extL hf (X11.toL ea)
    obtain ⟨dx11, df11, ib11⟩ := insF hf11
    refine ⟨_, rfl, b, dx11, _, rfl, ib11, rfl, b, fm, rfl, hf11, lets_, fun H12 p12 xs2 S12 np12 hp12 lx2 so2 ndx2 hmem2 => ?_⟩
    refine ⟨.inl ⟨rfl, _, SqL.of hp12⟩, p12, _, _, rfl, rfl, hp12, by rw [List.length_map, sizeLine_eq]; omega, ?_⟩
    have S13 : Same H11 (upd H12 p12 (.lst (xs2.map V.str ++ [.str "spoilt"]))) := fun b' o e2 => by
      rw [upd_ne (ne_of_none e2 np12)]
      exact S12 _ _ e2
    have tb13 := tb11.ext S13
    have X13 := X11.trans (.of S13)
    have hev13 := S13 _ _ hev11
    have hpa13 := hpa11.same S13
    generalize upd H12 p12 (.lst (xs2.map V.str ++ [.str "spoilt"])) = H13 at tb13 X13 hev13 hpa13 ⊢
    have hf13 := FmAt.extL hf (X13.toL ea)
    obtain ⟨dx13, df13, ib13⟩ := insF hf13
    dsimp only
    refine ret_of (and_op (op_cb ?_))
    refine ⟨_, rfl, b, dx13, _, rfl, ib13, rfl, b, fm, rfl, hf13, bd.can.nd, by omega, keyl, tb13, fun H14 p14 zs14 ex14 tb14 newp14 hp14 ht14 ndz14 newz14 => ?_⟩
    refine repr_trs hp14 ht14 b19 hrep hkey (by omega) shn ⟨_, rfl, rfl, _, rfl, iteTq (decide_eq_true rfl) ?_⟩
    have X14 := X13.trans (.ofN ex14)
    have hf14 := FmAt.extL hf (X14.toL ea)
    have hev14 := ex14 _ _ hev13 fun _ q => nomatch q
    obtain ⟨dx14, df14, ib14⟩ := insF hf14
    refine ⟨_, rfl, b, dx14, _, rfl, ib14, rfl, b, fm, rfl, hf14, lets_, fun H15 p15 xs3 S15 np15 hp15 lx3 so3 ndx3 hmem3 => ?_⟩
    have sok3 : ∀ z ∈ xs3, PyData.strOk z = true := fun z hz => by
      obtain ⟨kk, hk, hz2⟩ := (hmem3 z).mp hz
      obtain ⟨y, hy, rfl⟩ := List.mem_map.mp hk
      exact strOk_of (hno z ((bd.key y hy).2 z hz2))
    refine ⟨_, rfl, srt (S15 _ _ hev14) so3 ndx3 hmem3 fun H16 q16 S16 h16 => ?_⟩
    refine eq_data (d := .list (xs3.map PyData.str)) (.lst (SqL.of (S16 _ _ hp15)) (dp_strs _)) (.lst (SqL.of h16) (dp_strs _)) (shaped_strs _ sok3) ?_
    have S1416 := S15.trans S16
    refine k H16 (X14.trans (.of S1416)) ?_ (tb14.ext S1416)
    obtain ⟨p0, p1, p2, p3, ee, rr⟩ := hpa13
    exact ⟨p0, p1, p2, p3, S1416 _ _ (ex14 _ _ ee (fun _ q => nomatch q)), rr⟩
end
end E2

set_option Elab.async false
set_option linter.all false
set_option maxRecDepth 100000
set_option maxHeartbeats 1000000
set_option exponentiation.threshold 500000
/-! _law_put_right -/
namespace E2
open PySem PySem.Spec PyProof.Rows L2
open C8 (Cal Mak Met InsC pe_c pe_mt pe_mt0 call_isC clsBody)
open LamX (Tabs ExtN TabB CodeO)
abbrev sPutR : Stmt := top 36
theorem FOk.bd {names : List Str} {d : Nat} {t : Tr} {fm : Fm} (F : FOk names d t fm) : Bd names fm (nF d) (2 ^ d) (uT t) (bT d) := ⟨F.can, F.len, F.keys, F.bt⟩
theorem FOk.bd2 {names : List Str} {t : Tr} {fm : Fm} (F : FOk names 2 t fm) : Bd names fm 4 4 (uT t) 200 := F.bd.mono (by decide) (by decide) (by decide)
theorem u_small {names : List Str} {t : Tr} (h : TrOk names 2 t) : ∃ a b, 1 ≤ a ∧ a ≤ 6 ∧ 1 ≤ b ∧ b ≤ 6 ∧ uT t = a * b := by
  cases t with
  | num n => exact ⟨1, 1, by decide, by decide, by decide, by decide, rfl⟩
  | var z => exact ⟨1, 1, by decide, by decide, by decide, by decide, rfl⟩
  | div t k =>
    obtain ⟨h1, k0, k1⟩ := h
    obtain ⟨a, b⟩ := uT_le h1
    exact ⟨uT t, k.natAbs, a, b, by omega, by omega, rfl⟩
  | bin o l r =>
    obtain ⟨_, h1, h2⟩ := h
    obtain ⟨a, b⟩ := uT_le h1
    obtain ⟨c, d⟩ := uT_le h2
    exact ⟨uT l, uT r, a, b, c, d, rfl⟩
theorem u_dvd {names : List Str} {t : Tr} (h : TrOk names 2 t) : uT t ∣ 518400 := by
  obtain ⟨a, b, a1, a6, b1, b6, e⟩ := u_small h
  rw [e]
  have aux : ∀ a ∈ List.range 7, ∀ b ∈ List.range 7, 1 ≤ a → 1 ≤ b → a * b ∣ 518400 := by decide
  exact aux a (List.mem_range.mpr (by omega)) b (List.mem_range.mpr (by omega)) a1 b1
theorem wT_u {names : List Str} {g : Str → Int} : ∀ {d : Nat} {t : Tr}, TrOk names d t → (wT g t).2 = (uT t : Int)
  | _, .num _, _ => rfl
  | _, .var _, _ => rfl
  | 0, .div _ _, h => h.elim
  | d + 1, .div t k, ⟨h, k0, k1⟩ => by
    show (wT g t).2 * k = ((uT t * k.natAbs : Nat) : Int)
    rw [wT_u h, Int.natCast_mul]
    congr 1
    omega
  | 0, .bin _ _ _, h => h.elim
  | d + 1, .bin o l r, ⟨ho, hl, hr⟩ => by
    have e : (wT g (.bin o l r)).2 = (wT g l).2 * (wT g r).2 := by
      match o with
      | 0 => rfl
      | 1 => rfl
      | _ + 2 => rfl
    rw [e, wT_u hl, wT_u hr]
    show _ = ((uT l * uT r : Nat) : Int)
    rw [Int.natCast_mul]
theorem hiN_none {name : Str} {fm : Fm} (h : ∀ x ∈ fm, name ∉ x.1) : hiN name fm = 0 := by
  rcases (hiI_ge (fm.map fun x => (cntM name x.1 : Int)) fun n hn => by obtain ⟨x, _, rfl⟩ := List.mem_map.mp hn; omega).2 with e | e
  · unfold hiN; rw [e]; rfl
  · obtain ⟨x, hx, e2⟩ := List.mem_map.mp e
    rw [(cnt_none (h x hx)).1] at e2
    unfold hiN; rw [← e2]; rfl
theorem TrAt.extB {K : PySem.W.Frag} {H H' : Hp} {t : Tr} {a p : Addr} {xs : List V} (h : TrAt K H t a) (S : ExtB p H H') (hp : H p = some (.lst xs)) : TrAt K H' t a :=
  h.imp fun _ _ s => by
    have X := S.toL hp
    rcases s with (h | ⟨o, h⟩) | h
    · exact .inl (.inl (X _ _ h (fun _ z => nomatch z) fun _ z => nomatch z))
    · exact .inl (.inr ⟨o, X _ _ h (fun _ z => nomatch z) fun _ z => nomatch z⟩)
    · exact .inr h
theorem SqL.extB {K : PySem.W.Frag} {H H' : Hp} {l p : Addr} {xs : List V} (h : SqL K H l xs) (S : ExtB p H H') (n : l ≠ p) : SqL K H' l xs := by
  rcases h with (h | ⟨o, h⟩) | h
  · exact .inl (.inl (S _ _ n h fun _ z => nomatch z))
  · exact .inl (.inr ⟨o, S _ _ n h fun _ z => nomatch z⟩)
  · exact .inr h
theorem let_absent : LetOk "absent" := by decide
def spPutR (TT : List (Addr × Str)) (P : Program) (w : World) (K : PySem.W.Frag) (C : Addr) : Sp := fun vs H Q _ => ∃ (a bt bo l : Addr) (t o : Tr) (names : List Str) (m : Nat), vs = [.ref a, .ref bt, .ref bo, .ref l] ∧ PurseAt H a (m + 36 * names.length + 36 * names.length + 4) ∧ TrAt K H t bt ∧ TrAt K H o bo ∧ TrOk names 2 t ∧ TrOk names 2 o ∧
  SqL K H l (names.map V.str) ∧ l ≠ a ∧ 0 < names.length ∧ names.length ≤ 12 ∧ (∀ z ∈ names, LetA z) ∧ Tabs TT H ∧ ∀ H', ExtB a H H' → PurseAt H' a m → Tabs TT H' → Q (.bl true) H'
section
variable {P : Program} {w : World} {K : PySem.W.Frag} {mg : Str → Option Value} {base : Heap} {C : Addr}
theorem scPutR : FnScope ["_law_purse_here", "_law_tree_here", "_law_other", "_law_names_here", "_law_name", "_law_built", "_law_turn", "_law_values_here", "_law_above", "_law_under", "_law_inner"] ["_law_purse_here", "_law_tree_here", "_law_other", "_law_names_here"] (defScope sPutR) := ⟨rfl, rfl, rfl, by decide +kernel, rfl, by decide +kernel, by decide +kernel⟩
theorem ok_putR {TT : List (Addr × Str)} {f : Addr} {fd : FuncData} (F : Fun K "_law_put_right" "_law_put_right" sPutR f fd) (hrng : mg "range" = none) (hdict : mg "dict" = none)
    (On : Cal P w K mg base 3 "_law_one_of" (spOneOf K) []) (Lf : Cal P w K mg base 9 "_law_form" (spLawForm P w K C 2) []) (Va : Cal P w K mg base 3 "_law_values" (spValues K) []) (Wo : Cal P w K mg base 4 "_law_worth" (spWorth K 2) []) (Wh : Cal P w K mg base 5 "_law_whole_at" (spWholeAt K 2) [])
    (Fr : CalG P w K mg base 5 "_law_form_right" (spFormR TT P w K C)) (Im : OpI P w K mg base 5 C "mul" (spMul P w K C)) (Pu : Met P w K mg base 6 C "put" (spPut P w K C) []) (At : Met P w K mg base 3 C "at" (spAt P w K C) []) (Ne : EqM P w K mg base 1 C) :
    FnG P w K mg base 10 f fd ["_law_purse_here", "_law_tree_here", "_law_other", "_law_names_here"] (spPutR TT P w K C) := by
  obtain ⟨gm, gdm, qm, im, Gm, cm⟩ := Im.ex
  refine F.okG scPutR (fun vs H Q E h => ?_) (fun cdv A outer s H vs Q E gA hr h => ?_)
  · obtain ⟨a, bt, bo, l, t, o, names, m, rfl, _⟩ := h
    rfl
  · obtain ⟨a, bt, bo, l, t, o, names, m, rfl, hpa, ht, ho, tk, ok, hl, nla, n0, nl, hna, tb, k⟩ := h
    have u1 := Nat.lt_of_le_of_lt (Nat.add_le_add_left (by decide : 1 ≤ 64) _) hr.units
    refine ⟨_, pss_cons (ps_set (i := 4) scPutR.nd rfl (Or.inl rfl) (pe_c On hr (by decide) rfl (pa_cons (pv 0) (pa_cons (pv 3) pa_nil))))
      (pss_cons (ps_set (i := 5) scPutR.nd rfl (Or.inl rfl) (pe_mt Pu hr (by decide) (pe_c Lf hr (by decide) rfl (pa_cons (pv 1) pa_nil)) (pa_cons (pv 4) (pa_cons (pe_op (op_ownI (op := .Mult) im Gm (hr.mono (by decide)) cm) (pe_c Lf hr (by decide) rfl (pa_cons (pv 2) pa_nil)) (pe_op op_pow pe_int pe_int)) pa_nil))))
      (pss_cons (ps_for PassesOwn.never rfl (pi_range1 rfl hrng (pa_cons pe_int pa_nil)) (pg_name (i := 6) scPutR.nd rfl (Or.inl rfl))
        (pss_cons (ps_set (i := 7) scPutR.nd rfl (Or.inl rfl) (pe_c Va hr (by decide) rfl (pa_cons (pv 0) (pa_cons (pv 3) pa_nil))))
        (pss_cons (ps_asg (pe_c Wo hr (by decide) rfl (pa_cons (pv 2) (pa_cons (pv 7) pa_nil))) (pg_tup rfl (pgs_cons (pg_name (i := 8) scPutR.nd rfl (Or.inl rfl)) (pgs_cons (pg_name (i := 9) scPutR.nd rfl (Or.inl rfl)) pgs_nil))))
        (pss_cons (ps_set (i := 10) scPutR.nd rfl (Or.inl rfl) (pe_callTy call_dictD (by rfl) hdict (by decide +kernel) (pa_cons (pv 7) pa_nil)))
        (pss_cons (ps_dput u1 (pv 10) (pv 4) (pe_op op_fdivX (pe_op op_mulW (pv 8) (pe_op op_pow pe_int pe_int)) (pv 9)) rfl)
        (pss_one (ps_if (pt_cmpR op_ne (pe_mt At hr (by decide) (pv 5) (pa_cons (pv 7) pa_nil)) (pe_c Wh hr (by decide) rfl (pa_cons (pv 1) (pa_cons (pv 10) pa_nil))) (nomark _)) (pss_one (ps_ret pe_bl)) pss_nil)))))))
      (pss_cons (ps_if (pt_not (pt_val (pe_cG gA Fr hr (by decide) rfl (pa_cons (pv 0) (pa_cons (pv 5) (pa_cons (pv 3) pa_nil)))))) (pss_one (ps_ret pe_bl)) pss_nil)
      (pss_one (ps_ret (pe_cmpR (op_eqO Ne hr (by decide)) (pe_mt Pu hr (by decide) (pe_c Lf hr (by decide) rfl (pa_cons (pv 1) pa_nil)) (pa_cons pe_str (pa_cons (pe_c Lf hr (by decide) rfl (pa_cons (pv 2) pa_nil)) pa_nil))) (pe_c Lf hr (by decide) rfl (pa_cons (pv 1) pa_nil)) (nomark _))))))), ?_⟩
    have hno : ∀ z ∈ names, LetOk z := fun z hz => (hna z hz).1
    obtain ⟨ya, ea⟩ := hpa.lst
    -- the name
    refine seq_asg ⟨_, rfl, _, rfl, a, l, _, m + 36 * names.length + 36 * names.length, rfl, hpa, hl, nla, by rw [List.length_map]; exact n0, by rw [List.length_map]; omega, fun r H1 hr1 hp1 S1 => ?_⟩
    obtain ⟨name, hname, rfl⟩ := List.mem_map.mp hr1
    have ht1 := ht.sameB S1 hpa
    have ho1 := ho.sameB S1 hpa
    have tb1 : Tabs TT H1 := tabs_sameB tb S1 ea
    have hl1 := E2.SqL.sameB hl S1 nla
    -- built
    refine seq_asg ⟨_, rfl, bt, t, names, rfl, ht1, tk, hno, fun H2 p1 S2 hf1 F1 => ?_⟩
    obtain ⟨dx1, df1, i1⟩ := insF hf1
    refine ⟨p1, dx1, _, rfl, i1, rfl, _, rfl, _, rfl, bo, o, names, rfl, ho1.same S2, ok, hno, fun H3 p2 S3 hf2 F2 => ?_⟩
    have c2 : CPow 720 2 := ⟨by decide, by decide, by decide⟩
    refine ⟨720, 2, rfl, rfl, c2, ?_⟩
    have e720 : ((720 : Int) ^ (2 : Int).toNat) = 518400 := by decide
    dsimp only
    rw [e720]
    have B1 := F1.bd2
    have B2 := F2.bd2
    obtain ⟨ua1, ub1⟩ := uT_le tk
    obtain ⟨ua2, ub2⟩ := uT_le ok
    have u36a := u36 tk (by decide)
    have u36b := u36 ok (by decide)
    have ok1 : Ok 4 4 (uT t) 200 := ⟨by decide, by decide, ua1, Nat.le_trans u36a (by decide), by decide⟩
    have ok2 : Ok 4 4 (uT o) 200 := ⟨by decide, by decide, ua2, Nat.le_trans u36b (by decide), by decide⟩
    have Bn : Bd names (numM 518400) 1 0 1 20 := Bd.num (by decide)
    have okn : Ok 1 0 1 20 := ⟨by decide, by decide, by decide, by decide, by decide⟩
    obtain ⟨cc, hcc⟩ := u_dvd ok
    have cc0 : cc ≤ 518400 := by rw [hcc]; exact Nat.le_mul_of_pos_left _ ua2
    have B3 : Bd names (mulF (frm o) (numM 518400)) 4 4 1 200 := by
      refine whole_mul (F2.bd.mono (by decide) (by decide) (Nat.le_refl _) : Bd names (frm o) 4 4 (uT o) 172) (u := uT o) (M := 2 ^ 172) F2.bt (k' := (cc : Int)) ?_ ?_ (by decide) (b2 := 20) (by decide)
      · have : ((518400 : Nat) : Int) = ((uT o * cc : Nat) : Int) := by rw [← hcc]
        rw [Int.natCast_mul] at this
        exact this
      · rw [Int.natAbs_natCast]
        have h1 : 2 ^ 172 * cc ≤ 2 ^ 172 * 2 ^ 20 := Nat.mul_le_mul_left _ (by omega)
        rw [show (2 : Nat) ^ 172 * 2 ^ 20 = 2 ^ 192 from (Nat.pow_add 2 172 20).symm] at h1
        have h2 : (2 : Nat) ^ 192 * 4 ≤ 2 ^ 200 := by decide
        omega
    refine mul_int (n := 518400) hf2 (B2.szm Bn ok2 okn) fun H4 c S4 nc hc => ?_
    try dsimp only [tCons, tNil, tC, List.nil_append, List.cons_append, List.append_nil]
    obtain ⟨szh, Bb⟩ := put_bd (name := name) ua1 (Nat.le_trans u36a (by decide)) B3 B1
    have hf14 := FmAt.same (FmAt.same hf1 S3) S4
    refine ⟨p1, c, name, frm t, _, rfl, hno name hname, hf14, hc, B1.can.nd, by have := B1.len; omega, fun x hx => by have := (B1.key x hx).1; omega, szh, fun H5 bb S5 nbb hb5 => ?_⟩
    have hb5 : FmAt P w K C H5 bb (putF name (frm t) (mulF (frm o) (numM 518400))) := hb5
    have S15 := ((S2.trans S3).trans S4).trans S5
    have hp5 := hp1.same S15
    have ht5 := ht1.same S15
    have ho5 := ho1.same S15
    have hl5 := hl1.same S15
    have tb5 := tb1.ext S15
    have X5 : ExtB a H H5 := (ExtB.ofB S1).trans (.of S15)
    obtain ⟨ya5, ea5⟩ := hp5.lst
    -- turns
    have e36 : m + 36 * names.length + 36 * names.length = m + 36 * names.length + 12 * names.length * (3 - 0) := by omega
    rw [e36] at hp5
    refine ⟨3, rfl, by decide, by decide, for_it (walk_range (n := 3)) (fun i σ' H' => (∃ u6 u7 u8 u9 u10, σ' = [some (.ref a), some (.ref bt), some (.ref bo), some (.ref l), some (.str name), some (.ref bb), u6, u7, u8, u9, u10]) ∧ SameB a H5 H' ∧ PurseAt H' a (m + 36 * names.length + 12 * names.length * (3 - i))) ⟨⟨_, _, _, _, _, rfl⟩, SameB.refl _ _, hp5⟩ (fun _ _ _ _ _ => trivial) ?_ ?_⟩
    · rintro i x σ' H6 H7 hi ⟨⟨u6, u7, u8, u9, u10, rfl⟩, S6, hp6⟩ ⟨rfl, rfl⟩
      have hi3 : i < 3 := hi
      have e12 : m + 36 * names.length + 12 * names.length * (3 - i) = (m + 36 * names.length + 12 * names.length * (3 - (i + 1))) + 12 * names.length := by
        have : 3 - i = (3 - (i + 1)) + 1 := by omega
        rw [this, Nat.mul_succ]
        omega
      rw [e12] at hp6
      refine seq_asg ⟨_, rfl, _, rfl, a, l, names, _, rfl, hp6, E2.SqL.sameB hl5 S6 nla, nla, by omega, hno, fun H8 dv g hv nd8 hp8 S8 => ?_⟩
      have S58 := S6.trans S8
      have ho8 : TrAt K H8 o bo := ho5.extB (.ofB S58) ea5
      refine seq_asgG ⟨_, rfl, _, rfl, bo, dv, o, names, g, rfl, ho8, ok, hv.w, fun H9 pw_ S9 n9 h9 => ⟨pw_, _, rfl, SqT.of h9, rfl, _, _, rfl, _, _, rfl, rfl, ?_⟩⟩
      obtain ⟨kvs, hd, vok, hkl, hg⟩ := hv
      refine seq_asg ⟨_, rfl, dv, kvs, rfl, .inl (S9 _ _ hd), fun di ndi => ?_⟩
      have wd := wd_of (B := 100) (Nat.le_refl _) (names := names) (g := g) (fun z hz => (hg z hz).2) 2 o ok
      have wu := wT_u (g := g) ok
      have w1b : (wT g o).1.natAbs < 2 ^ 1600 := wd.1
      have hw : (wT g o).1 * 518400 = (uT o : Int) * ((wT g o).1 * (cc : Int)) := by
        have : (518400 : Int) = (uT o : Int) * (cc : Int) := by rw [← Int.natCast_mul, ← hcc]; rfl
        rw [this, Int.mul_left_comm]
      have hdiv : ((wT g o).1 * 518400).fdiv (wT g o).2 = (wT g o).1 * (cc : Int) := by
        rw [hw, wu, Int.mul_fdiv_cancel_left _ (by omega)]
      have vb : ((wT g o).1 * (cc : Int)).natAbs < 2 ^ 1700 := by
        have h1 := wide_lt (a := 1600) (b := 20) w1b (show ((cc : Nat) : Int).natAbs < 2 ^ 20 by rw [Int.natAbs_natCast]; omega)
        exact Nat.lt_of_lt_of_le h1 (Nat.pow_le_pow_right (by decide) (by decide))
      refine ⟨_, rfl, 720, 2, rfl, rfl, c2, ?_⟩
      dsimp only
      rw [e720]
      refine ⟨_, _, rfl, rfl, cmw w1b (show (518400 : Int).natAbs < 2 ^ 20 by decide) (by decide) (by decide) (by decide), _, rfl, _, _, rfl, rfl, ⟨by rw [wu]; omega, ?_⟩, _, rfl, _, rfl, di, _, rfl, DPut.k (k := Sum.inr name) upd_same (by rw [sizeLine_eq]; omega), ?_⟩
      · rw [wu, Int.natAbs_natCast]
        exact Nat.lt_of_lt_of_le (PySem.Flt.log2_lt_of (show 0 < 6 by decide) (show uT o < 2 ^ 6 by omega)) (by decide)
      dsimp only
      rw [hdiv]
      generalize hvv : (wT g o).1 * (cc : Int) = v at vb
      have Sd : Same H9 (upd (upd H9 di (.dK kvs)) di (.dK (putK kvs (Sum.inr name) (.int v)))) := fun b' o' e2 => by
        rw [upd_ne (ne_of_none e2 ndi), upd_ne (ne_of_none e2 ndi)]
        exact e2
      have hdi : (upd (upd H9 di (.dK kvs)) di (.dK (putK kvs (Sum.inr name) (.int v)))) di = some (.dK (putK kvs (Sum.inr name) (.int v))) := upd_same
      generalize upd (upd H9 di (.dK kvs)) di (.dK (putK kvs (Sum.inr name) (.int v))) = H10 at Sd hdi ⊢
      have S510 := (S58.to S9).to Sd
      have hb10 := FmAt.sameL hb5 S510 ea5
      obtain ⟨dxb, dfb, ib10⟩ := insF hb10
      have evo : ev g (mulF (frm o) (numM 518400)) = (v : Rat) := by
        rw [ev_mulF, F2.ev g]
        have e1 : ev g (numM 518400) = 518400 := by
          show (((518400 : Int) : Rat)) * ((1 : Int) : Rat) + 0 = 518400
          have e1 : ((1 : Int) : Rat) = 1 := rfl
          have e2 : ((518400 : Int) : Rat) = 518400 := rfl
          rw [e1, e2]
          grind
        rw [e1]
        unfold tv
        have un : ((wT g o).2 : Rat) ≠ 0 := tv_u ok
        have h3 : ((wT g o).1 : Rat) * 518400 = ((wT g o).2 : Rat) * (v : Rat) := by
          have h4 : (wT g o).1 * 518400 = (wT g o).2 * v := by rw [hw, wu, hvv]
          have h5 := congrArg (fun z : Int => (z : Rat)) h4
          simp only [Rat.intCast_mul] at h5
          exact h5
        grind
      have evb : ev g (putF name (frm t) (mulF (frm o) (numM 518400))) = tv (fun z => if z = name then v else g z) t := by
        rw [ev_putF g F1.can evo, F1.ev]
      have vl : VlW H10 di names (fun z => if z = name then v else g z) := by
        refine ⟨1700, by decide, by decide, _, hdi, fun x hx => ?_, Nat.le_trans (length_putK _ _ _) (by omega), fun z hz => ?_⟩
        · rcases mem_putK hx with hx | rfl
          · exact vok x hx
          · exact ⟨name, v, rfl, hno name hname⟩
        · rw [valV_put]
          by_cases cz : z = name
          · rw [if_pos (by rw [cz])]
            dsimp only
            rw [if_pos cz]
            exact ⟨rfl, vb⟩
          · rw [if_neg (fun e => cz (Sum.inr.inj e))]
            dsimp only
            rw [if_neg cz]
            exact ⟨(hg z hz).1, Nat.lt_of_lt_of_le (hg z hz).2 (Nat.pow_le_pow_right (by decide) (by decide))⟩
      have fin : ∀ H', Same H10 H' → SameB a H5 H' ∧ PurseAt H' a (m + 36 * names.length + 12 * names.length * (3 - (i + 1))) := fun H' S => ⟨S510.to S, (hp8.same S9).same Sd |>.same S⟩
      refine ⟨_, rfl, bb, dxb, _, rfl, ib10, rfl, _, rfl, bb, dv, _, kvs, g, uT t, 2 ^ 1320, rfl, hb10, Bb.lets (by omega), fun x hx => by have := (Bb.key x hx).1; omega, Sd _ _ (S9 _ _ hd), vok, hkl, fun x hx z hz => ?_, ua1, Nat.lt_of_le_of_lt u36a (by decide), Nat.pow_lt_pow_right (by decide) (by decide), Bb.bq, fun H11 S11 => ⟨fun nn hn => ?_, fun no => ?_⟩⟩
      · obtain ⟨g1, g2⟩ := hg z ((Bb.key x hx).2 z hz)
        exact ⟨g1, Nat.lt_of_lt_of_le g2 (Nat.pow_le_pow_right (by decide) (by decide))⟩
      · refine ⟨_, rfl, _, rfl, bt, di, t, names, _, rfl, ht5.extB (.ofB (S510.to S11)) ea5, tk, ?_, fun H12 S12 => ⟨fun n2 hn2 => ?_, fun no => absurd (evb.symm.trans hn) (no nn)⟩⟩
        · obtain ⟨BB, q1, q2, kk, q3, q4⟩ := vl
          exact ⟨BB, q1, q2, kk, S11 _ _ q3, q4⟩
        · obtain rfl : nn = n2 := Rat.intCast_inj.mp ((hn.symm.trans evb).trans hn2)
          refine ⟨rfl, _, rfl, ifF (by rw [decide_eq_true rfl]; rfl) ?_⟩
          exact ⟨⟨_, _, _, _, _, rfl⟩, fin _ (S11.trans S12)⟩
      · refine ⟨_, rfl, _, rfl, bt, di, t, names, _, rfl, ht5.extB (.ofB (S510.to S11)) ea5, tk, ?_, fun H12 S12 => ⟨fun n2 hn2 => absurd (evb.trans hn2) (no n2), fun no2 => ?_⟩⟩
        · obtain ⟨BB, q1, q2, kk, q3, q4⟩ := vl
          exact ⟨BB, q1, q2, kk, S11 _ _ q3, q4⟩
        · refine ⟨rfl, _, rfl, ifF (by rw [decide_eq_true rfl]; rfl) ?_⟩
          exact ⟨⟨_, _, _, _, _, rfl⟩, fin _ (S11.trans S12)⟩
    rintro σ' H6 ⟨⟨u6, u7, u8, u9, u10, rfl⟩, S6, hp6⟩
    have hp6 : PurseAt H6 a (m + 36 * names.length) := by
      have e0 : m + 36 * names.length + 12 * names.length * (3 - 3) = m + 36 * names.length := by omega
      rw [e0] at hp6
      exact hp6
    have tb6 : Tabs TT H6 := tabs_sameB tb5 S6 ea5
    have X6 : ExtB a H H6 := X5.trans (.ofB S6)
    obtain ⟨ya6, ea6⟩ := hp6.lst
    dsimp only
    refine ⟨_, rfl, _, rfl, _, rfl, a, bb, l, names, _, m, 1364, 20, uT t, 1320, 6, rfl, hp6, FmAt.sameL hb5 S6 ea5, E2.SqL.sameB hl5 S6 nla, nla, nl, hno, Bb, ⟨by decide, by decide, ua1, Nat.le_trans u36a (by decide), Nat.lt_of_le_of_lt u36a (by decide), by decide, by decide⟩, by decide, Nat.le_trans u36a (Nat.le_trans (by decide : 36 ≤ 2 ^ 6) (Nat.pow_le_pow_right (by decide) (by decide))), by decide, tb6, fun H7 X7 hp7 tb7 => ⟨true, rfl, iteF ?_⟩⟩
    dsimp only [tNext]
    have ht7 : TrAt K H7 t bt := (ht5.extB (.ofB S6) ea5).extB X7 ea6
    have ho7 : TrAt K H7 o bo := (ho5.extB (.ofB S6) ea5).extB X7 ea6
    refine ret_of ?_
    refine ⟨_, rfl, bt, t, names, rfl, ht7, tk, hno, fun H8 q1 S8 hq1 G1 => ?_⟩
    obtain ⟨dx8, df8, i8⟩ := insF hq1
    refine ⟨q1, dx8, _, rfl, i8, rfl, _, rfl, bo, o, names, rfl, ho7.same S8, ok, hno, fun H9 q2 S9 hq2 G2 => ?_⟩
    have na : ∀ x ∈ frm t, ("absent" : Str) ∉ x.1 := fun x hx z => (hna _ ((B1.key x hx).2 _ z)).2 rfl
    have hz : SzH (frm o) [] (powF "absent" (frm t)).reverse := by
      rw [powF_is B1.can, hiN_none na]
      have Bz : Bd names ([] : Fm) 0 0 1 0 := Bd.nil
      have okz : Ok 0 0 1 0 := ⟨by decide, by decide, by decide, Nat.one_le_two_pow, by decide⟩
      have Bm := Bz.mul (c := 0) B2 (by decide)
      exact ⟨Bz.szm B2 okz ok2, Bm.szs (B1.shr "absent" 0) ⟨by decide, by decide, by omega, by omega, by decide⟩ ok1, trivial⟩
    try dsimp only [tCons, tNil, tC, List.nil_append, List.cons_append, List.append_nil]
    refine ⟨q1, q2, "absent", frm t, frm o, rfl, let_absent, FmAt.same hq1 S9, hq2, B1.can.nd, by have := B1.len; omega, fun x hx => by have := (B1.key x hx).1; omega, hz, fun H10 r S10 nr hr10 => ?_⟩
    have hr10 : FmAt P w K C H10 r (putF "absent" (frm t) (frm o)) := hr10
    have S710 := (S8.trans S9).trans S10
    refine ⟨_, rfl, bt, t, names, rfl, ht7.same S710, tk, hno, fun H11 q3 S11 hq3 G3 => ?_⟩
    refine eq_form (FmAt.same hr10 S11) hq3 ?_
    rw [eqFm_of_pol (canon_putF B1.can) B1.can (pol_put_none B1.can na)]
    have S711 := S710.trans S11
    exact k H11 ((X6.trans X7).trans (.of S711)) (hp7.same S711) (tb7.ext S711)
end
end E2

set_option Elab.async false
set_option linter.all false
set_option maxRecDepth 100000
set_option maxHeartbeats 1000000
/-! a += n where the class of a has no method of its own for it: as a + n -/
namespace L2
open PySem PySem.Spec PyProof.Rows
open PySem.W
structure NoInp (K : PySem.W.Frag) (C : Addr) (i : Str) : Prop where
  mro : ∃ cd, clsIn K C = some cd ∧ cd.mro = [.ref C, .type "object"]
  own : findIn K (.ref C) i = some none
  obj : findIn K (.type "object") i = some none
section
variable {M : Model} {A : Around} {E : Value → Shared → Prop} {s : Shared} {K : Frag} {C x f L : Addr} {ox : Obj} {od : Option Obj} {nm T : String} {h₀ h : Heap} {m : Str → Option Value} {prog : Program} {w : World}
theorem fillsI_none {add : Bool} (X : K.In h) (N : NoInp K C (dunderI nm)) : Looks M h (fillsInplaceSlot (.ref C) nm add) false := by
  intro A Q E s k q
  obtain ⟨cd, hc, hm⟩ := N.mro
  have Lm : Looks M h (mroOf (.ref C)) cd.mro := (looks_clsIn X hc).andThen (f := fun cd => pure cd.mro) .now
  have Lm' := Lm.keeps k
  obtain ⟨hh, g, d, tt, os⟩ := s
  have X' : K.In hh := X.keeps k
  have L1 : Looks M hh (typeLookup (.ref C) (dunderI nm)) none := looks_findIn X' N.own
  have L2 : Looks M hh (typeLookup (.type "object") (dunderI nm)) none := looks_findIn X' N.obj
  unfold fillsInplaceSlot
  refine wpAny_bind (Lm'.at ?_)
  rw [hm, List.anyM_cons]
  refine wpAny_bind ?_
  repeat lk
  exact q
theorem bin1_T {b : Value} {fo ro rc : Option Value} {Q : Value → Shared → Prop} (X : K.In s.heap) (I : PySem.W.InstAt s.heap x ox C od) (hb : typeOf b = pure (.type T)) (hc : selfFirst K C = true)
    (hs : findIn K (.ref C) (PySem.dunder nm) = some (some (.ref f))) (hf : isFn K (.ref f) = true) (hr : findIn K (.ref C) (dunderR nm) = some rc) (hp : rc = none ∨ ∃ g : Addr, rc = some (.ref g))
    (h1 : findIn K (.type T) (PySem.dunder nm) = some fo) (h2 : findIn K (.type T) (dunderR nm) = some ro) (hsub : subIn K (.type T) (.ref C) = some false)
    (h : wpAny (model prog w) A (call (.ref f) [.ref x, b]) (PySem.W.CmpBack Q) E s) : wpAny (model prog w) A (binaryOp1 nm (.ref x) b) (fun r s' => ∃ v, r = some v ∧ Q v s') E s := by
  obtain ⟨cd, rest, hcd, hm⟩ := ksp_first hc
  have one := ksp_try X I hs hf h
  obtain ⟨hh, g, d, tt, os⟩ := s
  have L1 : Looks (model prog w) hh (typeOf (.ref x)) (.ref C) := I.type
  have L2 : Looks (model prog w) hh (typeOf b) (.type T) := Looks.of_pure hb
  have L3 : Looks (model prog w) hh (fillsNumberSlot (.ref C) nm) true := fills_K X hcd hm hs
  have L4 : Looks (model prog w) hh (fillsNumberSlot (.type T) nm) ((fo.isSome && !isSeqSlot fo) || (ro.isSome && !isSeqSlot ro)) := ksp_fillsT X h1 h2
  have L5 : Looks (model prog w) hh (isSubtype (.type T) (.ref C)) false := looks_subIn X hsub
  have L6 : Looks (model prog w) hh (numberSlotInPython (.ref C) nm) true := ksp_inPy X hs hr hp
  have L7 : Looks (model prog w) hh (numberSlotInPython (.type T) nm) false := Looks.of_pure rfl
  have L8 : Looks (model prog w) hh (typeLookup (.type T) (dunderR nm)) ro := looks_findIn X h2
  generalize ((fo.isSome && !isSeqSlot fo) || (ro.isSome && !isSeqSlot ro)) = right at L4
  have hne : (Value.ref C == Value.type T) = false := Bool.eq_false_iff.mpr fun q => by cases beq_iff_eq.mp q
  unfold binaryOp1
  refine wpAny_bind (L1.at (wpAny_bind (L2.at (wpAny_bind (L3.at ?_)))))
  simp only [hne, Bool.false_eq_true, if_false]
  cases right with
  | false =>
    ksp_lk
    refine wpAny_mono one (fun r s' hr' => ?_) fun _ _ e => e
    obtain ⟨v, rfl, hq⟩ := hr'
    ksp_lk
    exact ⟨_, rfl, hq⟩
  | true =>
    ksp_lk
    refine wpAny_mono one (fun r s' hr' => ?_) fun _ _ e => e
    obtain ⟨v, rfl, hq⟩ := hr'
    ksp_lk
    exact ⟨_, rfl, hq⟩
theorem inpl_T {op : Operator} {b : Value} {fo ro rc : Option Value} {Q : Value → Shared → Prop} (X : K.In s.heap) (I : PySem.W.InstAt s.heap x ox C od) (hb : typeOf b = pure (.type T)) (hc : selfFirst K C = true) (N : NoInp K C (dunderI op.info.2))
    (hs : findIn K (.ref C) (PySem.dunder op.info.2) = some (some (.ref f))) (hf : isFn K (.ref f) = true) (hr : findIn K (.ref C) (dunderR op.info.2) = some rc) (hp : rc = none ∨ ∃ g : Addr, rc = some (.ref g))
    (h1 : findIn K (.type T) (PySem.dunder op.info.2) = some fo) (h2 : findIn K (.type T) (dunderR op.info.2) = some ro) (hsub : subIn K (.type T) (.ref C) = some false)
    (h : wpAny (model prog w) A (call (.ref f) [.ref x, b]) (PySem.W.CmpBack Q) E s) : wpAny (model prog w) A (inplaceOp op (.ref x) b) Q E s := by
  have one := bin1_T X I hb hc hs hf hr hp h1 h2 hsub h
  obtain ⟨hh, g, d, tt, os⟩ := s
  have L1 : Looks (model prog w) hh (typeOf (.ref x)) (.ref C) := I.type
  have L2 : Looks (model prog w) hh (fillsInplaceSlot (.ref C) op.info.2 (op == .Add)) false := fillsI_none X N
  unfold inplaceOp
  refine wpAny_holding ?_
  refine wpAny_bind (L1.at (wpAny_bind (L2.at ?_)))
  simp only [Bool.false_eq_true, if_false]
  refine wpAny_bind (wpAny_mono one (fun r s' hr' => ?_) fun _ _ e => e)
  obtain ⟨v, rfl, hq⟩ := hr'
  exact wpAny_pure hq
end
section
variable {X : Cx} {op : Operator} {C f : Addr} {fd : FuncData} {ps : List Str} {sp : Sp} {k : Nat}
theorem iop_ownI (O : OwnOpI X.K C op.info.2 f) (N : NoInp X.K C (dunderI op.info.2)) (F : FnOk X.prog X.w X.K X.mg X.base CX0 k f fd ps sp) (hr : Room k X.A) (hb : Binds X.K fd ps []) : OpR X (inplaceOp op) (rOwnI C sp) := by
  intro pins s σ H x y v u Q I rx ry h
  obtain ⟨p, n, dx, fs, rfl, rfl, ep, hq⟩ := h
  have run := run_fn (dvs := []) (E := E0) F hr hb .nil pass0 I (.cons rx (.cons ry .nil)) hq
  obtain rfl : v = Value.ref p := rx
  obtain ⟨t, rfl⟩ := ry
  obtain ⟨ox, od, J⟩ := inst_of I ep
  obtain ⟨rc, r1, r2⟩ := O.refl
  obtain ⟨fo, i1⟩ := O.i1
  obtain ⟨ro, i2⟩ := O.i2
  exact inpl_T I.kIn J (T := "int") rfl O.one.first N O.one.has O.one.fn r1 r2 i1 i2 O.sub (thn run fun _ _ z => back_of z)
end
end L2

set_option Elab.async false
set_option linter.all false
set_option maxRecDepth 100000
set_option maxHeartbeats 1000000
set_option exponentiation.threshold 500000
/-! _law_wholes_right -/
namespace E2
open PySem PySem.Spec PyProof.Rows L2
open C8 (Cal Mak Met InsC pe_c pe_mt pe_mt0 call_isC clsBody)
open LamX (Tabs ExtN TabB CodeO)
abbrev sWholesR : Stmt := top 37
theorem pol_num (n : Int) : pol (numM n) = cst (n : Rat) := by
  unfold numM
  by_cases c : n = 0
  · subst c
    exact cst_zero.symm
  · rw [if_neg c]
    rfl
theorem Bd.addN {names : List Str} {fm : Fm} {n L D b : Nat} {k : Int} (A : Bd names fm n L D b) (hD : D ≤ 36) (hb : 26 ≤ b) (hk : k.natAbs ≤ 2 ^ 20) : Bd names (addF fm (numM k)) (n + 1) L D (b + 1) := by
  have B : Bd names (numM k) 1 0 (1 * D) (20 + 6) := (Bd.num hk).scale (Nat.le_trans hD (by decide))
  rw [Nat.one_mul] at B
  exact A.add (c := 1) (B.mono (Nat.le_refl _) (Nat.zero_le _) hb) (by decide)
section
variable {P : Program} {w : World} {K : PySem.W.Frag} {C : Addr} {H : Hp} {Q : VK} {E : XK} {a b : Addr} {fm fa fb : Fm} {names : List Str} {n L D bb : Nat}
theorem over_bd {k : Int} (ha : FmAt P w K C H a fm) (B : Bd names fm n L D bb) (o : Ok n L D bb) (k0 : k ≠ 0) (kz : k.natAbs < 2 ^ 100) (kk : ∀ H' c, Same H H' → FmAt P w K C H' c (ovF fm k) → Q (.ref c) H') : spOver P w K C [.ref a, .int k] H Q E :=
  ⟨a, k, fm, rfl, k0, Nat.lt_of_lt_of_le kz (Nat.pow_le_pow_right (by decide) (by decide)), ha, B.can.nd, by have := B.len; have := o.n_; rw [sizeLine_eq]; omega, B.sm o, fun H' c S _ h => kk H' c S h⟩
theorem terms_bd {TT : List (Addr × Str)} (ha : FmAt P w K C H a fm) (B : Bd names fm n L D bb) (o : Ok n L D bb) (tb : Tabs TT H) (kk : ∀ H' p, ExtN H H' → Tabs TT H' → Dp K H' (.ref p) (trD (trs fm)) → Q (.ref p) H') : spTerms TT P w K C [.ref a] H Q E :=
  ⟨a, fm, rfl, ha, B.can.nd, by have := B.len; have := o.n_; omega, fun x hx => by have := (B.key x hx).1; have := o.l_; omega, tb, fun H' p zs ex tb2 _ hp tz _ _ => kk H' p ex tb2 (dp_terms hp tz)⟩
theorem add_int {k : Int} (ha : FmAt P w K C H a fa) (z : Szs fa (numM k)) (kk : ∀ H' c, Same H H' → H c = none → FmAt P w K C H' c (addF fa (numM k)) → Q (.ref c) H') : rOwnI C (spAdd P w K C) (.ref a) (.int k) H Q := by
  obtain ⟨dx, d, kvs, h1, h2, h3⟩ := ha
  exact ⟨a, k, dx, _, rfl, rfl, h1, a, _, fa, numM k, rfl, ⟨dx, d, kvs, h1, h2, h3⟩, .inl ⟨k, rfl, rfl⟩, z, kk⟩
theorem subB_own (ha : FmAt P w K C H a fa) (hb : FmAt P w K C H b fb) (z : Szs fa (negF fb)) (nd : (fb.map (·.1)).Nodup) (l : fb.length ≤ sizeLine) (kk : ∀ H' c, Same H H' → FmAt P w K C H' c (subF fa fb) → Q (.ref c) H') : rOwn C (spSub P w K C) (.ref a) (.ref b) H Q := by
  obtain ⟨x, y, u, v, h1, h2⟩ := own_refs ha hb
  exact ⟨a, b, x, _, u, _, rfl, rfl, h1, h2, a, _, fa, fb, rfl, ha, .inr ⟨b, rfl, hb⟩, z, nd, l, fun H' c S _ h => kk H' c S h⟩
theorem subB_int {k : Int} (ha : FmAt P w K C H a fa) (z : Szs fa (negF (numM k))) (nd : ((numM k).map (·.1)).Nodup) (l : (numM k).length ≤ sizeLine) (kk : ∀ H' c, Same H H' → FmAt P w K C H' c (subF fa (numM k)) → Q (.ref c) H') : rOwnI C (spSub P w K C) (.ref a) (.int k) H Q := by
  obtain ⟨dx, d, kvs, h1, h2, h3⟩ := ha
  exact ⟨a, k, dx, _, rfl, rfl, h1, a, _, fa, numM k, rfl, ⟨dx, d, kvs, h1, h2, h3⟩, .inl ⟨k, rfl, rfl⟩, z, nd, l, fun H' c S _ h => kk H' c S h⟩
end
theorem dpN {K : PySem.W.Frag} {H H' : Hp} (ex : ExtN H H') {v : V} {d : PyData} (h : Dp K H v d) : Dp K H' v d :=
  Dp.rec (motive_1 := fun v d _ => Dp K H' v d) (motive_2 := fun vs ds _ => DpAll K H' vs ds) .non .bl .int .str (fun h _ ih => .lst (L2.SqL.extN h ex) ih) (fun h _ ih => .tup (L2.SqT.extN h ex) ih) .nil (fun _ _ a b => .cons a b) h
def spWholes (TT : List (Addr × Str)) (P : Program) (w : World) (K : PySem.W.Frag) (C : Addr) : Sp := fun vs H Q _ => ∃ (b : Addr) (names : List Str) (fm : Fm) (D : Nat), vs = [.ref b] ∧ FmAt P w K C H b fm ∧ Bd names fm 4 4 D 200 ∧ 0 < D ∧ D ≤ 36 ∧ (∀ z ∈ names, LetOk z) ∧ Tabs TT H ∧ ∀ H', ExtN H H' → Tabs TT H' → Q (.bl true) H'
section
variable {P : Program} {w : World} {K : PySem.W.Frag} {mg : Str → Option Value} {base : Heap} {C : Addr}
theorem scWholesR : FnScope ["_law_form_here", "_law_total", "_law_before"] ["_law_form_here"] (defScope sWholesR) := ⟨rfl, rfl, rfl, by decide +kernel, rfl, by decide +kernel, by decide +kernel⟩
theorem ok_wholesR {TT : List (Addr × Str)} {f : Addr} {fd : FuncData} (F : Fun K "_law_wholes_right" "_law_wholes_right" sWholesR f fd) (Nu : Cal P w K mg base 3 "number" (spNumber P w K C) [])
    (Oa : OpM P w K mg base 5 C "__add__" (spAdd P w K C)) (Os : OpM P w K mg base 6 C "__sub__" (spSub P w K C)) (Om : OpM P w K mg base 5 C "__mul__" (spMul P w K C)) (Ia : OpI P w K mg base 5 C "add" (spAdd P w K C)) (Is : OpI P w K mg base 6 C "sub" (spSub P w K C)) (Im : OpI P w K mg base 5 C "mul" (spMul P w K C)) (Ne : EqM P w K mg base 1 C)
    (Na : NoInp K C (PySem.dunderI "add")) (Ns : NoInp K C (PySem.dunderI "sub")) (Ov : Met P w K mg base 4 C "over" (spOver P w K C) []) (Te : Met P w K mg base 2 C "terms" (spTerms TT P w K C) []) :
    FnOk P w K mg base CX0 7 f fd ["_law_form_here"] (spWholes TT P w K C) := by
  obtain ⟨fa, fda, pa, oa, Fa, ba⟩ := Oa.ex
  obtain ⟨fs, fds, ps, os, Fs_, bs⟩ := Os.ex
  obtain ⟨fm_, fdm, pm, om, Fm_, bm⟩ := Om.ex
  obtain ⟨ga, gda, qa, ia, Ga, ca⟩ := Ia.ex
  obtain ⟨gs, gds, qs, is, Gs, cs⟩ := Is.ex
  obtain ⟨gm, gdm, qm, im, Gm, cm⟩ := Im.ex
  refine F.ok scWholesR (fun vs H Q E h => ?_) (fun cdv A outer s H vs Q E hr h => ?_)
  · obtain ⟨b, names, fm, D, rfl, _⟩ := h
    rfl
  · obtain ⟨b, names, fm, D, rfl, hf, B, D0, D36, hno, tb, k⟩ := h
    refine ⟨_, pss_cons (ps_if (PW.pt (pw_or (pt_cmpR (op_neO Ne hr (by decide)) (pe_op (op_ownI (op := .Add) ia Ga (hr.mono (by decide)) ca) (pv 0) pe_int) (pe_op (op_own (op := .Add) oa Fa (hr.mono (by decide)) ba) (pv 0) (pe_c Nu hr (by decide) rfl (pa_cons pe_int pa_nil))) (nomark _))
        (pw_or (pt_cmpR (op_neO Ne hr (by decide)) (pe_op (op_ownI (op := .Mult) im Gm (hr.mono (by decide)) cm) (pv 0) pe_int) (pe_op (op_own (op := .Mult) om Fm_ (hr.mono (by decide)) bm) (pv 0) (pe_c Nu hr (by decide) rfl (pa_cons pe_int pa_nil))) (nomark _))
        (pw_or1 (pt_cmpR (op_neO Ne hr (by decide)) (pe_op (op_ownI (op := .Sub) is Gs (hr.mono (by decide)) cs) (pv 0) pe_int) (pe_op (op_own (op := .Sub) os Fs_ (hr.mono (by decide)) bs) (pv 0) (pe_c Nu hr (by decide) rfl (pa_cons pe_int pa_nil))) (nomark _)))))) (pss_one (ps_ret pe_bl)) pss_nil)
      (pss_cons (ps_if (PW.pt (pw_or (pt_cmpR (op_neD hr.units) (pe_mt0 Te hr (by decide) (pe_op (op_ownI (op := .Add) ia Ga (hr.mono (by decide)) ca) (pe_op (op_ownI (op := .Add) ia Ga (hr.mono (by decide)) ca) (pv 0) pe_int) (pe_un un_neg pe_int))) (pe_mt0 Te hr (by decide) (pv 0)) (nomark _))
        (pw_or (pt_cmpR (op_neD hr.units) (pe_mt0 Te hr (by decide) (pe_op (op_ownI (op := .Mult) im Gm (hr.mono (by decide)) cm) (pv 0) pe_int)) (pe_lst pa_nil) (nomark _))
        (pw_or1 (pt_cmpR (op_neO Ne hr (by decide)) (pe_op (op_ownI (op := .Mult) im Gm (hr.mono (by decide)) cm) (pe_mt Ov hr (by decide) (pv 0) (pa_cons pe_int pa_nil)) pe_int) (pv 0) (nomark _)))))) (pss_one (ps_ret pe_bl)) pss_nil)
      (pss_cons (ps_par (i := 1) (j := 2) (by rfl) scWholesR.nd rfl rfl (by decide) rfl rfl (pa_cons (pv 0) (pa_cons (pe_mt0 Te hr (by decide) (pv 0)) pa_nil)) (by rfl))
      (pss_cons (ps_aug (i := 1) scWholesR.nd rfl (Or.inl rfl) pe_int (iop_ownI (op := .Add) ia Na Ga (hr.mono (by decide)) ca))
      (pss_cons (ps_if (PW.pt (pw_or (pt_cmpR (op_neD hr.units) (pe_mt0 Te hr (by decide) (pv 0)) (pv 2) (nomark _)) (pw_or1 (pt_cmpR (op_eqD hr.units) (pe_mt0 Te hr (by decide) (pv 1)) (pv 2) (nomark _))))) (pss_one (ps_ret pe_bl)) pss_nil)
      (pss_cons (ps_aug (i := 1) scWholesR.nd rfl (Or.inl rfl) pe_int (iop_ownI (op := .Sub) is Ns Gs (hr.mono (by decide)) cs))
      (pss_one (ps_ret (pe_and (pe_cmpR (op_eqO Ne hr (by decide)) (pe_mt Ov hr (by decide) (pe_op (op_ownI (op := .Mult) im Gm (hr.mono (by decide)) cm) (pv 0) pe_int) (pa_cons pe_int pa_nil)) (pv 0) (nomark _))
        (pe_and (pe_cmpR (op_eqO Ne hr (by decide)) (pv 1) (pv 0) (nomark _))
        (pe_one (pe_cmpR (op_eqD hr.units) (pe_mt0 Te hr (by decide) (pe_mt Ov hr (by decide) (pe_op (op_own (op := .Add) oa Fa (hr.mono (by decide)) ba) (pv 0) (pv 0)) (pa_cons pe_int pa_nil))) (pe_mt0 Te hr (by decide) (pv 0)) (nomark _)))))))))))), ?_⟩
    have oD : ∀ {n L b : Nat}, n ≤ 2000 → L ≤ 100 → b ≤ 20000 → Ok n L D b := fun h1 h2 h3 => ⟨h1, h2, D0, Nat.le_trans D36 (by decide), h3⟩
    have o0 : Ok 4 4 D 200 := oD (by decide) (by decide) (by decide)
    have Bn : ∀ {k : Int}, k.natAbs ≤ 2 ^ 20 → Bd names (numM k) 1 0 1 20 := fun h => Bd.num h
    have on : Ok 1 0 1 20 := ⟨by decide, by decide, by decide, by decide, by decide⟩
    have sokT : ∀ {fm' : Fm} {n L D b : Nat}, Bd names fm' n L D b → StrsOk (trs fm') := fun B' x hx z hz => strOk_of (hno z ((B'.key x ((trs_perm B'.can.nd).mem_iff.mp hx)).2 z hz))
    have neqs : ∀ {f1 f2 : Fm}, Canon f1 → Canon f2 → pol f1 = pol f2 → eqFm f1 f2 = true := fun c1 c2 h => eqFm_of_pol c1 c2 h
    -- + 7, * 6, - 4
    refine ⟨_, rfl, ?_⟩
    refine add_int (k := 7) hf (B.szs (Bn (by decide)) o0 on) fun H1 c1 S1 _ h1 => ?_
    refine ⟨_, rfl, 7, rfl, fun H2 c2 S2 _ h2 => ?_⟩
    refine add_own (FmAt.same (FmAt.same hf S1) S2) h2 (B.szs (Bn (by decide)) o0 on) fun H3 c3 S3 _ h3 => ?_
    refine ne_formQ (FmAt.same (FmAt.same h1 S2) S3) h3 (eqFm_refl _) ⟨_, rfl, ifF rfl ?_⟩
    have S03 := (S1.trans S2).trans S3
    have hf3 := FmAt.same hf S03
    refine ⟨_, rfl, ?_⟩
    refine mul_int (n := 6) hf3 (B.szm (Bn (by decide)) o0 on) fun H4 c4 S4 _ h4 => ?_
    refine ⟨_, rfl, 6, rfl, fun H5 c5 S5 _ h5 => ?_⟩
    refine mul_own (FmAt.same (FmAt.same hf3 S4) S5) h5 (B.szm (Bn (by decide)) o0 on) fun H6 c6 S6 _ h6 => ?_
    refine ne_formQ (FmAt.same (FmAt.same h4 S5) S6) h6 (eqFm_refl _) ⟨_, rfl, ifF rfl ?_⟩
    have S36 := (S4.trans S5).trans S6
    have hf6 := FmAt.same hf3 S36
    have B4 : Bd names (numM 4) 1 0 1 20 := Bn (by decide)
    refine ⟨_, rfl, ?_⟩
    refine subB_int (k := 4) hf6 (B.szs B4.neg o0 on) B4.can.nd (Nat.le_trans B4.len (by decide)) fun H7 c7 S7 h7 => ?_
    refine ⟨_, rfl, 4, rfl, fun H8 c8 S8 _ h8 => ?_⟩
    refine subB_own (FmAt.same (FmAt.same hf6 S7) S8) h8 (B.szs B4.neg o0 on) B4.can.nd (Nat.le_trans B4.len (by decide)) fun H9 c9 S9 h9 => ?_
    refine ne_formQ (FmAt.same (FmAt.same h7 S8) S9) h9 (eqFm_refl _) ⟨_, rfl, ifF rfl ?_⟩
    dsimp only [tNext]
    have S69 := (S7.trans S8).trans S9
    have hf9 := FmAt.same hf6 S69
    have S09 := (S03.trans S36).trans S69
    have tb9 := tb.ext S09
    have X9 : ExtN H H9 := .of S09
    -- (f + 5 + -5).terms()
    have A5 := B.addN (k := 5) D36 (by decide) (by decide)
    have A55 := A5.addN (k := -5) D36 (by decide) (by decide)
    refine ⟨_, rfl, ?_⟩
    refine add_int (k := 5) hf9 (B.szs (Bn (by decide)) o0 on) fun H10 c10 S10 _ h10 => ?_
    refine ⟨5, rfl, ?_⟩
    refine add_int (k := -5) h10 (A5.szs (Bn (by decide)) (oD (by decide) (by decide) (by decide)) on) fun H11 c11 S11 _ h11 => ?_
    obtain ⟨dx11, df11, i11⟩ := insF h11
    refine ⟨c11, dx11, _, rfl, i11, rfl, ?_⟩
    try dsimp only [tCons, tNil, tC, List.nil_append, List.cons_append, List.append_nil]
    refine terms_bd h11 A55 (oD (by decide) (by decide) (by decide)) ((tb9.ext S10).ext S11) fun H12 p12 ex12 tb12 d12 => ?_
    have e55 : trs (addF (addF fm (numM 5)) (numM (-5))) = trs fm := trs_of_pol A55.can B.can (by
      rw [pol_addF A5.can.nd, pol_addF B.can.nd, pol_num, pol_num]
      have e : cst ((-5 : Int) : Rat) = -cst ((5 : Int) : Rat) := by
        rw [neg_cst]
        rfl
      rw [e]
      grind)
    rw [e55] at d12
    have X912 : ExtN H9 H12 := (ExtN.of (S10.trans S11)).trans ex12
    have hf12 := FmAt.ext hf9 X912
    obtain ⟨dx12, df12, i12⟩ := insF hf12
    refine ⟨_, rfl, b, dx12, _, rfl, i12, rfl, ?_⟩
    try dsimp only [tCons, tNil, tC, List.nil_append, List.cons_append, List.append_nil]
    refine terms_bd hf12 B o0 tb12 fun H13 p13 ex13 tb13 d13 => ?_
    refine ne_data (dpN ex13 d12) d13 (shaped_trD (sokT B)) ⟨_, rfl, ifF rfl ?_⟩
    have hf13 := FmAt.ext hf12 ex13
    have X13 := (X9.trans X912).trans ex13
    -- (f * 0).terms()
    have Z0 : Bd names (mulF fm (numM 0)) (4 * 1) (4 + 0) (D * 1) (200 + 20 + 2) := B.mul (Bn (by decide)) (by decide)
    rw [Nat.mul_one] at Z0
    refine ⟨_, rfl, ?_⟩
    refine mul_int (n := 0) hf13 (B.szm (Bn (by decide)) o0 on) fun H14 c14 S14 _ h14 => ?_
    obtain ⟨dx14, df14, i14⟩ := insF h14
    refine ⟨c14, dx14, _, rfl, i14, rfl, ?_⟩
    try dsimp only [tCons, tNil, tC, List.nil_append, List.cons_append, List.append_nil]
    refine terms_bd h14 Z0 ⟨by decide, by decide, by omega, Nat.le_trans (by omega : D * 1 ≤ 36) (by decide), by decide⟩ (tb13.ext S14) fun H15 p15 ex15 tb15 d15 => ?_
    have e0 : trs (mulF fm (numM 0)) = trs [] := trs_of_pol (canon_mulF _ _) canon_nil (by
      rw [pol_mulF, pol_num]
      have e : cst ((0 : Int) : Rat) = (0 : Pol) := rfl
      have e2 : pol [] = (0 : Pol) := cst_zero.symm
      rw [e, e2]
      grind)
    rw [e0] at d15
    refine ⟨by show 0 ≤ sizeLine; decide, fun p16 n16 => ?_⟩
    have S16 := Same.upd (o := .lst []) n16
    have d15 : Dp K H15 (.ref p15) (.list []) := by
      have e : trD (trs []) = .list [] := by
        unfold trs sortM
        simp [trD]
      rw [e] at d15
      exact d15
    refine ne_data (dpS S16 d15) (.lst (SqL.of upd_same) .nil) (by decide +kernel) ⟨_, rfl, ifF rfl ?_⟩
    have X1316 : ExtN H13 (upd H15 p16 (.lst [])) := ((ExtN.of S14).trans ex15).trans (.of S16)
    have tb16 := tb15.ext S16
    have hf16 := FmAt.ext hf13 X1316
    have X16 := X13.trans X1316
    generalize upd H15 p16 (.lst []) = H16 at tb16 hf16 X16 ⊢
    -- f.over(6) * 6
    obtain ⟨dx16, df16, i16⟩ := insF hf16
    refine ⟨_, rfl, b, dx16, _, rfl, i16, rfl, ?_⟩
    try dsimp only [tCons, tNil, tC, List.nil_append, List.cons_append, List.append_nil]
    refine over_bd (k := 6) hf16 B o0 (by decide) (by decide) fun H17 c17 S17 h17 => ?_
    have V6 : Bd names (ovF fm 6) 4 4 (D * 6) 200 := B.over (k := 6) (by decide)
    refine mul_int (n := 6) h17 (V6.szm (Bn (by decide)) ⟨by decide, by decide, by omega, Nat.le_trans (by omega : D * 6 ≤ 216) (by decide), by decide⟩ on) fun H18 c18 S18 _ h18 => ?_
    have S1618 := S17.trans S18
    have ov6 : cst (Rat.divInt 1 6) * cst ((6 : Int) : Rat) = (1 : Pol) := by
      rw [← cst_mul]
      have e : Rat.divInt 1 6 * ((6 : Int) : Rat) = 1 := by decide +kernel
      rw [e]
      rfl
    have pv6 : pol (ovF fm 6) = cst (Rat.divInt 1 6) * pol fm := pol_scale _ _
    refine ⟨_, rfl, ?_⟩
    refine ne_formQ h18 (FmAt.same hf16 S1618) (neqs (canon_mulF _ _) B.can (by
      rw [pol_mulF, pv6, pol_num]
      grind)) ⟨_, rfl, ifF rfl ?_⟩
    dsimp only [tNext]
    have hf18 := FmAt.same hf16 S1618
    have tb18 := tb16.ext S1618
    have X18 := X16.trans (.of S1618)
    -- total, before
    obtain ⟨dx18, df18, i18⟩ := insF hf18
    refine ⟨_, rfl, _, rfl, b, dx18, _, rfl, i18, rfl, ?_⟩
    try dsimp only [tCons, tNil, tC, List.nil_append, List.cons_append, List.append_nil]
    refine terms_bd hf18 B o0 tb18 fun H19 p19 ex19 tb19 d19 => ⟨_, _, rfl, ?_⟩
    try dsimp only
    have hf19 := FmAt.ext hf18 ex19
    have X19 := X18.trans ex19
    have A1 := B.addN (k := 1) D36 (by decide) (by decide)
    refine ⟨_, rfl, ?_⟩
    refine add_int (k := 1) hf19 (B.szs (Bn (by decide)) o0 on) fun H20 c20 S20 _ h20 => ?_
    have hf20 := FmAt.same hf19 S20
    have tb20 := tb19.ext S20
    have X20 := X19.trans (.of S20)
    have d20 := dpS S20 d19
    try dsimp only
    -- if
    obtain ⟨dx20, df20, i20⟩ := insF hf20
    refine ⟨_, rfl, b, dx20, _, rfl, i20, rfl, ?_⟩
    try dsimp only [tCons, tNil, tC, List.nil_append, List.cons_append, List.append_nil]
    refine terms_bd hf20 B o0 tb20 fun H21 p21 ex21 tb21 d21 => ?_
    refine ⟨_, rfl, ?_⟩
    refine ne_data d21 (dpN ex21 d20) (shaped_trD (sokT B)) ⟨_, rfl, ifF rfl ?_⟩
    have h21 := FmAt.ext h20 ex21
    have o1 : Ok (4 + 1) 4 D (200 + 1) := oD (by decide) (by decide) (by decide)
    obtain ⟨dx21, df21, i21⟩ := insF h21
    refine ⟨_, rfl, c20, dx21, _, rfl, i21, rfl, ?_⟩
    try dsimp only [tCons, tNil, tC, List.nil_append, List.cons_append, List.append_nil]
    refine terms_bd h21 A1 o1 tb21 fun H22 p22 ex22 tb22 d22 => ?_
    have X2022 := ex21.trans ex22
    have nev : PyData.eqv (trD (trs (addF fm (numM 1)))) (trD (trs fm)) = false := by
      cases e : PyData.eqv (trD (trs (addF fm (numM 1)))) (trD (trs fm)) with
      | false => rfl
      | true =>
        exfalso
        have h := pol_of_trs A1.can B.can (eqv_trD e)
        rw [pol_addF B.can.nd, pol_num] at h
        have h2 : cst ((1 : Int) : Rat) = (0 : Pol) := by grind
        have h3 := pol_peq (a := [([], ((1 : Int) : Rat))]) (b := [([], (0 : Rat))]) h2 (fun _ => 1)
        rw [pr_one, pr_one] at h3
        exact absurd h3 (by decide +kernel)
    refine ⟨_, rfl, ?_⟩
    refine ⟨_, _, d22, dpN X2022 d20, shaped_trD (sokT A1), shaped_trD (sokT B), ?_⟩
    rw [nev]
    refine ⟨_, rfl, ifF rfl ?_⟩
    dsimp only [tNext]
    have h22 := FmAt.ext h21 ex22
    have hf22 := FmAt.ext hf20 X2022
    have X22 := X20.trans X2022
    -- total -= 1
    have B1 : Bd names (numM 1) 1 0 1 20 := Bn (by decide)
    refine ⟨_, rfl, ?_⟩
    refine subB_int (k := 1) h22 (A1.szs B1.neg o1 on) B1.can.nd (Nat.le_trans B1.len (by decide)) fun H23 c23 S23 h23 => ?_
    have hf23 := FmAt.same hf22 S23
    have tb23 := tb22.ext S23
    have X23 := X22.trans (.of S23)
    try dsimp only
    refine ret_of (and_op ?_)
    refine ⟨_, rfl, ?_⟩
    refine mul_int (n := 6) hf23 (B.szm (Bn (by decide)) o0 on) fun H24 c24 S24 _ h24 => ?_
    have M6 : Bd names (mulF fm (numM 6)) (4 * 1) (4 + 0) (D * 1) (200 + 20 + 2) := B.mul (Bn (by decide)) (by decide)
    have om6 : Ok (4 * 1) (4 + 0) (D * 1) (200 + 20 + 2) := ⟨by decide, by decide, by omega, Nat.le_trans (by omega : D * 1 ≤ 36) (by decide), by decide⟩
    obtain ⟨dx24, df24, i24⟩ := insF h24
    refine ⟨c24, dx24, _, rfl, i24, rfl, ?_⟩
    try dsimp only [tCons, tNil, tC, List.nil_append, List.cons_append, List.append_nil]
    refine over_bd (k := 6) h24 M6 om6 (by decide) (by decide) fun H25 c25 S25 h25 => ?_
    have S2325 := S24.trans S25
    refine ⟨_, rfl, ?_⟩
    have eq1 : eqFm (ovF (mulF fm (numM 6)) 6) fm = true := neqs (canon_scale (divInt_ne (by decide)) M6.can) B.can (by
      have e : pol (ovF (mulF fm (numM 6)) 6) = cst (Rat.divInt 1 6) * pol (mulF fm (numM 6)) := pol_scale _ _
      show pol (ovF (mulF fm (numM 6)) 6) = _
      rw [e, pol_mulF, pol_num]
      grind)
    refine eq_form h25 (FmAt.same hf23 S2325) ⟨true, by rw [eq1], iteT (B := False) ?_⟩
    refine and_op ?_
    have pT : pol (subF (addF fm (numM 1)) (numM 1)) = pol fm := by
      unfold subF
      rw [pol_addF A1.can.nd, pol_addF B.can.nd]
      have e : pol (negF (numM 1)) = -pol (numM 1) := pol_negM _
      rw [e]
      grind
    have eq2 : eqFm (subF (addF fm (numM 1)) (numM 1)) fm = true := neqs (canon_addF A1.can B1.neg.can) B.can pT
    refine ⟨_, rfl, _, rfl, ?_⟩
    refine eq_form (FmAt.same h23 S2325) (FmAt.same hf23 S2325) ⟨true, by rw [eq2], iteT (B := False) ?_⟩
    have hf25 := FmAt.same hf23 S2325
    have tb25 := tb23.ext S2325
    refine ⟨_, rfl, _, rfl, ?_⟩
    refine add_own hf25 hf25 (B.szs B o0 o0) fun H26 c26 S26 _ h26 => ?_
    have F2 : Bd names (addF fm fm) (4 + 4) 4 D (200 + 3) := B.add B (by decide)
    obtain ⟨dx26, df26, i26⟩ := insF h26
    refine ⟨c26, dx26, _, rfl, i26, rfl, ?_⟩
    try dsimp only [tCons, tNil, tC, List.nil_append, List.cons_append, List.append_nil]
    refine over_bd (k := 2) h26 F2 (oD (by decide) (by decide) (by decide)) (by decide) (by decide) fun H27 c27 S27 h27 => ?_
    have V2 : Bd names (ovF (addF fm fm) 2) (4 + 4) 4 (D * 2) (200 + 3) := F2.over (k := 2) (by decide)
    obtain ⟨dx27, df27, i27⟩ := insF h27
    refine ⟨c27, dx27, _, rfl, i27, rfl, ?_⟩
    try dsimp only [tCons, tNil, tC, List.nil_append, List.cons_append, List.append_nil]
    have S2527 := S26.trans S27
    refine terms_bd h27 V2 ⟨by decide, by decide, by omega, Nat.le_trans (by omega : D * 2 ≤ 72) (by decide), by decide⟩ (tb25.ext S2527) fun H28 p28 ex28 tb28 d28 => ?_
    have e2 : trs (ovF (addF fm fm) 2) = trs fm := trs_of_pol V2.can B.can (by
      have e : pol (ovF (addF fm fm) 2) = cst (Rat.divInt 1 2) * pol (addF fm fm) := pol_scale _ _
      rw [e, pol_addF B.can.nd]
      have e3 : cst (Rat.divInt 1 2) + cst (Rat.divInt 1 2) = (1 : Pol) := by
        rw [← cst_add]
        have e : Rat.divInt 1 2 + Rat.divInt 1 2 = 1 := by decide +kernel
        rw [e]
        rfl
      grind)
    rw [e2] at d28
    have X2528 : ExtN H25 H28 := (ExtN.of S2527).trans ex28
    have hf28 := FmAt.ext hf25 X2528
    obtain ⟨dx28, df28, i28⟩ := insF hf28
    refine ⟨_, rfl, b, dx28, _, rfl, i28, rfl, ?_⟩
    try dsimp only [tCons, tNil, tC, List.nil_append, List.cons_append, List.append_nil]
    refine terms_bd hf28 B o0 tb28 fun H29 p29 ex29 tb29 d29 => ?_
    refine eq_data (dpN ex29 d28) d29 (shaped_trD (sokT B)) ?_
    exact k H29 (((X23.trans (.of S2325)).trans X2528).trans ex29) tb29
end
end E2

set_option Elab.async false
set_option linter.all false
set_option maxRecDepth 100000
set_option maxHeartbeats 1000000
set_option exponentiation.threshold 500000
/-! law_k03's law -/
namespace E2
open PySem PySem.Spec PyProof.Rows L2
open C8 (Cal Mak Met InsC pe_c pe_mt pe_mt0 call_isC clsBody)
open LamX (Tabs ExtN TabB CodeO)
abbrev sLaw : Stmt := top 40
/-- a form that the law may ask -/
structure FrOk (names : List Str) (fm : Fm) : Prop where
  ex : ∃ n L D bb e, Bd names fm n L D bb ∧ Sz5 n L D bb e ∧ bb < 1919 ∧ D ≤ 2 ^ bb ∧ (3860 + 104 * L) * n ≤ 16000000
theorem Bd.add2 {names : List Str} {f1 f2 : Fm} {n1 n2 L D1 D2 b c' c : Nat} (A : Bd names f1 n1 L D1 b) (B : Bd names f2 n2 L D2 b) (h1 : D1 ≤ 2 ^ c') (h2 : D2 ≤ 2 ^ c') (hc : 1 + n2 ≤ 2 ^ c) : Bd names (addF f1 f2) (n1 + n2) L (D1 * D2) (b + c' + c) := by
  have A2 := A.scale h2
  have B2 := B.scale h1
  rw [Nat.mul_comm D2] at B2
  exact A2.add B2 hc
theorem eqv_eqFm {names : List Str} {f1 f2 : Fm} {n1 L1 D1 b1 n2 L2 D2 b2 : Nat} (A : Bd names f1 n1 L1 D1 b1) (B : Bd names f2 n2 L2 D2 b2) (hs : StrsOk (trs f1)) : PyData.eqv (trD (trs f1)) (trD (trs f2)) = eqFm f1 f2 := by
  cases e : eqFm f1 f2 with
  | true =>
    rw [trs_of_pol A.can B.can (pol_of_eqFm A.can B.can e)]
    have h := hs
    rw [trs_of_pol A.can B.can (pol_of_eqFm A.can B.can e)] at h
    exact SeqAt.eqv_refl _ (SeqAt.canLay_of_shaped (shaped_trD h))
  | false =>
    cases h : PyData.eqv (trD (trs f1)) (trD (trs f2)) with
    | false => rfl
    | true =>
      have := eqFm_of_pol A.can B.can (pol_of_trs A.can B.can (eqv_trD h))
      rw [this] at e
      cases e
def spLaw (TT : List (Addr × Str)) (K : PySem.W.Frag) : Sp := fun vs H Q _ => ∃ (sc : Addr) (ns : List Int), vs = [.ref sc] ∧ SqL K H sc (ns.map V.int) ∧ ns.length ≤ 63 ∧ Tabs TT H ∧ ∀ H', Q (.bl true) H'
section
variable {X : Cx} {k j : Nat} {x : Str} {sp : Sp} {p pos : Pos}
theorem pe_c0 (c : Cal X.prog X.w X.K X.mg X.base k x sp []) (hr : Room j X.A) (hk : k ≤ j) (hg : Gl X x) (hdb : (x == ("__debug__" : Str)) = false := by decide) : PE X (.Call (.Name x p) [] [] pos) (tCall sp [] C8.E0 tNil) := by
  obtain ⟨f, fd, ps, ds, F, hm, kp, b, d⟩ := c.ex
  exact pe_call0 F (hr.mono hk) hg hm kp b d pass0 hdb
end
section
variable {P : Program} {w : World} {K : PySem.W.Frag} {mg : Str → Option Value} {base : Heap} {C : Addr}
theorem scLaw : FnScope ["_law_script", "_law_purse_here", "_law_names_here", "_law_one", "_law_other", "_law_first", "_law_second", "_law_third", "_law_form_here", "_law_less", "_law_more"] ["_law_script"] (defScope sLaw) := ⟨rfl, rfl, rfl, by decide +kernel, rfl, by decide +kernel, by decide +kernel⟩
theorem ok_law {TT : List (Addr × Str)} {f : Addr} {fd : FuncData} (F : Fun K "law" "law" sLaw f fd) (Po : Cal P w K mg base 7 "_law_put_once_right" (spTrueT TT) []) (Fra : Cal P w K mg base 7 "_law_fractions_right" (spTrueT TT) [])
    (Ps : Cal P w K mg base 2 "_law_purses" (spPurses K) []) (D : Cal P w K mg base 2 "_law_draw" spDraw []) (Nm : Cal P w K mg base 4 "_law_names" (spNames K) []) (T2 : Cal P w K mg base 7 "_law_tree" (spTree K 2) []) (T1 : Cal P w K mg base 6 "_law_tree" (spTree K 1) [])
    (L2_ : Cal P w K mg base 9 "_law_form" (spLawForm P w K C 2) []) (L1_ : Cal P w K mg base 8 "_law_form" (spLawForm P w K C 1) []) (Fr : CalG P w K mg base 5 "_law_form_right" (spFormR TT P w K C)) (Pr : CalG P w K mg base 10 "_law_put_right" (spPutR TT P w K C)) (Wr : Cal P w K mg base 7 "_law_wholes_right" (spWholes TT P w K C) [])
    (Oa : OpM P w K mg base 5 C "__add__" (spAdd P w K C)) (Os : OpM P w K mg base 6 C "__sub__" (spSub P w K C)) (Om : OpM P w K mg base 5 C "__mul__" (spMul P w K C)) (Ne : EqM P w K mg base 1 C) (Ov : Met P w K mg base 4 C "over" (spOver P w K C) []) (Te : Met P w K mg base 2 C "terms" (spTerms TT P w K C) []) :
    FnG P w K mg base 11 f fd ["_law_script"] (spLaw TT K) := by
  obtain ⟨fa, fda, pa, oa, Fa, ba⟩ := Oa.ex
  obtain ⟨fs, fds, ps, os, Fs_, bs⟩ := Os.ex
  obtain ⟨fm_, fdm, pm, om, Fm_, bm⟩ := Om.ex
  refine F.okG scLaw (fun vs H Q E h => ?_) (fun cdv A outer s H vs Q E gA hr h => ?_)
  · obtain ⟨sc, ns, rfl, _⟩ := h
    rfl
  · obtain ⟨sc, ns, rfl, hs, hl, tb, k⟩ := h
    refine ⟨_, pss_cons (ps_if (pt_not (pt_val (pe_c0 Po hr (by decide) rfl))) (pss_one (ps_ret pe_bl)) pss_nil)
      (pss_cons (ps_if (pt_not (pt_val (pe_c0 Fra hr (by decide) rfl))) (pss_one (ps_ret pe_bl)) pss_nil)
      (pss_cons (ps_for PassesOwn.never rfl (pi_list (pe_c Ps hr (by decide) rfl (pa_cons (pv 0) (pa_cons pe_int pa_nil)))) (pg_name (i := 1) scLaw.nd rfl (Or.inl rfl))
        (pss_cons (ps_set (i := 2) scLaw.nd rfl (Or.inl rfl) (pe_c Nm hr (by decide) rfl (pa_cons (pv 1) (pa_cons (pe_op op_add pe_int (pe_c D hr (by decide) rfl (pa_cons (pv 1) (pa_cons pe_int pa_nil)))) pa_nil))))
        (pss_cons (ps_par (i := 3) (j := 4) (by rfl) scLaw.nd rfl rfl (by decide) rfl rfl (pa_cons (pe_c T2 hr (by decide) rfl (pa_cons (pv 1) (pa_cons pe_int (pa_cons (pv 2) pa_nil)))) (pa_cons (pe_c T2 hr (by decide) rfl (pa_cons (pv 1) (pa_cons pe_int (pa_cons (pv 2) pa_nil)))) pa_nil)) (by rfl))
        (pss_cons (ps_par (i := 5) (j := 6) (by rfl) scLaw.nd rfl rfl (by decide) rfl rfl (pa_cons (pe_c L2_ hr (by decide) rfl (pa_cons (pv 3) pa_nil)) (pa_cons (pe_c L2_ hr (by decide) rfl (pa_cons (pv 4) pa_nil)) pa_nil)) (by rfl))
        (pss_cons (ps_set (i := 7) scLaw.nd rfl (Or.inl rfl) (pe_c L1_ hr (by decide) rfl (pa_cons (pe_c T1 hr (by decide) rfl (pa_cons (pv 1) (pa_cons pe_int (pa_cons (pv 2) pa_nil)))) pa_nil)))
        (pss_cons (ps_for PassesOwn.never rfl (pi_tup (pe_tupS (pa_cons (pv 5) (pa_cons (pv 6) (pa_cons (pe_op (op_own (op := .Add) oa Fa (hr.mono (by decide)) ba) (pv 5) (pv 6)) (pa_cons (pe_op (op_own (op := .Mult) om Fm_ (hr.mono (by decide)) bm) (pv 5) (pv 6))
              (pa_cons (pe_op (op_own (op := .Sub) os Fs_ (hr.mono (by decide)) bs) (pv 5) (pv 5)) (pa_cons (pe_op (op_own (op := .Sub) os Fs_ (hr.mono (by decide)) bs) (pe_mt Ov hr (by decide) (pv 5) (pa_cons (pe_un un_neg pe_int) pa_nil)) (pv 7)) pa_nil)))))))) (pg_name (i := 8) scLaw.nd rfl (Or.inl rfl))
          (pss_one (ps_if (pt_not (pt_val (pe_cG gA Fr hr (by decide) rfl (pa_cons (pv 1) (pa_cons (pv 8) (pa_cons (pv 2) pa_nil)))))) (pss_one (ps_ret pe_bl)) pss_nil)))
        (pss_cons (ps_if (pt_not (pt_val (pe_cG gA Pr hr (by decide) rfl (pa_cons (pv 1) (pa_cons (pv 3) (pa_cons (pv 4) (pa_cons (pv 2) pa_nil))))))) (pss_one (ps_ret pe_bl)) pss_nil)
        (pss_cons (ps_if (PW.pt (pw_or (pt_cmpR (op_neO Ne hr (by decide)) (pe_op (op_own (op := .Add) oa Fa (hr.mono (by decide)) ba) (pv 5) (pv 6)) (pe_op (op_own (op := .Add) oa Fa (hr.mono (by decide)) ba) (pv 6) (pv 5)) (nomark _))
            (pw_or1 (pt_cmpR (op_neO Ne hr (by decide)) (pe_op (op_own (op := .Mult) om Fm_ (hr.mono (by decide)) bm) (pv 5) (pe_op (op_own (op := .Add) oa Fa (hr.mono (by decide)) ba) (pv 6) (pv 7))) (pe_op (op_own (op := .Add) oa Fa (hr.mono (by decide)) ba) (pe_op (op_own (op := .Mult) om Fm_ (hr.mono (by decide)) bm) (pv 5) (pv 6)) (pe_op (op_own (op := .Mult) om Fm_ (hr.mono (by decide)) bm) (pv 5) (pv 7))) (nomark _))))) (pss_one (ps_ret pe_bl)) pss_nil)
        (pss_cons (ps_if (pt_not (pt_val (pe_c Wr hr (by decide) rfl (pa_cons (pv 5) pa_nil)))) (pss_one (ps_ret pe_bl)) pss_nil)
        (pss_cons (ps_par (i := 9) (j := 10) (by rfl) scLaw.nd rfl rfl (by decide) rfl rfl (pa_cons (pe_op (op_own (op := .Sub) os Fs_ (hr.mono (by decide)) bs) (pv 5) (pv 6)) (pa_cons (pe_op (op_own (op := .Add) oa Fa (hr.mono (by decide)) ba) (pv 5) (pv 6)) pa_nil)) (by rfl))
        (pss_cons (ps_if (pt_cmpR (op_neO Ne hr (by decide)) (pe_op (op_own (op := .Mult) om Fm_ (hr.mono (by decide)) bm) (pv 9) (pv 10)) (pe_op (op_own (op := .Sub) os Fs_ (hr.mono (by decide)) bs) (pe_op (op_own (op := .Mult) om Fm_ (hr.mono (by decide)) bm) (pv 5) (pv 5)) (pe_op (op_own (op := .Mult) om Fm_ (hr.mono (by decide)) bm) (pv 6) (pv 6))) (nomark _)) (pss_one (ps_ret pe_bl)) pss_nil)
        (pss_cons (ps_if (pt_cmpR (op_neD hr.units) (pe_mt0 Te hr (by decide) (pe_op (op_own (op := .Sub) os Fs_ (hr.mono (by decide)) bs) (pv 5) (pv 5))) (pe_lst pa_nil) (nomark _)) (pss_one (ps_ret pe_bl)) pss_nil)
        (pss_one (ps_if (PW.pt (pw_or (pt_cmpR op_ne (pe_cmpR (op_eqO Ne hr (by decide)) (pv 5) (pv 6) (nomark _)) (pe_cmpR (op_eqD hr.units) (pe_mt0 Te hr (by decide) (pv 5)) (pe_mt0 Te hr (by decide) (pv 6)) (nomark _)) (nomark _))
            (pw_or1 (pt_cmpR op_eq (pe_cmpR (op_neO Ne hr (by decide)) (pv 5) (pv 6) (nomark _)) (pe_cmpR (op_eqO Ne hr (by decide)) (pv 5) (pv 6) (nomark _)) (nomark _))))) (pss_one (ps_ret pe_bl)) pss_nil))))))))))))))
      (pss_one (ps_ret pe_bl)))), ?_⟩
    refine ⟨rfl, tb, fun H1 ex1 tb1 => ⟨true, rfl, iteF ?_⟩⟩
    dsimp only [tNext]
    refine ⟨rfl, tb1, fun H2 ex2 tb2 => ⟨true, rfl, iteF ?_⟩⟩
    dsimp only [tNext]
    have hs2 := L2.SqL.extN (L2.SqL.extN hs ex1) ex2
    refine ⟨_, rfl, sc, ns, 16, rfl, by decide, by decide, hs2, hl, fun H3 p as S3 hp3 nd hpu npa => ⟨p, rfl, ⟨_, SqL.of hp3⟩, for_it (walk_list (xs := as.map V.ref)) (fun i σ' H' => (∃ u1 u2 u3 u4 u5 u6 u7 u8 u9 u10, σ' = [some (.ref sc), u1, u2, u3, u4, u5, u6, u7, u8, u9, u10]) ∧ Tabs TT H' ∧ H' p = some (.lst (as.map V.ref)) ∧ ∀ j b, i ≤ j → as[j]? = some b → PurseAt H' b (2 ^ 60))
      ⟨⟨none, none, none, none, none, none, none, none, none, none, rfl⟩, tb2.ext S3, hp3, fun j b _ hb => hpu b (List.mem_of_getElem? hb)⟩ (fun i σ' H' _ z => SqL.of z.2.2.1) ?_ ?_⟩⟩
    · rintro i x σ' H4' H4 hi ⟨⟨u1, u2, u3, u4, u5, u6, u7, u8, u9, u10, rfl⟩, tb4, hpp, hpj⟩ ⟨rfl, hx⟩
      rw [List.length_map] at hi
      obtain ⟨a, ha, rfl⟩ : ∃ a, as[i]? = some a ∧ x = V.ref a := by
        rw [List.getElem?_map] at hx
        obtain ⟨z, hz, e⟩ := Option.map_eq_some_iff.mp hx
        exact ⟨z, hz, e.symm⟩
      have hpa := hpj i a (Nat.le_refl _) ha
      have npp : p ≠ a := by rintro rfl; exact npa (List.mem_of_getElem? ha)
      have ndx : ∀ j b, i + 1 ≤ j → as[j]? = some b → b ≠ a := fun j b hj hb e => by
        have := nodup_ix nd hb (by rw [e]; exact ha)
        omega
      have fin : ∀ H8, ExtB a H4 H8 → Tabs TT H8 → ∀ v2 v3 v4 v5 v6 v7 v8 v9 v10, (∃ u1 u2 u3 u4 u5 u6 u7 u8 u9 u10, ([some (.ref sc), some (.ref a), v2, v3, v4, v5, v6, v7, v8, v9, v10] : L2.St) = [some (.ref sc), u1, u2, u3, u4, u5, u6, u7, u8, u9, u10]) ∧ Tabs TT H8 ∧ H8 p = some (.lst (as.map V.ref)) ∧ ∀ j b, i + 1 ≤ j → as[j]? = some b → PurseAt H8 b (2 ^ 60) := fun H8 X8 tb8 v2 v3 v4 v5 v6 v7 v8 v9 v10 =>
        ⟨⟨_, _, _, _, _, _, _, _, _, _, rfl⟩, tb8, X8 _ _ npp hpp (fun _ z => nomatch z), fun j b2 hj hb2 => by
          obtain ⟨p0, p1, p2, p3, e, rr⟩ := hpj j b2 (by omega) hb2
          exact ⟨p0, p1, p2, p3, X8 _ _ (ndx j b2 hj hb2) e (fun _ z => nomatch z), rr⟩⟩
      obtain ⟨ya, ea⟩ := hpa.lst
      -- names
      refine seq_asg ⟨_, rfl, _, rfl, a, 3, 10000, rfl, hpa.less (by decide), by decide, by decide, fun r H5 r0 r1 hp5 S5 => ⟨_, _, rfl, rfl, ?_⟩⟩
      obtain ⟨m, hm⟩ : ∃ m : Nat, 1 + r = (m : Int) := ⟨(1 + r).toNat, by omega⟩
      have m1 : 1 ≤ m := by omega
      have m3 : m ≤ 3 := by omega
      obtain ⟨ya5, ea5⟩ := hp5.lst
      refine ⟨a, m, 9000, by rw [← hm]; rfl, m3, hp5.less (by omega), fun H6 l names nlen hna hl6 nl hp6 S6 => ?_⟩
      dsimp only
      have nla : l ≠ a := by
        rintro rfl
        rw [ea5] at nl
        cases nl
      have hno : ∀ z ∈ names, LetOk z := fun z hz => (hna z hz).1
      have sok : ∀ z ∈ names, PyData.strOk z = true := fun z hz => strOk_of (hno z hz)
      have S46 := S5.trans S6
      have tb6 : Tabs TT H6 := tabs_sameB tb4 S46 ea
      -- trees
      refine ⟨_, rfl, _, rfl, a, l, names, 8000, rfl, hp6.less (by decide), SqL.of hl6, nla, by omega, sok, fun t1 b1 H7 tk1 tr1 hp7 S7 => ?_⟩
      obtain ⟨ya6, ea6⟩ := hp6.lst
      have hl7 := S7 _ _ nla hl6
      refine ⟨_, rfl, _, rfl, a, l, names, 7000, rfl, hp7.less (by decide), SqL.of hl7, nla, by omega, sok, fun t2 b2 H8 tk2 tr2 hp8 S8 => ⟨_, _, rfl, ?_⟩⟩
      dsimp only
      have hl8 := S8 _ _ nla hl7
      have tr18 := tr1.sameB S8 hp7
      obtain ⟨ya7, ea7⟩ := hp7.lst
      have tb8 : Tabs TT H8 := tabs_sameB (tabs_sameB tb6 S7 ea6) S8 ea7
      -- forms
      refine ⟨_, rfl, b1, t1, names, rfl, tr18, tk1, hno, fun H9 q1 S9 hf1 F1 => ⟨_, rfl, b2, t2, names, rfl, tr2.same S9, tk2, hno, fun H10 q2 S10 hf2 F2 => ⟨_, _, rfl, ?_⟩⟩⟩
      dsimp only
      have S810 := S9.trans S10
      have hp10 := hp8.same S810
      have hl10 := S810 _ _ hl8
      refine seq_asg ⟨_, rfl, _, rfl, a, l, names, 6000, rfl, hp10.less (by decide), SqL.of hl10, nla, by omega, sok, fun t3 b3 H11 tk3 tr3 hp11 S11 => ⟨b3, t3, names, rfl, tr3, tk3, hno, fun H12 q3 S12 hf3 F3 => ?_⟩⟩
      obtain ⟨ya10, ea10⟩ := hp10.lst
      have hp12 := hp11.same S12
      have S1012 := S11.to S12
      have hl12 := S1012 _ _ nla hl10
      have hf1_12 := FmAt.sameL (FmAt.same hf1 S10) S1012 ea10
      have hf2_12 := FmAt.sameL hf2 S1012 ea10
      have tb12 : Tabs TT H12 := tabs_sameB (tb8.ext S810) S1012 ea10
      have tr1_12 : TrAt K H12 t1 b1 := (tr18.same S810).sameB S1012 hp10
      have tr2_12 : TrAt K H12 t2 b2 := (tr2.same S810).sameB S1012 hp10
      have X12 : ExtB a H4 H12 := (((ExtB.ofB S46).trans (.ofB (S7.trans S8))).trans (.of S810)).trans (.ofB S1012)
      clear S7 S8 hl7 hl8 hl10 tb6 tb8 tr18 tr1 tr2
      -- sizes
      obtain ⟨ua1, _⟩ := uT_le tk1
      obtain ⟨ua2, _⟩ := uT_le tk2
      obtain ⟨ua3, _⟩ := uT_le tk3
      have v1 := u36 tk1 (by decide)
      have v2 := u36 tk2 (by decide)
      have v3 := u36 tk3 (by decide)
      have B1 := F1.bd2
      have B2 := F2.bd2
      have B3 : Bd names (frm t3) 2 4 (uT t3) 200 := F3.bd.mono (by decide) (by decide) (by decide)
      have c1 : uT t1 ≤ 2 ^ 6 := Nat.le_trans v1 (by decide)
      have c2 : uT t2 ≤ 2 ^ 6 := Nat.le_trans v2 (by decide)
      have c3 : uT t3 ≤ 2 ^ 6 := Nat.le_trans v3 (by decide)
      have B12 := B1.add2 B2 c1 c2 (c := 3) (by decide)
      have P12 := B1.mul B2 (c := 4) (by decide)
      have B11 := B1.add2 B1.neg c1 c1 (c := 3) (by decide)
      have Bm12 := B1.add2 B2.neg c1 c2 (c := 3) (by decide)
      have O3 : Bd names (ovF (frm t1) (-3)) 4 4 (uT t1 * 3) 200 := B1.over (k := -3) (by decide)
      have c4 : uT t1 * 3 ≤ 2 ^ 7 := Nat.le_trans (Nat.mul_le_mul_right 3 v1) (by decide)
      have O33 := O3.add2 B3.neg c4 (Nat.le_trans c3 (by decide : 2 ^ 6 ≤ 2 ^ 7)) (c := 2) (by decide)
      have mm : ∀ {x y : Nat}, x ≤ 36 → y ≤ 36 → x * y ≤ 2 ^ 12 := fun h1 h2 => Nat.le_trans (Nat.mul_le_mul h1 h2) (by decide)
      have bigk : ∀ {x : Nat}, x ≤ 2 ^ 12 → x ≤ 2 ^ 100 := fun h => Nat.le_trans h (Nat.pow_le_pow_right (by decide) (by decide))
      have o1 : Ok 4 4 (uT t1) 200 := ⟨by decide, by decide, ua1, bigk (by omega), by decide⟩
      have o2 : Ok 4 4 (uT t2) 200 := ⟨by decide, by decide, ua2, bigk (by omega), by decide⟩
      have o3 : Ok 2 4 (uT t3) 200 := ⟨by decide, by decide, ua3, bigk (by omega), by decide⟩
      have oo3 : Ok 4 4 (uT t1 * 3) 200 := ⟨by decide, by decide, by omega, bigk (by omega), by decide⟩
      have o12 : Ok (4 + 4) 4 (uT t1 * uT t2) (200 + 6 + 3) := ⟨by decide, by decide, Nat.mul_pos ua1 ua2, bigk (mm v1 v2), by decide⟩
      have op12 : Ok (4 * 4) (4 + 4) (uT t1 * uT t2) (200 + 200 + 4) := ⟨by decide, by decide, Nat.mul_pos ua1 ua2, bigk (mm v1 v2), by decide⟩
      have frok : ∀ {fm : Fm} {n L D bb : Nat}, Bd names fm n L D bb → n ≤ 64 → L ≤ 8 → 0 < D → D ≤ 2 ^ 12 → 12 ≤ bb → bb ≤ 1900 → FrOk names fm := fun {fm n L D bb} bd h1 h2 h3 h4 h5 h6 => by
        refine ⟨n, L, D, bb, 12, bd, ⟨by omega, by omega, h3, h4, Nat.lt_of_le_of_lt h4 (by decide), by omega, by omega⟩, by omega, Nat.le_trans h4 (Nat.pow_le_pow_right (by decide) h5), ?_⟩
        have : (3860 + 104 * L) * n ≤ (3860 + 104 * 8) * 64 := Nat.mul_le_mul (by omega) h1
        omega
      -- the tuple of forms
      refine ⟨_, rfl, _, rfl, _, rfl, _, rfl, ?_⟩
      refine add_own hf1_12 hf2_12 (B1.szs B2 o1 o2) fun H13 q4 S13 _ h13 => ?_
      refine ⟨_, rfl, _, rfl, ?_⟩
      refine mul_own (FmAt.same hf1_12 S13) (FmAt.same hf2_12 S13) (B1.szm B2 o1 o2) fun H14 q5 S14 _ h14 => ?_
      have S1214 := S13.trans S14
      refine ⟨_, rfl, _, rfl, ?_⟩
      refine subB_own (FmAt.same hf1_12 S1214) (FmAt.same hf1_12 S1214) (B1.szs B1.neg o1 o1) B1.can.nd (Nat.le_trans B1.len (by decide)) fun H15 q6 S15 h15 => ?_
      have S1215 := S1214.trans S15
      obtain ⟨dx15, df15, i15⟩ := insF (FmAt.same hf1_12 S1215)
      refine ⟨_, rfl, q1, dx15, _, rfl, i15, rfl, 3, rfl, ?_⟩
      try dsimp only [tCons, tNil, tC, List.nil_append, List.cons_append, List.append_nil]
      refine over_bd (k := -3) (FmAt.same hf1_12 S1215) B1 o1 (by decide) (by decide) fun H16 q7 S16 h16 => ?_
      have S1216 := S1215.trans S16
      refine ⟨_, rfl, ?_⟩
      refine subB_own h16 (FmAt.same hf3 S1216) (O3.szs B3.neg oo3 o3) B3.can.nd (Nat.le_trans B3.len (by decide)) fun H17 q8 S17 h17 => ?_
      have S1217 := S1216.trans S17
      refine ⟨by show 6 ≤ sizeLine; decide, fun tp H18 S18 n18 h18 => ?_⟩
      have S1218 := S1217.trans S18
      obtain ⟨FL, hFLe⟩ : ∃ FL : List (Addr × Fm), FL = [(q1, frm t1), (q2, frm t2), (q4, addF (frm t1) (frm t2)), (q5, mulF (frm t1) (frm t2)), (q6, subF (frm t1) (frm t1)), (q8, subF (ovF (frm t1) (-3)) (frm t3))] := ⟨_, rfl⟩
      have hFL : ∀ x ∈ FL, FmAt P w K C H18 x.1 x.2 ∧ FrOk names x.2 := by
        intro x hx
        rw [hFLe] at hx
        simp only [List.mem_cons, List.not_mem_nil, or_false] at hx
        rcases hx with rfl | rfl | rfl | rfl | rfl | rfl
        · exact ⟨FmAt.same hf1_12 S1218, frok B1 (by decide) (by decide) ua1 (by omega) (by decide) (by decide)⟩
        · exact ⟨FmAt.same hf2_12 S1218, frok B2 (by decide) (by decide) ua2 (by omega) (by decide) (by decide)⟩
        · exact ⟨FmAt.same h13 (((S14.trans S15).trans S16).trans (S17.trans S18)), frok B12 (by decide) (by decide) (Nat.mul_pos ua1 ua2) (mm v1 v2) (by decide) (by decide)⟩
        · exact ⟨FmAt.same h14 ((S15.trans S16).trans (S17.trans S18)), frok P12 (by decide) (by decide) (Nat.mul_pos ua1 ua2) (mm v1 v2) (by decide) (by decide)⟩
        · exact ⟨FmAt.same h15 (S16.trans (S17.trans S18)), frok B11 (by decide) (by decide) (Nat.mul_pos ua1 ua1) (mm v1 v1) (by decide) (by decide)⟩
        · refine ⟨FmAt.same h17 S18, frok O33 (by decide) (by decide) (Nat.mul_pos (by omega) ua3) ?_ (by decide) (by decide)⟩
          exact Nat.le_trans (Nat.mul_le_mul (show uT t1 * 3 ≤ 108 by omega) v3) (by decide)
      have h18' : H18 tp = some (.tup (FL.map fun x => V.ref x.1)) := by rw [h18, hFLe]; rfl
      have lFL : FL.length = 6 := by rw [hFLe]; rfl
      have hp18 := hp12.same S1218
      have hl18 := S1218 _ _ hl12
      have tb18 := tb12.ext S1218
      have X18 := X12.trans (.of S1218)
      obtain ⟨ya18, ea18⟩ := hp18.lst
      have nta : tp ≠ a := by
        rintro rfl
        rw [h18] at ea18
        cases ea18
      have e6 : PurseAt H18 a (4000 + 36 * names.length * (6 - 0)) := hp18.less (by omega)
      refine ⟨tp, rfl, ⟨_, SqT.of h18'⟩, for_it (D := { nx := _, rt := _, bk := fun _ _ => True, ct := fun _ _ => True }) (walk_tup (xs := FL.map fun x => V.ref x.1)) (fun i σ' H' => ExtB a H18 H' ∧ PurseAt H' a (4000 + 36 * names.length * (6 - i)) ∧ Tabs TT H' ∧ ∃ w8, σ' = [some (.ref sc), some (.ref a), some (.ref l), some (.ref b1), some (.ref b2), some (.ref q1), some (.ref q2), some (.ref q3), w8, u9, u10])
        ⟨ExtB.refl _ _, e6, tb18, u8, rfl⟩ (fun i σ' H' _ z => SqT.of (z.1 _ _ nta h18' fun _ q => nomatch q)) ?_ ?_⟩
      · rintro j v σ' H19' H19 hj ⟨X19, hp19, tb19, w8, rfl⟩ ⟨rfl, hv⟩
        rw [List.length_map, lFL] at hj
        rw [List.getElem?_map] at hv
        obtain ⟨⟨qq, ff⟩, hq, rfl⟩ := Option.map_eq_some_iff.mp hv
        obtain ⟨hff, ⟨n_, L_, D_, bb_, e_, bd_, sz_, b19, db_, shn⟩⟩ := hFL _ (List.mem_of_getElem? hq)
        have e7 : 4000 + 36 * names.length * (6 - j) = (4000 + 36 * names.length * (6 - (j + 1))) + 36 * names.length := by
          have : 6 - j = (6 - (j + 1)) + 1 := by omega
          rw [this, Nat.mul_succ]
          omega
        rw [e7] at hp19
        refine ⟨_, rfl, _, rfl, _, rfl, a, qq, l, names, ff, _, n_, L_, D_, bb_, e_, rfl, hp19, FmAt.extL hff (X19.toL ea18), SqL.of (X19 _ _ nla hl18 fun _ q => nomatch q), nla, by omega, hno, bd_, sz_, b19, db_, shn, tb19, fun H20 X20 hp20 tb20 => ⟨true, rfl, iteF ?_⟩⟩
        exact ⟨X19.trans X20, hp20, tb20, _, rfl⟩
      rintro σ' H19 ⟨X19, hp19, tb19, w8, rfl⟩
      rw [List.length_map, lFL] at hp19
      obtain ⟨ya19, ea19⟩ := hp19.lst
      dsimp only
      -- put
      have L19 := X19.toL ea18
      have hl19 := X19 _ _ nla hl18 fun _ q => nomatch q
      refine ⟨_, rfl, _, rfl, _, rfl, _, rfl, a, b1, b2, l, t1, t2, names, 0, rfl, hp19.less (by omega), (tr1_12.same S1218).extB X19 ea18, (tr2_12.same S1218).extB X19 ea18, tk1, tk2, SqL.of hl19, nla, by omega, by omega, hna, tb19, fun H20 X20 hp20 tb20 => ⟨true, rfl, iteF ?_⟩⟩
      dsimp only [tNext]
      have X1820 := X19.trans X20
      have L20 := X1820.toL ea18
      have X4_20 := X18.trans X1820
      have hf1_20 := FmAt.extL (FmAt.same hf1_12 S1218) L20
      have hf2_20 := FmAt.extL (FmAt.same hf2_12 S1218) L20
      have hf3_20 := FmAt.extL (FmAt.same hf3 S1218) L20
      -- sums turned about, products multiplied out
      have B23 := B2.add2 B3 c2 c3 (c := 2) (by decide)
      have P13 := B1.mul B3 (c := 3) (by decide)
      have o23 : Ok (4 + 2) 4 (uT t2 * uT t3) (200 + 6 + 2) := ⟨by decide, by decide, Nat.mul_pos ua2 ua3, bigk (mm v2 v3), by decide⟩
      have op13 : Ok (4 * 2) (4 + 4) (uT t1 * uT t3) (200 + 200 + 3) := ⟨by decide, by decide, Nat.mul_pos ua1 ua3, bigk (mm v1 v3), by decide⟩
      refine ⟨_, rfl, _, rfl, ?_⟩
      refine add_own hf1_20 hf2_20 (B1.szs B2 o1 o2) fun H21 q21 S21 _ h21 => ?_
      refine ⟨_, rfl, _, rfl, ?_⟩
      refine add_own (FmAt.same hf2_20 S21) (FmAt.same hf1_20 S21) (B2.szs B1 o2 o1) fun H22 q22 S22 _ h22 => ?_
      have ec : eqFm (addF (frm t1) (frm t2)) (addF (frm t2) (frm t1)) = true := eqFm_of_pol (canon_addF B1.can B2.can) (canon_addF B2.can B1.can) (by rw [pol_addF B1.can.nd, pol_addF B2.can.nd]; grind)
      refine ne_formQ (FmAt.same h21 S22) h22 ec ⟨_, rfl, ifF rfl ?_⟩
      have S2022 := S21.trans S22
      have hf1_22 := FmAt.same hf1_20 S2022
      have hf2_22 := FmAt.same hf2_20 S2022
      have hf3_22 := FmAt.same hf3_20 S2022
      refine ⟨_, rfl, _, rfl, _, rfl, ?_⟩
      refine add_own hf2_22 hf3_22 (B2.szs B3 o2 o3) fun H23 q23 S23 _ h23 => ?_
      refine mul_own (FmAt.same hf1_22 S23) h23 (B1.szm B23 o1 o23) fun H24 q24 S24 _ h24 => ?_
      have S2224 := S23.trans S24
      refine ⟨_, rfl, _, rfl, ?_⟩
      refine mul_own (FmAt.same hf1_22 S2224) (FmAt.same hf2_22 S2224) (B1.szm B2 o1 o2) fun H25 q25 S25 _ h25 => ?_
      have S2225 := S2224.trans S25
      refine ⟨_, rfl, _, rfl, ?_⟩
      refine mul_own (FmAt.same hf1_22 S2225) (FmAt.same hf3_22 S2225) (B1.szm B3 o1 o3) fun H26 q26 S26 _ h26 => ?_
      refine add_own (FmAt.same h25 S26) h26 (P12.szs P13 op12 op13) fun H27 q27 S27 _ h27 => ?_
      have ed : eqFm (mulF (frm t1) (addF (frm t2) (frm t3))) (addF (mulF (frm t1) (frm t2)) (mulF (frm t1) (frm t3))) = true := eqFm_of_pol (canon_mulF _ _) (canon_addF (canon_mulF _ _) (canon_mulF _ _)) (by
        rw [pol_addF (canon_mulF _ _).nd, pol_mulF, pol_mulF, pol_mulF, pol_addF B2.can.nd]
        grind)
      refine ne_formQ (FmAt.same h24 ((S25.trans S26).trans S27)) h27 ed ⟨_, rfl, ifF rfl ?_⟩
      dsimp only [tNext]
      have S2227 := (S2225.trans S26).trans S27
      have S2027 := S2022.trans S2227
      have hf1_27 := FmAt.same hf1_20 S2027
      -- whole numbers
      refine ⟨_, rfl, q1, names, frm t1, uT t1, rfl, hf1_27, B1, ua1, v1, hno, tb20.ext S2027, fun H28 ex28 tb28 => ⟨true, rfl, iteF ?_⟩⟩
      dsimp only [tNext]
      have X2028 : ExtN H20 H28 := (ExtN.of S2027).trans ex28
      have hf1_28 := FmAt.ext hf1_20 X2028
      have hf2_28 := FmAt.ext hf2_20 X2028
      have X4_28 := X4_20.trans (.ofN X2028)
      -- less, more
      refine ⟨_, rfl, _, rfl, ?_⟩
      refine subB_own hf1_28 hf2_28 (B1.szs B2.neg o1 o2) B2.can.nd (Nat.le_trans B2.len (by decide)) fun H29 q29 S29 h29 => ?_
      refine ⟨_, rfl, _, rfl, ?_⟩
      refine add_own (FmAt.same hf1_28 S29) (FmAt.same hf2_28 S29) (B1.szs B2 o1 o2) fun H30 q30 S30 _ h30 => ⟨_, _, rfl, ?_⟩
      dsimp only
      have S2830 := S29.trans S30
      have hf1_30 := FmAt.same hf1_28 S2830
      have hf2_30 := FmAt.same hf2_28 S2830
      have P11 := B1.mul B1 (c := 4) (by decide)
      have P22 := B2.mul B2 (c := 4) (by decide)
      have op11 : Ok (4 * 4) (4 + 4) (uT t1 * uT t1) (200 + 200 + 4) := ⟨by decide, by decide, Nat.mul_pos ua1 ua1, bigk (mm v1 v1), by decide⟩
      have op22 : Ok (4 * 4) (4 + 4) (uT t2 * uT t2) (200 + 200 + 4) := ⟨by decide, by decide, Nat.mul_pos ua2 ua2, bigk (mm v2 v2), by decide⟩
      refine ⟨_, rfl, _, rfl, ?_⟩
      refine mul_own (FmAt.same h29 S30) h30 (Bd.szm Bm12 B12 o12 o12) fun H31 q31 S31 _ h31 => ?_
      refine ⟨_, rfl, _, rfl, ?_⟩
      refine mul_own (FmAt.same hf1_30 S31) (FmAt.same hf1_30 S31) (B1.szm B1 o1 o1) fun H32 q32 S32 _ h32 => ?_
      have S3032 := S31.trans S32
      refine ⟨_, rfl, _, rfl, ?_⟩
      refine mul_own (FmAt.same hf2_30 S3032) (FmAt.same hf2_30 S3032) (B2.szm B2 o2 o2) fun H33 q33 S33 _ h33 => ?_
      refine subB_own (FmAt.same h32 S33) h33 (P11.szs P22.neg op11 op22) P22.can.nd (Nat.le_trans P22.len (by decide)) fun H34 q34 S34 h34 => ?_
      have psub : ∀ {x y : Fm}, Canon x → pol (subF x y) = pol x + -pol y := fun {x y} cx => by
        unfold subF
        rw [pol_addF cx.nd]
        have e : pol (negF y) = -pol y := pol_negM _
        rw [e]
      have el : eqFm (mulF (subF (frm t1) (frm t2)) (addF (frm t1) (frm t2))) (subF (mulF (frm t1) (frm t1)) (mulF (frm t2) (frm t2))) = true := eqFm_of_pol (canon_mulF _ _) (canon_addF (canon_mulF _ _) (canon_neg (canon_mulF _ _))) (by
        rw [pol_mulF, psub B1.can, pol_addF B1.can.nd]
        show _ = pol (subF (mulF (frm t1) (frm t1)) (mulF (frm t2) (frm t2)))
        rw [psub (canon_mulF _ _), pol_mulF, pol_mulF]
        grind)
      refine ne_formQ (FmAt.same h31 ((S32.trans S33).trans S34)) h34 el ⟨_, rfl, ifF rfl ?_⟩
      dsimp only [tNext]
      have S2834 := S2830.trans ((S3032.trans S33).trans S34)
      have hf1_34 := FmAt.same hf1_28 S2834
      have hf2_34 := FmAt.same hf2_28 S2834
      have tb34 := tb28.ext S2834
      have X4_34 := X4_28.trans (.of S2834)
      -- first - first
      refine ⟨_, rfl, _, rfl, ?_⟩
      refine subB_own hf1_34 hf1_34 (B1.szs B1.neg o1 o1) B1.can.nd (Nat.le_trans B1.len (by decide)) fun H35 q35 S35 h35 => ?_
      obtain ⟨dx35, df35, i35⟩ := insF h35
      refine ⟨q35, dx35, _, rfl, i35, rfl, ?_⟩
      try dsimp only [tCons, tNil, tC, List.nil_append, List.cons_append, List.append_nil]
      have o11 : Ok (4 + 4) 4 (uT t1 * uT t1) (200 + 6 + 3) := ⟨by decide, by decide, Nat.mul_pos ua1 ua1, bigk (mm v1 v1), by decide⟩
      refine terms_bd h35 B11 o11 (tb34.ext S35) fun H36 p36 ex36 tb36 d36 => ?_
      have e0 : trs (subF (frm t1) (frm t1)) = trs [] := trs_of_pol B11.can canon_nil (by
        show pol (subF (frm t1) (frm t1)) = _
        rw [psub B1.can]
        have e2 : pol [] = (0 : Pol) := cst_zero.symm
        rw [e2]
        grind)
      rw [e0] at d36
      have d36 : Dp K H36 (.ref p36) (.list []) := by
        have e : trD (trs []) = .list [] := by
          unfold trs sortM
          simp [trD]
        rw [e] at d36
        exact d36
      refine ⟨by show 0 ≤ sizeLine; decide, fun p37 n37 => ?_⟩
      have S37 := Same.upd (o := .lst []) n37
      refine ne_data (dpS S37 d36) (.lst (SqL.of upd_same) .nil) (by decide +kernel) ⟨_, rfl, ifF rfl ?_⟩
      dsimp only [tNext]
      have X3437 : ExtN H34 (upd H36 p37 (.lst [])) := ((ExtN.of S35).trans ex36).trans (.of S37)
      have tb37 := tb36.ext S37
      have hf1_37 := FmAt.ext hf1_34 X3437
      have hf2_37 := FmAt.ext hf2_34 X3437
      have X4_37 := X4_34.trans (.ofN X3437)
      generalize upd H36 p37 (.lst []) = H37 at tb37 hf1_37 hf2_37 X4_37 ⊢
      -- equal exactly if the terms are
      refine ⟨_, rfl, _, rfl, ?_⟩
      refine eq_form hf1_37 hf2_37 ?_
      obtain ⟨dx37, df37, i37⟩ := insF hf1_37
      refine ⟨_, rfl, q1, dx37, _, rfl, i37, rfl, ?_⟩
      try dsimp only [tCons, tNil, tC, List.nil_append, List.cons_append, List.append_nil]
      refine terms_bd hf1_37 B1 o1 tb37 fun H38 p38 ex38 tb38 d38 => ?_
      have hf2_38 := FmAt.ext hf2_37 ex38
      obtain ⟨dx38, df38, i38⟩ := insF hf2_38
      refine ⟨_, rfl, q2, dx38, _, rfl, i38, rfl, ?_⟩
      try dsimp only [tCons, tNil, tC, List.nil_append, List.cons_append, List.append_nil]
      refine terms_bd hf2_38 B2 o2 tb38 fun H39 p39 ex39 tb39 d39 => ?_
      have s1 : StrsOk (trs (frm t1)) := fun x hx z hz => sok z ((B1.key x ((trs_perm B1.can.nd).mem_iff.mp hx)).2 z hz)
      have s2 : StrsOk (trs (frm t2)) := fun x hx z hz => sok z ((B2.key x ((trs_perm B2.can.nd).mem_iff.mp hx)).2 z hz)
      refine ⟨_, _, dpN ex39 d38, d39, shaped_trD s1, shaped_trD s2, ?_⟩
      rw [eqv_eqFm B1 B2 s1]
      refine ⟨rfl, _, rfl, ifF (by rw [decide_eq_true rfl]; rfl) ?_⟩
      have X3739 := ex38.trans ex39
      have hf1_39 := FmAt.ext hf1_37 X3739
      have hf2_39 := FmAt.ext hf2_37 X3739
      refine ⟨_, rfl, _, rfl, q1, q2, _, _, rfl, rfl, hf1_39, hf2_39, ?_⟩
      refine ⟨_, rfl, _, rfl, ?_⟩
      refine eq_form hf1_39 hf2_39 ?_
      refine ⟨rfl, _, rfl, ifF (by cases eqFm (frm t1) (frm t2) <;> rfl) ?_⟩
      exact fin H39 (X4_37.trans (.ofN X3739)) tb39 _ _ _ _ _ _ _ _ _
    · rintro σ' H4 ⟨⟨u1, u2, u3, u4, u5, u6, u7, u8, u9, u10, rfl⟩, _⟩
      exact k H4
end
end E2

set_option Elab.async false
set_option linter.all false
set_option maxRecDepth 100000
set_option maxHeartbeats 1000000
/-! the end of a row whose law calls repr and whose program makes functions: tables of code objects beside the script -/
namespace L2
open PySem PySem.Spec PyProof.Rows
open LamX (TabB)
section
variable {P : Program} {w : World} {K : PySem.W.Frag} {mg mb : Str → Option Value} {k : Nat} {fa a : Addr} {cs : List (Addr × Addr)} {fd : FuncData} {x : Str} {sp : Sp} {s₁ : Shared} {vs : List Value} {ns : List Int}
theorem call_lawGT (KX : K.In s₁.heap) (hns : s₁.heap.Ns mainGlobals mg) (hb : s₁.heap.Ns builtinsNs mb) (hbb : ∀ x : Str, x ≠ "__name__" → mb x = bootBuiltins x) (hlim : s₁.heap.NoLimit) (hg : s₁.gens = #[])
    (tabs : ∀ p ∈ cs, s₁.heap.get? p.2 = some { cls := .none, data := .fields #[] }) (free : ∀ p ∈ cs, K.lookup p.2 = none) (heads : ∀ p ∈ cs, PySem.W.CodeHd s₁.heap p.1 p.2)
    (bmod : ∃ (bm : Addr) (ob : Obj), mg "__builtins__" = some (.ref bm) ∧ bm ≠ builtinsNs ∧ s₁.heap.get? bm = some ob ∧ ob.cls = .type "module" ∧ ob.dict = some builtinsNs ∧ ob.data = .plain)
    (ha : s₁.heap.get? a = some { cls := .type "list", data := .seq vs.toArray }) (hi : IntsAre vs ns) (hl : ns.length ≤ sizeLine) (hr : Room k callerA)
    (F : ∀ base : Heap, K.In base → base.Ns mainGlobals mg → (∀ p ∈ cs, TabB base mg p.1 p.2) → FnG P w K mg base k fa fd [x] sp) (hbind : ∀ (s : Shared) (u : Value), BindsTo s fd ⟨[u], []⟩ [(x, u)])
    (hsp : ∀ H : Hp, (∀ p ∈ cs, H p.2 = some (.tbl #[])) → SqL K H a (ns.map V.int) → sp [.ref a] H (fun v _ => v = .bl true) fun _ _ _ => False) :
    codeAny (model P w) callerA (.call (.ref fa) ⟨[.ref a], []⟩) (fun r s' => r = .ok (.ret (.bool true)) ∧ OldK s₁.heap s'.heap ∧ s'.os = s₁.os ∧ AllBare s'.gens) s₁ := by
  have rv := vals_ints hi
  have notA : ∀ p ∈ cs, p.2 ≠ a := fun p hp e => by
    have h := tabs p hp
    rw [e, ha] at h
    exact nomatch congrArg Obj.data (Option.some.inj h)
  -- whatever is tracked: the script, or a table
  have go : ∀ H : Hp, SqL K H a (ns.map V.int) → HOk P w H s₁.heap → (∀ p ∈ cs, H p.2 = some (.tbl #[])) → (∀ b u, H b = some u → (b = a ∧ K.lookup a = none ∧ ∃ o ys, u = .frz o (.lst ys)) ∨ ∃ p ∈ cs, p.2 = b) →
      codeAny (model P w) callerA (.call (.ref fa) ⟨[.ref a], []⟩) (fun r s' => r = .ok (.ret (.bool true)) ∧ OldK s₁.heap s'.heap ∧ s'.os = s₁.os ∧ AllBare s'.gens) s₁ := by
    intro H hS hok hH only
    have unseen : ∀ (b : Addr) (o : Obj), s₁.heap.get? b = some o → o.data ≠ .fields #[] → (∀ ys n, o.data ≠ .seq ys n) → H b = none := fun b o e nf nq => by
      rcases q : H b with _ | u
      · rfl
      · rcases only b u q with ⟨rfl, _⟩ | ⟨p, hp, rfl⟩
        · rw [ha] at e
          exact absurd (congrArg Obj.data (Option.some.inj e)).symm (nq _ _)
        · rw [tabs p hp] at e
          exact absurd (congrArg Obj.data (Option.some.inj e)).symm nf
    have shown : ∀ {b : Addr} {o : Obj}, s₁.heap.get? b = some o → o.data ≠ .fields #[] → (∀ ys n, o.data ≠ .seq ys n) → (hidT s₁.heap H).get? b = some o := fun e nf nq => hidT_get e (unseen _ _ e nf nq)
    have names : ∀ {b : Addr} {m : Str → Option Value}, s₁.heap.Ns b m → (hidT s₁.heap H).Ns b m := fun {b m} hn => by
      obtain ⟨o, es, ep, e, dd, r⟩ := hn
      exact ⟨o, es, ep, shown e (by rw [dd]; intro z; cases z) (by rw [dd]; intro ys n z; cases z), dd, r⟩
    have inK : K.In (hidT s₁.heap H) := fun b o e => hidT_get (KX b o e) (by
      rcases q : H b with _ | u
      · rfl
      · rcases only b u q with ⟨rfl, n, _⟩ | ⟨p, hp, rfl⟩
        · rw [n] at e; cases e
        · rw [free p hp] at e; cases e)
    obtain ⟨mc, c1, c2⟩ := hlim
    have env : Env0 P w K mg (hidT s₁.heap H) callerA [] s₁ H :=
      ⟨rfl, ⟨inK, names hns, ⟨mb, names hb, hbb⟩, ⟨mc, names c1, c2⟩⟩, fun b o e => of_hidT e, Nat.le_of_eq (hidT_size _ _), trivial, fun b z => (List.not_mem_nil z).elim, hok, .of_eq hg⟩
    have known : ∀ p ∈ cs, TabB (hidT s₁.heap H) mg p.1 p.2 := fun p hp => by
      obtain ⟨oc, ys, f1, f2, f3, f4, f5, f6, f7, e1, e2, e3, e4, rest⟩ := heads p hp
      have full : ys ≠ #[] := by
        rintro rfl
        simp at e4
      obtain ⟨bm, ob, m1, m2, m3, m4, m5, m6⟩ := bmod
      obtain ⟨og, es, ep, g1, g2, _⟩ := hns
      refine ⟨⟨oc, ys, f1, f2, f3, f4, f5, f6, f7, shown e1 (by rw [e3]; intro z; exact full (Data.fields.inj z)) (by rw [e3]; intro a b z; cases z), e2, e3, e4, rest⟩, ⟨bm, ob, m1, m2, ?_, ?_, shown m3 (by rw [m6]; intro z; cases z) (by rw [m6]; intro a b z; cases z), m4, m5, m6⟩, ?_⟩
      · rintro rfl
        rw [g1] at m3
        rw [Option.some.inj m3, m6] at g2
        cases g2
      · rintro rfl
        rw [tabs p hp] at m3
        exact nomatch (congrArg Obj.data (Option.some.inj m3)).trans m6
      · rintro e
        rw [e, tabs p hp] at g1
        exact nomatch (congrArg Obj.data (Option.some.inj g1)).trans g2
    refine codeAny_mono ((F _ inK (names hns) known).go callerA [] s₁ H ⟨[.ref a], []⟩ [.ref a] [.ref a] _ _ rfl hr env (hbind s₁ (.ref a)) (.cons rfl .nil) (hsp H hH hS)) fun r s' h => ?_
    match r, h with
    | .ok (.ret u), ⟨v, H', os, bare, un, hok', r', q⟩ =>
      obtain rfl : v = .bl true := q
      obtain rfl : u = Value.bool true := r'
      -- a table has grown, all else is as it was
      have still : ∀ b o, s₁.heap.get? b = some o → (¬ ∃ p ∈ cs, p.2 = b) → s'.heap.get? b = some o := fun b o e nt => by
        rcases z : H b with _ | u
        · exact un.keep b o e z (fun y => List.not_mem_nil y) (fun y => List.not_mem_nil y)
        · rcases only b u z with ⟨_, _, ob, ys, rfl⟩ | t
          · have e1 := (hok b _ z).1
            rw [e] at e1
            obtain rfl := Option.some.inj e1
            exact (hok' b _ (un.frzs b o _ z)).1
          · exact absurd t nt
      have more : ∀ p ∈ cs, ∃ ys : Array Value, s'.heap.get? p.2 = some { cls := .none, data := .fields ys } := fun p hp => by
        obtain ⟨ys, z⟩ := un.tbls p.2 #[] (hH p hp)
        exact ⟨_, hok' p.2 _ z⟩
      refine ⟨rfl, ⟨fun b o e => ?_, fun b o e => ?_⟩, os, bare⟩
      · by_cases t : ∃ p ∈ cs, p.2 = b
        · obtain ⟨p, hp, rfl⟩ := t
          obtain ⟨ys, hy⟩ := more p hp
          rw [tabs p hp] at e
          obtain rfl := Option.some.inj e
          exact .inr (.inl ⟨((heads p hp).tab (tabs p hp)).isCodeTable, rfl, #[], ys, rfl, by rw [Array.empty_append]; exact hy⟩)
        · exact .inl (still b o e t)
      · by_cases t : ∃ p ∈ cs, p.2 = b
        · obtain ⟨p, hp, rfl⟩ := t
          obtain ⟨ys, hy⟩ := more p hp
          exact ⟨_, hy⟩
        · exact ⟨o, still b o e t⟩
  have dec : ∀ b : Addr, (∃ p ∈ cs, p.2 = b) ∨ ¬ ∃ p ∈ cs, p.2 = b := fun b => Classical.em _
  haveI : ∀ b : Addr, Decidable (∃ p ∈ cs, p.2 = b) := fun b => Classical.propDecidable _
  have notT : ¬ ∃ p ∈ cs, p.2 = a := fun ⟨p, hp, e⟩ => notA p hp e
  rcases hk : K.lookup a with _ | o
  · refine go (fun b => if b = a then some (.frz { cls := .type "list", data := .seq vs.toArray } (.lst (ns.map V.int))) else if ∃ p ∈ cs, p.2 = b then some (.tbl #[]) else none) (.inl (.inr ⟨_, if_pos rfl⟩)) (fun b u z => ?_) (fun p hp => ?_) fun b u z => ?_
    · by_cases n : b = a
      · subst n
        obtain rfl := Option.some.inj ((if_pos rfl).symm.trans z)
        exact ⟨ha, by rw [List.length_map]; exact hl, vs, _, rv, ha⟩
      · have z := (if_neg n).symm.trans z
        by_cases t : ∃ p ∈ cs, p.2 = b
        · obtain rfl := Option.some.inj ((if_pos t).symm.trans z)
          obtain ⟨p, hp, rfl⟩ := t
          exact tabs p hp
        · exact nomatch (if_neg t).symm.trans z
    · show (if p.2 = a then _ else _) = _
      rw [if_neg (notA p hp), if_pos ⟨p, hp, rfl⟩]
    · by_cases n : b = a
      · subst n
        obtain rfl := Option.some.inj ((if_pos rfl).symm.trans z)
        exact .inl ⟨rfl, hk, _, _, rfl⟩
      · have z := (if_neg n).symm.trans z
        by_cases t : ∃ p ∈ cs, p.2 = b
        · exact .inr t
        · exact nomatch (if_neg t).symm.trans z
  · have e := KX a o hk
    rw [ha] at e
    obtain rfl := Option.some.inj e
    refine go (fun b => if ∃ p ∈ cs, p.2 = b then some (.tbl #[]) else none) (.inr ⟨_, vs.toArray, _, hk, rfl, rfl, rfl, by rw [List.size_toArray, hi.length]; exact hl, by simpa using rv⟩) (fun b u z => ?_) (fun p hp => if_pos ⟨p, hp, rfl⟩) fun b u z => ?_
    · by_cases t : ∃ p ∈ cs, p.2 = b
      · obtain rfl := Option.some.inj ((if_pos t).symm.trans z)
        obtain ⟨p, hp, rfl⟩ := t
        exact tabs p hp
      · exact nomatch (if_neg t).symm.trans z
    · by_cases t : ∃ p ∈ cs, p.2 = b
      · exact .inr t
      · exact nomatch (if_neg t).symm.trans z
end
/-- the goal that the head leaves -/
theorem walk_ofTsG {l : PySem.W.OpenLaw} {n k : Nat} {q : Program} {loose : List Str} {XP : (Str → Option Value) → Heap → Prop} {YP : World → Heap → Prop} {d : DefRec} {x : Str}
    (hn : l.most = some n) (hn2 : n ≤ sizeLine) (hdf : d.params.defaults = []) (hr : Room k callerA)
    (F : ∀ (w : World) (mg : Str → Option Value) (fa : Addr) (h : Heap), YP w h → h.Ns mainGlobals mg → mg d.name = some (.ref fa) →
      ∃ (K : PySem.W.Frag) (fd : FuncData) (cs : List (Addr × Addr)) (sp : Sp), K.In h ∧ (∀ p ∈ cs, h.get? p.2 = some { cls := .none, data := .fields #[] }) ∧ (∀ p ∈ cs, K.lookup p.2 = none) ∧ (∀ p ∈ cs, PySem.W.CodeHd h p.1 p.2) ∧ (∀ (s : Shared) (u : Value), BindsTo s fd ⟨[u], []⟩ [(x, u)]) ∧
        (∀ (H : Hp) (a : Addr) (ns : List Int), ns.length ≤ n → (∀ p ∈ cs, H p.2 = some (.tbl #[])) → SqL K H a (ns.map V.int) → sp [.ref a] H (fun v _ => v = .bl true) fun _ _ _ => False) ∧
        ∀ base : Heap, K.In base → base.Ns mainGlobals mg → (∀ p ∈ cs, TabB base mg p.1 p.2) → FnG l.prog w K mg base k fa fd [x] sp) :
    PySem.W.WalkO q loose XP YP l.row.toRowW d [] (fun f vs => PySem.call f vs) := by
  refine Att.attach_callB hn hdf fun w s₀ s₁ mg mb fa o pm cd doc a vs ns G Y ho hd hcd hmg hobj hints hlen hbits hg => ?_
  obtain ⟨K, fd, cs, sp, X, t1, t2, t3, b, s, O⟩ := F w mg fa _ Y G.T.g hmg
  exact call_lawGT X G.T.g G.T.b G.T.builtins G.T.nolimit hg t1 t2 t3 G.T.bmain hobj hints (Nat.le_trans hlen hn2) hr O b fun H hH hS => s H a ns hlen hH hS
end L2

set_option Elab.async false
set_option linter.all false
set_option maxRecDepth 100000
set_option maxHeartbeats 1000000
/-! A head by facts: one Bool of the law's own, and the defs. -/
namespace Hb
open PySem PySem.Spec PyProof.Rows L2 He
abbrev AlB : Type := Bool × List FnV
def obsB (ex : PySem.W.Frag → Bool) (fn : List FnD) (K : PySem.W.Frag) : AlB := (ex K && fn.all fun d => (Fa.code d.at_ d.qual).ok K && PySem.W.keepIn K (.ref (fAd K d.at_)), fn.map fun d => fnObs K d.at_)
def valB (fn : List FnD) : AlB := (true, fn.map FnD.val)
def SaysB (ex : PySem.W.Frag → Bool) (fn : List FnD) (K : PySem.W.Frag) : Prop := obsB ex fn K = valB fn
def lookB (n : Nat) (ex : PySem.W.Frag → Bool) (fn : List FnD) (g : Addr → Option Obj) : AlB := obsB ex fn (frG g (asG g n))
def hookB (n : Nat) (ex : PySem.W.Frag → Bool) (fn : List FnD) : PySem.W.Hook where
  α := AlB
  obs := fun s => lookB n ex fn s.heap.get?
  val := fun _ => valB fn
  says := fun _ h => ∃ K : PySem.W.Frag, K.In h ∧ SaysB ex fn K
  of := fun _ _ e => ⟨_, frG_in, e⟩
  keeps := fun _ _ _ ⟨K, hK, c⟩ k => ⟨K, PySem.W.Frag.In.keeps hK k, c⟩
theorem lookB_eq {n : Nat} {ex : PySem.W.Frag → Bool} {fn : List FnD} {g : Addr → Option Obj} {s : Shared} (h : ∀ a, g a = s.heap.get? a) : lookB n ex fn g = (hookB n ex fn).obs s := by
  have e : g = s.heap.get? := funext h
  rw [e] <;> rfl
/-- a def of the text, by its statement -/
def dS (at_ : Str × Option Str) (name qual : Str) (st : Stmt) : FnD := ⟨at_, name, qual, defArgs st, defBody st, defScope st⟩
section
variable {ex : PySem.W.Frag → Bool} {fn : List FnD} {K : PySem.W.Frag}
theorem SaysB.bool (c : SaysB ex fn K) : ex K = true := (ba (show (ex K && fn.all fun d => (Fa.code d.at_ d.qual).ok K && PySem.W.keepIn K (.ref (fAd K d.at_))) = true from congrArg (fun z : AlB => z.1) c)).1
theorem SaysB.fun_ (c : SaysB ex fn K) (i : Nat) {at_ : Str × Option Str} {name qual : Str} {st : Stmt} (h : fn[i]? = some (dS at_ name qual st) := by rfl) : ∃ fd, L2.Fun K name qual st (fAd K at_) fd := by
  have c2 := (ba (show (ex K && fn.all fun d => (Fa.code d.at_ d.qual).ok K && PySem.W.keepIn K (.ref (fAd K d.at_))) = true from congrArg (fun z : AlB => z.1) c)).2
  have c3 := ba (List.all_eq_true.mp c2 _ (List.mem_of_getElem? h))
  have e : fn.map (fun d => fnObs K d.at_) = fn.map FnD.val := congrArg (fun z : AlB => z.2) c
  have e2 : (fn.map fun d => fnObs K d.at_)[i]? = (fn.map FnD.val)[i]? := by rw [e]
  rw [List.getElem?_map, List.getElem?_map, h] at e2
  obtain ⟨oc, od, osl, kV, doc, pm, an, cdv, ct, l, k⟩ := fn_ok (Option.some.inj e2) c3.1
  exact ⟨_, ⟨oc, od, kV, doc, pm, an, cdv, ct, osl, rfl, l, k⟩, c3.2⟩
end
theorem bindsA {K : PySem.W.Frag} {x qual : Str} {st : Stmt} {f : Addr} {fd : FuncData} {ps : List Str} (F : L2.Fun K x qual st f fd)
    (h : ∀ (kV doc pm : Value) (an : Option Addr) (cdv ct : Value) (us : List Value), us.length = ps.length → bindArgs (PySem.W.fnOf x qual (defArgs st) (defBody st) (defScope st) .none kV doc pm an cdv ct) ⟨us, []⟩ = pure (ps.zip us)) (s : Shared) (us : List Value) (hl : us.length = ps.length) : BindsTo s fd ⟨us, []⟩ (ps.zip us) := by
  obtain ⟨oc, od, kV, doc, pm, an, cdv, ct, osl, rfl, lk, hcd⟩ := F.ex
  exact .of_eq (h kV doc pm an cdv ct us hl)
/-! own operators, isinstance, as Bools -/
section
variable {K : PySem.W.Frag} {C : Addr}
def ownB (K : PySem.W.Frag) (C : Addr) (m : Str) : Bool := PySem.W.selfFirst K C && (eqO (PySem.W.findIn K (.ref C) m) (some (some (.ref (ma K C m)))) && PySem.W.isFn K (.ref (ma K C m)))
theorem ownB_ok {m : Str} (h : ownB K C m = true) : OwnOp K C m (ma K C m) :=
  let ⟨h1, h2⟩ := ba h
  let ⟨h3, h4⟩ := ba h2
  ⟨h1, eqO_ok h3, h4⟩
def ownIB (K : PySem.W.Frag) (C : Addr) (name : String) : Bool := ownB K C (PySem.dunder name) && ((match PySem.W.findIn K (.ref C) (dunderR name) with
  | some none => true
  | some (some (.ref _)) => true
  | _ => false) && ((PySem.W.findIn K (.type "int") (PySem.dunder name)).isSome && ((PySem.W.findIn K (.type "int") (dunderR name)).isSome && decide (PySem.W.subIn K (.type "int") (.ref C) = some false))))
theorem ownIB_ok {name : String} (h : ownIB K C name = true) : OwnOpI K C name (ma K C (PySem.dunder name)) := by
  obtain ⟨h1, h⟩ := ba h
  obtain ⟨h2, h⟩ := ba h
  obtain ⟨h3, h⟩ := ba h
  obtain ⟨h4, h5⟩ := ba h
  refine ⟨ownB_ok h1, ?_, Option.isSome_iff_exists.mp h3, Option.isSome_iff_exists.mp h4, of_decide_eq_true h5⟩
  split at h2
  · rename_i e
    exact ⟨_, e, .inl rfl⟩
  · rename_i a e
    exact ⟨_, e, .inr ⟨a, rfl⟩⟩
  · cases h2
def insB (K : PySem.W.Frag) (C : Addr) : Bool := eqO (PySem.W.findIn K (.ref C) "__class__") (some (some (.builtin "object.__class__"))) && (eqO (PySem.W.specialIn K (.builtin "object.__class__") "__get__") (some (some (.builtin "getset_descriptor.__get__"))) &&
  (decide (PySem.W.takesIn K (.builtin "object.__class__") = some true) && (decide (PySem.W.mroIn K C (.type "object") = some true) && decide (PySem.W.kitOne K (.ref C) (.ref C) = some true))))
theorem insB_ok (c : Cls K C) (h : insB K C = true) : C8.InsC K C := by
  obtain ⟨h1, h⟩ := ba h
  obtain ⟨h2, h⟩ := ba h
  obtain ⟨h3, h⟩ := ba h
  obtain ⟨h4, h5⟩ := ba h
  exact ⟨c, eqO_ok h1, eqO_ok h2, of_decide_eq_true h3, of_decide_eq_true h4, of_decide_eq_true h5⟩
/-- a global that is a built-in function -/
def bltB (K : PySem.W.Frag) (x : Str) (n : String) : Bool := eqO (PySem.W.nsIn K mainGlobals x) (some (some (.builtin n)))
theorem bltB_ok {h : Heap} {mg : Str → Option Value} (X : K.In h) (G : h.Ns mainGlobals mg) {x : Str} {n : String} (c : bltB K x n = true) : mg x = some (.builtin n) := PySem.W.mg_of X G (eqO_ok c)
/-- the facts of a list hold -/
theorem fa_ok {fa : List Fa} (h : (fa.all fun f => f.ok K) = true) (i : Nat) {f : Fa} (hi : fa[i]? = some f := by rfl) : f.ok K = true := List.all_eq_true.mp h f (List.mem_of_getElem? hi)
theorem bool_ok {l : List Bool} (h : (l.all id) = true) (i : Nat) {b : Bool} (hi : l[i]? = some b := by rfl) : b = true := List.all_eq_true.mp h b (List.mem_of_getElem? hi)
end
end Hb

set_option Elab.async false
set_option linter.all false
set_option maxRecDepth 100000
set_option maxHeartbeats 1000000
/-! what the top left: each def with its promise -/
namespace E2
open PySem PySem.Spec PyProof.Rows L2 He Hb
open C8 (Cal Mak Met InsC)
open LamX (Tabs ExtN TabB CodeO TabS)
/-- a def of the text, by its statement -/
def dX (at_ : Str × Option Str) (name qual : Str) (st : Stmt) : DefD := { at_ := at_, name := name, qual := qual, params := defArgs st, body := defBody st, scope := defScope st, dfl := [] }
theorem plainD {K : PySem.W.Frag} {x qual : Str} {st : Stmt} {f : Addr} {fd : FuncData} (F : FunD K x qual (defArgs st) (defBody st) (defScope st) [] [] f fd) : L2.Fun K x qual st f fd := by
  obtain ⟨oc, od, dV, kV, doc, pm, an, cdv, ct, osl, rfl, lk, hcd, hD, hK⟩ := F.ex
  rcases hD with ⟨_, rfl⟩ | ⟨e, _⟩
  · exact ⟨⟨oc, od, kV, doc, pm, an, cdv, ct, osl, rfl, lk, hcd⟩, F.kp⟩
  · exact absurd rfl e
theorem funX {fa : List Fa} {fn : List DefD} {K : PySem.W.Frag} (c : SaysD fa fn K) (i : Nat) {at_ : Str × Option Str} {name qual : Str} {st : Stmt} (h : fn[i]? = some (dX at_ name qual st) := by rfl) : ∃ fd, L2.Fun K name qual st (fAd K at_) fd :=
  let ⟨fd, F⟩ := c.def_ i h
  ⟨fd, plainD F⟩
def neB (K : PySem.W.Frag) (C : Addr) : Bool := eqO (PySem.W.findIn K (.ref C) "__ne__") (some (some (.builtin "object.__ne__"))) && (eqO (PySem.W.findIn K (.ref C) "__eq__") (some (some (.ref (ma K C "__eq__")))) && (PySem.W.isFn K (.ref (ma K C "__eq__")) && decide (PySem.W.subIn K (.ref C) (.type "object") = some true)))
theorem neB_ok {K : PySem.W.Frag} {C : Addr} (h : neB K C = true) : PySem.W.NoNe K C (ma K C "__eq__") := by
  obtain ⟨h1, h⟩ := ba h
  obtain ⟨h2, h⟩ := ba h
  obtain ⟨h3, h4⟩ := ba h
  exact ⟨eqO_ok h1, eqO_ok h2, h3, of_decide_eq_true h4⟩
/-- no method of its own for such an assignment -/
def noInB (K : PySem.W.Frag) (C : Addr) (i : Str) : Bool := (match PySem.W.clsIn K C with
  | some cd => cd.mro == [.ref C, .type "object"]
  | none => false) && (eqO (PySem.W.findIn K (.ref C) i) (some none) && eqO (PySem.W.findIn K (.type "object") i) (some none))
theorem noInB_ok {K : PySem.W.Frag} {C : Addr} {i : Str} (h : noInB K C i = true) : NoInp K C i := by
  obtain ⟨h1, h⟩ := ba h
  obtain ⟨h2, h3⟩ := ba h
  refine ⟨?_, eqO_ok h2, eqO_ok h3⟩
  split at h1
  · rename_i cd e
    exact ⟨cd, e, eq_of_beq h1⟩
  · cases h1
def fnR : List DefD := [dX ("is_whole", none) "is_whole" "is_whole" sIsWhole,
  dX ("is_letter", none) "is_letter" "is_letter" sIsLetter,
  dX ("is_values", none) "is_values" "is_values" sIsValues,
  dX ("letter", none) "letter" "letter" sLetter,
  dX ("number", none) "number" "number" sNumber,
  dX ("right_side", none) "right_side" "right_side" sRightSide,
  dX ("without_noughts", none) "without_noughts" "without_noughts" sWithout,
  dX ("product_at", none) "product_at" "product_at" sProductAt,
  dX ("lowest", none) "lowest" "lowest" sLowest,
  dX ("fraction_sum", none) "fraction_sum" "fraction_sum" sFracSum,
  dX ("fraction_product", none) "fraction_product" "fraction_product" sFracProd,
  dX ("_law_purse", none) "_law_purse" "_law_purse" sPurse,
  dX ("_law_mixed", none) "_law_mixed" "_law_mixed" sMixed,
  dX ("_law_draw", none) "_law_draw" "_law_draw" sDraw,
  dX ("_law_purses", none) "_law_purses" "_law_purses" sPurses,
  dX ("_law_one_of", none) "_law_one_of" "_law_one_of" sOneOf,
  dX ("_law_tree", none) "_law_tree" "_law_tree" sTree,
  dX ("_law_worth", none) "_law_worth" "_law_worth" sWorth,
  dX ("_law_form", none) "_law_form" "_law_form" sLawForm,
  dX ("_law_whole_at", none) "_law_whole_at" "_law_whole_at" sWholeAt,
  dX ("_law_values", none) "_law_values" "_law_values" sValues,
  dX ("_law_names", none) "_law_names" "_law_names" sNames,
  dX ("_law_common", none) "_law_common" "_law_common" sCommon,
  dX ("_law_terms_right", none) "_law_terms_right" "_law_terms_right" sTermsR,
  dX ("_law_form_right", none) "_law_form_right" "_law_form_right" sFormR,
  dX ("_law_put_right", none) "_law_put_right" "_law_put_right" sPutR,
  dX ("_law_wholes_right", none) "_law_wholes_right" "_law_wholes_right" sWholesR,
  dX ("_law_fractions_right", none) "_law_fractions_right" "_law_fractions_right" sFracRight,
  dX ("_law_put_once_right", none) "_law_put_once_right" "_law_put_once_right" sPutOnce,
  dX ("law", none) "law" "law" sLaw,
  dX ("Form", some "__init__") "__init__" "Form.__init__" sInit,
  dX ("Form", some "__add__") "__add__" "Form.__add__" sAdd,
  dX ("Form", some "__sub__") "__sub__" "Form.__sub__" sSub,
  dX ("Form", some "__mul__") "__mul__" "Form.__mul__" sMul,
  dX ("Form", some "__neg__") "__neg__" "Form.__neg__" sNeg,
  dX ("Form", some "__eq__") "__eq__" "Form.__eq__" sEq,
  dX ("Form", some "over") "over" "Form.over" sOver,
  dX ("Form", some "terms") "terms" "Form.terms" sTerms,
  dX ("Form", some "letters") "letters" "Form.letters" sLetters,
  dX ("Form", some "degree") "degree" "Form.degree" sDegree,
  dX ("Form", some "at") "at" "Form.at" sAt,
  dX ("Form", some "put") "put" "Form.put" sPut,
  dX ("Form", some "by_powers") "by_powers" "Form.by_powers" sPow]
def faR : List Fa := [.glo "is_whole", .glo "is_letter", .glo "is_values", .glo "letter", .glo "number", .glo "right_side", .glo "without_noughts", .glo "product_at", .glo "lowest", .glo "fraction_sum", .glo "fraction_product", .glo "_law_purse", .glo "_law_mixed", .glo "_law_draw", .glo "_law_purses", .glo "_law_one_of", .glo "_law_tree", .glo "_law_worth", .glo "_law_form", .glo "_law_whole_at", .glo "_law_values", .glo "_law_names", .glo "_law_common", .glo "_law_terms_right", .glo "_law_form_right", .glo "_law_put_right", .glo "_law_wholes_right", .glo "_law_fractions_right", .glo "_law_put_once_right", .glo "law", .glo "Form", .free "isinstance", .free "int", .free "bool", .free "str", .free "len", .free "all", .free "tuple", .free "sorted", .free "dict", .free "sum", .free "max", .free "min", .free "range", .free "list", .free "abs", .free "reversed", .free "set", .free "repr", .cls "Form", .noat "Form" "_parts", .mkr "Form", .meth "Form" "over", .meth "Form" "terms", .meth "Form" "letters", .meth "Form" "degree", .meth "Form" "at", .meth "Form" "put", .meth "Form" "by_powers"]
def bsR (K : PySem.W.Frag) : List Bool := [bltB K "gcd" "math.gcd", bltB K "lcm" "math.lcm", ownB K (ga K "Form") "__add__", ownB K (ga K "Form") "__sub__", ownB K (ga K "Form") "__mul__", ownB K (ga K "Form") "__neg__", ownIB K (ga K "Form") "add", ownIB K (ga K "Form") "sub", ownIB K (ga K "Form") "mul", insB K (ga K "Form"), decide (PySem.W.kitOne K (.ref (ga K "Form")) (.type "int") = some false), neB K (ga K "Form"), noInB K (ga K "Form") (PySem.dunderI "add"), noInB K (ga K "Form") (PySem.dunderI "sub")]
def exR (K : PySem.W.Frag) : Bool := (bsR K).all id
def tsR : List Tab := []
def pT : Defn := ("Form", some "terms")
def qT : Str := "Form.terms.<locals>.<lambda>"
section
variable {P : Program} {w : World} {K : PySem.W.Frag} {mg : Str → Option Value} {base : Heap} {C : Addr}
theorem cal_of {x : Str} {f : Addr} {fd : FuncData} {ps : List Str} {k : Nat} {sp : Sp} (kp : PySem.W.keepIn K (.ref f) = true) (g : mg x = some (.ref f)) (b : Binds K fd ps []) (O : FnOk P w K mg base CX0 k f fd ps sp) : Cal P w K mg base k x sp [] := ⟨f, fd, ps, [], O, g, kp, b, .nil⟩
theorem never_ok {f : Addr} {fd : FuncData} {ps : List Str} {k : Nat} {sp : Sp} (h : ∀ vs H Q E, ¬ sp vs H Q E) : FnOk P w K mg base CX0 k f fd ps sp := ⟨fun vs H Q E q => (h vs H Q E q).elim, fun A outer s H args us vs Q E _ _ _ _ q => (h vs H Q E q).elim⟩
theorem all_tree {f : Addr} {fd : FuncData} (F : L2.Fun K "_law_tree" "_law_tree" sTree f fd) (g : mg "_law_tree" = some (.ref f)) (b : Binds K fd ["_law_purse_here", "_law_depth", "_law_names_here"] []) (D : Cal P w K mg base 2 "_law_draw" spDraw []) (O : Cal P w K mg base 3 "_law_one_of" (spOneOf K) []) :
    ∀ d, d ≤ 3 → FnOk P w K mg base CX0 (5 + d) f fd ["_law_purse_here", "_law_depth", "_law_names_here"] (spTree K d)
  | 0, h => ok_tree F 0 h D O (cal_of F.kp g b (never_ok fun _ _ _ _ z => z))
  | d + 1, h => ok_tree F (d + 1) h D O (cal_of F.kp g b ((all_tree F g b D O d (by omega)).mono (by omega)))
theorem all_worth {f : Addr} {fd : FuncData} (F : L2.Fun K "_law_worth" "_law_worth" sWorth f fd) (g : mg "_law_worth" = some (.ref f)) (b : Binds K fd ["_law_tree_here", "_law_values_here"] []) :
    ∀ d, d ≤ 3 → FnOk P w K mg base CX0 (2 + d) f fd ["_law_tree_here", "_law_values_here"] (spWorth K d)
  | 0, h => ok_worth F 0 h (cal_of F.kp g b (never_ok fun _ _ _ _ z => z))
  | d + 1, h => ok_worth F (d + 1) h (cal_of F.kp g b ((all_worth F g b d (by omega)).mono (by omega)))
theorem all_form {f : Addr} {fd : FuncData} (F : L2.Fun K "_law_form" "_law_form" sLawForm f fd) (g : mg "_law_form" = some (.ref f)) (b : Binds K fd ["_law_tree_here"] []) (Nu : Cal P w K mg base 3 "number" (spNumber P w K C) []) (Le : Cal P w K mg base 3 "letter" (spLetter P w K C) []) (Ov : Met P w K mg base 4 C "over" (spOver P w K C) [])
    (Oa : OpM P w K mg base 5 C "__add__" (spAdd P w K C)) (Os : OpM P w K mg base 6 C "__sub__" (spSub P w K C)) (Om : OpM P w K mg base 5 C "__mul__" (spMul P w K C)) :
    ∀ d, d ≤ 3 → FnOk P w K mg base CX0 (7 + d) f fd ["_law_tree_here"] (spLawForm P w K C d)
  | 0, h => ok_lawForm F 0 h Nu Le Ov Oa Os Om (cal_of F.kp g b (never_ok fun _ _ _ _ z => z))
  | d + 1, h => ok_lawForm F (d + 1) h Nu Le Ov Oa Os Om (cal_of F.kp g b ((all_form F g b Nu Le Ov Oa Os Om d (by omega)).mono (by omega)))
end
theorem code_of {K : PySem.W.Frag} {x qual : Str} {st : Stmt} {p : Defn} {fd : FuncData} (F : L2.Fun K x qual st (fAd K p) fd) : fd.code = .ref (He.cT K p).1 := by
  obtain ⟨oc, od, kV, doc, pm, an, cdv, ct, osl, rfl, lk, hcd⟩ := F.ex
  obtain ⟨c, rfl⟩ := codeIn_ref hcd
  show Value.ref c = Value.ref (codeOf K p)
  rw [codeOf_eq lk rfl]
theorem facts {P : Program} {w : World} {K : PySem.W.Frag} {h : Heap} {mg : Str → Option Value} {fl : Addr} (X : K.In h) (G : h.Ns mainGlobals mg) (hfa : mg "law" = some (.ref fl)) (c : SaysX faR fnR tsR [pT] exR w h K) :
    ∃ fd : FuncData, (∀ (s : Shared) (u : Value), BindsTo s fd ⟨[u], []⟩ [("_law_script", u)]) ∧ ∀ base : Heap, K.In base → base.Ns mainGlobals mg → (∀ p ∈ [He.cT K pT], TabB base mg p.1 p.2) → FnG P w K mg base 11 fl fd ["_law_script"] (spLaw [((He.cT K pT).2, qT)] K) := by
  have cd := c.t.d
  have cc : ((bsR K).all id) = true := c.more
  obtain ⟨d_is_whole, F_is_whole⟩ := funX cd 0 (at_ := ("is_whole", none)) (name := "is_whole") (qual := "is_whole") (st := sIsWhole) rfl
  have g_is_whole : mg "is_whole" = some (.ref (ga K "is_whole")) := glo_ok X G (cd.fact 0 (f := .glo "is_whole") rfl)
  have b_is_whole := F_is_whole.binds (ps := ["value"]) fun _ _ _ _ _ _ us hl => match us, hl with | [_], _ => rfl
  obtain ⟨d_is_letter, F_is_letter⟩ := funX cd 1 (at_ := ("is_letter", none)) (name := "is_letter") (qual := "is_letter") (st := sIsLetter) rfl
  have g_is_letter : mg "is_letter" = some (.ref (ga K "is_letter")) := glo_ok X G (cd.fact 1 (f := .glo "is_letter") rfl)
  have b_is_letter := F_is_letter.binds (ps := ["name"]) fun _ _ _ _ _ _ us hl => match us, hl with | [_], _ => rfl
  obtain ⟨d_is_values, F_is_values⟩ := funX cd 2 (at_ := ("is_values", none)) (name := "is_values") (qual := "is_values") (st := sIsValues) rfl
  have g_is_values : mg "is_values" = some (.ref (ga K "is_values")) := glo_ok X G (cd.fact 2 (f := .glo "is_values") rfl)
  have b_is_values := F_is_values.binds (ps := ["values", "names"]) fun _ _ _ _ _ _ us hl => match us, hl with | [_, _], _ => rfl
  obtain ⟨d_letter, F_letter⟩ := funX cd 3 (at_ := ("letter", none)) (name := "letter") (qual := "letter") (st := sLetter) rfl
  have g_letter : mg "letter" = some (.ref (ga K "letter")) := glo_ok X G (cd.fact 3 (f := .glo "letter") rfl)
  have b_letter := F_letter.binds (ps := ["name"]) fun _ _ _ _ _ _ us hl => match us, hl with | [_], _ => rfl
  obtain ⟨d_number, F_number⟩ := funX cd 4 (at_ := ("number", none)) (name := "number") (qual := "number") (st := sNumber) rfl
  have g_number : mg "number" = some (.ref (ga K "number")) := glo_ok X G (cd.fact 4 (f := .glo "number") rfl)
  have b_number := F_number.binds (ps := ["value"]) fun _ _ _ _ _ _ us hl => match us, hl with | [_], _ => rfl
  obtain ⟨d_right_side, F_right_side⟩ := funX cd 5 (at_ := ("right_side", none)) (name := "right_side") (qual := "right_side") (st := sRightSide) rfl
  have g_right_side : mg "right_side" = some (.ref (ga K "right_side")) := glo_ok X G (cd.fact 5 (f := .glo "right_side") rfl)
  have b_right_side := F_right_side.binds (ps := ["other"]) fun _ _ _ _ _ _ us hl => match us, hl with | [_], _ => rfl
  obtain ⟨d_without_noughts, F_without_noughts⟩ := funX cd 6 (at_ := ("without_noughts", none)) (name := "without_noughts") (qual := "without_noughts") (st := sWithout) rfl
  have g_without_noughts : mg "without_noughts" = some (.ref (ga K "without_noughts")) := glo_ok X G (cd.fact 6 (f := .glo "without_noughts") rfl)
  have b_without_noughts := F_without_noughts.binds (ps := ["parts"]) fun _ _ _ _ _ _ us hl => match us, hl with | [_], _ => rfl
  obtain ⟨d_product_at, F_product_at⟩ := funX cd 7 (at_ := ("product_at", none)) (name := "product_at") (qual := "product_at") (st := sProductAt) rfl
  have g_product_at : mg "product_at" = some (.ref (ga K "product_at")) := glo_ok X G (cd.fact 7 (f := .glo "product_at") rfl)
  have b_product_at := F_product_at.binds (ps := ["names", "values"]) fun _ _ _ _ _ _ us hl => match us, hl with | [_, _], _ => rfl
  obtain ⟨d_lowest, F_lowest⟩ := funX cd 8 (at_ := ("lowest", none)) (name := "lowest") (qual := "lowest") (st := sLowest) rfl
  have g_lowest : mg "lowest" = some (.ref (ga K "lowest")) := glo_ok X G (cd.fact 8 (f := .glo "lowest") rfl)
  have b_lowest := F_lowest.binds (ps := ["top", "bottom"]) fun _ _ _ _ _ _ us hl => match us, hl with | [_, _], _ => rfl
  obtain ⟨d_fraction_sum, F_fraction_sum⟩ := funX cd 9 (at_ := ("fraction_sum", none)) (name := "fraction_sum") (qual := "fraction_sum") (st := sFracSum) rfl
  have g_fraction_sum : mg "fraction_sum" = some (.ref (ga K "fraction_sum")) := glo_ok X G (cd.fact 9 (f := .glo "fraction_sum") rfl)
  have b_fraction_sum := F_fraction_sum.binds (ps := ["one", "other"]) fun _ _ _ _ _ _ us hl => match us, hl with | [_, _], _ => rfl
  obtain ⟨d_fraction_product, F_fraction_product⟩ := funX cd 10 (at_ := ("fraction_product", none)) (name := "fraction_product") (qual := "fraction_product") (st := sFracProd) rfl
  have g_fraction_product : mg "fraction_product" = some (.ref (ga K "fraction_product")) := glo_ok X G (cd.fact 10 (f := .glo "fraction_product") rfl)
  have b_fraction_product := F_fraction_product.binds (ps := ["one", "other"]) fun _ _ _ _ _ _ us hl => match us, hl with | [_, _], _ => rfl
  obtain ⟨d__law_purse, F__law_purse⟩ := funX cd 11 (at_ := ("_law_purse", none)) (name := "_law_purse") (qual := "_law_purse") (st := sPurse) rfl
  have g__law_purse : mg "_law_purse" = some (.ref (ga K "_law_purse")) := glo_ok X G (cd.fact 11 (f := .glo "_law_purse") rfl)
  have b__law_purse := F__law_purse.binds (ps := ["_law_script", "_law_at"]) fun _ _ _ _ _ _ us hl => match us, hl with | [_, _], _ => rfl
  obtain ⟨d__law_mixed, F__law_mixed⟩ := funX cd 12 (at_ := ("_law_mixed", none)) (name := "_law_mixed") (qual := "_law_mixed") (st := sMixed) rfl
  have g__law_mixed : mg "_law_mixed" = some (.ref (ga K "_law_mixed")) := glo_ok X G (cd.fact 12 (f := .glo "_law_mixed") rfl)
  have b__law_mixed := F__law_mixed.binds (ps := ["_law_seed", "_law_turn", "_law_at"]) fun _ _ _ _ _ _ us hl => match us, hl with | [_, _, _], _ => rfl
  obtain ⟨d__law_draw, F__law_draw⟩ := funX cd 13 (at_ := ("_law_draw", none)) (name := "_law_draw") (qual := "_law_draw") (st := sDraw) rfl
  have g__law_draw : mg "_law_draw" = some (.ref (ga K "_law_draw")) := glo_ok X G (cd.fact 13 (f := .glo "_law_draw") rfl)
  have b__law_draw := F__law_draw.binds (ps := ["_law_purse_here", "_law_many"]) fun _ _ _ _ _ _ us hl => match us, hl with | [_, _], _ => rfl
  obtain ⟨d__law_purses, F__law_purses⟩ := funX cd 14 (at_ := ("_law_purses", none)) (name := "_law_purses") (qual := "_law_purses") (st := sPurses) rfl
  have g__law_purses : mg "_law_purses" = some (.ref (ga K "_law_purses")) := glo_ok X G (cd.fact 14 (f := .glo "_law_purses") rfl)
  have b__law_purses := F__law_purses.binds (ps := ["_law_script", "_law_few"]) fun _ _ _ _ _ _ us hl => match us, hl with | [_, _], _ => rfl
  obtain ⟨d__law_one_of, F__law_one_of⟩ := funX cd 15 (at_ := ("_law_one_of", none)) (name := "_law_one_of") (qual := "_law_one_of") (st := sOneOf) rfl
  have g__law_one_of : mg "_law_one_of" = some (.ref (ga K "_law_one_of")) := glo_ok X G (cd.fact 15 (f := .glo "_law_one_of") rfl)
  have b__law_one_of := F__law_one_of.binds (ps := ["_law_purse_here", "_law_some"]) fun _ _ _ _ _ _ us hl => match us, hl with | [_, _], _ => rfl
  obtain ⟨d__law_tree, F__law_tree⟩ := funX cd 16 (at_ := ("_law_tree", none)) (name := "_law_tree") (qual := "_law_tree") (st := sTree) rfl
  have g__law_tree : mg "_law_tree" = some (.ref (ga K "_law_tree")) := glo_ok X G (cd.fact 16 (f := .glo "_law_tree") rfl)
  have b__law_tree := F__law_tree.binds (ps := ["_law_purse_here", "_law_depth", "_law_names_here"]) fun _ _ _ _ _ _ us hl => match us, hl with | [_, _, _], _ => rfl
  obtain ⟨d__law_worth, F__law_worth⟩ := funX cd 17 (at_ := ("_law_worth", none)) (name := "_law_worth") (qual := "_law_worth") (st := sWorth) rfl
  have g__law_worth : mg "_law_worth" = some (.ref (ga K "_law_worth")) := glo_ok X G (cd.fact 17 (f := .glo "_law_worth") rfl)
  have b__law_worth := F__law_worth.binds (ps := ["_law_tree_here", "_law_values_here"]) fun _ _ _ _ _ _ us hl => match us, hl with | [_, _], _ => rfl
  obtain ⟨d__law_form, F__law_form⟩ := funX cd 18 (at_ := ("_law_form", none)) (name := "_law_form") (qual := "_law_form") (st := sLawForm) rfl
  have g__law_form : mg "_law_form" = some (.ref (ga K "_law_form")) := glo_ok X G (cd.fact 18 (f := .glo "_law_form") rfl)
  have b__law_form := F__law_form.binds (ps := ["_law_tree_here"]) fun _ _ _ _ _ _ us hl => match us, hl with | [_], _ => rfl
  obtain ⟨d__law_whole_at, F__law_whole_at⟩ := funX cd 19 (at_ := ("_law_whole_at", none)) (name := "_law_whole_at") (qual := "_law_whole_at") (st := sWholeAt) rfl
  have g__law_whole_at : mg "_law_whole_at" = some (.ref (ga K "_law_whole_at")) := glo_ok X G (cd.fact 19 (f := .glo "_law_whole_at") rfl)
  have b__law_whole_at := F__law_whole_at.binds (ps := ["_law_tree_here", "_law_values_here"]) fun _ _ _ _ _ _ us hl => match us, hl with | [_, _], _ => rfl
  obtain ⟨d__law_values, F__law_values⟩ := funX cd 20 (at_ := ("_law_values", none)) (name := "_law_values") (qual := "_law_values") (st := sValues) rfl
  have g__law_values : mg "_law_values" = some (.ref (ga K "_law_values")) := glo_ok X G (cd.fact 20 (f := .glo "_law_values") rfl)
  have b__law_values := F__law_values.binds (ps := ["_law_purse_here", "_law_names_here"]) fun _ _ _ _ _ _ us hl => match us, hl with | [_, _], _ => rfl
  obtain ⟨d__law_names, F__law_names⟩ := funX cd 21 (at_ := ("_law_names", none)) (name := "_law_names") (qual := "_law_names") (st := sNames) rfl
  have g__law_names : mg "_law_names" = some (.ref (ga K "_law_names")) := glo_ok X G (cd.fact 21 (f := .glo "_law_names") rfl)
  have b__law_names := F__law_names.binds (ps := ["_law_purse_here", "_law_many"]) fun _ _ _ _ _ _ us hl => match us, hl with | [_, _], _ => rfl
  obtain ⟨d__law_common, F__law_common⟩ := funX cd 22 (at_ := ("_law_common", none)) (name := "_law_common") (qual := "_law_common") (st := sCommon) rfl
  have g__law_common : mg "_law_common" = some (.ref (ga K "_law_common")) := glo_ok X G (cd.fact 22 (f := .glo "_law_common") rfl)
  have b__law_common := F__law_common.binds (ps := ["_law_one", "_law_other"]) fun _ _ _ _ _ _ us hl => match us, hl with | [_, _], _ => rfl
  obtain ⟨d__law_terms_right, F__law_terms_right⟩ := funX cd 23 (at_ := ("_law_terms_right", none)) (name := "_law_terms_right") (qual := "_law_terms_right") (st := sTermsR) rfl
  have g__law_terms_right : mg "_law_terms_right" = some (.ref (ga K "_law_terms_right")) := glo_ok X G (cd.fact 23 (f := .glo "_law_terms_right") rfl)
  have b__law_terms_right := F__law_terms_right.binds (ps := ["_law_terms", "_law_values_here", "_law_form_here"]) fun _ _ _ _ _ _ us hl => match us, hl with | [_, _, _], _ => rfl
  obtain ⟨d__law_form_right, F__law_form_right⟩ := funX cd 24 (at_ := ("_law_form_right", none)) (name := "_law_form_right") (qual := "_law_form_right") (st := sFormR) rfl
  have g__law_form_right : mg "_law_form_right" = some (.ref (ga K "_law_form_right")) := glo_ok X G (cd.fact 24 (f := .glo "_law_form_right") rfl)
  have b__law_form_right := F__law_form_right.binds (ps := ["_law_purse_here", "_law_form_here", "_law_names_here"]) fun _ _ _ _ _ _ us hl => match us, hl with | [_, _, _], _ => rfl
  obtain ⟨d__law_put_right, F__law_put_right⟩ := funX cd 25 (at_ := ("_law_put_right", none)) (name := "_law_put_right") (qual := "_law_put_right") (st := sPutR) rfl
  have g__law_put_right : mg "_law_put_right" = some (.ref (ga K "_law_put_right")) := glo_ok X G (cd.fact 25 (f := .glo "_law_put_right") rfl)
  have b__law_put_right := F__law_put_right.binds (ps := ["_law_purse_here", "_law_tree_here", "_law_other", "_law_names_here"]) fun _ _ _ _ _ _ us hl => match us, hl with | [_, _, _, _], _ => rfl
  obtain ⟨d__law_wholes_right, F__law_wholes_right⟩ := funX cd 26 (at_ := ("_law_wholes_right", none)) (name := "_law_wholes_right") (qual := "_law_wholes_right") (st := sWholesR) rfl
  have g__law_wholes_right : mg "_law_wholes_right" = some (.ref (ga K "_law_wholes_right")) := glo_ok X G (cd.fact 26 (f := .glo "_law_wholes_right") rfl)
  have b__law_wholes_right := F__law_wholes_right.binds (ps := ["_law_form_here"]) fun _ _ _ _ _ _ us hl => match us, hl with | [_], _ => rfl
  obtain ⟨d__law_fractions_right, F__law_fractions_right⟩ := funX cd 27 (at_ := ("_law_fractions_right", none)) (name := "_law_fractions_right") (qual := "_law_fractions_right") (st := sFracRight) rfl
  have g__law_fractions_right : mg "_law_fractions_right" = some (.ref (ga K "_law_fractions_right")) := glo_ok X G (cd.fact 27 (f := .glo "_law_fractions_right") rfl)
  have b__law_fractions_right := F__law_fractions_right.binds (ps := []) fun _ _ _ _ _ _ us hl => match us, hl with | [], _ => rfl
  obtain ⟨d__law_put_once_right, F__law_put_once_right⟩ := funX cd 28 (at_ := ("_law_put_once_right", none)) (name := "_law_put_once_right") (qual := "_law_put_once_right") (st := sPutOnce) rfl
  have g__law_put_once_right : mg "_law_put_once_right" = some (.ref (ga K "_law_put_once_right")) := glo_ok X G (cd.fact 28 (f := .glo "_law_put_once_right") rfl)
  have b__law_put_once_right := F__law_put_once_right.binds (ps := []) fun _ _ _ _ _ _ us hl => match us, hl with | [], _ => rfl
  obtain ⟨d_law, F_law⟩ := funX cd 29 (at_ := ("law", none)) (name := "law") (qual := "law") (st := sLaw) rfl
  have g_law : mg "law" = some (.ref (ga K "law")) := glo_ok X G (cd.fact 29 (f := .glo "law") rfl)
  have b_law := F_law.binds (ps := ["_law_script"]) fun _ _ _ _ _ _ us hl => match us, hl with | [_], _ => rfl
  obtain ⟨d_Form___init__, F_Form___init__⟩ := funX cd 30 (at_ := ("Form", some "__init__")) (name := "__init__") (qual := "Form.__init__") (st := sInit) rfl
  have b_Form___init__ := F_Form___init__.binds (ps := ["self", "parts"]) fun _ _ _ _ _ _ us hl => match us, hl with | [_, _], _ => rfl
  obtain ⟨d_Form___add__, F_Form___add__⟩ := funX cd 31 (at_ := ("Form", some "__add__")) (name := "__add__") (qual := "Form.__add__") (st := sAdd) rfl
  have b_Form___add__ := F_Form___add__.binds (ps := ["self", "other"]) fun _ _ _ _ _ _ us hl => match us, hl with | [_, _], _ => rfl
  obtain ⟨d_Form___sub__, F_Form___sub__⟩ := funX cd 32 (at_ := ("Form", some "__sub__")) (name := "__sub__") (qual := "Form.__sub__") (st := sSub) rfl
  have b_Form___sub__ := F_Form___sub__.binds (ps := ["self", "other"]) fun _ _ _ _ _ _ us hl => match us, hl with | [_, _], _ => rfl
  obtain ⟨d_Form___mul__, F_Form___mul__⟩ := funX cd 33 (at_ := ("Form", some "__mul__")) (name := "__mul__") (qual := "Form.__mul__") (st := sMul) rfl
  have b_Form___mul__ := F_Form___mul__.binds (ps := ["self", "other"]) fun _ _ _ _ _ _ us hl => match us, hl with | [_, _], _ => rfl
  obtain ⟨d_Form___neg__, F_Form___neg__⟩ := funX cd 34 (at_ := ("Form", some "__neg__")) (name := "__neg__") (qual := "Form.__neg__") (st := sNeg) rfl
  have b_Form___neg__ := F_Form___neg__.binds (ps := ["self"]) fun _ _ _ _ _ _ us hl => match us, hl with | [_], _ => rfl
  obtain ⟨d_Form___eq__, F_Form___eq__⟩ := funX cd 35 (at_ := ("Form", some "__eq__")) (name := "__eq__") (qual := "Form.__eq__") (st := sEq) rfl
  have b_Form___eq__ := F_Form___eq__.binds (ps := ["self", "other"]) fun _ _ _ _ _ _ us hl => match us, hl with | [_, _], _ => rfl
  obtain ⟨d_Form_over, F_Form_over⟩ := funX cd 36 (at_ := ("Form", some "over")) (name := "over") (qual := "Form.over") (st := sOver) rfl
  have b_Form_over := F_Form_over.binds (ps := ["self", "divisor"]) fun _ _ _ _ _ _ us hl => match us, hl with | [_, _], _ => rfl
  obtain ⟨d_Form_terms, F_Form_terms⟩ := funX cd 37 (at_ := ("Form", some "terms")) (name := "terms") (qual := "Form.terms") (st := sTerms) rfl
  have b_Form_terms := F_Form_terms.binds (ps := ["self"]) fun _ _ _ _ _ _ us hl => match us, hl with | [_], _ => rfl
  obtain ⟨d_Form_letters, F_Form_letters⟩ := funX cd 38 (at_ := ("Form", some "letters")) (name := "letters") (qual := "Form.letters") (st := sLetters) rfl
  have b_Form_letters := F_Form_letters.binds (ps := ["self"]) fun _ _ _ _ _ _ us hl => match us, hl with | [_], _ => rfl
  obtain ⟨d_Form_degree, F_Form_degree⟩ := funX cd 39 (at_ := ("Form", some "degree")) (name := "degree") (qual := "Form.degree") (st := sDegree) rfl
  have b_Form_degree := F_Form_degree.binds (ps := ["self"]) fun _ _ _ _ _ _ us hl => match us, hl with | [_], _ => rfl
  obtain ⟨d_Form_at, F_Form_at⟩ := funX cd 40 (at_ := ("Form", some "at")) (name := "at") (qual := "Form.at") (st := sAt) rfl
  have b_Form_at := F_Form_at.binds (ps := ["self", "values"]) fun _ _ _ _ _ _ us hl => match us, hl with | [_, _], _ => rfl
  obtain ⟨d_Form_put, F_Form_put⟩ := funX cd 41 (at_ := ("Form", some "put")) (name := "put") (qual := "Form.put") (st := sPut) rfl
  have b_Form_put := F_Form_put.binds (ps := ["self", "name", "other"]) fun _ _ _ _ _ _ us hl => match us, hl with | [_, _, _], _ => rfl
  obtain ⟨d_Form_by_powers, F_Form_by_powers⟩ := funX cd 42 (at_ := ("Form", some "by_powers")) (name := "by_powers") (qual := "Form.by_powers") (st := sPow) rfl
  have b_Form_by_powers := F_Form_by_powers.binds (ps := ["self", "name"]) fun _ _ _ _ _ _ us hl => match us, hl with | [_, _], _ => rfl
  have g_Form : mg "Form" = some (.ref (ga K "Form")) := glo_ok X G (cd.fact 30 (f := .glo "Form") rfl)
  have z_isinstance : mg "isinstance" = none := free_ok X G (cd.fact 31 (f := .free "isinstance") rfl)
  have z_int : mg "int" = none := free_ok X G (cd.fact 32 (f := .free "int") rfl)
  have z_bool : mg "bool" = none := free_ok X G (cd.fact 33 (f := .free "bool") rfl)
  have z_str : mg "str" = none := free_ok X G (cd.fact 34 (f := .free "str") rfl)
  have z_len : mg "len" = none := free_ok X G (cd.fact 35 (f := .free "len") rfl)
  have z_all : mg "all" = none := free_ok X G (cd.fact 36 (f := .free "all") rfl)
  have z_tuple : mg "tuple" = none := free_ok X G (cd.fact 37 (f := .free "tuple") rfl)
  have z_sorted : mg "sorted" = none := free_ok X G (cd.fact 38 (f := .free "sorted") rfl)
  have z_dict : mg "dict" = none := free_ok X G (cd.fact 39 (f := .free "dict") rfl)
  have z_sum : mg "sum" = none := free_ok X G (cd.fact 40 (f := .free "sum") rfl)
  have z_max : mg "max" = none := free_ok X G (cd.fact 41 (f := .free "max") rfl)
  have z_min : mg "min" = none := free_ok X G (cd.fact 42 (f := .free "min") rfl)
  have z_range : mg "range" = none := free_ok X G (cd.fact 43 (f := .free "range") rfl)
  have z_list : mg "list" = none := free_ok X G (cd.fact 44 (f := .free "list") rfl)
  have z_abs : mg "abs" = none := free_ok X G (cd.fact 45 (f := .free "abs") rfl)
  have z_reversed : mg "reversed" = none := free_ok X G (cd.fact 46 (f := .free "reversed") rfl)
  have z_set : mg "set" = none := free_ok X G (cd.fact 47 (f := .free "set") rfl)
  have z_repr : mg "repr" = none := free_ok X G (cd.fact 48 (f := .free "repr") rfl)
  have cl : Cls K (ga K "Form") := cls_ok (cd.fact 49 (f := .cls "Form") rfl)
  have na : NoAttr K (ga K "Form") "_parts" := noat_ok (cd.fact 50 (f := .noat "Form" "_parts") rfl)
  have mk : Mk K (ga K "Form") (ma K (ga K "Form") "__init__") := mkr_ok (cd.fact 51 (f := .mkr "Form") rfl)
  have m_over := meth_ok (cd.fact 52 (f := .meth "Form" "over") rfl)
  have m_terms := meth_ok (cd.fact 53 (f := .meth "Form" "terms") rfl)
  have m_letters := meth_ok (cd.fact 54 (f := .meth "Form" "letters") rfl)
  have m_degree := meth_ok (cd.fact 55 (f := .meth "Form" "degree") rfl)
  have m_at := meth_ok (cd.fact 56 (f := .meth "Form" "at") rfl)
  have m_put := meth_ok (cd.fact 57 (f := .meth "Form" "put") rfl)
  have m_by_powers := meth_ok (cd.fact 58 (f := .meth "Form" "by_powers") rfl)
  have hgcd : mg "gcd" = some (.builtin "math.gcd") := bltB_ok X G (bool_ok cc 0 rfl)
  have hlcm : mg "lcm" = some (.builtin "math.lcm") := bltB_ok X G (bool_ok cc 1 rfl)
  have oadd := ownB_ok (bool_ok cc 2 (b := ownB K (ga K "Form") "__add__") rfl)
  have osub := ownB_ok (bool_ok cc 3 (b := ownB K (ga K "Form") "__sub__") rfl)
  have omul := ownB_ok (bool_ok cc 4 (b := ownB K (ga K "Form") "__mul__") rfl)
  have oneg := ownB_ok (bool_ok cc 5 (b := ownB K (ga K "Form") "__neg__") rfl)
  have iadd := ownIB_ok (bool_ok cc 6 (b := ownIB K (ga K "Form") "add") rfl)
  have isub := ownIB_ok (bool_ok cc 7 (b := ownIB K (ga K "Form") "sub") rfl)
  have imul := ownIB_ok (bool_ok cc 8 (b := ownIB K (ga K "Form") "mul") rfl)
  have ins := insB_ok cl (bool_ok cc 9 (b := insB K (ga K "Form")) rfl)
  have ki : PySem.W.kitOne K (.ref (ga K "Form")) (.type "int") = some false := of_decide_eq_true (bool_ok cc 10 rfl)
  have none_ := neB_ok (bool_ok cc 11 (b := neB K (ga K "Form")) rfl)
  have nadd := noInB_ok (bool_ok cc 12 (b := noInB K (ga K "Form") (PySem.dunderI "add")) rfl)
  have nsub := noInB_ok (bool_ok cc 13 (b := noInB K (ga K "Form") (PySem.dunderI "sub")) rfl)
  rw [show PySem.dunder "add" = ("__add__" : Str) from rfl] at iadd
  rw [show PySem.dunder "sub" = ("__sub__" : Str) from rfl] at isub
  rw [show PySem.dunder "mul" = ("__mul__" : Str) from rfl] at imul
  have e := hfa.symm.trans g_law
  cases e
  have hcode := code_of (p := pT) F_Form_terms
  refine ⟨d_law, fun s u => bindsA (ps := ["_law_script"]) F_law (fun _ _ _ _ _ _ us hl => match us, hl with | [_], _ => rfl) s [u] rfl, fun base _ _ TBs => ?_⟩
  have TB := TBs _ List.mem_cons_self
  have B : Bt K mg (ga K "Form") := ⟨z_isinstance, z_int, z_bool, ins, ki, g_Form⟩
  have B2 : Bt2 mg := ⟨z_str, z_len, z_all⟩
  have B3 : Bt3 mg := ⟨z_tuple, z_sorted⟩
  have B4 : Bt4 mg := ⟨z_sum, z_max, z_min, z_range, z_len⟩
  have BF : BtF mg := ⟨z_range, z_len, z_max, z_sorted, z_set, z_repr, z_isinstance, z_tuple, z_list⟩
  have T : Fx P w K mg base (ga K "Form") := ⟨cl, na, ⟨_, d_Form___init__, _, [], mk, ok_init F_Form___init__ cl na, g_Form, b_Form___init__, .nil⟩⟩
  have Wh : Cal P w K mg base 1 "is_whole" (spWhole (ga K "Form")) [] := cal_of F_is_whole.kp g_is_whole b_is_whole (ok_whole F_is_whole B)
  have Il : Cal P w K mg base 1 "is_letter" spIsLet [] := cal_of F_is_letter.kp g_is_letter b_is_letter (ok_isLet F_is_letter B B2)
  have Iv : Cal P w K mg base 2 "is_values" (spIsVals P w K) [] := cal_of F_is_values.kp g_is_values b_is_values (ok_isVals F_is_values B B2 z_dict Il Wh)
  have Wo : Cal P w K mg base 1 "without_noughts" (spWithout P w K) [] := cal_of F_without_noughts.kp g_without_noughts b_without_noughts (ok_without F_without_noughts)
  have Le : Cal P w K mg base 3 "letter" (spLetter P w K (ga K "Form")) [] := cal_of F_letter.kp g_letter b_letter (ok_letter F_letter T Il)
  have Nu : Cal P w K mg base 3 "number" (spNumber P w K (ga K "Form")) [] := cal_of F_number.kp g_number b_number (ok_number F_number T Wh Wo)
  have Ri : Cal P w K mg base 4 "right_side" (spRight P w K (ga K "Form")) [] := cal_of F_right_side.kp g_right_side b_right_side (ok_right F_right_side B Wh Nu)
  have Pr : Cal P w K mg base 1 "product_at" (spProd P w K) [] := cal_of F_product_at.kp g_product_at b_product_at (ok_prod F_product_at)
  have Lo : Cal P w K mg base 1 "lowest" spLowest [] := cal_of F_lowest.kp g_lowest b_lowest (ok_lowest F_lowest hgcd)
  have Fs : Cal P w K mg base 2 "fraction_sum" (spFrac K (· + ·)) [] := cal_of F_fraction_sum.kp g_fraction_sum b_fraction_sum (ok_fracSum F_fraction_sum Lo)
  have Fp : Cal P w K mg base 2 "fraction_product" (spFrac K (· * ·)) [] := cal_of F_fraction_product.kp g_fraction_product b_fraction_product (ok_fracProd F_fraction_product Lo)
  have Ov : Met P w K mg base 4 (ga K "Form") "over" (spOver P w K (ga K "Form")) [] := ⟨_, d_Form_over, _, [], cl, m_over, ok_over F_Form_over T Lo Fp Wh, b_Form_over, .nil⟩
  have Ls : Met P w K mg base 2 (ga K "Form") "letters" (spLetters P w K (ga K "Form")) [] := ⟨_, d_Form_letters, _, [], cl, m_letters, ok_letters F_Form_letters T B3, b_Form_letters, .nil⟩
  have De : Met P w K mg base 1 (ga K "Form") "degree" (spDeg P w K (ga K "Form")) [] := ⟨_, d_Form_degree, _, [], cl, m_degree, ok_deg F_Form_degree T z_max z_len, b_Form_degree, .nil⟩
  have At : Met P w K mg base 3 (ga K "Form") "at" (spAt P w K (ga K "Form")) [] := ⟨_, d_Form_at, _, [], cl, m_at, ok_at F_Form_at T hlcm Iv Ls Pr, b_Form_at, .nil⟩
  have fOa : FnOk P w K mg base CX0 5 (ma K (ga K "Form") "__add__") d_Form___add__ _ (spAdd P w K (ga K "Form")) := ok_add F_Form___add__ T Ri Fs Wo
  have Oa : OpM P w K mg base 5 (ga K "Form") "__add__" (spAdd P w K (ga K "Form")) := ⟨_, d_Form___add__, _, oadd, fOa, b_Form___add__⟩
  have On : OpM P w K mg base 3 (ga K "Form") "__neg__" (spNeg P w K (ga K "Form") (fun q => -q)) := ⟨_, d_Form___neg__, _, oneg, ok_neg F_Form___neg__ T, b_Form___neg__⟩
  have fOs : FnOk P w K mg base CX0 6 (ma K (ga K "Form") "__sub__") d_Form___sub__ _ (spSub P w K (ga K "Form")) := ok_sub F_Form___sub__ Ri Oa On
  have Os : OpM P w K mg base 6 (ga K "Form") "__sub__" (spSub P w K (ga K "Form")) := ⟨_, d_Form___sub__, _, osub, fOs, b_Form___sub__⟩
  have fOm : FnOk P w K mg base CX0 5 (ma K (ga K "Form") "__mul__") d_Form___mul__ _ (spMul P w K (ga K "Form")) := ok_mul F_Form___mul__ T B3 Ri Fs Fp Wo
  have Om : OpM P w K mg base 5 (ga K "Form") "__mul__" (spMul P w K (ga K "Form")) := ⟨_, d_Form___mul__, _, omul, fOm, b_Form___mul__⟩
  have Ia : OpI P w K mg base 5 (ga K "Form") "add" (spAdd P w K (ga K "Form")) := ⟨_, d_Form___add__, _, iadd, fOa, b_Form___add__⟩
  have Is : OpI P w K mg base 6 (ga K "Form") "sub" (spSub P w K (ga K "Form")) := ⟨_, d_Form___sub__, _, isub, fOs, b_Form___sub__⟩
  have Im : OpI P w K mg base 5 (ga K "Form") "mul" (spMul P w K (ga K "Form")) := ⟨_, d_Form___mul__, _, imul, fOm, b_Form___mul__⟩
  have Ne : EqM P w K mg base 1 (ga K "Form") := ⟨_, d_Form___eq__, _, none_, ok_eq F_Form___eq__ T B, b_Form___eq__⟩
  have Te : Met P w K mg base 2 (ga K "Form") "terms" (spTerms [((He.cT K pT).2, qT)] P w K (ga K "Form")) [] := ⟨_, d_Form_terms, _, [], cl, m_terms, ok_terms F_Form_terms hcode T B3 z_list z_len TB List.mem_cons_self (fun p hp _ => by rw [List.mem_singleton.mp hp]; rfl), b_Form_terms, .nil⟩
  have Pw : Met P w K mg base 3 (ga K "Form") "by_powers" (spPow P w K (ga K "Form")) [] := ⟨_, d_Form_by_powers, _, [], cl, m_by_powers, ok_pow F_Form_by_powers T B3 z_max z_range, b_Form_by_powers, .nil⟩
  have Pt : Met P w K mg base 6 (ga K "Form") "put" (spPut P w K (ga K "Form")) [] := ⟨_, d_Form_put, _, [], cl, m_put, ok_put F_Form_put T B z_reversed Il Pw Oa Om, b_Form_put, .nil⟩
  have Pu : Cal P w K mg base 1 "_law_purse" (spPurse K) [] := cal_of F__law_purse.kp g__law_purse b__law_purse (ok_purse F__law_purse B4)
  have Mi : Cal P w K mg base 1 "_law_mixed" spMixed [] := cal_of F__law_mixed.kp g__law_mixed b__law_mixed (ok_mixed F__law_mixed)
  have D : Cal P w K mg base 2 "_law_draw" spDraw [] := cal_of F__law_draw.kp g__law_draw b__law_draw (ok_draw F__law_draw B4 Mi)
  have Ps : Cal P w K mg base 2 "_law_purses" (spPurses K) [] := cal_of F__law_purses.kp g__law_purses b__law_purses (ok_purses F__law_purses B4 Pu)
  have Oo : Cal P w K mg base 3 "_law_one_of" (spOneOf K) [] := cal_of F__law_one_of.kp g__law_one_of b__law_one_of (ok_oneOf F__law_one_of B4 D)
  have T2 : Cal P w K mg base 7 "_law_tree" (spTree K 2) [] := cal_of F__law_tree.kp g__law_tree b__law_tree (all_tree F__law_tree g__law_tree b__law_tree D Oo 2 (by decide))
  have T1 : Cal P w K mg base 6 "_law_tree" (spTree K 1) [] := cal_of F__law_tree.kp g__law_tree b__law_tree (all_tree F__law_tree g__law_tree b__law_tree D Oo 1 (by decide))
  have W2 : Cal P w K mg base 4 "_law_worth" (spWorth K 2) [] := cal_of F__law_worth.kp g__law_worth b__law_worth (all_worth F__law_worth g__law_worth b__law_worth 2 (by decide))
  have L2_ : Cal P w K mg base 9 "_law_form" (spLawForm P w K (ga K "Form") 2) [] := cal_of F__law_form.kp g__law_form b__law_form (all_form F__law_form g__law_form b__law_form Nu Le Ov Oa Os Om 2 (by decide))
  have L1_ : Cal P w K mg base 8 "_law_form" (spLawForm P w K (ga K "Form") 1) [] := cal_of F__law_form.kp g__law_form b__law_form (all_form F__law_form g__law_form b__law_form Nu Le Ov Oa Os Om 1 (by decide))
  have Wa : Cal P w K mg base 5 "_law_whole_at" (spWholeAt K 2) [] := cal_of F__law_whole_at.kp g__law_whole_at b__law_whole_at (ok_wholeAt F__law_whole_at 2 (by decide) W2)
  have Va : Cal P w K mg base 3 "_law_values" (spValues K) [] := cal_of F__law_values.kp g__law_values b__law_values (ok_values F__law_values D)
  have Nm : Cal P w K mg base 4 "_law_names" (spNames K) [] := cal_of F__law_names.kp g__law_names b__law_names (ok_names F__law_names B4 D Oo)
  have Cm : Cal P w K mg base 1 "_law_common" spCommon [] := cal_of F__law_common.kp g__law_common b__law_common (ok_common F__law_common z_range z_abs)
  have Tr : Cal P w K mg base 4 "_law_terms_right" (spTermsR P w K (ga K "Form")) [] := cal_of F__law_terms_right.kp g__law_terms_right b__law_terms_right (ok_termsR F__law_terms_right z_sorted z_len Cm At)
  have Fr : CalG P w K mg base 5 "_law_form_right" (spFormR [((He.cT K pT).2, qT)] P w K (ga K "Form")) := ⟨_, _, _, ok_formR F__law_form_right BF Te De Ls Va Tr, g__law_form_right, F__law_form_right.kp, b__law_form_right⟩
  have Pr_ : CalG P w K mg base 10 "_law_put_right" (spPutR [((He.cT K pT).2, qT)] P w K (ga K "Form")) := ⟨_, _, _, ok_putR F__law_put_right z_range z_dict Oo L2_ Va W2 Wa Fr Im Pt At Ne, g__law_put_right, F__law_put_right.kp, b__law_put_right⟩
  have Wr : Cal P w K mg base 7 "_law_wholes_right" (spWholes [((He.cT K pT).2, qT)] P w K (ga K "Form")) [] := cal_of F__law_wholes_right.kp g__law_wholes_right b__law_wholes_right (ok_wholesR F__law_wholes_right Nu Oa Os Om Ia Is Im Ne nadd nsub Ov Te)
  have Fra : Cal P w K mg base 7 "_law_fractions_right" (spTrueT [((He.cT K pT).2, qT)]) [] := cal_of F__law_fractions_right.kp g__law_fractions_right b__law_fractions_right (ok_fracR F__law_fractions_right Le Oa Os Om Im Ne Ov Te De Ls Pt)
  have Po : Cal P w K mg base 7 "_law_put_once_right" (spTrueT [((He.cT K pT).2, qT)]) [] := cal_of F__law_put_once_right.kp g__law_put_once_right b__law_put_once_right (ok_putOnce F__law_put_once_right z_len Le Nu Oa Om Im Ne Te De Ls Pt)
  exact ok_law F_law Po Fra Ps D Nm T2 T1 L2_ L1_ Fr Pr_ Wr Oa Os Om Ne Ov Te
end E2

set_option Elab.async false
set_option linter.all false
set_option maxRecDepth 100000
set_option maxHeartbeats 0
/-! the head: the top's run, and the law -/
namespace E2
open PySem PySem.Spec PyProof.Rows L2 He
abbrev R : PySem.W.OpenRow := PySem.W.OpenLaw.row PySem.Challenge.rw_cellplaces_k03_whole_terms
abbrev hk : PySem.W.Hook := He.hookX 6 faR fnR tsR [pT] exR
def ob (s : PySem.W.SharedT) : He.AlX := He.obsX 6 faR fnR tsR [pT] exR (HandSHeadRun.getT s)
theorem ob_eq (s : PySem.W.SharedT) : ob s = hk.obs s.abs := He.obsX_eq (HandSHeadRun.getT_eq s)
def loose0 : List PySem.Str := ["CellError", "InvalidForm", "InvalidLetter", "InvalidNumber", "InvalidValues", "is_whole", "is_letter", "is_values", "Form", "letter", "number", "right_side"]
def loose1 : List PySem.Str := ["without_noughts", "product_at", "lowest", "fraction_sum", "fraction_product", "_law_purse", "_law_mixed", "_law_draw", "_law_purses", "_law_one_of", "_law_tree", "_law_worth"]
def loose2 : List PySem.Str := ["_law_form", "_law_whole_at", "_law_values", "_law_names", "_law_common", "_law_terms_right", "_law_form_right", "_law_put_right", "_law_wholes_right", "_law_fractions_right", "_law_put_once_right"]
def looseAll : List PySem.Str := loose0 ++ loose1 ++ loose2
theorem run (w : World) : HandSHeadRun.RunEqI R (PySem.W.view R.prog [0, 40]) hk ob 20000 looseAll w := by
  unfold HandSHeadRun.RunEqI; kernel_rfl
end E2
open PySem PySem.W PySem.Calls PyProof.Rows
set_option maxRecDepth 100000 in
set_option maxHeartbeats 0 in
theorem PySem.Challenge.cw_cellplaces_k03_whole_terms_holds : PySem.Challenge.rw_cellplaces_k03_whole_terms.Holds := by
  w_on; o_law
  refine HandSHeadRun.head_imp (r := OpenLaw.row PySem.Challenge.rw_cellplaces_k03_whole_terms) (q := view (OpenLaw.row PySem.Challenge.rw_cellplaces_k03_whole_terms).prog [0, 40]) (H := E2.hk) (ob := E2.ob) (M := 20000) (loose := E2.looseAll) (d := HandSHeadRun.topDef (OpenLaw.row PySem.Challenge.rw_cellplaces_k03_whole_terms).prog 40) (kwd := []) E2.ob_eq
    E2.run (by kernel_rfl) (by kernel_rfl) (by kernel_rfl) (by rfl) (by first | assumption | decide +kernel) (by decide +kernel) ⟨rfl, rfl, rfl, rfl, rfl, by decide +kernel⟩ ?hw ?hc
  case hw => w_witness2
  case hc =>
    refine L2.walk_ofTsG (l := PySem.Challenge.rw_cellplaces_k03_whole_terms) (n := 63) (k := 11) (x := "_law_script") rfl (by decide) (by kernel_rfl) ⟨rfl, by decide, by decide⟩ ?F
    intro w mg fa h Y G hmg0
    obtain ⟨K, KX, c⟩ := Y
    have hmg : mg ("law" : PySem.Str) = some (.ref fa) := by
      have e : (HandSHeadRun.topDef (OpenLaw.row PySem.Challenge.rw_cellplaces_k03_whole_terms).prog 40).name = ("law" : PySem.Str) := by kernel_rfl
      rw [← e]
      exact hmg0
    obtain ⟨fd, hb, hF⟩ := E2.facts (P := (PySem.Challenge.rw_cellplaces_k03_whole_terms).prog) (w := w) KX G hmg c
    have one : ∀ p ∈ [He.cT K E2.pT], p = He.cT K E2.pT := fun p hp => List.mem_singleton.mp hp
    refine ⟨K, fd, [He.cT K E2.pT], E2.spLaw [((He.cT K E2.pT).2, E2.qT)] K, KX, fun p hp => ?_, fun p hp => ?_, fun p hp => ?_, hb, fun H a ns hl hT hS => ⟨a, ns, rfl, hS, hl, fun p hp => ?_, fun _ => rfl⟩, hF⟩
    · rw [one p hp]; exact c.empty _ List.mem_cons_self
    · rw [one p hp]; exact c.out _ List.mem_cons_self
    · rw [one p hp]; exact PySem.W.codeHd_of_K KX (c.hd _ List.mem_cons_self)
    · rw [List.mem_singleton.mp hp]
      exact ⟨#[], hT _ List.mem_cons_self, trivial, fun pos cv e => by cases e⟩
