import PyProof.Rows.All
import Wide.All
import OpenK.AllK
import Wide.FinOn
import HandS.ForExc
import HandS.ExcInit
import HandS.ExcIs
import HandS.ExcField
import HandS.Defaults
import HandS.IsInst
import HandS.ExcValue
import HandS.ForMost
import KE.KOpsOwn
import HandS.DictComp
import HandS.Walk
import HandS.Iter
import KE.KDictWalk
import HandS.Gcd
import HandS.Wide
import HandS.WideBits
import HandS.Conv
import HandS.Codes
import HandS.WordsDict
import KE.KDictDisplayH
import HandS.Text
import HandS.List
import PyProof.TupleOfSeq
import PyProof.Rows.SortShellAny
import HandS.TupAny
import HandS.SetBool
import HandS.Ends
import HandS.Words
import HandS.Head0
import HandS.Head1
import HandS.Head2
import HandS.HeadEnd
import HandS.HeadHook1
import KE.KStateDown
import HandS.Head3
import PySem.Challenge.RW_cellplaces_k02_forms_worked_out
set_option Elab.async false
set_option linter.all false
set_option maxRecDepth 100000
set_option maxHeartbeats 4000000
/-! An own exception class called with one keyword: the maker takes it and lets it be, the own __init__ gets it. -/
namespace KwE
open PySem PySem.W PySem.Calls PyProof.Rows PySem.HandSPX
section
variable {prog : Program} {w : World} {A : Around} {E : Value → Shared → Prop} {R : Result → Shared → Prop} {hp : Heap} {gs : Array GenState} {dr : Drawn} {tk : Nat} {os : OsState}
variable {nm q : Str} {C N fI : Addr} {bs bm bmB : List Value} {hd : Bool} {sn : List Str} {sub : List Value} {ab : Bool} {col : Option Bool} {dd : Option Addr} {k0 k1 k2 k3 k5 : Option Value} {B new_ init_ : String} {us : List Value} {kn : Str} {kv : Value}
/-- what the class's line says of the base's names -/
structure Line (B : String) (C : Addr) (bm : List Value) : Prop where
  b : (Value.ref C :: bm).contains (.type B) = true
  a : (Value.ref C :: bm).contains (.type "AttributeError") = false
  n : (Value.ref C :: bm).contains (.type "NameError") = false
theorem Line.of (F : ExcBaseFacts B new_ init_ bmB) (same : ∀ X : String, bm.contains (.type X) = bmB.contains (.type X)) : Line B C bm := by
  constructor <;> rw [List.contains_cons, same]
  · rw [F.hasB, Bool.or_true]
  · rw [F.noAttr]; rfl
  · rw [F.noName]; rfl
/-- the maker's own check -/
theorem maker_ok {M : Model} {Q : Unit → Shared → Prop} (F : ExcBaseFacts B new_ init_ bmB) (L : Line B C bm) (at_ : hp.get? C = some (excClassObj nm q C N bs bm hd sn sub ab col dd k0 k1 k2 k3 k5 new_)) (h : Q () ⟨hp, gs, dr, tk, os⟩) :
    wpAny M A (checkBuiltinCall new_ ⟨.ref C :: us, [(kn, kv)]⟩) Q E ⟨hp, gs, dr, tk, os⟩ := by
  have star := F.noStar
  simp only [checkBuiltinCall, F.newKind, F.newSplit, F.newRow]
  repeat' first
    | refine wpAny_loadPart_at at_ ?_
    | (refine wpAny_isSubtype_exc at_ ?_
       rw [L.b])
    | refine wpAny_staticBase_exc at_ ?_
    | refine wpAny_madeBy_exc at_ ?_
    | simp only [bne_self_eq_false, Bool.false_eq_true, if_false]
    | wp_step
  exact h
/-- the maker: a tuple of the plain arguments, then the exception over it -/
theorem maker_does (F : ExcBaseFacts B new_ init_ bmB) (L : Line B C bm) (at_ : hp.get? C = some (excClassObj nm q C N bs bm hd sn sub ab col dd k0 k1 k2 k3 k5 new_)) (short : us.length ≤ sizeLine)
    (h : R (.ok (.ret (.ref (hp.objs.size + 1)))) ⟨(hp.push (kdv_tup us)).push (excO C hp.objs.size), gs, dr, tk, os⟩) : codeAny (model prog w) A (.builtin new_ ⟨.ref C :: us, [(kn, kv)]⟩) R ⟨hp, gs, dr, tk, os⟩ := by
  have ends := F.ends
  refine codeAny_builtinAt F.entry ?_
  unfold Builtin.«BaseException.__new__»
  refine PySem.wpAt_bind ?_
  show PySem.wpAt _ _ _ (stack >>= _) _ _ _
  refine PySem.wpAt_bind (PySem.wpAt_stack ?_)
  intro _ _
  refine PySem.wpAt_of_wpAny ?_
  wp_walk
  refine PySem.wpAt_of_wpAny ?_
  rw [F.owner]
  repeat' first
    | with_reducible refine wpAny_madeHere_exc F.canon at_ ?_
    | with_reducible refine wpAny_loadPart_at at_ ?_
    | (with_reducible refine wpAny_isSubtype_exc at_ ?_
       first
         | rw [L.b]
         | rw [L.a]
         | rw [L.n])
    | wp_step
  show R _ _
  rw [Heap.size_push]
  exact h
/-- type.__call__: the maker, then the own __init__ -/
theorem class_does {Q : PySem.Fin → Shared → Prop} (F : ExcBaseFacts B new_ init_ bmB) (L : Line B C bm) (at_ : hp.get? C = some (excClassObj nm q C N bs bm hd sn sub ab col dd k0 k1 k2 k3 k5 new_)) (short : us.length ≤ sizeLine)
    (ini : W.Looks (model prog w) hp (typeLookup (.ref C) "__init__") (some (.ref fI))) (bind : ∀ self, W.Looks (model prog w) hp (bindSpecial (.ref fI) self) (.ref fI, [self]))
    (h : codeAny (model prog w) A (.call (.ref fI) ⟨.ref (hp.objs.size + 1) :: us, [(kn, kv)]⟩)
      (fun r s' => match r with | .ok (.ret v) => v = .none ∧ Q (.done (.ret (.ref (hp.objs.size + 1)))) s' | .ok _ => False | .error e => E e s') ⟨(hp.push (kdv_tup us)).push (excO C hp.objs.size), gs, dr, tk, os⟩) :
    wpAny (model prog w) A (Builtin.«type.__call__» ⟨.ref C :: us, [(kn, kv)]⟩) Q E ⟨hp, gs, dr, tk, os⟩ := by
  have kept : ∀ b o, hp.get? b = some o → ((hp.push (kdv_tup us)).push (excO C hp.objs.size)).get? b = some o := fun _ _ z => Heap.get?_push_of_some _ (Heap.get?_push_of_some _ z)
  have there : ((hp.push (kdv_tup us)).push (excO C hp.objs.size)).get? (hp.objs.size + 1) = some (excO C hp.objs.size) := by heap_get
  have own_ : (Value.ref C :: bm).contains (.ref C) = true := by simp
  repeat' first
    | with_reducible refine wpAny_loadPart_at at_ ?_
    | with_reducible refine wpAny_madeBy_exc at_ ?_
    | wp_step
  refine codeAny_call_builtin_code (Code.quiet_builtin _ F.quiet) (maker_ok F L at_ (maker_does F L at_ short ?_))
  show wpAny _ _ _ _ _ _
  unfold isInstance
  repeat' first
    | with_reducible refine wpAny_loadPart_at there ?_
    | (with_reducible refine wpAny_isSubtype_exc (kept _ _ at_) ?_
       rw [own_])
    | wp_step
  show wpAny _ _ (typeLookup (.ref C) _) _ _ _
  refine (ini.keeps kept).at (wpAny_holding (wpAny_bind (((bind _).keeps kept).at (wpAny_bind (wpAny_call (codeAny_mono h ?_))))))
  intro r s' z
  match r, z with
  | .error _, z => exact z
  | .ok (.ret _), ⟨rfl, z⟩ =>
    first
      | exact wpAny_pure (wpAny_pure z)
      | (wp_walk; exact z)
/-- C(.., kn=kv) -/
theorem call_kw (F : ExcBaseFacts B new_ init_ bmB) (same : ∀ X : String, bm.contains (.type X) = bmB.contains (.type X)) (at_ : hp.get? C = some (excClassObj nm q C N bs bm hd sn sub ab col dd k0 k1 k2 k3 k5 new_)) (short : us.length ≤ sizeLine)
    (ini : W.Looks (model prog w) hp (typeLookup (.ref C) "__init__") (some (.ref fI))) (bind : ∀ self, W.Looks (model prog w) hp (bindSpecial (.ref fI) self) (.ref fI, [self]))
    (h : codeAny (model prog w) (A.under (.builtin "type.__call__" ⟨.ref C :: us, [(kn, kv)]⟩)) (.call (.ref fI) ⟨.ref (hp.objs.size + 1) :: us, [(kn, kv)]⟩) (InitBack (hp.objs.size + 1) R) ⟨(hp.push (kdv_tup us)).push (excO C hp.objs.size), gs, dr, tk, os⟩) :
    codeAny (model prog w) A (.call (.ref C) ⟨us, [(kn, kv)]⟩) R ⟨hp, gs, dr, tk, os⟩ := by
  have g1 := tc_lookup
  have g2 := tc_bind (.ref C)
  have g3 := tc_sub
  have ty : (⟨hp, gs, dr, tk, os⟩ : Shared).TypeIs (.ref C) "type" := ⟨_, at_, rfl⟩
  have chk : ∀ {A' : Around} {E' : Value → Shared → Prop} {Q : Unit → Shared → Prop}, Q () ⟨hp, gs, dr, tk, os⟩ → wpAny (model prog w) A' (checkBuiltinCall "type.__call__" ⟨.ref C :: us, [(kn, kv)]⟩) Q E' ⟨hp, gs, dr, tk, os⟩ := by
    intro A' E' Q z
    simp only [checkBuiltinCall, tc_kind, tc_split]
    repeat (any_goals (first | assumption | with_reducible refine wpAny_loadPart_at at_ ?_ | with_reducible refine wpAny_onRaise ?_ | with_reducible refine wpAny_map ?_ | wp_step))
  refine codeAny_of_tree ?_
  show wpAny _ _ (callAny (.ref C) _) _ _ _
  repeat (any_goals (first | assumption | with_reducible refine wpAny_loadPart_at at_ ?_ | wp_step))
  refine ⟨rfl, codeAny_call_builtin_at (Code.quiet_builtin _ (by decide +kernel)) entry_typeCall (chk (class_does F (.of F same) at_ short ini bind (codeAny_mono h ?_)))⟩
  intro r s' z
  rcases r with _ | (_ | _ | _ | _) <;> exact z
end
end KwE

set_option Elab.async false
set_option linter.all false
set_option maxRecDepth 100000
set_option maxHeartbeats 4000000
namespace PySem.W
open PySem PySem.Spec PySem.Calls PyProof.Rows
section
variable {prog : Program} {w : World} {A : Around} {E : Value → Shared → Prop} {s : Shared} {K : Frag} {x D : Addr} {ox : Obj} {od : Option Obj}
/-- a data descriptor of the class goes ahead of the object's own dict -/
theorem found_data {C : Addr} {name : Str} {at_ get : Value} (hc : (clsIn K C).isSome = true) (h1 : findIn K (.ref C) name = some (some at_)) (h2 : specialIn K at_ "__get__" = some (some get)) (h3 : takesIn K at_ = some true) : findObj K C od name = some (.bind get at_) := by
  cases z : clsIn K C with
  | none => rw [z] at hc; cases hc
  | some cd => simp [findObj, z, h1, h2, h3]
/-- x.__class__ of an exception of an own class, whatever attributes it has -/
theorem class_of_exc {Q : Option Value → Shared → Prop} (T : L2.ExcC K D) (X : K.In s.heap) (I : InstAt s.heap x ox D od) (h : Q (some (.ref D)) { s with toks := s.toks + 1 }) : wpAny (model prog w) A (getAttr? (.ref x) "__class__") Q E s := by
  have has : (clsIn K D).isSome = true := by
    obtain ⟨cd, z, _⟩ := any_some T.hd
    rw [z]
    rfl
  obtain ⟨hp, gs, dr, tk, os⟩ := s
  have kind := I.type (M := model prog w)
  have get_ := looks_findIn (M := model prog w) X T.hg
  have hook := looks_findIn (M := model prog w) X T.hk
  have find_ := looks_find (M := model prog w) X I (found_data (od := od) has T.ha T.hn T.ht)
  have base_ : Looks (model prog w) hp (isInstance (.ref x) (.type "BaseException")) true := kind.andThen (looks_subIn X T.hs)
  have other : (Value.builtin "BaseException.__getattribute__" == Value.builtin "object.__getattribute__") = false := by decide +kernel
  unfold getAttr? getAttrBy? getAttrBy
  refine wpAny_bind (wpAny_mkText (wpAny_bind (wpAny_attempt (wpAny_holding (wpAny_bind (kind.at (wpAny_bind (get_.at ?_))))))))
  show wpAny _ _ (if (onTheHeap (Value.ref D) && Value.builtin "BaseException.__getattribute__" == Value.builtin "object.__getattribute__") = true then _ else _) _ _ _
  rw [other, Bool.and_false, if_neg Bool.false_ne_true]
  unfold getAttrByItsOwn hookBefore
  rw [if_pos (show onTheHeap (Value.ref D) = true from rfl)]
  refine wpAny_bind (hook.at (wpAny_bind (wpAny_attempt (wpAny_holding ?_))))
  unfold callGetattribute
  rw [show (false && onTheHeap (Value.builtin "BaseException.__getattribute__")) = false from rfl, if_neg Bool.false_ne_true]
  unfold boundAndCalled
  rw [PySem.F.excAttr_ValueError.ga.bind (.ref x)]
  refine wpAny_bind (wpAny_pure ?_)
  show wpAny _ _ (call (.builtin "BaseException.__getattribute__") [.ref x, .str "__class__" tk]) _ _ _
  refine wpAny_call (codeAny_call_builtin PySem.F.excAttr_ValueError.ga.plain PySem.F.entry_bexc_ga (@check_slot (model prog w) _ _ ⟨hp, gs, dr, tk + 1, os⟩ "BaseException.__getattribute__" "BaseException" "__getattribute__" (.ref x) [.str "__class__" tk] [] _ (by decide +kernel) (by decide +kernel) base_ (PySem.F.args_bexc_ga (.ref x) (.str "__class__" tk)) ?_))
  unfold Builtin.«object.__getattribute__»
  refine wpAny_bind (wpAny_of_eq (a := ((Value.ref x : Value), [Value.str "__class__" tk])) (by first | rfl | (simp only [slotArgs]; rfl)) (wpAny_bind (wpAny_pure (wpAny_bind (kind.at (wpAny_bind (find_.at ?_)))))))
  show wpAny _ _ (holding [Value.builtin "object.__class__"] (call (.builtin "getset_descriptor.__get__") [.builtin "object.__class__", .ref x, .ref D]) >>= ret) _ _ _
  refine wpAny_bind (wpAny_holding (wpAny_call (class_get (s := ⟨hp, gs, dr, tk + 1, os⟩) (ox := ox) (od := od) X I T.hm (wpAny_pure ?_))))
  show wpAny _ _ (handedOut (.ref D)) _ _ _
  rw [handedOut_of (v := .ref D) rfl]
  first
    | exact wpAny_pure (wpAny_pure h)
    | exact wpAny_pure (wpAny_bind (wpAny_pure (wpAny_pure h)))
    | exact wpAny_pure h
/-- isinstance may ask such an exception -/
theorem kit_exc (T : L2.ExcC K D) : KitX K (.ref x) (.ref D) (fun h => InstAt h x ox D od) := by
  have written : ∃ o, K.lookup D = some o ∧ ∀ h : Heap, K.In h → h.get? D = some o := by
    obtain ⟨cd, z, _⟩ := any_some T.hd
    unfold clsIn at z
    split at z
    · exact ⟨_, by assumption, fun h X => X _ _ (by assumption)⟩
    · cases z
  have plain : ∀ {M : Model} {h : Heap}, K.In h → Looks M h (isType (.ref D)) true := by
    intro M h X A' Q' E' s' k q
    obtain ⟨cd, z, _⟩ := any_some T.hd
    unfold clsIn at z
    split at z
    · rename_i ho
      unfold isType loadHead
      exact wpAny_bind (wpAny_loadPart (k _ _ (X _ _ ho)) (wpAny_pure q))
    · cases z
  refine ⟨fun _ _ _ I => I.type, fun _ _ X _ => plain X, fun h tp dd its n sl X htp => ?_, fun X I k => class_of_exc T X I k⟩
  refine Bool.eq_false_iff.mpr fun q => ?_
  obtain rfl : D = tp := Value.ref.inj (beq_iff_eq.mp q)
  obtain ⟨cd, z, _⟩ := any_some T.hd
  unfold clsIn at z
  split at z
  · rename_i ho
    cases (X _ _ ho).symm.trans htp
  · cases z
end
end PySem.W
namespace L2
open PySem PySem.Spec PyProof.Rows
/-- an exception object of the own class at C: with its attributes, or bare -/
inductive ExT (H : Hp) (e C : Addr) : List (Str × V) → Prop where
  | own {d : Addr} {fs : List (Str × V)} (h1 : H e = some (exo e C (some d))) (h2 : H d = some (exd d fs)) : ExT H e C fs
  | bare (h : H e = some (ExO (.ref C) e)) : ExT H e C []
theorem ExT.same {H H' : Hp} {e C : Addr} {fs : List (Str × V)} (S : Same H H') : ExT H e C fs → ExT H' e C fs
  | .own h1 h2 => .own (S _ _ h1) (S _ _ h2)
  | .bare h => .bare (S _ _ h)
section
variable {X : Cx} {pins : List (Addr × Obj)} {σ : St} {H : Hp} {s : Shared} {e C : Addr} {fs : List (Str × V)}
theorem ExT.inst (I : Inv X pins σ H s) (h : ExT H e C fs) : ∃ ox od, PySem.W.InstAt s.heap e ox C od ∧ (∀ f v, fs.lookup f = some v → ∃ o u, od = some o ∧ PySem.W.lookIn f o = some (some u) ∧ RelV v u) := by
  cases h with
  | own h1 h2 =>
    obtain ⟨t1, ho⟩ := exo_at I.hok h1
    obtain ⟨mA, hns, rel⟩ := exd_at I.hok h2
    obtain ⟨od, hod, hl⟩ := lookIn_ns hns
    refine ⟨_, some od, ⟨ho, rfl, rfl, hod⟩, fun f v hf => ?_⟩
    obtain ⟨u, hu, ru⟩ := RelO.some_of (v := v) (o := mA f) (by rw [← hf]; exact rel f)
    exact ⟨od, u, rfl, by rw [hl, hu], ru⟩
  | bare h =>
    have z : ObjOk X.prog X.w H s.heap e (ExO (.ref C) e) := I.hok _ _ h
    obtain ⟨⟨oe, vs, ho, hz, hd, _, _, _⟩, _, _⟩ := z
    refine ⟨oe, none, ⟨ho, hz.1, by unfold PySem.W.notCls; rw [hd], by rw [hz.2]; trivial⟩, fun f v hf => by cases hf⟩
end
/-- isinstance(e, c) of an exception that is a value -/
def rIsX (K : PySem.W.Frag) : List V → Hp → VK → Prop := fun xs H Q => ∃ (e D : Addr) (fs : List (Str × V)) (c : V) (u : Value) (b : Bool), xs = [.ref e, c] ∧ ClsV c u ∧ ExT H e D fs ∧ ExcC K D ∧ PySem.W.kitOne K (.ref D) u = some b ∧ Q (.bl b) H
theorem call_isX {X : Cx} : CallR X (.builtin "isinstance") (rIsX X.K) := by
  intro pins s σ H xs us Q I r h
  obtain ⟨e, D, fs, c, u, b, rfl, k, ex, T, hk, q⟩ := h
  obtain ⟨u1, u2, rfl, r1, r2⟩ := vals2 r
  have e2 := k.eq r2
  subst e2
  obtain rfl : u1 = Value.ref e := r1
  obtain ⟨ox, od, J, _⟩ := ex.inst I
  exact PySem.W.kia_one (PySem.W.kit_exc T) I.kIn J hk (fun z => nomatch z) fun tk => ⟨.bl b, H, I.tok tk, rfl, q⟩
/-- e.f of an exception that is a value -/
def tFldE (K : PySem.W.Frag) (te : TE) (f : Str) : TE := fun σ H Q => te σ H fun x H1 => ∃ (e C : Addr) (fs : List (Str × V)) (v : V), x = .ref e ∧ ExT H1 e C fs ∧ ExcC K C ∧ PySem.W.findIn K (.ref C) f = some none ∧ fs.lookup f = some v ∧ Q v H1
theorem pe_fldE {X : Cx} {e : Expr} {te : TE} {pos : Pos} {n : Str} (he : PE X e te) (hb : attributeBase e n X.env (eval e X.env) = eval e X.env := by rfl) : PE X (.Attribute e n pos) (tFldE X.K te n) := by
  refine ⟨fun pins s σ H Q I h => ?_⟩
  refine attr_of hb (thn (he.run pins s σ H _ I h) fun u s1 hh => ?_)
  obtain ⟨x, H1, I1, rx, e, C, fs, v, rfl, ex, T, hno, l, q⟩ := hh
  obtain rfl : u = Value.ref e := rx
  obtain ⟨ox, od, J, lk⟩ := ex.inst I1
  obtain ⟨o, u, rfl, hu, ru⟩ := lk _ _ l
  exact HandSPX.exc_get I1.kIn J T.hg T.hk T.hs (PySem.W.findObj_own T.hd hno rfl hu) (handed_of ru) ⟨v, H1, I1.tok _, ru, q⟩
/-- __init__(self, f): self.f = f -/
def spExI (K : PySem.W.Frag) (f : Str) : Sp := fun vs H Q _ => ∃ (a C : Addr) (y : V), vs = [.ref a, y] ∧ OexC K C ∧ PySem.W.findIn K (.ref C) f = some none ∧ H a = some (exo a C none) ∧
  ∀ dx, H dx = none → dx ≠ a → Q .non (upd (upd H dx (exd dx [(f, y)])) a (exo a C (some dx)))
/-- C called, its __init__ as above: the new exception's one attribute is y -/
theorem run_mko {X : Cx} {C fI : Addr} {f : Str} {k : Nat} {fd : FuncData} {ps : List Str} {pins : List (Addr × Obj)} {σ : St} {H1 : Hp} {s1 : Shared} {Q : VK} {us : List Value} {kw : List (Str × Value)} {y : V} {u : Value} (T : OexC X.K C) (iC : PySem.W.findIn X.K (.ref C) "__init__" = some (some (.ref fI)))
    (tI : PySem.W.typeIn X.K (.ref fI) = some (.type "function")) (noF : PySem.W.findIn X.K (.ref C) f = some none) (F1 : FnOk X.prog X.w X.K X.mg X.base CX0 k fI fd ps (spExI X.K f)) (hr : Room (k + 1) X.A) (hkw : kw = [] ∨ ∃ q, kw = [q]) (hus : us.length ≤ sizeLine)
    (hb : ∀ (self : Value) (s' : Shared), X.K.In s'.heap → BindsTo s' fd ⟨self :: us, kw⟩ (ps.zip [self, u])) (ry : RelV y u) (I1 : Inv X pins σ H1 s1)
    (q : ∀ a H', Same H1 H' → H1 a = none → ExT H' a C [(f, y)] → Q (.ref a) H') : wpAny (model X.prog X.w) X.A (call (.ref C) us kw) (EP X pins σ Q) X.xe s1 := by
  obtain ⟨nm, qn, N, bs, bm, sn, sub, ab, col, dd, k0, k1, k2, k3, k5, hC, hbm⟩ := T.cls
  obtain ⟨hp, g, dr, tk, os⟩ := s1
  have hsz : hp.objs.size ≤ hp.objs.size + 1 := Nat.le_succ _
  have hn : H1 (hp.objs.size + 1) = none := I1.hok.fresh hsz
  have kk : ∀ b o, hp.get? b = some o → ((hp.push (PySem.W.kdv_tup us)).push (PySem.HandSPX.excO C hp.objs.size)).get? b = some o := fun b o e => Heap.get?_push_of_some _ (Heap.get?_push_of_some _ e)
  have hget : ((hp.push (PySem.W.kdv_tup us)).push (PySem.HandSPX.excO C hp.objs.size)).get? (hp.objs.size + 1) = some (PySem.HandSPX.excO C hp.objs.size) := by heap_get
  have I2 : Inv X pins σ (upd H1 (hp.objs.size + 1) (exo (hp.objs.size + 1) C none)) ⟨(hp.push (PySem.W.kdv_tup us)).push (PySem.HandSPX.excO C hp.objs.size), g, dr, tk, os⟩ :=
    I1.laid (t' := tk) (a := hp.objs.size + 1) (o := exo (hp.objs.size + 1) C none) (h' := (hp.push (PySem.W.kdv_tup us)).push (PySem.HandSPX.excO C hp.objs.size)) kk hsz (exo_ok hget)
  have hq : spExI X.K f [V.ref (hp.objs.size + 1), y] (upd H1 (hp.objs.size + 1) (exo (hp.objs.size + 1) C none)) (fun v H2 => v = .non ∧ Q (.ref (hp.objs.size + 1)) H2) E0 := by
    refine ⟨_, C, y, rfl, T, noF, upd_same, fun dx hd ne => ⟨rfl, q _ _ (fun b o e => ?_) hn (.own upd_same (by rw [upd_ne ne, upd_same]))⟩⟩
    have hb1 : b ≠ hp.objs.size + 1 := ne_of_none e hn
    have hd1 : H1 dx = none := by
      rw [upd_ne ne] at hd
      exact hd
    rw [upd_ne hb1, upd_ne (ne_of_none e hd1), upd_ne hb1]
    exact e
  have r2 : Vals [V.ref (hp.objs.size + 1), y] [Value.ref (hp.objs.size + 1), u] := .cons rfl (.cons ry .nil)
  have fin : ∀ (r : Result) (s' : Shared), CR CX0 X.stack X.prog X.w (upd H1 (hp.objs.size + 1) (exo (hp.objs.size + 1) C none)) ⟨(hp.push (PySem.W.kdv_tup us)).push (PySem.HandSPX.excO C hp.objs.size), g, dr, tk, os⟩ (fun v H2 => v = .non ∧ Q (.ref (hp.objs.size + 1)) H2) E0 r s' →
      PySem.W.InitBack (hp.objs.size + 1) (fun r s' => match r with | .ok (.ret v) => EP X pins σ Q v s' | .ok _ => False | .error er => X.xe er s') r s' := fun r s' hq' => by
    cases r with
    | error er => exact False.elim hq'
    | ok fl =>
      cases fl with
      | ret uu =>
        obtain ⟨v, H', I3, rv, ev, q3⟩ := I2.after hq'
        subst ev
        exact ⟨rv, ⟨V.ref (hp.objs.size + 1), H', I3, rfl, q3⟩⟩
      | next => exact False.elim hq'
      | brk => exact False.elim hq'
      | cont => exact False.elim hq'
  rcases hkw with rfl | ⟨⟨kn, kv⟩, rfl⟩
  · refine wpAny_call (codeAny_mono (PySem.HandSPX.call_own F.excBase_ValueError (fun Y => PySem.HandSPX.refsVE_contains Y bm hbm) (I1.kIn _ _ hC) (PySem.W.looks_findIn I1.kIn iC) (fun self => PySem.W.bind_fn I1.kIn self tI) hus
      (codeAny_mono (F1.run _ X.stack _ _ ⟨Value.ref (hp.objs.size + 1) :: us, []⟩ [Value.ref (hp.objs.size + 1), u] _ _ E0 (hr.make C us []) (I2.env0.make C us []) (hb _ _ I2.kIn) r2 hq) fin)) fun r s' z => ?_)
    rcases r with e | (v | _ | _ | _) <;> exact z
  · refine wpAny_call (codeAny_mono (KwE.call_kw F.excBase_ValueError (fun Y => PySem.HandSPX.refsVE_contains Y bm hbm) (I1.kIn _ _ hC) hus (PySem.W.looks_findIn I1.kIn iC) (fun self => PySem.W.bind_fn I1.kIn self tI)
      (codeAny_mono (F1.run _ X.stack _ _ ⟨Value.ref (hp.objs.size + 1) :: us, [(kn, kv)]⟩ [Value.ref (hp.objs.size + 1), u] _ _ E0 (hr.make C us [(kn, kv)]) (I2.env0.make C us [(kn, kv)]) (hb _ _ I2.kIn) r2 hq) fin)) fun r s' z => ?_)
    rcases r with e | (v | _ | _ | _) <;> exact z
end L2

set_option Elab.async false
set_option linter.all false
set_option maxRecDepth 100000
set_option maxHeartbeats 4000000
namespace L2
open PySem PySem.Spec PyProof.Rows
/-- an own exception class at C, called x, whose __init__ sets the one attribute f (None where it is not given) -/
structure ExM (P : Program) (w : World) (K : PySem.W.Frag) (mg : Str → Option Value) (base : Heap) (x : Str) (C : Addr) (f : Str) : Prop where
  mgC : mg x = some (.ref C)
  oex : OexC K C
  xc : ExcC K C
  noF : PySem.W.findIn K (.ref C) f = some none
  hmk : ∃ (fI : Addr) (fd : FuncData) (ps : List Str), PySem.W.findIn K (.ref C) "__init__" = some (some (.ref fI)) ∧ PySem.W.typeIn K (.ref fI) = some (.type "function") ∧ FnOk P w K mg base CX0 1 fI fd ps (spExI K f) ∧
    (∀ (self u : Value) (s' : Shared), K.In s'.heap → BindsTo s' fd ⟨[self, u], []⟩ (ps.zip [self, u])) ∧ (∀ (self u : Value) (s' : Shared), K.In s'.heap → BindsTo s' fd ⟨[self], [(f, u)]⟩ (ps.zip [self, u])) ∧
    (∀ (self : Value) (s' : Shared), K.In s'.heap → BindsTo s' fd ⟨[self], []⟩ (ps.zip [self, .none]))
/-- an own exception class at C, called x, without an __init__ of its own -/
structure ExB (K : PySem.W.Frag) (mg : Str → Option Value) (x : Str) (C : Addr) : Prop where
  mgC : mg x = some (.ref C)
  xc : ExcC K C
  kC : PySem.W.keepIn K (.ref C) = true
  is : ∃ bmB, ExcBaseFacts "ValueError" "ValueError.__new__" "ValueError.__init__" bmB ∧ PySem.W.excIn K C bmB "ValueError.__new__" = true
/-- the new exception's one attribute -/
def tMk1 (C : Addr) (f : Str) (te : TE) : TE := fun σ H Q => te σ H fun y H1 => ∀ a H', Same H1 H' → H1 a = none → ExT H' a C [(f, y)] → Q (.ref a) H'
def tMk0 (C : Addr) : TE := fun _ H Q => ∀ a H', Same H H' → H a = none → ExT H' a C [] → Q (.ref a) H'
theorem one_line : (1 : Nat) ≤ sizeLine := by rw [sizeLine_eq]; omega
section
variable {X : Cx} {x f : Str} {C : Addr} {e : Expr} {te : TE} {p pos kpos : Pos}
theorem pe_ex1 (T : ExM X.prog X.w X.K X.mg X.base x C f) (hr : Room 2 X.A) (hg : Gl X x) (he : PE X e te) (hdb : (x == ("__debug__" : Str)) = false := by decide) (hs : starEach [e] X.env = (false, eval e X.env) :: starEach [] X.env := by rfl)
    (hpl : (backTo pos (starEach [] X.env)).any (·.1) = false := by rfl) : PE X (.Call (.Name x p) [e] [] pos) (tMk1 C f te) := by
  obtain ⟨fI, fd, ps, iC, tI, F1, b2, bK, b1⟩ := T.hmk
  refine ⟨fun pins s σ H Q I h => ?_⟩
  refine wpAny_Call_Name_kw (ld_glob I hg T.mgC ?_ hdb)
  refine PySem.W.callWith_K (h₀ := X.base) I.ok.mod.kin T.oex.kC ?_ hs hpl
  rw [hs]
  show wpAny _ _ (spliced ((false, eval e X.env) :: backTo pos (starEach [] X.env))) _ _ s
  refine Calls.spliced_cons (thn (he.run pins s σ H _ I h) fun u s1 hh => ?_)
  obtain ⟨y, H1, I1, ry, q⟩ := hh
  refine Calls.spliced_nil ⟨I1.kIn, ?_⟩
  show wpAny _ _ (call (.ref C) [u]) _ _ _
  exact run_mko T.oex iC tI T.noF F1 hr (.inl rfl) one_line (fun self s' X' => b2 self u s' X') ry I1 q
theorem pe_exK (T : ExM X.prog X.w X.K X.mg X.base x C f) (hr : Room 2 X.A) (hg : Gl X x) (he : PE X e te) (hdb : (x == ("__debug__" : Str)) = false := by decide)
    (hall : (backToKw pos (keywordEach [⟨some f, e, kpos⟩] X.env)).all (·.1.isSome) = true := by rfl) (hks : (backToKw pos (keywordEach [⟨some f, e, kpos⟩] X.env)).filterMap (·.1) = [f] := by rfl)
    (hpl : ((backTo pos (starEach [] X.env)).any (·.1) || (backToKw pos (keywordEach [⟨some f, e, kpos⟩] X.env)).any (·.1.isNone)) = false := by rfl) : PE X (.Call (.Name x p) [] [⟨some f, e, kpos⟩] pos) (tMk1 C f te) := by
  obtain ⟨fI, fd, ps, iC, tI, F1, b2, bK, b1⟩ := T.hmk
  refine ⟨fun pins s σ H Q I h => ?_⟩
  refine wpAny_Call_Name_kw (ld_glob I hg T.mgC ?_ hdb)
  refine PySem.W.callWith_KW0 (h₀ := X.base) I.ok.mod.kin T.oex.kC hall ?_ hpl
  show wpAny _ _ (evalAll ((do let v ← eval e X.env; standAt pos; pure v) :: [])) _ _ s
  refine wpAny_evalAll_cons (wpAny_bind (thn (he.run pins s σ H _ I h) fun u s1 hh => wpAny_bind (wpAny_standAt (wpAny_pure ?_))))
  obtain ⟨y, H1, I1, ry, q⟩ := hh
  refine wpAny_evalAll_nil ⟨I1.kIn, ?_⟩
  rw [hks]
  show wpAny _ _ (call (.ref C) [] [(f, u)]) _ _ _
  exact run_mko (us := []) T.oex iC tI T.noF F1 hr (.inr ⟨_, rfl⟩) (Nat.zero_le _) (fun self s' X' => bK self u s' X') ry I1 q
theorem pe_ex0 (T : ExM X.prog X.w X.K X.mg X.base x C f) (hr : Room 2 X.A) (hg : Gl X x) (hdb : (x == ("__debug__" : Str)) = false := by decide) : PE X (.Call (.Name x p) [] [] pos) (tMk1 C f (tC .non)) := by
  obtain ⟨fI, fd, ps, iC, tI, F1, b2, bK, b1⟩ := T.hmk
  refine ⟨fun pins s σ H Q I h => ?_⟩
  refine wpAny_Call_Name_kw (ld_glob I hg T.mgC ?_ hdb)
  exact PySem.W.callWith_K0 I.kIn T.oex.kC (run_mko (us := []) (y := .non) (u := .none) T.oex iC tI T.noF F1 hr (.inl rfl) (Nat.zero_le _) (fun self s' X' => b1 self s' X') rfl I h)
theorem pe_exB (T : ExB X.K X.mg x C) (hg : Gl X x) (hdb : (x == ("__debug__" : Str)) = false := by decide) : PE X (.Call (.Name x p) [] [] pos) (tMk0 C) := by
  obtain ⟨bmB, F, q⟩ := T.is
  refine ⟨fun pins s σ H Q I h => ?_⟩
  refine wpAny_Call_Name_kw (ld_glob I hg T.mgC ?_ hdb)
  refine PySem.W.callWith_K0 I.kIn T.kC ?_
  show wpAny _ _ (call (.ref C) []) _ _ _
  obtain ⟨bm, N, nm, qn, bs, hdct, sn, sub, ab, col, dd, k0, k1, k2, k3, k5, mN, hC, hN, hni, T'⟩ := exc_obj I.kIn q
  refine wpAny_call_exc_subT F T' hC hN hni (fun h' a hm => ?_) (Nat.zero_le _)
  have hn : H a = none := I.hok.gone hm.new
  obtain ⟨t, ht, _, _⟩ := hm.there
  exact ⟨.ref a, upd H a (ExO (.ref C) a), I.laidN hm.keeps hm.new hn (exO_ok ht ⟨rfl, rfl⟩ rfl rfl rfl (show 4 < 6 by decide)), rfl, h a _ (fun b o q => by rw [upd_ne (ne_of_none q hn)]; exact q) hn (.bare upd_same)⟩
end

end L2

set_option Elab.async false
set_option linter.all false
set_option maxRecDepth 100000
set_option maxHeartbeats 400000
namespace L2
open PySem PySem.Spec PyProof.Rows
def exArgs (f : Str) (p1 p2 p3 : Pos) : Arguments := { posonlyargs := [], args := [{ arg := "self", annotation := none, pos := p1 }, { arg := f, annotation := none, pos := p2 }], vararg := none, kwonlyargs := [], kw_defaults := [], kwarg := none, defaults := [.Constant .none 0 p3] }
def exBody (f : Str) (q1 q2 q3 q4 : Pos) : List Stmt := [.Assign [.Attribute (.Name "self" q1) f q2] (.Name f q3) q4]
def exScope (f : Str) : Scope := { kind := .function, names := [(PySem.Str.ofString "self", .local), (f, .local)], isGenerator := false, isCoroutine := false, more := [] }
section
variable {P : Program} {w : World} {K : PySem.W.Frag} {mg : Str → Option Value} {base : Heap} {x qual : Str} {C fI : Addr} {fd : FuncData} {p1 p2 p3 q1 q2 q3 q4 : Pos}
theorem one_none {its : List Value} (h : Vals [.non] its) : its = [.none] := by
  cases h with
  | cons r n =>
    cases n
    cases r
    rfl

theorem scEx_value : FnScope ["self", "value"] ["self", "value"] (exScope "value") := ⟨rfl, rfl, rfl, by decide +kernel, rfl, by decide +kernel, by decide +kernel⟩
theorem okEx_value (F : FunD K "__init__" qual (exArgs "value" p1 p2 p3) (exBody "value" q1 q2 q3 q4) (exScope "value") [.non] [] fI fd) : FnOk P w K mg base CX0 1 fI fd ["self", "value"] (spExI K "value") := by
  refine F.ok scEx_value (fun vs H Q E h => ?_) (fun cdv A outer s H vs Q E hr h => ?_)
  · obtain ⟨a, C, y, rfl, _⟩ := h
    rfl
  · obtain ⟨a, C, y, rfl, T, noF, ha, k⟩ := h
    exact ⟨_, pss_one (ps_ost (pv 0) (pv 1)), ⟨_, rfl, _, rfl, a, C, rfl, T, noF, .inl ⟨ha, k⟩⟩⟩
theorem bindEx_value (F : FunD K "__init__" qual (exArgs "value" p1 p2 p3) (exBody "value" q1 q2 q3 q4) (exScope "value") [.non] [] fI fd) :
    (∀ (self u : Value) (s' : Shared), K.In s'.heap → BindsTo s' fd ⟨[self, u], []⟩ ((["self", "value"] : List Str).zip [self, u])) ∧ (∀ (self u : Value) (s' : Shared), K.In s'.heap → BindsTo s' fd ⟨[self], [("value", u)]⟩ ((["self", "value"] : List Str).zip [self, u])) ∧
    (∀ (self : Value) (s' : Shared), K.In s'.heap → BindsTo s' fd ⟨[self], []⟩ ((["self", "value"] : List Str).zip [self, .none])) := by
  obtain ⟨oc, od, dV, kV, doc, pm, an, cdv, ct, osl, rfl, lk, hcd, hD, hK⟩ := F.ex
  rcases hD with ⟨e, _⟩ | ⟨_, T, o, its, m, rfl, lT, oT, rT⟩
  · cases e
  · obtain rfl := one_none rT
    refine ⟨fun self u s' X => BindsTo.of_looks fun M => ?_, fun self u s' X => BindsTo.of_looks fun M => ?_, fun self s' X => BindsTo.of_looks fun M => ?_⟩
    · have e : ∃ k, bindArgs (PySem.W.fnOf "__init__" qual (exArgs "value" p1 p2 p3) (exBody "value" q1 q2 q3 q4) (exScope "value") (.ref T) kV doc pm an cdv ct) ⟨[self, u], []⟩ = seqItems? (.ref T) >>= k ∧ k (some [Value.none].toArray) = pure ((["self", "value"] : List Str).zip [self, u]) := ⟨_, rfl, rfl⟩
      obtain ⟨k, e1, e2⟩ := e
      rw [e1]
      exact looks_items X lT oT (.of_pure e2)
    · have e : ∃ k, bindArgs (PySem.W.fnOf "__init__" qual (exArgs "value" p1 p2 p3) (exBody "value" q1 q2 q3 q4) (exScope "value") (.ref T) kV doc pm an cdv ct) ⟨[self], [("value", u)]⟩ = seqItems? (.ref T) >>= k ∧ k (some [Value.none].toArray) = pure ((["self", "value"] : List Str).zip [self, u]) := ⟨_, rfl, rfl⟩
      obtain ⟨k, e1, e2⟩ := e
      rw [e1]
      exact looks_items X lT oT (.of_pure e2)
    · have e : ∃ k, bindArgs (PySem.W.fnOf "__init__" qual (exArgs "value" p1 p2 p3) (exBody "value" q1 q2 q3 q4) (exScope "value") (.ref T) kV doc pm an cdv ct) ⟨[self], []⟩ = seqItems? (.ref T) >>= k ∧ k (some [Value.none].toArray) = pure ((["self", "value"] : List Str).zip [self, .none]) := ⟨_, rfl, rfl⟩
      obtain ⟨k, e1, e2⟩ := e
      rw [e1]
      exact looks_items X lT oT (.of_pure e2)
theorem exm_value (gC : mg x = some (.ref C)) (oex : OexC K C) (xc : ExcC K C) (noF : PySem.W.findIn K (.ref C) "value" = some none) (iC : PySem.W.findIn K (.ref C) "__init__" = some (some (.ref fI))) (tI : PySem.W.typeIn K (.ref fI) = some (.type "function"))
    (F : FunD K "__init__" qual (exArgs "value" p1 p2 p3) (exBody "value" q1 q2 q3 q4) (exScope "value") [.non] [] fI fd) : ExM P w K mg base x C "value" :=
  ⟨gC, oex, xc, noF, fI, fd, _, iC, tI, okEx_value F, bindEx_value F⟩

theorem scEx_name : FnScope ["self", "name"] ["self", "name"] (exScope "name") := ⟨rfl, rfl, rfl, by decide +kernel, rfl, by decide +kernel, by decide +kernel⟩
theorem okEx_name (F : FunD K "__init__" qual (exArgs "name" p1 p2 p3) (exBody "name" q1 q2 q3 q4) (exScope "name") [.non] [] fI fd) : FnOk P w K mg base CX0 1 fI fd ["self", "name"] (spExI K "name") := by
  refine F.ok scEx_name (fun vs H Q E h => ?_) (fun cdv A outer s H vs Q E hr h => ?_)
  · obtain ⟨a, C, y, rfl, _⟩ := h
    rfl
  · obtain ⟨a, C, y, rfl, T, noF, ha, k⟩ := h
    exact ⟨_, pss_one (ps_ost (pv 0) (pv 1)), ⟨_, rfl, _, rfl, a, C, rfl, T, noF, .inl ⟨ha, k⟩⟩⟩
theorem bindEx_name (F : FunD K "__init__" qual (exArgs "name" p1 p2 p3) (exBody "name" q1 q2 q3 q4) (exScope "name") [.non] [] fI fd) :
    (∀ (self u : Value) (s' : Shared), K.In s'.heap → BindsTo s' fd ⟨[self, u], []⟩ ((["self", "name"] : List Str).zip [self, u])) ∧ (∀ (self u : Value) (s' : Shared), K.In s'.heap → BindsTo s' fd ⟨[self], [("name", u)]⟩ ((["self", "name"] : List Str).zip [self, u])) ∧
    (∀ (self : Value) (s' : Shared), K.In s'.heap → BindsTo s' fd ⟨[self], []⟩ ((["self", "name"] : List Str).zip [self, .none])) := by
  obtain ⟨oc, od, dV, kV, doc, pm, an, cdv, ct, osl, rfl, lk, hcd, hD, hK⟩ := F.ex
  rcases hD with ⟨e, _⟩ | ⟨_, T, o, its, m, rfl, lT, oT, rT⟩
  · cases e
  · obtain rfl := one_none rT
    refine ⟨fun self u s' X => BindsTo.of_looks fun M => ?_, fun self u s' X => BindsTo.of_looks fun M => ?_, fun self s' X => BindsTo.of_looks fun M => ?_⟩
    · have e : ∃ k, bindArgs (PySem.W.fnOf "__init__" qual (exArgs "name" p1 p2 p3) (exBody "name" q1 q2 q3 q4) (exScope "name") (.ref T) kV doc pm an cdv ct) ⟨[self, u], []⟩ = seqItems? (.ref T) >>= k ∧ k (some [Value.none].toArray) = pure ((["self", "name"] : List Str).zip [self, u]) := ⟨_, rfl, rfl⟩
      obtain ⟨k, e1, e2⟩ := e
      rw [e1]
      exact looks_items X lT oT (.of_pure e2)
    · have e : ∃ k, bindArgs (PySem.W.fnOf "__init__" qual (exArgs "name" p1 p2 p3) (exBody "name" q1 q2 q3 q4) (exScope "name") (.ref T) kV doc pm an cdv ct) ⟨[self], [("name", u)]⟩ = seqItems? (.ref T) >>= k ∧ k (some [Value.none].toArray) = pure ((["self", "name"] : List Str).zip [self, u]) := ⟨_, rfl, rfl⟩
      obtain ⟨k, e1, e2⟩ := e
      rw [e1]
      exact looks_items X lT oT (.of_pure e2)
    · have e : ∃ k, bindArgs (PySem.W.fnOf "__init__" qual (exArgs "name" p1 p2 p3) (exBody "name" q1 q2 q3 q4) (exScope "name") (.ref T) kV doc pm an cdv ct) ⟨[self], []⟩ = seqItems? (.ref T) >>= k ∧ k (some [Value.none].toArray) = pure ((["self", "name"] : List Str).zip [self, .none]) := ⟨_, rfl, rfl⟩
      obtain ⟨k, e1, e2⟩ := e
      rw [e1]
      exact looks_items X lT oT (.of_pure e2)
theorem exm_name (gC : mg x = some (.ref C)) (oex : OexC K C) (xc : ExcC K C) (noF : PySem.W.findIn K (.ref C) "name" = some none) (iC : PySem.W.findIn K (.ref C) "__init__" = some (some (.ref fI))) (tI : PySem.W.typeIn K (.ref fI) = some (.type "function"))
    (F : FunD K "__init__" qual (exArgs "name" p1 p2 p3) (exBody "name" q1 q2 q3 q4) (exScope "name") [.non] [] fI fd) : ExM P w K mg base x C "name" :=
  ⟨gC, oex, xc, noF, fI, fd, _, iC, tI, okEx_name F, bindEx_name F⟩

theorem scEx_place : FnScope ["self", "place"] ["self", "place"] (exScope "place") := ⟨rfl, rfl, rfl, by decide +kernel, rfl, by decide +kernel, by decide +kernel⟩
theorem okEx_place (F : FunD K "__init__" qual (exArgs "place" p1 p2 p3) (exBody "place" q1 q2 q3 q4) (exScope "place") [.non] [] fI fd) : FnOk P w K mg base CX0 1 fI fd ["self", "place"] (spExI K "place") := by
  refine F.ok scEx_place (fun vs H Q E h => ?_) (fun cdv A outer s H vs Q E hr h => ?_)
  · obtain ⟨a, C, y, rfl, _⟩ := h
    rfl
  · obtain ⟨a, C, y, rfl, T, noF, ha, k⟩ := h
    exact ⟨_, pss_one (ps_ost (pv 0) (pv 1)), ⟨_, rfl, _, rfl, a, C, rfl, T, noF, .inl ⟨ha, k⟩⟩⟩
theorem bindEx_place (F : FunD K "__init__" qual (exArgs "place" p1 p2 p3) (exBody "place" q1 q2 q3 q4) (exScope "place") [.non] [] fI fd) :
    (∀ (self u : Value) (s' : Shared), K.In s'.heap → BindsTo s' fd ⟨[self, u], []⟩ ((["self", "place"] : List Str).zip [self, u])) ∧ (∀ (self u : Value) (s' : Shared), K.In s'.heap → BindsTo s' fd ⟨[self], [("place", u)]⟩ ((["self", "place"] : List Str).zip [self, u])) ∧
    (∀ (self : Value) (s' : Shared), K.In s'.heap → BindsTo s' fd ⟨[self], []⟩ ((["self", "place"] : List Str).zip [self, .none])) := by
  obtain ⟨oc, od, dV, kV, doc, pm, an, cdv, ct, osl, rfl, lk, hcd, hD, hK⟩ := F.ex
  rcases hD with ⟨e, _⟩ | ⟨_, T, o, its, m, rfl, lT, oT, rT⟩
  · cases e
  · obtain rfl := one_none rT
    refine ⟨fun self u s' X => BindsTo.of_looks fun M => ?_, fun self u s' X => BindsTo.of_looks fun M => ?_, fun self s' X => BindsTo.of_looks fun M => ?_⟩
    · have e : ∃ k, bindArgs (PySem.W.fnOf "__init__" qual (exArgs "place" p1 p2 p3) (exBody "place" q1 q2 q3 q4) (exScope "place") (.ref T) kV doc pm an cdv ct) ⟨[self, u], []⟩ = seqItems? (.ref T) >>= k ∧ k (some [Value.none].toArray) = pure ((["self", "place"] : List Str).zip [self, u]) := ⟨_, rfl, rfl⟩
      obtain ⟨k, e1, e2⟩ := e
      rw [e1]
      exact looks_items X lT oT (.of_pure e2)
    · have e : ∃ k, bindArgs (PySem.W.fnOf "__init__" qual (exArgs "place" p1 p2 p3) (exBody "place" q1 q2 q3 q4) (exScope "place") (.ref T) kV doc pm an cdv ct) ⟨[self], [("place", u)]⟩ = seqItems? (.ref T) >>= k ∧ k (some [Value.none].toArray) = pure ((["self", "place"] : List Str).zip [self, u]) := ⟨_, rfl, rfl⟩
      obtain ⟨k, e1, e2⟩ := e
      rw [e1]
      exact looks_items X lT oT (.of_pure e2)
    · have e : ∃ k, bindArgs (PySem.W.fnOf "__init__" qual (exArgs "place" p1 p2 p3) (exBody "place" q1 q2 q3 q4) (exScope "place") (.ref T) kV doc pm an cdv ct) ⟨[self], []⟩ = seqItems? (.ref T) >>= k ∧ k (some [Value.none].toArray) = pure ((["self", "place"] : List Str).zip [self, .none]) := ⟨_, rfl, rfl⟩
      obtain ⟨k, e1, e2⟩ := e
      rw [e1]
      exact looks_items X lT oT (.of_pure e2)
theorem exm_place (gC : mg x = some (.ref C)) (oex : OexC K C) (xc : ExcC K C) (noF : PySem.W.findIn K (.ref C) "place" = some none) (iC : PySem.W.findIn K (.ref C) "__init__" = some (some (.ref fI))) (tI : PySem.W.typeIn K (.ref fI) = some (.type "function"))
    (F : FunD K "__init__" qual (exArgs "place" p1 p2 p3) (exBody "place" q1 q2 q3 q4) (exScope "place") [.non] [] fI fd) : ExM P w K mg base x C "place" :=
  ⟨gC, oex, xc, noF, fI, fd, _, iC, tI, okEx_place F, bindEx_place F⟩
end
end L2

set_option Elab.async false
set_option linter.all false
set_option maxRecDepth 100000
set_option maxHeartbeats 1000000
namespace L2
open PySem PySem.Spec PyProof.Rows
/-- a def's promise where no repr is under way around it -/
structure FnG (P : Program) (w : World) (K : PySem.W.Frag) (mg : Str → Option Value) (base : Heap) (k : Nat) (f : Addr) (fd : FuncData) (ps : List Str) (sp : Sp) : Prop where
  len : ∀ vs H Q E, sp vs H Q E → vs.length = ps.length
  go : ∀ (A : Around) (outer : List Env) (s : Shared) (H : Hp) (args : Args) (us : List Value) (vs : List V) (Q : VK) (E : XK), A.guards = some [] → Room k A → Env0 P w K mg base A outer s H → BindsTo s fd args (ps.zip us) → Vals vs us →
    sp vs H Q E → codeAny (model P w) A (.call (.ref f) args) (CR CX0 outer P w H s Q E) s
theorem FnOk.toG {P : Program} {w : World} {K : PySem.W.Frag} {mg : Str → Option Value} {base : Heap} {k : Nat} {f : Addr} {fd : FuncData} {ps : List Str} {sp : Sp} (F : FnOk P w K mg base CX0 k f fd ps sp) : FnG P w K mg base k f fd ps sp :=
  ⟨F.len, fun A outer s H args us vs Q E _ => F.run A outer s H args us vs Q E⟩
section
variable {P : Program} {w : World} {K : PySem.W.Frag} {mg : Str → Option Value} {base : Heap}
theorem Fun.okG {x qual : Str} {st : Stmt} {f : Addr} {fd : FuncData} {N ps : List Str} {k : Nat} {sp : Sp} (F : Fun K x qual st f fd) (S : FnScope N ps (defScope st)) (len : ∀ vs H Q E, sp vs H Q E → vs.length = ps.length)
    (body : ∀ (cdv : Value) (A : Around) (outer : List Env) (s : Shared) (H : Hp) (vs : List V) (Q : VK) (E : XK), A.guards = some [] → Room k (A.deeper (envOfC qual (defScope st) s.heap.objs.size f cdv)) → sp vs H Q E →
      ∃ t, PSs (cxOf CX0 P w K mg base N qual (defScope st) f cdv A outer s H E).nox (defBody st) t ∧ t { nx := fun _ H' => Q .non H', rt := Q } (start N vs) H) : FnG P w K mg base (k + 1) f fd ps sp := by
  obtain ⟨oc, od, kV, doc, pm, an, cdv, ct, osl, rfl, lk, hcd⟩ := F.ex
  refine ⟨len, fun A outer s H args us vs Q E gA hr e0 hb r hsp => ?_⟩
  have kept : ∀ b o, base.get? b = some o → s.heap.get? b = some o := fun b o e => (e0.bs b o e).1
  have kinds : ∀ y ∈ ps.zip us, (defScope st).names.lookup y.1 = some .local ∨ ((defScope st).names.lookup y.1 = some .cell ∧ ((cellsFrom (s.heap.objs.size + 1) (defScope st).names []).lookup y.1).isSome = true) := by
    rintro ⟨n, v⟩ hy
    exact (S.par n (List.of_mem_zip hy).1).imp id fun q => ⟨q, PySem.W.cellsFrom_some _ _ _ (.inl q)⟩
  obtain ⟨t, ht, hq⟩ := body cdv A outer s H vs Q E gA (hr.deeper _) hsp
  refine codeAny_call_function hr.depth (e0.mod.kin.keeps kept _ _ lk) rfl S.co S.gen rfl (PySem.W.codeRec_of (e0.mod.kin.keeps kept) hcd) (hb _ _ _ _ (wpAny_newFunctionEnv_cells S.kind kinds ?_))
  intro env he s1 x
  subst he
  refine ⟨(e0.mod.nolimit.keeps kept).keeps x.toInCall.keep, codeAny_func (wpAny_mono (ht.nox.run [] s1 (start N vs) H _ (inv_start S hr.hd e0 (len _ _ _ _ hsp) r x) hq) (fun fl s' hs => ?_) fun _ _ z => z)⟩
  have done : ∀ {σ' : St} {H' : Hp} {v : V} {u : Value}, Inv (cxOf CX0 P w K mg base N qual (defScope st) f cdv A outer s H E) [] σ' H' s' → RelV v u → Q v H' → CE outer P w H s Q u s' :=
    fun {σ' H' v u} J rv q => ⟨v, H', J.os, J.bare, J.base, J.hok, rv, q⟩
  match fl, hs with
  | .ret _, ⟨_, _, _, J, rv, q⟩ => exact done J rv q
  | .next, ⟨_, _, J, q⟩ => exact done (v := V.non) (u := Value.none) J rfl q
  | .brk, ⟨_, _, _, q⟩ => exact q.elim
  | .cont, ⟨_, _, _, q⟩ => exact q.elim
end
/-- the script alone may be tracked, as a thing known to the object; then the law's call -/
theorem call_lawG {P : Program} {w : World} {K : PySem.W.Frag} {mg mb : Str → Option Value} {k : Nat} {fa a : Addr} {fd : FuncData} {x : Str} {sp : Sp} {s₁ : Shared} {vs : List Value} {ns : List Int}
    (KX : K.In s₁.heap) (hns : s₁.heap.Ns mainGlobals mg) (hb : s₁.heap.Ns builtinsNs mb) (hbb : ∀ x : Str, x ≠ "__name__" → mb x = bootBuiltins x) (hlim : s₁.heap.NoLimit) (hg : s₁.gens = #[])
    (ha : s₁.heap.get? a = some { cls := .type "list", data := .seq vs.toArray }) (hi : IntsAre vs ns) (hl : ns.length ≤ sizeLine) (hr : Room k callerA)
    (F : ∀ base : Heap, K.In base → base.Ns mainGlobals mg → FnG P w K mg base k fa fd [x] sp) (hbind : ∀ (s : Shared) (u : Value), BindsTo s fd ⟨[u], []⟩ [(x, u)])
    (hsp : ∀ H : Hp, SqL K H a (ns.map V.int) → (∀ b u, H b = some u → ∃ o xs, u = .frz o (.lst xs)) → sp [.ref a] H (fun v _ => v = .bl true) fun _ _ _ => False) :
    codeAny (model P w) callerA (.call (.ref fa) ⟨[.ref a], []⟩) (fun r s' => r = .ok (.ret (.bool true)) ∧ OldK s₁.heap s'.heap ∧ s'.os = s₁.os ∧ AllBare s'.gens) s₁ := by
  have rv := vals_ints hi
  have from_ : ∀ H : Hp, SqL K H a (ns.map V.int) → HOk P w H s₁.heap → (∀ b u, H b = some u → b = a ∧ K.lookup a = none ∧ ∃ o xs, u = .frz o (.lst xs)) →
      codeAny (model P w) callerA (.call (.ref fa) ⟨[.ref a], []⟩) (fun r s' => r = .ok (.ret (.bool true)) ∧ OldK s₁.heap s'.heap ∧ s'.os = s₁.os ∧ AllBare s'.gens) s₁ := by
    intro H hS hok only
    have un_ : ∀ {b : Addr}, b ≠ a → H b = none := fun {b} n => by
      rcases q : H b with _ | u
      · rfl
      · exact absurd (only b u q).1 n
    have nsK : ∀ {b : Addr} {m : Str → Option Value}, s₁.heap.Ns b m → (hidT s₁.heap H).Ns b m := fun {b m} hn => by
      obtain ⟨o, es, ep, e, d, r⟩ := hn
      refine ⟨o, es, ep, hidT_get e (un_ fun z => ?_), d, r⟩
      rw [z, ha] at e
      obtain rfl := Option.some.inj e
      cases d
    have hKb : K.In (hidT s₁.heap H) := fun b o e => hidT_get (KX b o e) (by
      rcases q : H b with _ | u
      · rfl
      · obtain ⟨z, n, _⟩ := only b u q
        rw [z, n] at e
        cases e)
    obtain ⟨mc, c1, c2⟩ := hlim
    have e0 : Env0 P w K mg (hidT s₁.heap H) callerA [] s₁ H :=
      ⟨rfl, ⟨hKb, nsK hns, ⟨mb, nsK hb, hbb⟩, ⟨mc, nsK c1, c2⟩⟩, fun b o e => of_hidT e, Nat.le_of_eq (hidT_size _ _), trivial, fun b z => (List.not_mem_nil z).elim, hok, .of_eq hg⟩
    refine codeAny_mono ((F _ hKb (nsK hns)).go callerA [] s₁ H ⟨[.ref a], []⟩ [.ref a] [.ref a] _ _ rfl hr e0 (hbind s₁ (.ref a)) (.cons rfl .nil) (hsp H hS fun b u q => (only b u q).2.2)) fun r s' h => ?_
    match r, h with
    | .ok (.ret u), ⟨v, H', os, bare, un, hok', r', q⟩ =>
      obtain rfl : v = .bl true := q
      obtain rfl : u = Value.bool true := r'
      refine ⟨rfl, OldK.of_keep fun b o e => ?_, os, bare⟩
      rcases z : H b with _ | u
      · exact un.keep b o e z (fun y => List.not_mem_nil y) (fun y => List.not_mem_nil y)
      · obtain ⟨_, _, ob, xs, rfl⟩ := only b u z
        have e1 := (hok b _ z).1
        rw [e] at e1
        obtain rfl := Option.some.inj e1
        exact (hok' b _ (un.frzs b o _ z)).1
  rcases hk : K.lookup a with _ | o
  · refine from_ (fun b => if b = a then some (.frz { cls := .type "list", data := .seq vs.toArray } (.lst (ns.map V.int))) else none) (.inl (.inr ⟨_, if_pos rfl⟩)) (fun b u z => ?_) fun b u z => ?_
    all_goals
      (try dsimp only at z)
      by_cases n : b = a
      · rw [if_pos n] at z
        obtain rfl := Option.some.inj z
        first
          | exact ⟨n, hk, _, _, rfl⟩
          | (subst n; exact ⟨ha, by rw [List.length_map]; exact hl, vs, _, rv, ha⟩)
      · rw [if_neg n] at z
        cases z
  · have e := KX a o hk
    rw [ha] at e
    obtain rfl := Option.some.inj e
    exact from_ (fun _ => none) (.inr ⟨_, vs.toArray, _, hk, rfl, rfl, rfl, by rw [List.size_toArray, hi.length]; exact hl, by simpa using rv⟩) (fun b u z => by cases (show (none : Option HO) = some u from z)) fun b u z => by cases z
/-- the goal that the head leaves, from the law's promise -/
theorem walk_ofG {l : PySem.W.OpenLaw} {n k : Nat} {q : Program} {loose : List Str} {XP : (Str → Option Value) → Heap → Prop} {YP : World → Heap → Prop} {d : DefRec} {K : Params → PySem.W.Frag} {sp : World → Sp} {x : Str}
    (hn : l.most = some n) (hn2 : n ≤ sizeLine) (hdf : d.params.defaults = []) (hr : Room k callerA) (hY : ∀ (w : World) (h : Heap), YP w h → (K w.params).In h)
    (F : ∀ (w : World) (mg : Str → Option Value) (fa : Addr) (h : Heap), (K w.params).In h → h.Ns mainGlobals mg → mg d.name = some (.ref fa) →
      ∃ fd : FuncData, (∀ (s : Shared) (u : Value), BindsTo s fd ⟨[u], []⟩ [(x, u)]) ∧ ∀ base : Heap, (K w.params).In base → base.Ns mainGlobals mg → FnG l.prog w (K w.params) mg base k fa fd [x] (sp w))
    (hsp : ∀ (w : World) (H : Hp) (a : Addr) (ns : List Int), ns.length ≤ n → SqL (K w.params) H a (ns.map V.int) → (∀ b u, H b = some u → ∃ o xs, u = .frz o (.lst xs)) → sp w [.ref a] H (fun v _ => v = .bl true) fun _ _ _ => False) :
    PySem.W.WalkO q loose XP YP l.row.toRowW d [] (fun f vs => PySem.call f vs) := by
  refine Att.attach_call hn hdf ?_
  intro w s₀ s₁ mg mb fa o pm cd doc a vs ns G Y ho hd hcd hmg hobj hints hlen hg
  obtain ⟨fd, hb, hF⟩ := F w mg fa _ (hY w _ Y) G.T.g hmg
  exact call_lawG (hY w _ Y) G.T.g G.T.b G.T.builtins G.T.nolimit hg hobj hints (Nat.le_trans hlen hn2) hr hF hb fun H hS o => hsp w H a ns hlen hS o
end L2

set_option Elab.async false
set_option linter.all false
set_option maxRecDepth 100000
set_option maxHeartbeats 1000000
namespace L2
open PySem PySem.Spec PyProof.Rows
/-- the looks that ExcC and OexC want, as one Bool each -/
def xcB (K : PySem.W.Frag) (D : Addr) : Bool :=
  decide (PySem.W.findIn K (.ref D) "__getattribute__" = some (some (.builtin "BaseException.__getattribute__"))) && decide (PySem.W.findIn K (.ref D) "__getattr__" = some none) && decide (PySem.W.subIn K (.ref D) (.type "BaseException") = some true) && PySem.W.hasDictIn K D &&
  decide (PySem.W.findIn K (.ref D) "__class__" = some (some (.builtin "object.__class__"))) && decide (PySem.W.specialIn K (.builtin "object.__class__") "__get__" = some (some (.builtin "getset_descriptor.__get__"))) && decide (PySem.W.takesIn K (.builtin "object.__class__") = some true) && decide (PySem.W.mroIn K D (.type "object") = some true)
theorem xc_of {K : PySem.W.Frag} {D : Addr} (h : xcB K D = true) : ExcC K D := by
  simp only [xcB, Bool.and_eq_true, decide_eq_true_eq] at h
  obtain ⟨⟨⟨⟨⟨⟨⟨h1, h2⟩, h3⟩, h4⟩, h5⟩, h6⟩, h7⟩, h8⟩ := h
  exact ⟨h1, h2, h3, h4, h5, h6, h7, h8⟩
def oexB (K : PySem.W.Frag) (C : Addr) : Bool :=
  (match K.lookup C with
  | some ⟨.type "type", _, .cls cd, sl⟩ => (match cd.mro, sl.toList with
    | .ref C' :: bm, [_, _, _, _, some (.builtin n), _] => C' == C && n == "ValueError.__new__" && cd.hasDict && !cd.hasDel && PySem.HandSPX.refsVE bm
    | _, _ => false)
  | _ => false) && decide (PySem.W.findIn K (.ref C) "__setattr__" = some (some (.builtin "object.__setattr__"))) && decide (PySem.W.subIn K (.ref C) (.type "BaseException") = some true) && decide (PySem.W.typeIn K (.ref C) = some (.type "type")) && PySem.W.keepIn K (.ref C)
theorem oex_of {K : PySem.W.Frag} {C : Addr} (h : oexB K C = true) : OexC K C := by
  simp only [oexB, Bool.and_eq_true, decide_eq_true_eq] at h
  obtain ⟨⟨⟨⟨q, h2⟩, h3⟩, h4⟩, h5⟩ := h
  refine ⟨?_, h2, h3, h4, h5⟩
  split at q
  · rename_i dd cd sl ho
    split at q
    · rename_i C' bm k0 k1 k2 k3 n k5 hm hs
      simp only [Bool.and_eq_true, beq_iff_eq, Bool.not_eq_true'] at q
      obtain ⟨⟨⟨⟨rfl, rfl⟩, hd⟩, hdel⟩, ht⟩ := q
      obtain ⟨nm, bs, mro, ns, qn, hD, sn, sub, ab, col, del⟩ := cd
      obtain ⟨l⟩ := sl
      dsimp only at hm hdel hd hs
      subst hm hdel hd hs
      exact ⟨nm, qn, ns, bs, bm, sn, sub, ab, col, dd, k0, k1, k2, k3, k5, ho, ht⟩
    · cases q
  · cases q
/-- isinstance between own classes at cs: each is of itself alone -/
def apartB (K : PySem.W.Frag) (cs : List Addr) : Bool :=
  (List.range cs.length).all fun i => (List.range cs.length).all fun j => match cs[i]?, cs[j]? with
    | some c, some d => decide (PySem.W.kitOne K (.ref c) (.ref d) = some (decide (j = i)))
    | _, _ => false
theorem apart_of {K : PySem.W.Frag} {cs : List Addr} (h : apartB K cs = true) {i j : Nat} {c d : Addr} (hi : cs[i]? = some c) (hj : cs[j]? = some d) : PySem.W.kitOne K (.ref c) (.ref d) = some (decide (j = i)) := by
  have li := (List.getElem?_eq_some_iff.mp hi).1
  have lj := (List.getElem?_eq_some_iff.mp hj).1
  have h1 := List.all_eq_true.mp (List.all_eq_true.mp h i (List.mem_range.mpr li)) j (List.mem_range.mpr lj)
  rw [hi, hj] at h1
  exact of_decide_eq_true h1
def allB (cs : List Addr) (f : Addr → Bool) : Bool := cs.all f
theorem allB_of {cs : List Addr} {f : Addr → Bool} (h : allB cs f = true) {i : Nat} {c : Addr} (hi : cs[i]? = some c) : f c = true := List.all_eq_true.mp h c (List.mem_of_getElem? hi)
theorem Same.upd {H : Hp} {p : Addr} {o : HO} (h : H p = none) : Same H (L2.upd H p o) := fun b u q => by
  rw [upd_ne (ne_of_none q h)]
  exact q
/-- isinstance(x, C), x a name that holds an exception, C an own class or a built-in type -/
def tIsi (K : PySem.W.Frag) (i : Nat) (u : Value) : TE := fun σ H Q => ∃ e D fs b, σ[i]? = some (some (V.ref e)) ∧ ExT H e D fs ∧ ExcC K D ∧ PySem.W.kitOne K (.ref D) u = some b ∧ Q (.bl b) H
section
variable {X : Cx} {x y : Str} {C : Addr} {p q r pos : Pos} {i : Nat}
theorem pe_isi (hm : X.mg "isinstance" = none) (gC : X.mg y = some (.ref C)) (hN : X.N[i]? = some x := by rfl) (hv : Vis X.env.scope x := by first | exact Or.inl rfl | exact Or.inr (Or.inl rfl) | exact Or.inr (Or.inr rfl)) (hg : Gl X "isinstance" := by rfl) (hy : Gl X y := by rfl)
    (hd : (x == ("__debug__" : Str)) = false := by decide) (hcd : (x == ("__classdict__" : Str)) = false := by decide) (hd2 : (y == ("__debug__" : Str)) = false := by decide)
    (he : starEach (Expr.Name x q :: [Expr.Name y r]) X.env = (false, eval (Expr.Name x q) X.env) :: starEach [Expr.Name y r] X.env := by rfl) (hpl : (backTo pos (starEach [Expr.Name y r] X.env)).any (·.1) = false := by rfl)
    (he2 : starEach [Expr.Name y r] X.env = (false, eval (Expr.Name y r) X.env) :: starEach [] X.env := by rfl) :
    PE X (.Call (.Name "isinstance" p) [.Name x q, .Name y r] [] pos) (tIsi X.K i (.ref C)) := by
  refine ⟨fun pins s σ H Q I h => ?_⟩
  obtain ⟨e, D, fs, b, hs, ex, T, hk, hq⟩ := h
  exact (pe_callB (t := tCons (tVar i) (tCons (tC (.ref C)) tNil)) call_isX hg hm (by decide +kernel) (pa_cons (pv i hN hv hd hcd) (pa_cons (pe_glob hy gC rfl hd2) pa_nil) )).run pins s σ H Q I ⟨_, hs, e, D, fs, _, _, b, rfl, .own C, ex, T, hk, hq⟩
theorem pe_isiT {n : String} (hm : X.mg "isinstance" = none) (hmy : X.mg y = none) (hvy : bootBuiltins y = some (.type n)) (hN : X.N[i]? = some x := by rfl) (hv : Vis X.env.scope x := by first | exact Or.inl rfl | exact Or.inr (Or.inl rfl) | exact Or.inr (Or.inr rfl)) (hg : Gl X "isinstance" := by rfl) (hy : Gl X y := by rfl)
    (hd : (x == ("__debug__" : Str)) = false := by decide) (hcd : (x == ("__classdict__" : Str)) = false := by decide) (hn2 : y ≠ "__name__" := by decide) (hd2 : (y == ("__debug__" : Str)) = false := by decide)
    (he : starEach (Expr.Name x q :: [Expr.Name y r]) X.env = (false, eval (Expr.Name x q) X.env) :: starEach [Expr.Name y r] X.env := by rfl) (hpl : (backTo pos (starEach [Expr.Name y r] X.env)).any (·.1) = false := by rfl)
    (he2 : starEach [Expr.Name y r] X.env = (false, eval (Expr.Name y r) X.env) :: starEach [] X.env := by rfl) :
    PE X (.Call (.Name "isinstance" p) [.Name x q, .Name y r] [] pos) (tIsi X.K i (.type n)) := by
  refine ⟨fun pins s σ H Q I h => ?_⟩
  obtain ⟨e, D, fs, b, hs, ex, T, hk, hq⟩ := h
  exact (pe_callB (t := tCons (tVar i) (tCons (tC (.ty n)) tNil)) call_isX hg hm (by decide +kernel) (pa_cons (pv i hN hv hd hcd) (pa_cons (pe_bltn hy hmy hvy rfl hn2 hd2) pa_nil) )).run pins s σ H Q I ⟨_, hs, e, D, fs, _, _, b, rfl, .ty n, ex, T, hk, hq⟩
end
end L2

set_option Elab.async false
set_option linter.all false
set_option maxRecDepth 100000
set_option maxHeartbeats 1000000
namespace L2
open PySem PySem.Spec PyProof.Rows
/-- v shows as the data d: data without dicts, or a flat dict -/
inductive Shw (K : PySem.W.Frag) (H : Hp) : V → PyData → Prop where
  | dp {v : V} {d : PyData} (h : Dp K H v d) (n : d.hasDict = false) : Shw K H v d
  | d0 {q : Addr} (h : H q = some (.dK [])) : Shw K H (.ref q) (.dict [])
  | d1 {q : Addr} {x : Str} {i : Int} (h : H q = some (.dK [(.inr x, .int i)])) : Shw K H (.ref q) (.dict [(.str x, .int i)])
section
variable {X : Cx} {pins : List (Addr × Obj)} {σ : St} {H : Hp} {s : Shared}
theorem Shw.reads (I : Inv X pins σ H s) {v : V} {d : PyData} {u : Value} (h : Shw X.K H v d) (r : RelV v u) : ∃ as, Reads s.heap u d as ∧ (d.hasDict = true → sysModules ∉ as) := by
  cases h with
  | dp h n =>
    obtain ⟨as, q⟩ := Dp.reads I d v u h r
    exact ⟨as, q, fun z => by rw [n] at z; cases z⟩
  | @d0 q h =>
    obtain rfl : u = Value.ref q := r
    obtain ⟨_, ne, vs, kv, o, es, ep, ho, ex, hd, _, ps, _⟩ := dk_of I.hok h
    cases kv
    have e0 : es.toList = [] := by
      cases hl : es.toList with
      | nil => rfl
      | cons a l => rw [hl] at ps; cases ps
    refine ⟨_, Reads.dict (kvs := []) ho ex.1 hd (by rw [e0]; exact .nil) (by rw [e0]; exact .nil), fun _ hm => ?_⟩
    have hm' : sysModules ∈ [q] := by simpa using hm
    have e : sysModules = q := by simpa using hm'
    rw [← e] at ne
    exact absurd ne (by decide)
  | @d1 q x i h =>
    obtain rfl : u = Value.ref q := r
    obtain ⟨_, ne, vs, kv, o, es, ep, ho, ex, hd, _, ps, _⟩ := dk_of I.hok h
    cases kv with
    | @cons _ kw _ vs' hk kt =>
      cases kt
      obtain ⟨k, w'⟩ := kw
      obtain ⟨ek, ri⟩ := hk
      dsimp only at ek ri
      subst ek
      obtain ⟨t', rfl⟩ := (show ∃ t, w' = Value.int i t from ri)
      generalize hl : es.toList = l at ps
      cases ps with
      | @cons a _ l' _ k1 k2 pl =>
        cases pl
        rcases keyIs_shape (show keyIs (.inr x) a.key = true from k1) with ⟨_, _, z, _⟩ | ⟨y, ty, z, e2⟩
        · cases z
        · cases z
          refine ⟨_, Reads.dict (kvs := [(.str x, .int i)]) ho ex.1 hd (by rw [hl]; exact .cons (by show Reads s.heap a.key (.str x) _; rw [e2]; exact .str x ty) .nil) (by rw [hl]; exact .cons (by show Reads s.heap a.val (.int i) _; rw [k2]; exact .int i t') .nil), fun _ hm => ?_⟩
          have e : sysModules = q := by simpa using hm
          rw [← e] at ne
          exact absurd ne (by decide)
theorem Shw.readsAll (I : Inv X pins σ H s) {v : V} {d : PyData} (h : Shw X.K H v d) : ∀ (n : Nat) {us : List Value}, Vals (List.replicate n v) us → ∃ as, ReadsAll s.heap us (List.replicate n d) as ∧ (d.hasDict = true → sysModules ∉ as)
  | 0, _, .nil => ⟨_, .nil, fun _ hm => by cases hm⟩
  | n + 1, _, .cons r rs => by
    obtain ⟨as, q1, n1⟩ := Shw.reads I h r
    obtain ⟨bs, q2, n2⟩ := Shw.readsAll I h n rs
    exact ⟨_, .cons q1 q2, fun z hm => (List.mem_append.mp hm).elim (n1 z) (n2 z)⟩
end
theorem hasDict_rep (d : PyData) : ∀ n : Nat, PyData.hasDictAll (List.replicate n d) = true → d.hasDict = true
  | 0, h => by cases h
  | n + 1, h => by
    have h' : (d.hasDict || PyData.hasDictAll (List.replicate n d)) = true := h
    rcases Bool.or_eq_true_iff.mp h' with q | q
    · exact q
    · exact hasDict_rep d n q
theorem showable_rep {d : PyData} (h : d.showable = true) : ∀ n : Nat, PyData.showableAll (List.replicate n d) = true
  | 0 => rfl
  | n + 1 => by
    show (d.showable && PyData.showableAll (List.replicate n d)) = true
    rw [h, showable_rep h n]
    rfl
theorem depth_rep {d : PyData} : ∀ n : Nat, PyData.depthAll (List.replicate n d) ≤ d.depth
  | 0 => Nat.zero_le _
  | n + 1 => Nat.max_le.mpr ⟨Nat.le_refl _, depth_rep n⟩
/-- repr(xs), xs a list of one thing again and again -/
def rReprR (K : PySem.W.Frag) : List V → Hp → VK → Prop := fun xs H Q => ∃ (p : Addr) (n : Nat) (v : V) (d : PyData), xs = [.ref p] ∧ H p = some (.lst (List.replicate (n + 1) v)) ∧ Shw K H v d ∧ d.showable = true ∧ d.depth ≤ 20 ∧ (PyData.list (List.replicate (n + 1) d)).shown.length ≤ sizeLine ∧
  Q (.str (PyData.list (List.replicate (n + 1) d)).shown) H
theorem call_reprR {X : Cx} (hg : X.A.guards = some []) (hu : X.A.units + 64 < cLine) : CallR X (.builtin "repr") (rReprR X.K) := by
  intro pins s σ H xs us Q I r h
  obtain ⟨p, n, v, d, rfl, hp, hv, hs, hd, hz, q⟩ := h
  match us, r with
  | [_], .cons rp .nil =>
    obtain rfl := rp
    obtain ⟨_, its, m, rv, _, he⟩ := I.lstM hp
    obtain ⟨as, ra, na⟩ := Shw.readsAll I hv (n + 1) rv
    have hz' : (listText (PyData.shownAll (List.replicate (n + 1) d))).length ≤ sizeLine := by simpa only [PyData.shown] using hz
    obtain ⟨bs, hb, hk⟩ := ReprAllK.of_readsAll (prog := X.prog) (w := X.w) ra (showable_rep hs (n + 1)) (fun z => na (hasDict_rep d _ z)) (fun t ht => Nat.le_trans (listText_mem_le ht) hz')
    have out : Reads s.heap (.ref p) (.list (List.replicate (n + 1) d)) _ := .list he rfl rfl ra
    have dle : PyData.depthAll (List.replicate (n + 1) d) ≤ 20 := Nat.le_trans (depth_rep _) hd
    have hna : p ∉ bs := not_mem_of_deeper out (by simp only [PyData.depth]; omega) hb
    match its, rv, he, hk with
    | x :: l, _, he, hk =>
      refine call_repr_slot (T := "list") (idr := "list.__repr__") (by omega) ⟨_, he, rfl⟩ PySem.F.slot_list_repr.toG ?_
      refine call_list_reprK he rfl rfl hna (by simpa using hk.length_eq) (fun i y e => hk.item i y (by simpa using e)) hg (fun b _ => Clear.nil b) (by show X.A.units + 1 + _ < cLine; omega) (fun _ _ e => e) (fun h' u tk k => ?_) hz'
      exact ⟨_, _, rfl, .str (PyData.list (List.replicate (n + 1) d)).shown, H, I.kept (t' := tk) k, ⟨u, by simp only [PyData.shown]⟩, q⟩
/-- a text n times -/
def mulS (z : Str) (n : Int) : Str := if n < 1 then Str.empty else if (n == 1 || z.length == 0) = true then z else ⟨(List.replicate n.toNat z.cps).foldl (· ++ ·) #[]⟩
theorem op_mul_str {X : Cx} : OpR X (binaryOp .Mult) (fun x y H Q => ∃ (z : Str) (n : Int), x = .str z ∧ y = .int n ∧ 0 ≤ n ∧ n < 64 ∧ z.length ≤ 1000 ∧ (mulS z n).length ≤ sizeLine ∧ Q (.str (mulS z n)) H) := by
  intro pins s σ H x y v u Q I rx ry h
  obtain ⟨z, n, rfl, rfl, h0, h1, hz, hs, q⟩ := h
  obtain ⟨t, rfl⟩ := rx
  obtain ⟨t', rfl⟩ := ry
  refine PySem.P.mul_str (by rw [decide_eq_false (by omega), decide_eq_false (by omega)]; rfl) (fun h2 _ h3 => ?_) (fun h2 _ => ?_) ?_
  · have h4 : (2 ^ 63 - 1) / 64 ≤ ((2 ^ 63 - 1) / n : Int) := Int.le_ediv_of_mul_le (by omega) (by omega)
    omega
  · have h5 : z.length * n.toNat ≤ 1000 * 64 := Nat.mul_le_mul hz (by omega)
    unfold Builtin.Str.tooLong
    rw [sizeLine_eq]
    exact decide_eq_false (by omega)
  · unfold mulS at q hs
    by_cases c1 : n < 1
    · rw [if_pos c1] at q ⊢
      exact ⟨by decide, .str Str.empty, H, I.tok _, ⟨_, rfl⟩, q⟩
    · rw [if_neg c1] at q hs ⊢
      by_cases c2 : (n == 1 || z.length == 0) = true
      · rw [if_pos c2] at q ⊢
        exact ⟨.str z, H, I, ⟨_, rfl⟩, q⟩
      · rw [if_neg c2] at q hs ⊢
        exact ⟨hs, .str _, H, I.tok _, ⟨_, rfl⟩, q⟩
end L2

set_option Elab.async false
set_option linter.all false
set_option maxRecDepth 100000
set_option maxHeartbeats 1000000
namespace L2
open PySem PySem.Spec PyProof.Rows
/-- a new object at p, all else as it was: what is wanted of it -/
def NewQ (H : Hp) (o : HO) (Q : VK) : Prop := ∀ p H', Same H H' → H p = none → H' p = some o → Q (.ref p) H'
theorem NewQ.at {H : Hp} {o : HO} {Q : VK} (h : NewQ H o Q) {p : Addr} (n : H p = none) : Q (.ref p) (L2.upd H p o) := h p _ (Same.upd n) n upd_same
def tLstS (t : TA) : TE := fun σ H Q => t σ H fun xs H1 => xs.length ≤ sizeLine ∧ NewQ H1 (.lst xs) Q
def tTupS (t : TA) : TE := fun σ H Q => t σ H fun xs H1 => xs.length ≤ sizeLine ∧ NewQ H1 (.tup xs) Q
def rCatS : R2 := fun x y H Q => ∃ l b xs zs, x = .ref l ∧ y = .ref b ∧ H l = some (.lst xs) ∧ H b = some (.lst zs) ∧ xs.length + zs.length ≤ sizeLine ∧ NewQ H (.lst (xs ++ zs)) Q
def rRepS : R2 := fun x y H Q => ∃ l k xs, x = .ref l ∧ y = .int k ∧ H l = some (.lst xs) ∧ -(2 ^ 63) ≤ k ∧ k < 2 ^ 63 ∧ xs.length * k.toNat ≤ sizeLine ∧ NewQ H (.lst (List.replicate k.toNat xs).flatten) Q
def rSlW (K : PySem.W.Frag) : V → Option Int → Option Int → Hp → VK → Prop := fun x lo hi H Q => ∃ a xs, x = .ref a ∧ SqL K H a xs ∧ NewQ H (.lst (cutV xs lo hi)) Q
section
variable {X : Cx} {es : List Expr} {t : TA} {pos : Pos}
theorem pe_lstS (h : PA X es t) : PE X (.List es pos) (tLstS t) :=
  ⟨fun pins s σ H Q I hq => wpAny_List_spliced (thn (h.run pos pins s σ H _ I hq) fun us s1 ⟨xs, H1, I1, r, z, q⟩ => ⟨by rw [← r.length]; exact z,
    .ref s1.heap.objs.size, _, I1.laid (t' := s1.toks) (o := .lst xs) (fun _ _ e => Heap.get?_push_of_some _ e) (Nat.le_refl _) ⟨z, us, 0, r, Heap.get?_push_size _ rfl⟩, rfl, q.at I1.fresh⟩)⟩
theorem pe_tupS {x1} (h : PA X es t) : PE X (.Tuple es x1 pos) (tTupS t) :=
  ⟨fun pins s σ H Q I hq => wpAny_Tuple_spliced (thn (h.run pos pins s σ H _ I hq) fun us s1 ⟨xs, H1, I1, r, z, q⟩ => ⟨by rw [← r.length]; exact z,
    .ref s1.heap.objs.size, _, I1.laid (t' := s1.toks) (o := .tup xs) (fun _ _ e => Heap.get?_push_of_some _ e) (Nat.le_refl _) ⟨z, us, r, ⟨_, Heap.get?_push_size _ rfl, rfl, _, rfl⟩⟩, rfl, q.at I1.fresh⟩)⟩
theorem op_catS : OpR X (binaryOp .Add) rCatS := fun pins s σ H x y v u Q I rx ry ⟨l, b, xs, zs, e1, e2, h1, h2, hz, q⟩ => op_cat pins s σ H x y v u Q I rx ry ⟨l, b, xs, zs, e1, e2, h1, h2, hz, fun _ n => q.at n⟩
theorem op_repS : OpR X (binaryOp .Mult) rRepS := fun pins s σ H x y v u Q I rx ry ⟨l, k, xs, e1, e2, h1, h2, h3, hz, q⟩ => op_rep pins s σ H x y v u Q I rx ry ⟨l, k, xs, e1, e2, h1, h2, h3, hz, fun _ n => q.at n⟩
theorem sl_listS : SlR X (rSlW X.K) := fun pins s σ H x v vl vu lo hi sl Q I rx hs hl hh ⟨a, xs, e, h, q⟩ => sl_list pins s σ H x v vl vu lo hi sl Q I rx hs hl hh ⟨a, xs, e, h, fun _ n => q.at n⟩
/-- {} with text or int keys -/
theorem pe_dnewS : PE X (.Dict [] [] pos) (fun _ H Q => NewQ H (.dK []) Q) := ⟨fun pins s σ H Q I h => pe_dnewK.run pins s σ H Q I fun _ n => NewQ.at h n⟩
end
theorem Same.lst {H H' : Hp} {a : Addr} {o : HO} (S : Same H H') (h : H a = some o) : H' a = some o := S _ _ h
end L2

set_option Elab.async false
set_option linter.all false
set_option maxRecDepth 100000
set_option maxHeartbeats 1000000
/-! a + b, a * b, -a where a is an instance of an own class that says what they are. -/
namespace L2
open PySem PySem.Spec PyProof.Rows
theorem back_of {X : Cx} {pins : List (Addr × Obj)} {σ : St} {Q : VK} {u : Value} {s : Shared} (h : EP X pins σ Q u s) : PySem.W.CmpBack (EP X pins σ Q) u s := by
  obtain ⟨v, H, I, r, q⟩ := h
  have h : EP X pins σ Q u s := ⟨v, H, I, r, q⟩
  cases v with
  | non => obtain rfl := (show u = Value.none from r); exact h
  | bl b => obtain rfl := (show u = Value.bool b from r); exact h
  | int i => obtain ⟨t, rfl⟩ := (show ∃ t, u = Value.int i t from r); exact h
  | str i => obtain ⟨t, rfl⟩ := (show ∃ t, u = Value.str i t from r); exact h
  | byt i => obtain ⟨t, rfl⟩ := (show ∃ t, u = Value.bytes i t from r); exact h
  | flt i => obtain ⟨t, rfl⟩ := (show ∃ t, u = Value.float i t from r); exact h
  | ref a => obtain rfl := (show u = Value.ref a from r); exact h
  | ty n => obtain rfl := (show u = Value.type n from r); exact h
/-- what the class says of an operator's method -/
structure OwnOp (K : PySem.W.Frag) (C : Addr) (name : Str) (f : Addr) : Prop where
  first : PySem.W.selfFirst K C = true
  has : PySem.W.findIn K (.ref C) name = some (some (.ref f))
  fn : PySem.W.isFn K (.ref f) = true
/-- the same where the right side is a whole number: int's own slots, and no reflected method of the class's -/
structure OwnOpI (K : PySem.W.Frag) (C : Addr) (name : String) (f : Addr) : Prop where
  one : OwnOp K C (PySem.dunder name) f
  refl : ∃ rc, PySem.W.findIn K (.ref C) (dunderR name) = some rc ∧ (rc = none ∨ ∃ g : Addr, rc = some (.ref g))
  i1 : ∃ fo, PySem.W.findIn K (.type "int") (PySem.dunder name) = some fo
  i2 : ∃ ro, PySem.W.findIn K (.type "int") (dunderR name) = some ro
  sub : PySem.W.subIn K (.type "int") (.ref C) = some false
def rOwn (C : Addr) (sp : Sp) : R2 := fun x y H Q => ∃ p q dx fs dy gs, x = .ref p ∧ y = .ref q ∧ H p = some (.ins C dx fs) ∧ H q = some (.ins C dy gs) ∧ sp [x, y] H Q E0
def rOwnI (C : Addr) (sp : Sp) : R2 := fun x y H Q => ∃ p n dx fs, x = .ref p ∧ y = .int n ∧ H p = some (.ins C dx fs) ∧ sp [x, y] H Q E0
def rOwnN (C : Addr) (sp : Sp) : V → Hp → VK → Prop := fun x H Q => ∃ p dx fs, x = .ref p ∧ H p = some (.ins C dx fs) ∧ sp [x] H Q E0
section
variable {X : Cx} {op : Operator} {C f : Addr} {fd : FuncData} {ps : List Str} {sp : Sp} {k : Nat}
theorem inst_of {pins : List (Addr × Obj)} {σ : St} {H : Hp} {s : Shared} {p dx : Addr} {fs : List (Str × V)} (I : Inv X pins σ H s) (e : H p = some (.ins C dx fs)) : ∃ ox od, PySem.W.InstAt s.heap p ox C od := by
  obtain ⟨mA, O, _⟩ := ins_get I.hok e
  obtain ⟨od, J, _⟩ := O.look
  exact ⟨_, _, J⟩
theorem op_own (O : OwnOp X.K C (PySem.dunder op.info.2) f) (F : FnOk X.prog X.w X.K X.mg X.base CX0 k f fd ps sp) (hr : Room k X.A) (hb : Binds X.K fd ps []) : OpR X (binaryOp op) (rOwn C sp) := by
  intro pins s σ H x y v u Q I rx ry h
  obtain ⟨p, q, dx, fs, dy, gs, rfl, rfl, ep, eq, hq⟩ := h
  have run := run_fn (dvs := []) (E := E0) F hr hb .nil pass0 I (.cons rx (.cons ry .nil)) hq
  obtain rfl : v = Value.ref p := rx
  obtain rfl : u = Value.ref q := ry
  obtain ⟨ox, od, J⟩ := inst_of I ep
  obtain ⟨oy, oe, J2⟩ := inst_of I eq
  obtain ⟨m, fr⟩ := I.fr
  exact PySem.W.binop_K fr I.ok.mod.kin J J2.type O.first O.has O.fn (thn run fun _ _ z => back_of z)
theorem op_ownI (O : OwnOpI X.K C op.info.2 f) (F : FnOk X.prog X.w X.K X.mg X.base CX0 k f fd ps sp) (hr : Room k X.A) (hb : Binds X.K fd ps []) : OpR X (binaryOp op) (rOwnI C sp) := by
  intro pins s σ H x y v u Q I rx ry h
  obtain ⟨p, n, dx, fs, rfl, rfl, ep, hq⟩ := h
  have run := run_fn (dvs := []) (E := E0) F hr hb .nil pass0 I (.cons rx (.cons ry .nil)) hq
  obtain rfl : v = Value.ref p := rx
  obtain ⟨t, rfl⟩ := ry
  obtain ⟨ox, od, J⟩ := inst_of I ep
  obtain ⟨m, fr⟩ := I.fr
  obtain ⟨rc, r1, r2⟩ := O.refl
  obtain ⟨fo, i1⟩ := O.i1
  obtain ⟨ro, i2⟩ := O.i2
  exact PySem.W.ksp_binT fr I.ok.mod.kin J (T := "int") rfl O.one.first O.one.has O.one.fn r1 r2 i1 i2 O.sub (thn run fun _ _ z => back_of z)
theorem un_own (O : OwnOp X.K C "__neg__" f) (F : FnOk X.prog X.w X.K X.mg X.base CX0 k f fd ps sp) (hr : Room k X.A) (hb : Binds X.K fd ps []) : UnR X (unaryOp .USub) (rOwnN C sp) := by
  intro pins s σ H x v Q I rx h
  obtain ⟨p, dx, fs, rfl, ep, hq⟩ := h
  have run := run_fn (dvs := []) (E := E0) F hr hb .nil pass0 I (.cons rx .nil) hq
  obtain rfl : v = Value.ref p := rx
  obtain ⟨ox, od, J⟩ := inst_of I ep
  obtain ⟨m, fr⟩ := I.fr
  exact PySem.W.ksp_neg fr I.ok.mod.kin J O.has O.fn run
end
end L2

set_option Elab.async false
set_option linter.all false
set_option maxRecDepth 100000
set_option maxHeartbeats 2000000
/-! {k: v for target in iter if ..} whose keys are tuples; items() of such a dict. -/
namespace L2
open PySem PySem.Spec PyProof.Rows
/-- d[y] = z by a comprehension, y a tuple -/
theorem dT_set {X : Cx} {pins : List (Addr × Obj)} {σ : St} {H : Hp} {s : Shared} {D b : Addr} {kvs : List (List Key × V)} {k : List Key} {v : V} {u r : Value} {Q : Unit → Shared → Prop} {E : Value → Shared → Prop} (hu : X.A.units < cLine) (I : Inv X pins σ H s) (hD : H D = some (.dT kvs)) (hb : H b = some (.tup (k.map kV)))
    (hz : kvs.length < sizeLine) (ry : RelV (.ref b) u) (rv : RelV v r) (h : ∀ s', Inv X pins σ (upd H D (.dT (putK kvs k v))) s' → Q () s') : wpAny (model X.prog X.w) X.A (dictSet D u r) Q E s := by
  obtain rfl : u = Value.ref b := ry
  obtain ⟨z, ne, xs, rel, dd⟩ := dt_of I.hok hD
  have small : xs.length ≤ sizeLine := by rw [← Paired.length rel]; exact z
  refine wpAny_dictSet_heap (hsz := small) hu (key_of I.hok hb) dd fun h' dd' hs => h _ ?_
  obtain ⟨o, es, ep, ho, h2, h3, h4, _, h5⟩ := dd'
  have grown : (putK kvs k v).length ≤ sizeLine := by
    have := length_putK kvs k v
    omega
  refine d_write I (by rw [hD]; exact True.intro) hs ⟨o, ho⟩ ⟨grown, ne, _, (rel.put k hb rv).keeps fun c ys ec => ?_, o, es, ep, ho, h2, h3, h4, h5⟩
  rw [upd_ne (ne_of ec hD (by intro q; cases q))]
  exact ec
/-- what a turn of such a comprehension leaves -/
def TurnT (D : Addr) (Nx : Hp → Prop) (y z : V) (H : Hp) : Prop := ∃ kvs k b, y = .ref b ∧ H b = some (.tup (k.map kV)) ∧ H D = some (.dT kvs) ∧ kvs.length < sizeLine ∧ Nx (upd H D (.dT (putK kvs k z)))
/-- its reading: D the new dict -/
def tDcT (wi : TI) (g : TG) (tt : TT) (tk tv : TE) (vs : List Nat) : TE := fun σ H Q => wi σ H fun J H1 => ∀ D, H1 D = none → ∃ W : Nat → Nat → Hp → Prop, (∃ m, W 0 m (upd H1 D (.dT []))) ∧ ∀ i m H, W i m H →
  (J.stop i H ∧ Q (.ref D) H) ∨ (J.go i H ∧ ∃ Nx : Hp → Prop, (∀ H', Nx H' → ∃ m', m' < m ∧ W (i + 1) m' H') ∧ ∀ x H', J.yld i H x H' → g x (wipe σ vs) H' fun σ2 H2 => wipe σ2 vs = wipe σ vs ∧ tt σ2 H2 fun b H3 =>
    if b = true then tk σ2 H3 fun y H4 => tv σ2 H4 fun z H5 => TurnT D Nx y z H5 else Nx H3)
section
variable {X : Cx} {kx vx tg iter : Expr} {ifs : List Expr} {scope : Scope} {own : List (Str × Nat)} {pos : Pos} {wi : TI} {g : TG} {tt : TT} {tk tv : TE}
/-- a comprehension's block may be read in any state of the block's own context -/
structure BlkR (X : Cx) (tg kx vx : Expr) (ifs : List Expr) (scope : Scope) (g : TG) (tt : TT) (tk tv : TE) : Prop where
  tg : ∀ (s : Shared) (H : Hp) (C : Addr) (cl : List (Str × Addr)) (fp : List Addr), PG (X.blk s H scope (compEnvC scope cl C X.env) fp) tg g
  ifs : ∀ (s : Shared) (H : Hp) (C : Addr) (cl : List (Str × Addr)) (fp : List Addr), PTs (X.blk s H scope (compEnvC scope cl C X.env) fp) ifs tt
  key : ∀ (s : Shared) (H : Hp) (C : Addr) (cl : List (Str × Addr)) (fp : List Addr), PE (X.blk s H scope (compEnvC scope cl C X.env) fp) kx tk
  val : ∀ (s : Shared) (H : Hp) (C : Addr) (cl : List (Str × Addr)) (fp : List Addr), PE (X.blk s H scope (compEnvC scope cl C X.env) fp) vx tv
theorem dcT_core {pins : List (Addr × Obj)} {s : Shared} {σ : St} {H : Hp} {Q : VK} {pos' : Pos} {use : Option (Value → Sem Unit)} {Qf : Value → Shared → Prop} (hu : X.A.units < cLine) (hc : X.calm = true) (hN : X.N.Nodup) (I : Inv X pins σ H s) (hi : PI X tg iter wi) (ok : BlkOk X.N X.env.scope scope own) (B : BlkR X tg kx vx ifs scope g tt tk tv) (hs : ∀ x, foldedSetIterable iter X.env x = pure x)
    (h : tDcT wi g tt tk tv (own.map (·.2)) σ H Q)
    (fin : ∀ D C s' m H', Inv X pins σ H' s' → Q (.ref D) H' → s'.heap.Ns C m → FpOk X pins H' C → compPost (model X.prog X.w) X.A X.xe use Qf (.ref D) C (.ok .next) s') :
    wpAny (model X.prog X.w) X.A (comprehension (.DictComp kx vx [⟨tg, iter, ifs, 0⟩] scope pos) scope X.env pos' newDict false (eval iter X.env) use) Qf X.xe s := by
  have cells : ∀ y ∈ scope.names, y.2 = .free → ∃ c, X.env.cells.lookup y.1 = some c := fun y hy e => I.ok.has _ (ok.free y hy e)
  refine wpAny_comprehension_free (use := use) rfl hs (closure_ok cells) ok.kind (fun y hy e => by rw [ok.uniq y hy, e]) (thn (hi.run pins s σ H _ I h) fun xv s1 hx => thn hx fun itv s2 h2 => ?_)
  obtain ⟨it, fp, tn, J, H2, rfl, I2, T, st2, f2, q⟩ := h2
  refine wpAny_newObj_type (newEnv_comp ?_)
  -- the new dict, at D
  generalize hD : s2.heap.objs.size = D
  have Dn : H2 D = none := I2.hok.fresh (Nat.le_of_eq hD)
  obtain ⟨W, ⟨m0, w0⟩, turn⟩ := q D Dn
  generalize hs3 : ({ s2 with heap := s2.heap.push { cls := .type "dict", data := .dict #[] } } : Shared) = s3
  have h3 : s3.heap = s2.heap.push { cls := .type "dict", data := .dict #[] } := by rw [← hs3]
  have I3 : Inv X pins σ (upd H2 D (.dT [])) s3 := by
    subst hs3 hD
    exact I2.laid (t' := s2.toks) (fun _ _ e => Heap.get?_push_of_some _ e) (Nat.le_refl _) (dt_empty s2.heap I2.big)
  have below : ∀ b ∈ fp, b < s2.heap.objs.size := fun b hb => let ⟨o, e, _⟩ := T.obj _ _ st2 b hb; Heap.lt_size e
  have f3 : ∀ b ∈ fp, FpOk X pins (upd H2 D (.dT [])) b ∧ b < s3.heap.objs.size := fun b hb =>
    ⟨⟨by rw [upd_ne (by rw [← hD]; exact Nat.ne_of_lt (below b hb))]; exact (f2 b hb).1, (f2 b hb).2⟩, by rw [h3, Heap.size_push]; exact Nat.lt_succ_of_lt (below b hb)⟩
  have st3 : tn 0 s3.heap := T.keep _ _ _ st2 fun b _ o e => by rw [h3]; exact Heap.get?_push_of_some _ e
  have I4 := block_start I3 ok hN f3
  show codeAny _ _ (.compStart (.DictComp kx vx [⟨tg, iter, ifs, 0⟩] scope pos) 0 (.ref it) (.ref D) (compEnvC scope (cellsFrom (s3.heap.objs.size + 1) scope.names (cloFrom X.env.cells scope.names [])) s3.heap.objs.size X.env)) (compPost (model X.prog X.w) X.A X.xe use Qf (.ref D) s3.heap.objs.size) { s3 with heap := pushCells (s3.heap.push { cls := .type "dict", data := .dict #[] }) scope.names }
  have B1 := B.tg s3 (upd H2 D (.dT [])) s3.heap.objs.size (cellsFrom (s3.heap.objs.size + 1) scope.names (cloFrom X.env.cells scope.names [])) fp
  have B2 := B.ifs s3 (upd H2 D (.dT [])) s3.heap.objs.size (cellsFrom (s3.heap.objs.size + 1) scope.names (cloFrom X.env.cells scope.names [])) fp
  have B3 := B.key s3 (upd H2 D (.dT [])) s3.heap.objs.size (cellsFrom (s3.heap.objs.size + 1) scope.names (cloFrom X.env.cells scope.names [])) fp
  have B4 := B.val s3 (upd H2 D (.dT [])) s3.heap.objs.size (cellsFrom (s3.heap.objs.size + 1) scope.names (cloFrom X.env.cells scope.names [])) fp
  generalize hce : compEnvC scope (cellsFrom (s3.heap.objs.size + 1) scope.names (cloFrom X.env.cells scope.names [])) s3.heap.objs.size X.env = ce at I4 B1 B2 B3 B4 ⊢
  have cL : ce.locals = s3.heap.objs.size := by subst hce; rfl
  generalize hH3 : upd H2 D (.dT []) = H3 at I3 I4 B1 B2 B3 B4 w0 f3
  generalize hs4 : ({ s3 with heap := pushCells (s3.heap.push { cls := .type "dict", data := .dict #[] }) scope.names } : Shared) = s4 at I4 ⊢
  have st4 : tn 0 s4.heap := T.keep _ _ _ st3 fun b _ o e => by rw [← hs4]; exact pushCells_keeps _ _ _ _ (Heap.get?_push_of_some _ e)
  -- the iterator's objects are nobody's else
  have mine : ∀ {σ' : St} {H' : Hp} {s' : Shared}, Inv (X.blk s3 H3 scope ce fp) [] σ' H' s' → (∀ b ∈ fp, H' b = none) → ∀ b ∈ fp, FpOk (X.blk s3 H3 scope ce fp) [] H' b := fun {σ' H' s'} I' hn b hb =>
    ⟨hn b hb, (I'.ok.exf b hb).1, I'.ok.exfs b hb, .inl hb, fun x c e => (I'.ok.exf b hb).2 x c e, fun p hp => (List.not_mem_nil (show p ∈ ([] : List (Addr × Obj)) from hp)).elim⟩
  refine codeAny_compStart_dict ?loop (T.self X.A 0 _ _ _ st4 ?loop)
  refine compLoop_anyD (fun n s' => ∃ i H', Inv (X.blk s3 H3 scope ce fp) [] (wipe σ (own.map (·.2))) H' s' ∧ tn i s'.heap ∧ (∀ b ∈ fp, H' b = none) ∧ W i n H') ?_ m0 ⟨0, H3, I4, st4, fun b hb => (f3 b hb).1.1, w0⟩
  rintro n s5 ⟨i, H5, I5, st5, n5, w5⟩
  rcases turn i n H5 w5 with ⟨stop, fq⟩ | ⟨go, Nx, next, step⟩
  · -- no item is left: back to the def
    refine thnF (T.done (X.blk s3 H3 scope ce fp) rfl rfl rfl hc i [] s5 _ H5 (fun _ _ => False) I5 (mine I5 n5) st5 stop) fun r s6 hr => ?_
    obtain ⟨rfl, I6⟩ := hr
    have I7 : Inv X pins σ H5 s6 := I3.call' (ch := fp) I6.os I6.base I6.hok I6.bare fun b hb => ⟨(f3 b hb).1.2.2.2.1, (f3 b hb).1.2.1, (f3 b hb).1.2.2.2.2.1, (f3 b hb).1.2.2.2.2.2⟩
    obtain ⟨m, hn, _⟩ := I6.loc
    have nC : H5 s3.heap.objs.size = none := cL ▸ (show H5 ce.locals = none from I6.free)
    have hn' : s6.heap.Ns s3.heap.objs.size m := cL ▸ (show s6.heap.Ns ce.locals m from hn)
    exact fin D s3.heap.objs.size s6 m H5 I7 fq hn' (I3.fpOk (Nat.le_refl _) nC)
  · -- a turn
    refine thnF (T.item (X.blk s3 H3 scope ce fp) rfl rfl rfl hc i [] s5 _ H5 (fun _ _ => False) I5 (mine I5 n5) st5 go) fun r s6 hr => ?_
    obtain ⟨u, rfl, h6⟩ := hr
    refine thnF h6 fun _ s7 hh => ?_
    obtain ⟨x, H7, I7, r7, y7, st7, n7⟩ := hh
    have P7 := I7.pinned (mine I7 n7) (T.obj _ _ st7)
    refine thnF (B1.run _ s7 _ H7 x u _ P7 r7 (step x H7 y7)) fun _ s8 hh => ?_
    obtain ⟨σ8, H8, I8, hw8, q8⟩ := hh
    refine thnF (B2.run _ s8 σ8 H8 _ I8 q8) fun b s9 hh => ?_
    obtain ⟨H9, I9, q9⟩ := hh
    have close : ∀ {s' : Shared} {H' : Hp}, Inv (X.blk s3 H3 scope ce fp) ([] ++ pinsAt fp s7.heap) σ8 H' s' → Nx H' → ∃ m, m < n ∧ ∃ i H', Inv (X.blk s3 H3 scope ce fp) [] (wipe σ (own.map (·.2))) H' s' ∧ tn i s'.heap ∧ (∀ b ∈ fp, H' b = none) ∧ W i m H' := by
      intro s' H' I' nx
      obtain ⟨m', hm, w'⟩ := next H' nx
      have pin' : ∀ b ∈ fp, ∀ o, s7.heap.get? b = some o → s'.heap.get? b = some o ∧ H' b = none := fun b hb o e =>
        let z := I'.pin (b, o) (List.mem_append_right _ (List.mem_append_right _ (mem_pinsAt hb e)))
        ⟨z.1, z.2.1⟩
      refine ⟨m', hm, i + 1, H', (I'.unpinned (pins := [])).weak (by rw [← hw8, wipe_length]) (fun j v e => (wipe_some (hw8 ▸ e)).1), T.keep _ _ _ st7 fun b hb o e => (pin' b hb o e).1, fun b hb => ?_, w'⟩
      obtain ⟨o, e, _⟩ := T.obj _ _ st7 b hb
      exact (pin' b hb o e).2
    cases b with
    | false => exact close I9 (by simpa using q9)
    | true =>
      have q9' : tk σ8 H9 fun y H4 => tv σ8 H4 fun z H5 => TurnT D Nx y z H5 := by simpa using q9
      show wpAny _ _ (eval kx ce) _ _ _
      refine thnF (B3.run _ s9 σ8 H9 _ I9 q9') fun kv s10 hh => ?_
      obtain ⟨y, H10, I10, r10, q10⟩ := hh
      refine thnF (B4.run _ s10 σ8 H10 _ I10 q10) fun vv s11 hh => ?_
      obtain ⟨z, H11, I11, r11, kvs, k, b, rfl, hb, hD11, hz, nx⟩ := hh
      exact dT_set (X := X.blk s3 H3 scope ce fp) hu I11 hD11 hb hz r10 r11 fun s12 I12 => close I12 nx
/-- as a value -/
theorem pe_dcT (hu : X.A.units < cLine) (hc : X.calm = true) (hN : X.N.Nodup) (hi : PI X tg iter wi) (ok : BlkOk X.N X.env.scope scope own) (B : BlkR X tg kx vx ifs scope g tt tk tv) (hs : ∀ x, foldedSetIterable iter X.env x = pure x := by intro _; rfl) :
    PE X (.DictComp kx vx [⟨tg, iter, ifs, 0⟩] scope pos) (tDcT wi g tt tk tv (own.map (·.2))) := by
  refine ⟨fun pins s σ H Q I h => ?_⟩
  rw [arm_eval_DictComp]
  exact dcT_core hu hc hN I hi ok B hs h fun D C s' m H' I' q hn f => ⟨m, hn, fun h'' sb => ⟨.ref D, H', I'.turned (t' := s'.toks) (fun b o hb e => (sb.2 b hb).trans e) f.1 f.2.1 f.2.2.2.1 f.2.2.2.2.1 f.2.2.2.2.2, rfl, q⟩⟩
/-- name = {..} on one line, the name a local of the def's own -/
theorem ps_dcT {i : Nat} {y : Str} {py spos : Pos} (hsw : swapsWith (.DictComp kx vx [⟨tg, iter, ifs, 0⟩] scope pos) (some (.Name y py)) spos.line X.env = pure true) (hu : X.A.units < cLine) (hc : X.calm = true) (hN : X.N.Nodup) (hy : X.N[i]? = some y) (hyl : X.env.scope.names.lookup y = some .local)
    (hi : PI X tg iter wi) (ok : BlkOk X.N X.env.scope scope own) (B : BlkR X tg kx vx ifs scope g tt tk tv) (hs : ∀ x, foldedSetIterable iter X.env x = pure x := by intro _; rfl) :
    PS X (.Assign [.Name y py] (.DictComp kx vx [⟨tg, iter, ifs, 0⟩] scope pos) spos) (tAsg (tDcT wi g tt tk tv (own.map (·.2))) (gName i)) := by
  refine ⟨fun pins s σ H D I h => ?_⟩
  rw [exec_Assign_Name_used _ _ _ _ hsw]
  refine wpAny_bind (wpAny_standAt (wpAny_bind ?_))
  show wpAny _ X.A (do let _ ← comprehension (.DictComp kx vx [⟨tg, iter, ifs, 0⟩] scope pos) scope X.env (firstIterPos [⟨tg, iter, ifs, 0⟩] pos) newDict false (eval iter X.env) (some (assign (.Name y py) X.env))) _ _ s
  refine wpAny_bind (thn (dcT_core (Q := fun x H1 => gName i x σ H1 D.nx) (Qf := fun _ s' => SP X pins D .next s') hu hc hN I hi ok B hs h fun L C s' m H' I' q hn f => ?_) fun _ s' hq => wpAny_pure (wpAny_pure hq))
  refine wpAny_assign_Name (store_ok2 (v := V.ref L) I' hN hy (.inl hyl) rfl (fun s2 I2 ⟨a, sb, ha⟩ => ?_) (.inr hyl))
  have ne : C ≠ a := by
    rcases ha with z | z
    · rw [z]; exact f.2.1
    · exact fun e => f.2.2.2.2.1 y a z e.symm
  exact ⟨m, hn.sameBut sb ne, fun h3 sb3 => ⟨_, H', I2.turned (t' := s2.toks) (fun b o hb e => (sb3.2 b hb).trans e) f.1 f.2.1 f.2.2.2.1 f.2.2.2.2.1 f.2.2.2.2.2, q⟩⟩
theorem swD_true {y : Str} {gs : List Comprehension} {py : Pos} {l : Nat} {env : Env} (hk : env.scope.kind = .function) (hy : env.scope.names.lookup y = some .local) (hl : (py.line == pos.line) = true)
    (ha : (scope.names.any fun (n, k) => n == y && (k == .local || k == .cell)) = false) : swapsWith (.DictComp kx vx gs scope pos) (some (.Name y py)) l env = pure true := by
  have ky : env.kindOf y = some .local := hy
  have hb : env.blockKind = .function := by unfold Env.blockKind; rw [hk]; rfl
  unfold swapsWith
  simp only [hb, ky, ha, Expr.pos, hl]
  rfl
end
end L2

set_option Elab.async false
set_option linter.all false
set_option maxRecDepth 100000
set_option maxHeartbeats 2000000
/-! d.items(), d.values() where d's keys are tuples. -/
namespace L2
open PySem PySem.Spec PyProof.Rows
section
variable {X : Cx} {pins : List (Addr × Obj)} {σ : St} {H : Hp} {s : Shared} {d : Addr} {o : Obj}
/-- a locked dict with tuple keys: its entries, keys and values -/
theorem Inv.frzTV {kvs : List (List Key × V)} (I : Inv X pins σ H s) (h : H d = some (.frz o (.dT kvs))) :
    (d == sysModules) = false ∧ s.heap.get? d = some o ∧ ∃ (es : Array DictEntry) (ep : Nat), o.data = .dict es ep ∧ s.heap.DictRaw d es ep ∧ es.size = kvs.length ∧
      ∀ (i : Nat) (k : List Key) (v : V) (hi : i < es.size), kvs[i]? = some (k, v) → (∃ q : Addr, es[i].key = .ref q ∧ H q = some (.tup (k.map kV))) ∧ RelV v es[i].val := by
  obtain ⟨hd, z, hs, xs, pr, o', es, ep, ho, hx, hdt, he, _⟩ := I.hok d _ h
  rw [hd] at ho
  cases ho
  have l1 : es.size = xs.length := size_of_entries he
  have l2 : kvs.length = xs.length := Paired.length pr
  refine ⟨hs, hd, es, ep, hdt, ⟨o, hd, hx, hdt⟩, by omega, fun i k v hi e => ?_⟩
  obtain ⟨b, hb, e1, e2, e3⟩ := paired_get pr e
  have q := entry_at he i
  rw [hb, Array.getElem?_eq_getElem hi] at q
  have q2 := Option.some.inj q
  exact ⟨⟨b.2.1, by rw [q2]; rfl, e2⟩, by rw [q2]; exact e3⟩
end
/-- the values of the locked dict at d -/
def ItdT (d : Addr) (o : Obj) (kvs : List (List Key × V)) : It :=
  ⟨fun i H => H d = some (.frz o (.dT kvs)) ∧ i < kvs.length, fun i H x H' => H' = H ∧ ∃ k, kvs[i]? = some (k, x), fun i H => H d = some (.frz o (.dT kvs)) ∧ kvs.length ≤ i⟩
/-- the pairs: each a new tuple of the key's own tuple and the value -/
def ItiT (d : Addr) (o : Obj) (kvs : List (List Key × V)) : It :=
  ⟨fun i H => H d = some (.frz o (.dT kvs)) ∧ i < kvs.length, fun i H x H' => ∃ T k v q, kvs[i]? = some (k, v) ∧ x = .ref T ∧ H T = none ∧ H q = some (.tup (k.map kV)) ∧ H' = upd H T (.tup [.ref q, v]), fun i H => H d = some (.frz o (.dT kvs)) ∧ kvs.length ≤ i⟩
section
variable {P : Program} {w : World} {K : PySem.W.Frag} {tg : Expr} {d : Addr} {o : Obj} {es : Array DictEntry} {ep : Nat}
theorem turn_valsT {kvs : List (List Key × V)} (it : Addr) (hod : o.data = .dict es ep) : Turn P w K tg (ItdT d o kvs) [it] it (fun i h => h.IsValIter it d i kvs.length ep) where
  mem := by simp
  obj := fun i h st b hb => by
    have e : b = it := by simpa using hb
    subst e
    obtain ⟨oi, e, c, dd⟩ := st
    exact ⟨oi, e, fun v z => by rw [dd] at z; cases z⟩
  keep := fun i h h' st k => st.at fun oi e => k it (by simp) oi e
  item := by
    intro X hP hw hK hc i pins s σ H E I hf st hg
    subst hP hw hK
    obtain ⟨hd, hi⟩ := hg
    obtain ⟨f0, f1, f2, f3, f4, f5⟩ := hf it (by simp)
    obtain ⟨hs, hgd, es', ep', hdt, raw, hsz, ent⟩ := I.frzTV hd
    obtain ⟨rfl, rfl⟩ := dict_ep hod hdt
    obtain ⟨⟨k, v⟩, hkv⟩ : ∃ p, kvs[i]? = some p := ⟨kvs[i], List.getElem?_eq_getElem hi⟩
    have hi' : i < es'.size := by omega
    obtain ⟨_, ru⟩ := ent i k v hi' hkv
    rw [← hsz] at st
    refine wpAny_pyNext_values_item_raw st raw hi' fun h' st' sb => ?_
    have I1 : Inv X pins σ H { s with heap := h' } := I.turned (t' := s.toks) (fun b ob hb e => (sb.2 b hb).trans e) f0 f1 f3 f4 f5
    obtain ⟨oi, e, c, dd⟩ := id st'
    refine ⟨_, rfl, go_of (s := { s with heap := h' }) e c dd (by decide) ⟨v, H, I1, ru, ⟨rfl, k, hkv⟩, ?_, fun b hb => (hf b hb).1⟩⟩
    show h'.IsValIter it d (i + 1) kvs.length _
    rw [← hsz]
    exact st'
  done := by
    intro X hP hw hK hc i pins s σ H E I hf st hg
    subst hP hw hK
    obtain ⟨hd, hi⟩ := hg
    obtain ⟨f0, f1, f2, f3, f4, f5⟩ := hf it (by simp)
    obtain ⟨hs, hgd, es', ep', hdt, raw, hsz, ent⟩ := I.frzTV hd
    obtain ⟨rfl, rfl⟩ := dict_ep hod hdt
    rw [← hsz] at st hi
    exact wpAny_pyNext_values_end_raw (I.ok.hd hc) st raw hi fun h' eb => ⟨rfl, I.turned (t' := s.toks) (fun b ob hb e => eb b ob hb e) f0 f1 f3 f4 f5⟩
  self := fun A i s Q E st h => wpAny_pyIter_valiter st h
theorem turn_itemsT {kvs : List (List Key × V)} {elts : List Expr} {kk : Nat} {tpos : Pos} (it : Addr) (hod : o.data = .dict es ep) :
    Turn P w K (.Tuple elts kk tpos) (ItiT d o kvs) [it] it (fun i h => ∃ ok ov, IsItemIter h it d i kvs.length ep ok ov) where
  mem := by simp
  obj := fun i h st b hb => by
    have e : b = it := by simpa using hb
    subst e
    obtain ⟨ok, ov, e⟩ := st
    exact ⟨_, e, fun v z => nomatch z⟩
  keep := fun i h h' st k => let ⟨ok, ov, e⟩ := st; ⟨ok, ov, k it (by simp) _ e⟩
  item := by
    intro X hP hw hK hc i pins s σ H E I hf st hg
    subst hP hw hK
    obtain ⟨hd, hi⟩ := hg
    obtain ⟨hs, hgd, es', ep', hdt, raw, hsz, ent⟩ := I.frzTV hd
    obtain ⟨rfl, rfl⟩ := dict_ep hod hdt
    obtain ⟨⟨k, v⟩, hkv⟩ : ∃ p, kvs[i]? = some p := ⟨kvs[i], List.getElem?_eq_getElem hi⟩
    have hi' : i < es'.size := by omega
    obtain ⟨⟨q, hkey, hq⟩, ru⟩ := ent i k v hi' hkv
    obtain ⟨ok, ov, he⟩ := st
    rw [← hsz] at he
    have hlt : it < s.heap.objs.size := Heap.lt_size he
    refine wpAny_pyNext_items_item_raw he raw hi' fun h' ho hT hz hk => ?_
    refine ⟨_, rfl, wpAny_letOwnedTupleGo_items (s := { s with heap := h' }) ho fun h'' he' sb => ?_⟩
    have hT2 : h''.get? s.heap.objs.size = some { cls := .type "tuple", data := .seq #[.ref q, es'[i].val] } := by rw [← hkey]; exact (sb.2 _ (Nat.ne_of_gt hlt)).trans hT
    have new : ObjOk X.prog X.w (upd H s.heap.objs.size (.tup [.ref q, v])) h'' s.heap.objs.size (.tup [.ref q, v]) :=
      ⟨by show 2 ≤ sizeLine; decide, [.ref q, es'[i].val], .cons rfl (.cons ru .nil), ⟨_, hT2, rfl, _, rfl⟩⟩
    have I1 : Inv X pins σ (upd H s.heap.objs.size (.tup [.ref q, v])) { s with heap := h'' } :=
      I.turnedNew (t' := s.toks) (ch := [it]) (fun b ob hb e => (sb.2 b (by simpa using hb)).trans (hk b ob (by simpa using hb) e)) hf (Nat.le_refl _) new
    refine ⟨.ref s.heap.objs.size, _, I1, rfl, ⟨_, k, v, q, hkv, rfl, I.hok.fresh (Nat.le_refl _), hq, rfl⟩, ⟨es'[i].key, es'[i].val, ?_⟩, fun b hb => ?_⟩
    · rw [← hsz]; exact he'
    · have e : b = it := by simpa using hb
      rw [e, upd_ne (Nat.ne_of_lt hlt)]
      exact (hf it (by simp)).1
  done := by
    intro X hP hw hK hc i pins s σ H E I hf st hg
    subst hP hw hK
    obtain ⟨hd, hi⟩ := hg
    obtain ⟨f0, f1, f2, f3, f4, f5⟩ := hf it (by simp)
    obtain ⟨hs, hgd, es', ep', hdt, raw, hsz, ent⟩ := I.frzTV hd
    obtain ⟨rfl, rfl⟩ := dict_ep hod hdt
    obtain ⟨ok, ov, he⟩ := st
    rw [← hsz] at he hi
    exact wpAny_pyNext_items_end_raw (I.ok.hd hc) he raw hi fun h' eb => ⟨rfl, I.turned (t' := s.toks) (fun b ob hb e => eb b ob hb e) f0 f1 f3 f4 f5⟩
  self := fun A i s Q E st h => let ⟨_, _, e⟩ := st; PySem.W.kcp_self e h
end
def iValsT (td : TE) : TI := fun σ H R => td σ H fun x H1 => ∃ d o kvs, x = .ref d ∧ H1 d = some (.frz o (.dT kvs)) ∧ R (ItdT d o kvs) H1
def iItemsT (td : TE) : TI := fun σ H R => td σ H fun x H1 => ∃ d o kvs, x = .ref d ∧ H1 d = some (.frz o (.dT kvs)) ∧ R (ItiT d o kvs) H1
section
variable {X : Cx} {tg e : Expr} {td : TE} {apos cpos : Pos}
theorem noDict_raw {s : Shared} {d : Addr} {es : Array DictEntry} {ep : Nat} (x : s.heap.DictRaw d es ep) : ∀ a : Addr, Value.ref d = Value.ref a → ∃ ob, s.heap.get? a = some ob ∧ ob.dict = none := by
  obtain ⟨o, h, c, _⟩ := x
  intro a e
  cases e
  exact ⟨o, h, c.2.1⟩
theorem pi_valuesT (he : PE X e td) (hbase : attributeBase e "values" X.env (eval e X.env) = eval e X.env := by rfl) (hline : (apos.endLine == cpos.line) = true := by rfl) : PI X tg (.Call (.Attribute e "values" apos) [] [] cpos) (iValsT td) := by
  refine ⟨fun pins s σ H R I h => ?_⟩
  refine wpAny_Call_method (T := "dict") (id := "dict.values") hbase rfl hline F.plainAttrs_dict F.slot_dict_values F.type_dict_values (thn (he.run pins s σ H _ I h) fun u s1 ⟨x, H1, I1, rx, d, o, kvs, ex, hd, q⟩ => ?_)
  subst ex
  obtain rfl : u = Value.ref d := rx
  obtain ⟨hs, hgd, es, ep, hdt, raw, hsz, ent⟩ := I1.frzTV hd
  refine ⟨raw.typeIs, noDict_raw raw, ?_⟩
  have I2 : Inv X pins σ H1 { s1 with heap := s1.heap.push { cls := .type "dict_values", data := .fields #[.ref d] } } := I1.kept (t' := s1.toks) fun b ob q => Heap.get?_push_of_some _ q
  have fin : wpAny (model X.prog X.w) X.A (pyIter (.ref s1.heap.objs.size)) (PIE X pins σ tg R) X.xe { s1 with heap := s1.heap.push { cls := .type "dict_values", data := .fields #[.ref d] } } := by
    refine wpAny_pyIter_values_raw (d := d) ⟨_, Heap.get?_push_size _ rfl, rfl, rfl⟩ (raw.at fun _ e => Heap.get?_push_of_some _ e) (pi_one (tk := s1.toks) I2 _ (turn_valsT _ hdt) ⟨_, Heap.get?_push_size _ rfl, rfl, ?_⟩ q)
    rw [hsz] <;> rfl
  show wpAny _ _ (callWith cpos (.builtin "dict.values") [.ref d] [] []) _ X.xe s1
  exact method_meetsIn F.slot_dict_values F.entry_dict_values rfl (PySem.evalArgs_none ⟨rfl, raw.typeIs, F.args_dict_values_1 _, _, meets_dict_values_raw d hs, ⟨es, ep, raw⟩, fin⟩)
theorem pi_itemsT {elts : List Expr} {kk : Nat} {tpos : Pos} (he : PE X e td) (hbase : attributeBase e "items" X.env (eval e X.env) = eval e X.env := by rfl) (hline : (apos.endLine == cpos.line) = true := by rfl) :
    PI X (.Tuple elts kk tpos) (.Call (.Attribute e "items" apos) [] [] cpos) (iItemsT td) := by
  refine ⟨fun pins s σ H R I h => ?_⟩
  refine wpAny_Call_method (T := "dict") (id := "dict.items") hbase rfl hline F.plainAttrs_dict F.slot_dict_items F.type_dict_items (thn (he.run pins s σ H _ I h) fun u s1 ⟨x, H1, I1, rx, d, o, kvs, ex, hd, q⟩ => ?_)
  subst ex
  obtain rfl : u = Value.ref d := rx
  obtain ⟨hs, hgd, es, ep, hdt, raw, hsz, ent⟩ := I1.frzTV hd
  refine ⟨raw.typeIs, noDict_raw raw, ?_⟩
  have I2 : Inv X pins σ H1 { s1 with heap := s1.heap.push { cls := .type "dict_items", data := .fields #[.ref d] } } := I1.kept (t' := s1.toks) fun b ob q => Heap.get?_push_of_some _ q
  have fin : wpAny (model X.prog X.w) X.A (pyIter (.ref s1.heap.objs.size)) (PIE X pins σ (.Tuple elts kk tpos) R) X.xe { s1 with heap := s1.heap.push { cls := .type "dict_items", data := .fields #[.ref d] } } := by
    refine wpAny_pyIter_items_raw (d := d) ⟨_, Heap.get?_push_size _ rfl, rfl, rfl⟩ (raw.at fun _ e => Heap.get?_push_of_some _ e) (pi_one (tk := s1.toks) I2 _ (turn_itemsT _ hdt) ⟨.none, .none, ?_⟩ q)
    rw [← hsz]
    exact Heap.get?_push_size _ rfl
  show wpAny _ _ (callWith cpos (.builtin "dict.items") [.ref d] [] []) _ X.xe s1
  exact method_meetsIn F.slot_dict_items F.entry_dict_items rfl (PySem.evalArgs_none ⟨rfl, raw.typeIs, F.args_dict_items_1 _, _, meets_dict_items_raw d hs, ⟨es, ep, raw⟩, fin⟩)
end
section
variable {d : Addr} {o : Obj} {kvs : List (List Key × V)}
theorem walk_valuesT : Walk (ItdT d o kvs) kvs.length (fun H => H d = some (.frz o (.dT kvs))) (fun i H x H' => H' = H ∧ ∃ k, kvs[i]? = some (k, x)) :=
  ⟨fun _ _ hi q => ⟨q, hi⟩, fun _ q => ⟨q, Nat.le_refl _⟩, fun _ _ _ _ _ _ y => y⟩
theorem walk_itemsT : Walk (ItiT d o kvs) kvs.length (fun H => H d = some (.frz o (.dT kvs)))
    (fun i H x H' => ∃ T k v q, kvs[i]? = some (k, v) ∧ x = .ref T ∧ H T = none ∧ H q = some (.tup (k.map kV)) ∧ H' = upd H T (.tup [.ref q, v])) :=
  ⟨fun _ _ hi q => ⟨q, hi⟩, fun _ q => ⟨q, Nat.le_refl _⟩, fun _ _ _ _ _ _ y => y⟩
end
end L2

set_option Elab.async false
set_option linter.all false
set_option maxRecDepth 100000
/-! Forms as lists of (letters, coefficient): the mathematics. -/
namespace L2
open PySem PySem.Spec PyProof.Rows
/-- the pair that lowest makes -/
def loq (a b : Int) : Int × Int :=
  let g : Int := ((Nat.gcd a.natAbs b.natAbs : Nat) : Int)
  let s := if b > 0 then g else -g
  (a.fdiv s, b.fdiv s)
theorem fdiv_dvd {a s : Int} (hs : s ≠ 0) (h : s ∣ a) : a.fdiv s = a / s := by
  obtain ⟨k, rfl⟩ := h
  rw [Int.mul_fdiv_cancel_left _ hs, Int.mul_ediv_cancel_left _ hs]
theorem loq_eq {a b : Int} (hb : b ≠ 0) : loq a b = ((Rat.divInt a b).num, ((Rat.divInt a b).den : Int)) := by
  have gp : 0 < Nat.gcd a.natAbs b.natAbs := Nat.gcd_pos_of_pos_right _ (by omega)
  have d1 : ((Nat.gcd a.natAbs b.natAbs : Nat) : Int) ∣ a := PySem.W.mg_dvd_left a b
  have d2 : ((Nat.gcd a.natAbs b.natAbs : Nat) : Int) ∣ b := PySem.W.mg_dvd_right a b
  unfold loq
  rw [Rat.num_divInt, Rat.den_divInt, if_neg hb]
  have gc : b.gcd a = Nat.gcd a.natAbs b.natAbs := by unfold Int.gcd; exact Nat.gcd_comm _ _
  rw [gc]
  generalize Nat.gcd a.natAbs b.natAbs = g at gp d1 d2
  have hg : (g : Int) ≠ 0 := by omega
  rcases Int.lt_or_gt_of_ne hb with h | h
  · have s1 : b.sign = -1 := Int.sign_eq_neg_one_of_neg h
    have e1 : a.fdiv (-(g : Int)) = b.sign * a / (g : Int) := by
      rw [fdiv_dvd (by omega) (Int.neg_dvd.mpr d1), s1]
      rw [Int.ediv_neg, show (-1 : Int) * a = -a by omega, Int.neg_ediv_of_dvd d1]
    have e2 : b.fdiv (-(g : Int)) = ((b.natAbs / g : Nat) : Int) := by
      rw [fdiv_dvd (by omega) (Int.neg_dvd.mpr d2), Int.ediv_neg, ← Int.neg_ediv_of_dvd d2]
      rw [Int.natCast_ediv]
      congr 1
      omega
    simp only [show ¬ (b > 0) by omega, if_false]
    rw [e1, e2]
  · have s1 : b.sign = 1 := Int.sign_eq_one_of_pos h
    have e1 : a.fdiv (g : Int) = b.sign * a / (g : Int) := by
      rw [fdiv_dvd hg d1, s1, Int.one_mul]
    have e2 : b.fdiv (g : Int) = ((b.natAbs / g : Nat) : Int) := by
      rw [fdiv_dvd hg d2, Int.natCast_ediv]
      congr 1
      omega
    simp only [show b > 0 from h, if_true]
    rw [e1, e2]
theorem loq_add (p q : Rat) : loq (p.num * (q.den : Int) + q.num * (p.den : Int)) ((p.den : Int) * (q.den : Int)) = ((p + q).num, ((p + q).den : Int)) := by
  have hp : (p.den : Int) ≠ 0 := by have := p.den_nz; omega
  have hq : (q.den : Int) ≠ 0 := by have := q.den_nz; omega
  rw [loq_eq (by intro e; rcases Int.mul_eq_zero.mp e with h | h <;> contradiction)]
  have e : Rat.divInt (p.num * (q.den : Int) + q.num * (p.den : Int)) ((p.den : Int) * (q.den : Int)) = p + q := by
    rw [← Rat.divInt_add_divInt _ _ hp hq, Rat.num_divInt_den, Rat.num_divInt_den]
  rw [e]
theorem loq_mul (p q : Rat) : loq (p.num * q.num) ((p.den : Int) * (q.den : Int)) = ((p * q).num, ((p * q).den : Int)) := by
  have hp : (p.den : Int) ≠ 0 := by have := p.den_nz; omega
  have hq : (q.den : Int) ≠ 0 := by have := q.den_nz; omega
  rw [loq_eq (by intro e; rcases Int.mul_eq_zero.mp e with h | h <;> contradiction)]
  have e : Rat.divInt (p.num * q.num) ((p.den : Int) * (q.den : Int)) = p * q := by
    rw [← Rat.divInt_mul_divInt, Rat.num_divInt_den, Rat.num_divInt_den]
  rw [e]
theorem rat_num (q : Rat) : (q.num : Rat) = q * (q.den : Rat) := by
  have h := Rat.num_divInt_den q
  rw [Rat.divInt_eq_div] at h
  have hd : ((q.den : Int) : Rat) ≠ 0 := by
    intro e
    have := Rat.intCast_inj.mp (e.trans (by rfl : (0 : Rat) = ((0 : Int) : Rat)))
    have := q.den_nz
    omega
  rw [Rat.intCast_natCast] at h hd
  grind
/-- a fraction's tuple -/
def frac (x : Rat) : List V := [.int x.num, .int x.den]
/-- q is z over D, z no more than M -/
def Bq (D M : Nat) (q : Rat) : Prop := ∃ z : Int, q * (D : Rat) = (z : Rat) ∧ z.natAbs ≤ M
theorem Bq.den {D M : Nat} {q : Rat} (h : Bq D M q) : q.den ∣ D := by
  obtain ⟨z, e, _⟩ := h
  have h1 : q.num * (D : Int) = z * (q.den : Int) := by
    have e1 : (q.num : Rat) = q * (q.den : Rat) := rat_num q
    have : ((q.num * (D : Int) : Int) : Rat) = ((z * (q.den : Int) : Int) : Rat) := by
      rw [Rat.intCast_mul, Rat.intCast_mul, e1, Rat.intCast_natCast, Rat.intCast_natCast, ← e]
      grind
    exact Rat.intCast_inj.mp this
  have h2 : q.den ∣ q.num.natAbs * D := by
    have h3 : (q.den : Int) ∣ q.num * (D : Int) := ⟨z, by rw [h1, Int.mul_comm]⟩
    have h4 := Int.natAbs_dvd_natAbs.mpr h3
    rwa [Int.natAbs_mul, Int.natAbs_natCast, Int.natAbs_natCast] at h4
  exact Nat.Coprime.dvd_of_dvd_mul_left (Nat.Coprime.symm q.reduced) h2
theorem Bq.den_le {D M : Nat} {q : Rat} (h : Bq D M q) (hD : 0 < D) : q.den ≤ D := Nat.le_of_dvd hD h.den
theorem Bq.num_le {D M : Nat} {q : Rat} (h : Bq D M q) (hD : 0 < D) : q.num.natAbs ≤ M := by
  obtain ⟨k, hk⟩ := h.den
  obtain ⟨z, e, hz⟩ := h
  have hk0 : 0 < k := by
    rcases Nat.eq_zero_or_pos k with r | r
    · rw [r, Nat.mul_zero] at hk; omega
    · exact r
  have h1 : q.num * (k : Int) = z := by
    have e1 : (q.num : Rat) = q * (q.den : Rat) := rat_num q
    have : ((q.num * (k : Int) : Int) : Rat) = (z : Rat) := by
      rw [Rat.intCast_mul, e1, Rat.intCast_natCast, ← e, hk, Rat.natCast_mul]
      grind
    exact Rat.intCast_inj.mp this
  have h2 : z.natAbs = q.num.natAbs * k := by rw [← h1, Int.natAbs_mul, Int.natAbs_natCast]
  rw [h2] at hz
  exact Nat.le_trans (Nat.le_mul_of_pos_right _ hk0) hz
theorem Bq.mono {D M M' : Nat} {q : Rat} (h : Bq D M q) (hM : M ≤ M') : Bq D M' q := let ⟨z, e, l⟩ := h; ⟨z, e, Nat.le_trans l hM⟩
theorem Bq.scale {D M k : Nat} {q : Rat} (h : Bq D M q) : Bq (D * k) (M * k) q := by
  obtain ⟨z, e, l⟩ := h
  refine ⟨z * k, ?_, ?_⟩
  · rw [Rat.natCast_mul, Rat.intCast_mul, Rat.intCast_natCast, ← e]; grind
  · rw [Int.natAbs_mul, Int.natAbs_natCast]; exact Nat.mul_le_mul_right _ l
theorem Bq.add {D M N : Nat} {p q : Rat} (h : Bq D M p) (k : Bq D N q) : Bq D (M + N) (p + q) := by
  obtain ⟨z, e, l⟩ := h
  obtain ⟨y, f, m⟩ := k
  refine ⟨z + y, ?_, ?_⟩
  · rw [Rat.intCast_add, ← e, ← f]; grind
  · have := Int.natAbs_add_le z y; omega
theorem Bq.mul {D E M N : Nat} {p q : Rat} (h : Bq D M p) (k : Bq E N q) : Bq (D * E) (M * N) (p * q) := by
  obtain ⟨z, e, l⟩ := h
  obtain ⟨y, f, m⟩ := k
  refine ⟨z * y, ?_, ?_⟩
  · rw [Rat.intCast_mul, Rat.natCast_mul, ← e, ← f]; grind
  · rw [Int.natAbs_mul]; exact Nat.mul_le_mul l m
theorem Bq.neg {D M : Nat} {q : Rat} (h : Bq D M q) : Bq D M (-q) := by
  obtain ⟨z, e, l⟩ := h
  refine ⟨-z, ?_, ?_⟩
  · rw [Rat.intCast_neg, ← e]; grind
  · omega
theorem Bq.zero {D : Nat} : Bq D 0 0 := ⟨0, by rw [Rat.zero_mul]; rfl, Nat.le_refl _⟩
theorem Bq.int {n : Int} : Bq 1 n.natAbs (n : Rat) := ⟨n, by grind, Nat.le_refl _⟩
end L2

set_option Elab.async false
set_option linter.all false
set_option maxRecDepth 100000
set_option maxHeartbeats 1000000
/-! the row's statements, and what stands where -/
namespace L2
open PySem PySem.Spec PyProof.Rows
/-- // by any number but 0 -/
def CDivX (_ j : Int) : Prop := j ≠ 0 ∧ j.natAbs.log2 < 9000
section
variable {X : Cx}
theorem op_fdivX : OpR X (binaryOp .FloorDiv) (rI CDivX fun i j => .int (i.fdiv j)) := opI fun i j _ _ _ _ _ hc q => floordiv_int hc.1 q (.inl (PyProof.noPylong_of_log2 hc.2))
end
theorem iteD {p : Prop} [Decidable p] {A B : Prop} (h1 : p → A) (h2 : ¬ p → B) : if decide p = true then A else B := by
  by_cases h : p
  · rw [if_pos (decide_eq_true h)]; exact h1 h
  · rw [if_neg (by simpa using h)]; exact h2 h
end L2
namespace E2
open PySem L2
def top (i : Nat) : Stmt := PySem.Challenge.pw_cellplaces_k02_forms_worked_out.main.body.getD i (.Pass ⟨0, 0, 0, 0⟩)
abbrev sIsWhole : Stmt := top 9
abbrev sIsLetter : Stmt := top 10
abbrev sIsValues : Stmt := top 11
abbrev sForm : Stmt := top 13
abbrev sLetter : Stmt := top 14
abbrev sNumber : Stmt := top 15
abbrev sRightSide : Stmt := top 16
abbrev sWithout : Stmt := top 17
abbrev sProductAt : Stmt := top 18
abbrev sLowest : Stmt := top 19
abbrev sFracSum : Stmt := top 20
abbrev sFracProd : Stmt := top 21
/-- a def of the module's, by its name -/
structure DefOk (P : Program) (w : World) (K : PySem.W.Frag) (mg : Str → Option Value) (base : Heap) (k : Nat) (x : Str) (ps : List Str) (sp : Sp) : Prop where
  ex : ∃ (f : Addr) (fd : FuncData), mg x = some (.ref f) ∧ PySem.W.keepIn K (.ref f) = true ∧ FnOk P w K mg base CX0 k f fd ps sp ∧ Binds K fd ps []
end E2

set_option Elab.async false
set_option linter.all false
set_option maxRecDepth 100000
set_option maxHeartbeats 1000000
/-! the law's own draws: _law_purse, _law_mixed, _law_draw -/
namespace L2
open PySem PySem.Spec PyProof.Rows
def CPowX (i j : Int) : Prop := 0 ≤ j ∧ (Builtin.Int.intBits i : Int) * j ≤ 2 ^ 27
theorem op_powX {X : Cx} : OpR X (binaryOp .Pow) (rI CPowX fun i j => .int (i ^ j.toNat)) := opI fun _ _ _ _ _ _ _ hc q => pow_int hc.1 hc.2 q
end L2
namespace E2
open PySem PySem.Spec PyProof.Rows L2
open C8 (Cal Mak Met InsC pe_c pe_mt pe_mt0 call_isC clsBody)
abbrev sPurse : Stmt := top 23
abbrev sMixed : Stmt := top 24
abbrev sDraw : Stmt := top 25
abbrev sPurses : Stmt := top 26
abbrev sOneOf : Stmt := top 27
structure Bt4 (mg : Str → Option Value) : Prop where
  sum_ : mg "sum" = none
  max_ : mg "max" = none
  min_ : mg "min" = none
  rng_ : mg "range" = none
  len_ : mg "len" = none
theorem cut_ints (ns : List Int) (lo hi : Option Int) : ∃ ms : List Int, cutV (ns.map V.int) lo hi = ms.map V.int :=
  ⟨(ns.drop (HT.sIx (ns.map V.int).length 0 lo)).take (HT.sIx (ns.map V.int).length (ns.map V.int).length hi - HT.sIx (ns.map V.int).length 0 lo), by unfold cutV; rw [← List.map_drop, ← List.map_take]⟩
/-- a purse, with so many draws left -/
def PurseAt (H : Hp) (a : Addr) (n : Nat) : Prop := ∃ p0 p1 p2 p3 : Int, H a = some (.lst [.int p0, .int p1, .int p2, .int p3]) ∧ 0 ≤ p0 ∧ p0 < 10 ^ 480 ∧ 0 ≤ p1 ∧ p1 < 2 ^ 31 ∧ 0 ≤ p2 ∧ p2 + n ≤ 2 ^ 60 ∧ 0 ≤ p3 ∧ p3 < 100
def spPurse (K : PySem.W.Frag) : Sp := fun vs H Q _ => ∃ (sc : Addr) (i : Int) (ns : List Int), vs = [.ref sc, .int i] ∧ SqL K H sc (ns.map V.int) ∧ 0 ≤ i ∧ i < 100 ∧ ∀ H' p, Same H H' → H p = none → PurseAt H' p (2 ^ 60) → Q (.ref p) H'
section
variable {P : Program} {w : World} {K : PySem.W.Frag} {mg : Str → Option Value} {base : Heap}
theorem scPurse : FnScope ["_law_script", "_law_at", "_law_seed"] ["_law_script", "_law_at"] (defScope sPurse) := ⟨rfl, rfl, rfl, by decide +kernel, rfl, by decide +kernel, by decide +kernel⟩
theorem ok_purse {f : Addr} {fd : FuncData} (F : Fun K "_law_purse" "_law_purse" sPurse f fd) (B : Bt4 mg) : FnOk P w K mg base CX0 1 f fd ["_law_script", "_law_at"] (spPurse K) := by
  refine F.ok scPurse (fun vs H Q E h => ?_) (fun cdv A outer s H vs Q E hr h => ?_)
  · obtain ⟨sc, i, ns, rfl, _⟩ := h
    rfl
  · obtain ⟨sc, i, ns, rfl, hs, i0, i1, k⟩ := h
    refine ⟨_, pss_cons (ps_set (i := 2) scPurse.nd rfl (Or.inl rfl) (pe_callB (cr_sum rfl) (by rfl) B.sum_ (by decide +kernel) (pa_cons (pe_slice sl_listS (pv 0) (po_some (pv 1)) (po_some (pe_op op_add (pv 1) pe_int))) pa_nil)))
      (pss_one (ps_ret (pe_lstS (pa_cons (pe_op op_mod (pe_callB (call_max2 rfl) (by rfl) B.max_ (by decide +kernel) (pa_cons (pe_op op_sub (pv 2) (pe_op op_pow pe_int pe_int)) (pa_cons pe_int pa_nil))) (pe_op op_powX (pe_op op_pow pe_int pe_int) pe_int))
        (pa_cons (pe_op op_mod (pv 2) pe_int) (pa_cons pe_int (pa_cons (pv 1) pa_nil))))))), ?_⟩
    obtain ⟨ms, hms⟩ := cut_ints ns (some i) (some (i + 1))
    refine ⟨_, rfl, _, rfl, i, rfl, _, rfl, i, 1, rfl, rfl, i + 1, rfl, sc, _, rfl, hs, fun pc H1 S1 n1 h1 => ?_⟩
    rw [hms] at h1
    refine ⟨pc, ms, rfl, SqL.of h1, ?_⟩
    have c1 : CPow 10 18 := ⟨by decide, by decide, by decide⟩
    have c2 : CPow 10 60 := ⟨by decide, by decide, by decide⟩
    have c3 : CPowX ((10 : Int) ^ (60 : Int).toNat) 8 := ⟨by decide, by decide +kernel⟩
    refine ⟨_, rfl, 10, 18, rfl, rfl, c1, _, _, rfl, rfl, _, _, rfl, ?_⟩
    refine ⟨10, 60, rfl, rfl, c2, _, 8, rfl, rfl, c3, _, _, rfl, rfl, (show (0 : Int) < ((10 : Int) ^ (60 : Int).toNat) ^ (8 : Int).toNat by decide +kernel), ?_⟩
    refine ⟨_, rfl, _, _, rfl, rfl, (show (0 : Int) < 2147483629 by decide), _, rfl, (by show 4 ≤ sizeLine; decide), fun p H2 S2 np hp => ?_⟩
    refine k H2 p (S1.trans S2) (S1.free np) ⟨_, _, _, _, hp, Int.emod_nonneg _ (by decide +kernel), ?_, Int.emod_nonneg _ (by decide), ?_, by decide, by decide, i0, i1⟩
    · have e : ((10 : Int) ^ (60 : Int).toNat) ^ (8 : Int).toNat = 10 ^ 480 := by decide +kernel
      rw [e]
      exact Int.emod_lt_of_pos _ (by decide +kernel)
    · exact Int.lt_trans (Int.emod_lt_of_pos _ (by decide)) (by decide)
def spMixed : Sp := fun vs H Q _ => ∃ a b c : Int, vs = [.int a, .int b, .int c] ∧ 0 ≤ a ∧ a < 2 ^ 31 ∧ 0 ≤ b ∧ b < 2 ^ 61 ∧ 0 ≤ c ∧ c < 100 ∧ ∀ r : Int, 0 ≤ r → r < 2147483587 → Q (.int r) H
theorem scMixed : FnScope ["_law_seed", "_law_turn", "_law_at", "_law_mixed_here"] ["_law_seed", "_law_turn", "_law_at"] (defScope sMixed) := ⟨rfl, rfl, rfl, by decide +kernel, rfl, by decide +kernel, by decide +kernel⟩
theorem ok_mixed {f : Addr} {fd : FuncData} (F : Fun K "_law_mixed" "_law_mixed" sMixed f fd) : FnOk P w K mg base CX0 1 f fd ["_law_seed", "_law_turn", "_law_at"] spMixed := by
  refine F.ok scMixed (fun vs H Q E h => ?_) (fun cdv A outer s H vs Q E hr h => ?_)
  · obtain ⟨a, b, c, rfl, _⟩ := h
    rfl
  · obtain ⟨a, b, c, rfl, a0, a1, b0, b1, c0, c1, k⟩ := h
    refine ⟨_, pss_cons (ps_set (i := 3) scMixed.nd rfl (Or.inl rfl) (pe_op op_add (pe_op op_mul (pv 0) pe_int) (pe_op op_mul (pe_op op_mul pe_int (pv 1)) (pv 1))))
      (pss_cons (ps_set (i := 3) scMixed.nd rfl (Or.inl rfl) (pe_op op_mod (pe_op op_add (pe_op op_add (pv 3) (pe_op op_mul pe_int (pv 2))) (pv 1)) pe_int))
      (pss_cons (ps_set (i := 3) scMixed.nd rfl (Or.inl rfl) (pe_op op_mod (pe_op op_add (pe_op op_mul (pv 3) (pv 3)) pe_int) pe_int))
      (pss_one (ps_ret (pe_op op_mod (pe_op op_mul (pv 3) pe_int) pe_int))))), ?_⟩
    refine ⟨_, rfl, _, _, rfl, rfl, .inr (by constructor <;> decide), _, rfl, _, _, rfl, rfl, .inl (by constructor <;> decide), _, rfl, _, _, rfl, rfl, .inr ⟨by omega, by omega⟩, _, _, rfl, rfl, ?_⟩
    refine ⟨_, rfl, _, rfl, _, _, rfl, rfl, .inl (by constructor <;> decide), _, _, rfl, rfl, _, rfl, _, _, rfl, rfl, _, _, rfl, rfl, (show (0 : Int) < 2147483647 by decide), ?_⟩
    generalize hm : (a * 69069 + 104729 * b * b + 7919 * c + b) % 2147483647 = m
    have m0 : 0 ≤ m := hm ▸ Int.emod_nonneg _ (by decide)
    have m1 : m < 2147483647 := hm ▸ Int.emod_lt_of_pos _ (by decide)
    refine ⟨_, rfl, _, rfl, _, _, rfl, rfl, .inr ⟨by omega, by omega⟩, _, _, rfl, rfl, _, _, rfl, rfl, (show (0 : Int) < 2147483629 by decide), ?_⟩
    refine ⟨_, rfl, _, _, rfl, rfl, .inr (by constructor <;> decide), _, _, rfl, rfl, (show (0 : Int) < 2147483587 by decide), ?_⟩
    exact k _ (Int.emod_nonneg _ (by decide)) (Int.emod_lt_of_pos _ (by decide))
end
end E2

set_option Elab.async false
set_option linter.all false
set_option maxRecDepth 100000
set_option maxHeartbeats 1000000
/-! A form's dict: keys and fractions; dict comprehensions over it. -/
namespace L2
open PySem PySem.Spec PyProof.Rows
abbrev Mon := List Str
abbrev Fm := List (Mon × Rat)
def kS (m : Mon) : List Key := m.map Sum.inr
theorem kS_inj {m n : Mon} (h : kS m = kS n) : m = n := by
  unfold kS at h
  exact (List.map_inj_right (fun a b e => Sum.inr.inj e)).mp h
theorem kS_kV (m : Mon) : (kS m).map kV = m.map V.str := by
  unfold kS
  rw [List.map_map]
  rfl
/-- the dict's items are the form's terms -/
def FmKv (K : PySem.W.Frag) (H : Hp) (kvs : List (List Key × V)) (fm : Fm) : Prop := Paired (fun kv mq => kv.1 = kS mq.1 ∧ ∃ a, kv.2 = .ref a ∧ SqT K H a (frac mq.2)) kvs fm
def valM (fm : Fm) (m : Mon) : Option Rat := (fm.find? fun x => decide (x.1 = m)).map (·.2)
def putM (fm : Fm) (m : Mon) (q : Rat) : Fm := if (fm.any fun x => decide (x.1 = m)) = true then fm.map (fun x => if x.1 = m then (x.1, q) else x) else fm ++ [(m, q)]
theorem SqT.same {K : PySem.W.Frag} {H H' : Hp} {a : Addr} {xs : List V} (h : SqT K H a xs) (S : Same H H') : SqT K H' a xs := by
  rcases h with (h | ⟨o, h⟩) | h
  · exact .inl (.inl (S _ _ h))
  · exact .inl (.inr ⟨o, S _ _ h⟩)
  · exact .inr h
theorem SqL.same {K : PySem.W.Frag} {H H' : Hp} {a : Addr} {xs : List V} (h : SqL K H a xs) (S : Same H H') : SqL K H' a xs := by
  rcases h with (h | ⟨o, h⟩) | h
  · exact .inl (.inl (S _ _ h))
  · exact .inl (.inr ⟨o, S _ _ h⟩)
  · exact .inr h
section
variable {K : PySem.W.Frag} {H H' : Hp} {kvs : List (List Key × V)} {fm : Fm}
theorem FmKv.imp (h : FmKv K H kvs fm) (f : ∀ a x, SqT K H a (frac x) → SqT K H' a (frac x)) : FmKv K H' kvs fm := Paired.mapP h fun _ _ z => ⟨z.1, let ⟨a, e, s⟩ := z.2; ⟨a, e, f _ _ s⟩⟩
theorem FmKv.same (h : FmKv K H kvs fm) (S : Same H H') : FmKv K H' kvs fm := h.imp fun _ _ s => s.same S
theorem FmKv.length (h : FmKv K H kvs fm) : kvs.length = fm.length := Paired.length h
theorem FmKv.val (h : FmKv K H kvs fm) (m : Mon) : (valV kvs (kS m) = none ∧ valM fm m = none) ∨ ∃ a q, valV kvs (kS m) = some (.ref a) ∧ valM fm m = some q ∧ SqT K H a (frac q) := by
  unfold FmKv at h
  induction h with
  | nil => exact .inl ⟨rfl, rfl⟩
  | @cons p x ps xs r t ih =>
    obtain ⟨e, a, ea, sa⟩ := r
    by_cases c : x.1 = m
    · refine .inr ⟨a, x.2, ?_, ?_, sa⟩
      · rw [valV_pos (by rw [e, c]), ea]
      · simp [valM, List.find?_cons, c]
    · have c2 : ¬ p.1 = kS m := fun z => c (kS_inj (e.symm.trans z))
      rw [valV_neg c2]
      have e2 : valM (x :: xs) m = valM xs m := by simp [valM, List.find?_cons, c]
      rw [e2]
      exact ih
theorem FmKv.any (h : FmKv K H kvs fm) (m : Mon) : (kvs.any fun kv => decide (kv.1 = kS m)) = (fm.any fun x => decide (x.1 = m)) := by
  unfold FmKv at h
  induction h with
  | nil => rfl
  | @cons p x ps xs r t ih =>
    rw [List.any_cons, List.any_cons, ih]
    congr 1
    by_cases c : x.1 = m
    · rw [decide_eq_true c, decide_eq_true (by rw [r.1, c])]
    · rw [decide_eq_false c, decide_eq_false fun z => c (kS_inj (r.1.symm.trans z))]
theorem FmKv.put (h : FmKv K H kvs fm) (m : Mon) {q : Rat} {a : Addr} (sa : SqT K H a (frac q)) : FmKv K H (putK kvs (kS m) (.ref a)) (putM fm m q) := by
  unfold putK putM
  rw [h.any m]
  split
  · have e : ∀ {l : List (List Key × V)} {n : Fm}, FmKv K H l n → FmKv K H (l.map fun kv => if kv.1 = kS m then (kv.1, V.ref a) else kv) (n.map fun x => if x.1 = m then (x.1, q) else x) := by
      intro l n g
      unfold FmKv at g ⊢
      induction g with
      | nil => exact .nil
      | @cons p x ps xs r t ih =>
        rw [List.map_cons, List.map_cons]
        refine .cons ?_ ih
        by_cases c : x.1 = m
        · rw [if_pos c, if_pos (by rw [r.1, c])]
          exact ⟨r.1, a, rfl, sa⟩
        · rw [if_neg c, if_neg fun z => c (kS_inj (r.1.symm.trans z))]
          exact r
    exact e h
  · exact Paired.snoc h ⟨rfl, a, rfl, sa⟩
theorem FmKv.get (h : FmKv K H kvs fm) {i : Nat} {kv : List Key × V} (e : kvs[i]? = some kv) : ∃ m q a, fm[i]? = some (m, q) ∧ kv = (kS m, V.ref a) ∧ SqT K H a (frac q) := by
  obtain ⟨b, hb, e1, a, e2, sa⟩ := paired_get h e
  exact ⟨b.1, b.2, a, hb, Prod.ext e1 e2, sa⟩
end
theorem putM_new {fm : Fm} {m : Mon} (q : Rat) (h : m ∉ fm.map (·.1)) : putM fm m q = fm ++ [(m, q)] := by
  unfold putM
  rw [if_neg]
  intro z
  obtain ⟨x, hx, e⟩ := List.any_eq_true.mp z
  exact h (List.mem_map.mpr ⟨x, hx, of_decide_eq_true e⟩)
/-- the dict at d, locked and open -/
theorem SqT.off {K : PySem.W.Frag} {H : Hp} {a d : Addr} {xs : List V} {u v : HO} (h : SqT K H a xs) (hd : H d = some u) (n1 : u ≠ .tup xs) (n2 : ∀ o, u ≠ .frz o (.tup xs)) : SqT K (upd H d v) a xs := by
  rcases h with (h | ⟨o, h⟩) | h
  · refine .inl (.inl ?_)
    rw [upd_ne]
    · exact h
    · rintro rfl
      rw [hd] at h
      exact n1 (Option.some.inj h)
  · refine .inl (.inr ⟨o, ?_⟩)
    rw [upd_ne]
    · exact h
    · rintro rfl
      rw [hd] at h
      exact n2 o (Option.some.inj h)
  · exact .inr h
theorem same_back {H H' : Hp} {d : Addr} {u z : HO} (hd : H d = some u) (S : Same (upd H d z) H') : Same H (upd H' d u) := by
  intro b o e
  by_cases c : b = d
  · subst c
    rw [upd_same]
    rw [hd] at e
    exact e
  · rw [upd_ne c]
    exact S b o (by rw [upd_ne c]; exact e)
end L2

set_option Elab.async false
set_option linter.all false
set_option maxRecDepth 100000
set_option maxHeartbeats 1000000
/-! {names: .. for .. in a form's dict} -/
namespace L2
open PySem PySem.Spec PyProof.Rows
/-- a comprehension over n turns: Pv by the turn and the heap (the new dict at D within) -/
theorem dcT_it {J : It} {n : Nat} {G : Hp → Prop} {Y : Nat → Hp → V → Hp → Prop} (w : Walk J n G Y) {g : TG} {tt : TT} {tk tv : TE} {vs : List Nat} {σ : St} {H1 : Hp} {D : Addr} {Qd : Hp → Prop} (Pv : Nat → Hp → Prop) (h0 : Pv 0 (upd H1 D (.dT [])))
    (hG : ∀ i H, i ≤ n → Pv i H → G H) (hs : ∀ i x H H', i < n → Pv i H → Y i H x H' → g x (wipe σ vs) H' fun σ2 H2 => wipe σ2 vs = wipe σ vs ∧ tt σ2 H2 fun b H3 =>
      if b = true then tk σ2 H3 fun y H4 => tv σ2 H4 fun z H5 => TurnT D (Pv (i + 1)) y z H5 else Pv (i + 1) H3) (hd : ∀ H, Pv n H → Qd H) :
    ∃ W : Nat → Nat → Hp → Prop, (∃ m, W 0 m (upd H1 D (.dT []))) ∧ ∀ i m H, W i m H →
      (J.stop i H ∧ Qd H) ∨ (J.go i H ∧ ∃ Nx : Hp → Prop, (∀ H', Nx H' → ∃ m', m' < m ∧ W (i + 1) m' H') ∧ ∀ x H', J.yld i H x H' → g x (wipe σ vs) H' fun σ2 H2 => wipe σ2 vs = wipe σ vs ∧ tt σ2 H2 fun b H3 =>
        if b = true then tk σ2 H3 fun y H4 => tv σ2 H4 fun z H5 => TurnT D Nx y z H5 else Nx H3) := by
  refine ⟨fun i m H => m + i = n ∧ Pv i H, ⟨n, rfl, h0⟩, fun i m H hw => ?_⟩
  obtain ⟨hm, p⟩ := hw
  have q := hG i H (by omega) p
  cases m with
  | zero =>
    have hi : i = n := by omega
    subst hi
    exact .inl ⟨w.stops H q, hd H p⟩
  | succ k => exact .inr ⟨w.goes i H (by omega) q, Pv (i + 1), fun H' p' => ⟨k, Nat.lt_succ_self k, by omega, p'⟩, fun x H' y => hs i x H H' (by omega) p (w.yields i H x H' (by omega) q y)⟩
/-- the terms that p keeps, their coefficients by f -/
def mapM (p : Rat → Bool) (f : Rat → Rat) (fm : Fm) : Fm := (fm.filter fun x => p x.2).map fun x => (x.1, f x.2)
theorem mapM_keys {p : Rat → Bool} {f : Rat → Rat} {fm : Fm} {m : Mon} (h : m ∈ (mapM p f fm).map (·.1)) : m ∈ fm.map (·.1) := by
  unfold mapM at h
  rw [List.map_map] at h
  obtain ⟨x, hx, e⟩ := List.mem_map.mp h
  exact List.mem_map.mpr ⟨x, (List.mem_filter.mp hx).1, e⟩
theorem mapM_snoc {p : Rat → Bool} {f : Rat → Rat} {fm : Fm} {m : Mon} {q : Rat} : mapM p f (fm ++ [(m, q)]) = if p q = true then mapM p f fm ++ [(m, f q)] else mapM p f fm := by
  unfold mapM
  rw [List.filter_append]
  by_cases c : p q = true
  · rw [if_pos c, List.filter_cons, if_pos c, List.filter_nil, List.map_append]
    rfl
  · rw [if_neg c, List.filter_cons, if_neg c, List.filter_nil, List.append_nil]
theorem mapM_nodup {p : Rat → Bool} {f : Rat → Rat} {fm : Fm} (h : (fm.map (·.1)).Nodup) : ((mapM p f fm).map (·.1)).Nodup := by
  unfold mapM
  rw [List.map_map]
  exact List.Nodup.sublist ((List.filter_sublist).map _) h
theorem take_snoc {α : Type} {l : List α} {i : Nat} {x : α} (h : l[i]? = some x) : l.take (i + 1) = l.take i ++ [x] := by
  rw [List.take_succ, h]
  rfl
theorem nodup_new {fm : Fm} (h : (fm.map (·.1)).Nodup) {i : Nat} {m : Mon} {q : Rat} (e : fm[i]? = some (m, q)) : m ∉ (fm.take i).map (·.1) := by
  intro z
  rw [List.map_take] at z
  obtain ⟨j, hj⟩ := List.getElem?_of_mem z
  have hji : j < i := by
    rcases Nat.lt_or_ge j i with c | c
    · exact c
    · rw [List.getElem?_eq_none (by rw [List.length_take]; omega)] at hj
      cases hj
  rw [List.getElem?_take_of_lt hji] at hj
  have e' : (fm.map (·.1))[i]? = some m := by rw [List.getElem?_map, e]; rfl
  obtain ⟨li, ei⟩ := List.getElem?_eq_some_iff.mp e'
  obtain ⟨lj, ej⟩ := List.getElem?_eq_some_iff.mp hj
  have := (List.getElem_inj (xs := fm.map (·.1)) h).mp (ej.trans ei.symm)
  omega
/-- over d.items(): what a turn does with a term -/
theorem dcT_fm {K : PySem.W.Frag} {H1 : Hp} {d D : Addr} {o : Obj} {kvs : List (List Key × V)} {fm : Fm} {p : Rat → Bool} {f : Rat → Rat} {g : TG} {tt : TT} {tk tv : TE} {vs : List Nat} {σ : St} {Qd : Hp → Prop}
    (hd : H1 d = some (.frz o (.dT kvs))) (hD : H1 D = none) (hf : FmKv K H1 kvs fm) (hn : (fm.map (·.1)).Nodup) (hz : fm.length ≤ sizeLine)
    (hs : ∀ (i : Nat) (m : Mon) (q : Rat) (H' : Hp) (T b a : Addr) (put : V → V → Hp → Prop) (skip : Hp → Prop), fm[i]? = some (m, q) → Same H1 H' → H' T = some (.tup [.ref b, .ref a]) → H' b = some (.tup ((kS m).map kV)) → SqT K H' a (frac q) →
      (p q = true → ∀ H5 (b' a' : Addr), Same H' H5 → H5 b' = some (.tup ((kS m).map kV)) → SqT K H5 a' (frac (f q)) → put (.ref b') (.ref a') H5) → (p q = false → ∀ H5, Same H' H5 → skip H5) →
      g (.ref T) (wipe σ vs) H' fun σ2 H2 => wipe σ2 vs = wipe σ vs ∧ tt σ2 H2 fun c H3 => if c = true then tk σ2 H3 fun y H4 => tv σ2 H4 fun z H5 => put y z H5 else skip H3)
    (hq : ∀ H' kvs', Same H1 H' → H' D = some (.dT kvs') → FmKv K H' kvs' (mapM p f fm) → Qd H') :
    ∃ W : Nat → Nat → Hp → Prop, (∃ m, W 0 m (upd H1 D (.dT []))) ∧ ∀ i m H, W i m H →
      ((ItiT d o kvs).stop i H ∧ Qd H) ∨ ((ItiT d o kvs).go i H ∧ ∃ Nx : Hp → Prop, (∀ H', Nx H' → ∃ m', m' < m ∧ W (i + 1) m' H') ∧ ∀ x H', (ItiT d o kvs).yld i H x H' → g x (wipe σ vs) H' fun σ2 H2 => wipe σ2 vs = wipe σ vs ∧ tt σ2 H2 fun b H3 =>
        if b = true then tk σ2 H3 fun y H4 => tv σ2 H4 fun z H5 => TurnT D Nx y z H5 else Nx H3) := by
  refine dcT_it walk_itemsT (fun i H' => Same H1 H' ∧ ∃ kvs', H' D = some (.dT kvs') ∧ FmKv K H' kvs' (mapM p f (fm.take i))) ⟨Same.upd hD, [], upd_same, .nil⟩ (fun i H _ q => q.1 _ _ hd) ?_ ?_
  · rintro i x H H' hi ⟨S, kvs', hD', kv'⟩ ⟨T, k, v, b, hkv, rfl, nT, hb, rfl⟩
    obtain ⟨m, q, a, hm, e, sa⟩ := hf.get hkv
    obtain ⟨rfl, rfl⟩ := Prod.mk.inj e
    have S2 : Same H (upd H T (.tup [.ref b, .ref a])) := Same.upd nT
    have hD2 : (upd H T (.tup [.ref b, .ref a])) D = some (.dT kvs') := S2 _ _ hD'
    have tk1 := take_snoc hm
    have ml : (mapM p f (fm.take i)).length ≤ i := by
      unfold mapM
      rw [List.length_map]
      exact Nat.le_trans (List.length_filter_le _ _) (by rw [List.length_take]; exact Nat.min_le_left _ _)
    have hil : i < fm.length := by rw [← hf.length]; exact hi
    refine hs i m q _ T b a _ _ hm (S.trans S2) upd_same (S2 _ _ hb) ((sa.same S).same S2) (fun pq H5 b' a' S5 hb' sa' => ?_) (fun pq H5 S5 => ?_)
    · refine ⟨kvs', kS m, b', rfl, hb', S5 _ _ hD2, ?_, ?_, ?_⟩
      · rw [kv'.length]
        omega
      · intro c u e
        by_cases cD : c = D
        · subst cD
          rw [hD] at e
          cases e
        · rw [upd_ne cD]
          exact S5 _ _ (S2 _ _ (S _ _ e))
      · refine ⟨_, upd_same, ?_⟩
        rw [tk1, mapM_snoc, if_pos pq]
        have k5 : FmKv K H5 kvs' (mapM p f (fm.take i)) := (kv'.same S2).same S5
        have n5 : m ∉ (mapM p f (fm.take i)).map (·.1) := fun z => nodup_new hn hm (mapM_keys z)
        have k6 := k5.put m sa'
        rw [putM_new _ n5] at k6
        exact k6.imp fun c x s => s.off (S5 _ _ hD2) (fun z => nomatch z) (fun _ z => nomatch z)
    · refine ⟨(S.trans S2).trans S5, kvs', S5 _ _ hD2, ?_⟩
      rw [tk1, mapM_snoc, if_neg (by rw [pq]; exact Bool.false_ne_true)]
      exact (kv'.same S2).same S5
  · rintro H ⟨S, kvs', hD', kv'⟩
    rw [hf.length, List.take_length] at kv'
    exact hq H kvs' S hD' kv'
/-- the dict locked, its items walked by a dict comprehension, the dict open again -/
theorem lock_items {K : PySem.W.Frag} {H : Hp} {d : Addr} {kvs : List (List Key × V)} {fm : Fm} {p : Rat → Bool} {f : Rat → Rat} {td : TE} {g : TG} {tt : TT} {tk tv : TE} {vs : List Nat} {σ : St} {Q : VK}
    (hd : H d = some (.dT kvs)) (hf : FmKv K H kvs fm) (hn : (fm.map (·.1)).Nodup) (hz : fm.length ≤ sizeLine)
    (hte : ∀ (od : Obj) (R : VK), R (.ref d) (upd H d (.frz od (.dT kvs))) → td σ (upd H d (.frz od (.dT kvs))) R)
    (hs : ∀ (H1 : Hp), (∀ b xs, SqT K H b xs → SqT K H1 b xs) → ∀ (i : Nat) (m : Mon) (q : Rat) (H' : Hp) (T b a : Addr) (put : V → V → Hp → Prop) (skip : Hp → Prop), fm[i]? = some (m, q) → Same H1 H' → H' T = some (.tup [.ref b, .ref a]) → H' b = some (.tup ((kS m).map kV)) → SqT K H' a (frac q) →
      (p q = true → ∀ H5 (b' a' : Addr), Same H' H5 → H5 b' = some (.tup ((kS m).map kV)) → SqT K H5 a' (frac (f q)) → put (.ref b') (.ref a') H5) → (p q = false → ∀ H5, Same H' H5 → skip H5) →
      g (.ref T) (wipe σ vs) H' fun σ2 H2 => wipe σ2 vs = wipe σ vs ∧ tt σ2 H2 fun c H3 => if c = true then tk σ2 H3 fun y H4 => tv σ2 H4 fun z H5 => put y z H5 else skip H3)
    (hq : ∀ H' D kvs', Same H H' → H D = none → H' D = some (.dT kvs') → FmKv K H' kvs' (mapM p f fm) → Q (.ref D) H') :
    tLockE (tDcT (iItemsT td) g tt tk tv vs) σ H Q := by
  refine ⟨d, .dT kvs, hd, trivial, fun od => ?_⟩
  have hf0 : FmKv K (upd H d (.frz od (.dT kvs))) kvs fm := hf.imp fun b x s => s.off hd (fun z => nomatch z) (fun _ z => nomatch z)
  refine hte od _ ⟨d, od, kvs, rfl, upd_same, fun D nD => ?_⟩
  have neD : D ≠ d := by
    rintro rfl
    rw [upd_same] at nD
    cases nD
  have nD' : H D = none := by rwa [upd_ne neD] at nD
  refine dcT_fm (p := p) (f := f) upd_same nD hf0 hn hz (hs _ fun b xs s => s.off hd (fun z => nomatch z) (fun _ z => nomatch z)) fun H' kvs' S hD kv => ⟨S _ _ upd_same, ?_⟩
  refine hq _ D kvs' (same_back hd S) nD' (by rw [upd_ne neD]; exact hD) ?_
  exact kv.imp fun b x s => s.off (S _ _ upd_same) (fun z => nomatch z) (fun _ z => nomatch z)
end L2

set_option Elab.async false
set_option linter.all false
set_option maxRecDepth 100000
set_option maxHeartbeats 1000000
/-! lowest, fraction_sum, fraction_product -/
namespace E2
open PySem PySem.Spec PyProof.Rows L2
open C8 (Cal Mak Met InsC pe_c pe_mt pe_mt0 call_isC clsBody)
theorem log2_mono {a b : Nat} (h : a ≤ b) : a.log2 ≤ b.log2 := by
  rcases Nat.eq_zero_or_pos a with r | r
  · rw [r]; exact Nat.zero_le _
  · rw [Nat.le_log2 (by omega)]
    exact Nat.le_trans (Nat.log2_self_le (by omega)) h
def spLowest : Sp := fun vs H Q _ => ∃ a b : Int, vs = [.int a, .int b] ∧ b ≠ 0 ∧ b.natAbs.log2 < 9000 ∧ NewQ H (.tup [.int (loq a b).1, .int (loq a b).2]) Q
section
variable {P : Program} {w : World} {K : PySem.W.Frag} {mg : Str → Option Value} {base : Heap}
theorem scLowest : FnScope ["top", "bottom", "shared"] ["top", "bottom"] (defScope sLowest) := ⟨rfl, rfl, rfl, by decide +kernel, rfl, by decide +kernel, by decide +kernel⟩
theorem ok_lowest {f : Addr} {fd : FuncData} (F : Fun K "lowest" "lowest" sLowest f fd) (hgcd : mg "gcd" = some (.builtin "math.gcd")) : FnOk P w K mg base CX0 1 f fd ["top", "bottom"] spLowest := by
  refine F.ok scLowest (fun vs H Q E h => ?_) (fun cdv A outer s H vs Q E hr h => ?_)
  · obtain ⟨a, b, rfl, _⟩ := h
    rfl
  · obtain ⟨a, b, rfl, hb, hl, k⟩ := h
    refine ⟨_, pss_cons (ps_set (i := 2) scLowest.nd rfl (Or.inl rfl) (pe_ifExp (pt_cmpR op_gt (pv 1) pe_int (by rfl))
        (pe_callBfun cr_gcd rfl hgcd (pa_cons (pv 0) (pa_cons (pv 1) pa_nil))) (pe_un un_neg (pe_callBfun cr_gcd rfl hgcd (pa_cons (pv 0) (pa_cons (pv 1) pa_nil))))))
      (pss_one (ps_ret (pe_tupS (pa_cons (pe_op op_fdivX (pv 0) (pv 2)) (pa_cons (pe_op op_fdivX (pv 1) (pv 2)) pa_nil))))), ?_⟩
    have gp : 0 < Nat.gcd a.natAbs b.natAbs := Nat.gcd_pos_of_pos_right _ (by omega)
    have gl : (Nat.gcd a.natAbs b.natAbs).log2 < 9000 := Nat.lt_of_le_of_lt (log2_mono (Nat.gcd_le_right _ (by omega))) hl
    refine ⟨_, rfl, b, 0, rfl, rfl, _, rfl, ?_⟩
    refine iteD (fun h => ?_) (fun h => ?_)
    · refine ⟨_, rfl, _, rfl, a, b, rfl, ?_⟩
      have c : CDivX a ((Nat.gcd a.natAbs b.natAbs : Nat) : Int) := ⟨by omega, by simpa using gl⟩
      refine ⟨_, rfl, _, rfl, _, _, rfl, rfl, c, _, rfl, _, rfl, _, _, rfl, rfl, c, (by show 2 ≤ sizeLine; decide), ?_⟩
      have e : loq a b = (a.fdiv ((Nat.gcd a.natAbs b.natAbs : Nat) : Int), b.fdiv ((Nat.gcd a.natAbs b.natAbs : Nat) : Int)) := by
        unfold loq
        simp only [show b > 0 from h, if_true]
      rw [e] at k
      exact k
    · refine ⟨_, rfl, _, rfl, a, b, rfl, _, rfl, ?_⟩
      have c : CDivX a (-((Nat.gcd a.natAbs b.natAbs : Nat) : Int)) := ⟨by omega, by simpa using gl⟩
      refine ⟨_, rfl, _, rfl, _, _, rfl, rfl, c, _, rfl, _, rfl, _, _, rfl, rfl, c, (by show 2 ≤ sizeLine; decide), ?_⟩
      have e : loq a b = (a.fdiv (-((Nat.gcd a.natAbs b.natAbs : Nat) : Int)), b.fdiv (-((Nat.gcd a.natAbs b.natAbs : Nat) : Int))) := by
        unfold loq
        simp only [show ¬ (b > 0) from h, if_false]
      rw [e] at k
      exact k

/-- two fractions, each a tuple; the third, a new one -/
def spFrac (K : PySem.W.Frag) (g : Rat → Rat → Rat) : Sp := fun vs H Q _ => ∃ (p q : Addr) (x y : Rat), vs = [.ref p, .ref q] ∧ SqT K H p (frac x) ∧ SqT K H q (frac y) ∧ x.num.natAbs < 2 ^ 400000 ∧ y.num.natAbs < 2 ^ 400000 ∧ x.den < 2 ^ 4000 ∧ y.den < 2 ^ 4000 ∧ NewQ H (.tup (frac (g x y))) Q
theorem cmw {i j : Int} {a b : Nat} (ha : i.natAbs < 2 ^ a) (hb : j.natAbs < 2 ^ b) (h0 : 0 < a) (h1 : 0 < b) (h : a + b ≤ 1000000) : CMulW i j := wide_mul ha hb h0 h1 h
theorem den_log {a b : Nat} (ha : a < 2 ^ 4000) (hb : b < 2 ^ 4000) : ((a : Int) * (b : Int)).natAbs.log2 < 9000 := by
  have e : ((a : Int) * (b : Int)).natAbs < 2 ^ (4000 + 4000) := wide_lt (a := 4000) (b := 4000) (by rw [Int.natAbs_natCast]; exact ha) (by rw [Int.natAbs_natCast]; exact hb)
  exact Nat.lt_of_lt_of_le (PySem.Flt.log2_lt_of (by decide) e) (by decide)
theorem den_ne {x y : Rat} : (x.den : Int) * (y.den : Int) ≠ 0 := by
  have h1 := x.den_nz
  have h2 := y.den_nz
  intro e
  rcases Int.mul_eq_zero.mp e with h | h <;> omega
theorem scFracSum : FnScope ["one", "other"] ["one", "other"] (defScope sFracSum) := ⟨rfl, rfl, rfl, by decide +kernel, rfl, by decide +kernel, by decide +kernel⟩
theorem ok_fracSum {f : Addr} {fd : FuncData} (F : Fun K "fraction_sum" "fraction_sum" sFracSum f fd) (L : Cal P w K mg base 1 "lowest" spLowest []) : FnOk P w K mg base CX0 2 f fd ["one", "other"] (spFrac K (· + ·)) := by
  refine F.ok scFracSum (fun vs H Q E h => ?_) (fun cdv A outer s H vs Q E hr h => ?_)
  · obtain ⟨p, q, x, y, rfl, _⟩ := h
    rfl
  · obtain ⟨p, q, x, y, rfl, hp, hq, nx, ny, dx, dy, k⟩ := h
    refine ⟨_, pss_one (ps_ret (pe_c L hr (by decide) rfl (pa_cons (pe_op op_add (pe_op op_mulW (pe_ix ix_tup (pv 0) pe_int (fun _ _ => rfl)) (pe_ix ix_tup (pv 1) pe_int (fun _ _ => rfl))) (pe_op op_mulW (pe_ix ix_tup (pv 1) pe_int (fun _ _ => rfl)) (pe_ix ix_tup (pv 0) pe_int (fun _ _ => rfl))))
      (pa_cons (pe_op op_mulW (pe_ix ix_tup (pv 0) pe_int (fun _ _ => rfl)) (pe_ix ix_tup (pv 1) pe_int (fun _ _ => rfl))) pa_nil)))), ?_⟩
    have cx : (x.den : Int).natAbs < 2 ^ 4000 := by rw [Int.natAbs_natCast]; exact dx
    have cy : (y.den : Int).natAbs < 2 ^ 4000 := by rw [Int.natAbs_natCast]; exact dy
    refine ⟨_, rfl, p, _, 0, _, rfl, rfl, hp, rfl, _, rfl, q, _, 1, _, rfl, rfl, hq, rfl, _, _, rfl, rfl, cmw nx cy (by decide) (by decide) (by decide), ?_⟩
    refine ⟨_, rfl, q, _, 0, _, rfl, rfl, hq, rfl, _, rfl, p, _, 1, _, rfl, rfl, hp, rfl, _, _, rfl, rfl, cmw ny cx (by decide) (by decide) (by decide), ?_⟩
    refine ⟨_, _, rfl, rfl, ?_⟩
    refine ⟨_, rfl, p, _, 1, _, rfl, rfl, hp, rfl, _, rfl, q, _, 1, _, rfl, rfl, hq, rfl, _, _, rfl, rfl, cmw cx cy (by decide) (by decide) (by decide), ?_⟩
    refine ⟨_, _, rfl, den_ne, den_log dx dy, ?_⟩
    rw [loq_add]
    exact k
theorem scFracProd : FnScope ["one", "other"] ["one", "other"] (defScope sFracProd) := ⟨rfl, rfl, rfl, by decide +kernel, rfl, by decide +kernel, by decide +kernel⟩
theorem ok_fracProd {f : Addr} {fd : FuncData} (F : Fun K "fraction_product" "fraction_product" sFracProd f fd) (L : Cal P w K mg base 1 "lowest" spLowest []) : FnOk P w K mg base CX0 2 f fd ["one", "other"] (spFrac K (· * ·)) := by
  refine F.ok scFracProd (fun vs H Q E h => ?_) (fun cdv A outer s H vs Q E hr h => ?_)
  · obtain ⟨p, q, x, y, rfl, _⟩ := h
    rfl
  · obtain ⟨p, q, x, y, rfl, hp, hq, nx, ny, dx, dy, k⟩ := h
    refine ⟨_, pss_one (ps_ret (pe_c L hr (by decide) rfl (pa_cons (pe_op op_mulW (pe_ix ix_tup (pv 0) pe_int (fun _ _ => rfl)) (pe_ix ix_tup (pv 1) pe_int (fun _ _ => rfl)))
      (pa_cons (pe_op op_mulW (pe_ix ix_tup (pv 0) pe_int (fun _ _ => rfl)) (pe_ix ix_tup (pv 1) pe_int (fun _ _ => rfl))) pa_nil)))), ?_⟩
    have cx : (x.den : Int).natAbs < 2 ^ 4000 := by rw [Int.natAbs_natCast]; exact dx
    have cy : (y.den : Int).natAbs < 2 ^ 4000 := by rw [Int.natAbs_natCast]; exact dy
    refine ⟨_, rfl, p, _, 0, _, rfl, rfl, hp, rfl, _, rfl, q, _, 0, _, rfl, rfl, hq, rfl, _, _, rfl, rfl, cmw nx ny (by decide) (by decide) (by decide), ?_⟩
    refine ⟨_, rfl, p, _, 1, _, rfl, rfl, hp, rfl, _, rfl, q, _, 1, _, rfl, rfl, hq, rfl, _, _, rfl, rfl, cmw cx cy (by decide) (by decide) (by decide), ?_⟩
    refine ⟨_, _, rfl, den_ne, den_log dx dy, ?_⟩
    rw [loq_mul]
    exact k
end
end E2

set_option Elab.async false
set_option linter.all false
set_option maxRecDepth 100000
set_option maxHeartbeats 1000000
/-! Forms as objects: Form(..), -a, a.over(n), a + b, .. -/
namespace L2
open PySem PySem.Spec PyProof.Rows
open C8 (Cal Mak Met InsC)
/-- the form at a -/
def FmAt (K : PySem.W.Frag) (C : Addr) (H : Hp) (a : Addr) (fm : Fm) : Prop := ∃ dx d kvs, H a = some (.ins C dx [("_parts", .ref d)]) ∧ H d = some (.dT kvs) ∧ FmKv K H kvs fm
theorem FmAt.same {K : PySem.W.Frag} {C : Addr} {H H' : Hp} {a : Addr} {fm : Fm} (h : FmAt K C H a fm) (S : Same H H') : FmAt K C H' a fm :=
  let ⟨dx, d, kvs, h1, h2, h3⟩ := h; ⟨dx, d, kvs, S _ _ h1, S _ _ h2, h3.same S⟩
def spInit (C : Addr) : Sp := fun vs H Q _ => ∃ a dx v, vs = [.ref a, v] ∧ H a = some (.ins C dx []) ∧ Q .non (upd H a (.ins C dx [("_parts", v)]))
def tMkF (C : Addr) (te : TE) : TE := fun σ H Q => te σ H fun v H1 => ∀ a dx H', Same H1 H' → H1 a = none → H' a = some (.ins C dx [("_parts", v)]) → Q (.ref a) H'
theorem seq_asg {te : TE} {i : Nat} {u : TS} {D : Ends} {σ : St} {H : Hp} (h : te σ H fun x H1 => u D (σ.set i (some x)) H1) : tSeq (tAsg te (gName i)) u D σ H := h
theorem seq_lockasg {te : TE} {i : Nat} {u : TS} {D : Ends} {σ : St} {H : Hp} (h : tLockE te σ H fun x H1 => u D (σ.set i (some x)) H1) : tSeq (tLock (tAsg te (gName i))) u D σ H :=
  let ⟨d, v, hd, mu, h⟩ := h; ⟨d, v, hd, mu, fun od => h od⟩
theorem call_one {sp : Sp} {E : XK} {i : Nat} {v : V} {σ : St} {H : Hp} {Q : VK} (hs : σ[i]? = some (some v)) (h : sp [v] H Q E) : tCall sp [] E (tCons (tVar i) tNil) σ H Q := ⟨v, hs, h⟩
/-- all but D as it was -/
def SameB (D : Addr) (H H' : Hp) : Prop := ∀ b o, b ≠ D → H b = some o → H' b = some o
theorem SameB.refl (D : Addr) (H : Hp) : SameB D H H := fun _ _ _ h => h
theorem SameB.to {D : Addr} {H H1 H2 : Hp} (S : SameB D H H1) (T : Same H1 H2) : SameB D H H2 := fun b o n h => T b o (S b o n h)
theorem SameB.upd {D : Addr} {H H1 : Hp} {o : HO} (S : SameB D H H1) : SameB D H (L2.upd H1 D o) := fun b u n h => by rw [upd_ne n]; exact S b u n h
theorem SqT.sameB {K : PySem.W.Frag} {D : Addr} {H H' : Hp} {a : Addr} {xs : List V} {kvs : List (List Key × V)} (h : SqT K H a xs) (S : SameB D H H') (hD : H D = some (.dT kvs)) : SqT K H' a xs := by
  rcases h with (h | ⟨o, h⟩) | h
  · exact .inl (.inl (S _ _ (by rintro rfl; rw [hD] at h; cases h) h))
  · exact .inl (.inr ⟨o, S _ _ (by rintro rfl; rw [hD] at h; cases h) h⟩)
  · exact .inr h
/-- for .. in d.items(), d locked meanwhile -/
theorem seq_for_items {K : PySem.W.Frag} {H : Hp} {d : Addr} {kvs : List (List Key × V)} {fm : Fm} {td : TE} {g : TG} {tb u : TS} {D : Ends} {σ : St} (hd : H d = some (.dT kvs)) (hf : FmKv K H kvs fm)
    (hte : ∀ (od : Obj) (R : VK), R (.ref d) (upd H d (.frz od (.dT kvs))) → td σ (upd H d (.frz od (.dT kvs))) R) (Pv : Obj → Nat → St → Hp → Prop) (h0 : ∀ od, Pv od 0 σ (upd H d (.frz od (.dT kvs))))
    (hl : ∀ od i σ' H', Pv od i σ' H' → H' d = some (.frz od (.dT kvs)) ∧ ∀ b xs, SqT K (upd H d (.frz od (.dT kvs))) b xs → SqT K H' b xs)
    (hs : ∀ (od : Obj) (i : Nat) (m : Mon) (q : Rat) (σ' : St) (H' : Hp) (T b a : Addr) (rt : VK) (bk : St → Hp → Prop), fm[i]? = some (m, q) → Pv od i σ' H' → H' T = none → H' b = some (.tup ((kS m).map kV)) → SqT K H' a (frac q) →
      g (.ref T) σ' (upd H' T (.tup [.ref b, .ref a])) fun σ2 H2 => tb { nx := Pv od (i + 1), rt := rt, bk := bk, ct := Pv od (i + 1) } σ2 H2)
    (he : ∀ od σ' H', Pv od fm.length σ' H' → u D σ' (upd H' d (.dT kvs))) : tSeq (tLock (tFor (iItemsT td) g tb)) u D σ H := by
  refine ⟨d, .dT kvs, hd, trivial, fun od => ?_⟩
  have hf0 : FmKv K (upd H d (.frz od (.dT kvs))) kvs fm := hf.imp fun b x s => s.off hd (fun z => nomatch z) (fun _ z => nomatch z)
  refine hte od _ ⟨d, od, kvs, rfl, upd_same, for_it walk_itemsT (Pv od) (h0 od) (fun i σ' H' _ p => (hl od i σ' H' p).1) ?_ ?_⟩
  · rintro i x σ' H' H'' hi p ⟨T, k, v, b, hkv, rfl, nT, hb, rfl⟩
    obtain ⟨m, q, a, hm, e, sa⟩ := hf0.get hkv
    obtain ⟨rfl, rfl⟩ := Prod.mk.inj e
    exact hs od i m q σ' H' T b a _ _ hm p nT hb ((hl od i σ' H' p).2 _ _ sa)
  · intro σ' H' p
    rw [hf.length] at p
    exact ⟨(hl od _ σ' H' p).1, he od σ' H' p⟩
theorem ret_of {te : TE} {D : Ends} {σ : St} {H : Hp} (h : te σ H D.rt) : tRet te D σ H := h
theorem ret_mkF {C : Addr} {te : TE} {D : Ends} {σ : St} {H : Hp} (h : te σ H fun v H1 => ∀ a dx H', Same H1 H' → H1 a = none → H' a = some (.ins C dx [("_parts", v)]) → D.rt (.ref a) H') : tRet (tMkF C te) D σ H := h
section
variable {X : Cx} {C : Addr} {x : Str} {e : Expr} {te : TE} {p pos : Pos} {j : Nat}
theorem pe_mkF (c : Mak X.prog X.w X.K X.mg X.base 1 x C (spInit C) []) (hr : Room j X.A) (hk : 2 ≤ j) (hg : Gl X x) (he : PE X e te)
    (hdb : (x == ("__debug__" : Str)) = false := by decide) (hs : starEach [e] X.env = (false, eval e X.env) :: starEach [] X.env := by rfl) (hpl : (backTo pos (starEach [] X.env)).any (·.1) = false := by rfl) :
    PE X (.Call (.Name x p) [e] [] pos) (tMkF C te) := by
  obtain ⟨f, fd, ps, ds, M, F, hm, b, d⟩ := c.ex
  refine ⟨fun pins s σ H Q I h => ?_⟩
  refine wpAny_Call_Name_kw (ld_glob I hg hm ?_ hdb)
  refine PySem.W.callWith_K (h₀ := X.base) I.ok.mod.kin M.kp ?_ hs hpl
  rw [hs]
  show wpAny _ _ (spliced ((false, eval e X.env) :: backTo pos (starEach [] X.env))) _ _ s
  refine Calls.spliced_cons (thn (he.run pins s σ H _ I h) fun u s1 hh => ?_)
  obtain ⟨v, H1, I1, rv, q⟩ := hh
  refine Calls.spliced_nil ⟨I1.kIn, ?_⟩
  refine run_make (E := E0) M F (hr.mono hk) b d pass0 I1 (.cons rv .nil) fun y dx hy hdx ne => ?_
  refine ⟨y, dx, v, rfl, upd_same, rfl, ?_⟩
  refine q y dx _ ?_ hy upd_same
  intro c o e
  have n1 : c ≠ y := ne_of_none e hy
  have n2 : c ≠ dx := ne_of_none e hdx
  rw [upd_ne n1, upd_ne n1, upd_ne n2]
  exact e
end
end L2
namespace E2
open PySem PySem.Spec PyProof.Rows L2
open C8 (Cal Mak Met InsC pe_c pe_mt pe_mt0 call_isC clsBody)
def meth (i : Nat) : Stmt := (clsBody sForm).getD i (.Pass ⟨0, 0, 0, 0⟩)
abbrev sInit : Stmt := meth 0
abbrev sAdd : Stmt := meth 1
abbrev sSub : Stmt := meth 2
abbrev sMul : Stmt := meth 3
abbrev sNeg : Stmt := meth 4
abbrev sOver : Stmt := meth 6
abbrev sLetters : Stmt := meth 8
abbrev sAt : Stmt := meth 10
/-- the class Form, as the top left it -/
structure Fx (P : Program) (w : World) (K : PySem.W.Frag) (mg : Str → Option Value) (base : Heap) (C : Addr) : Prop where
  cl : Cls K C
  na : NoAttr K C "_parts"
  maks : Mak P w K mg base 1 "Form" C (spInit C) []
def spNeg (K : PySem.W.Frag) (C : Addr) (f : Rat → Rat) : Sp := fun vs H Q _ => ∃ a fm, vs = [.ref a] ∧ FmAt K C H a fm ∧ (fm.map (·.1)).Nodup ∧ fm.length ≤ sizeLine ∧ ∀ H' b, Same H H' → H b = none → FmAt K C H' b (mapM (fun _ => true) f fm) → Q (.ref b) H'
section
variable {P : Program} {w : World} {K : PySem.W.Frag} {mg : Str → Option Value} {base : Heap} {C : Addr}
theorem scInit : FnScope ["self", "parts"] ["self", "parts"] (defScope sInit) := ⟨rfl, rfl, rfl, by decide +kernel, rfl, by decide +kernel, by decide +kernel⟩
theorem ok_init {f : Addr} {fd : FuncData} (F : Fun K "__init__" "Form.__init__" sInit f fd) (c : Cls K C) (n : NoAttr K C "_parts") : FnOk P w K mg base CX0 1 f fd ["self", "parts"] (spInit C) := by
  refine F.ok scInit (fun vs H Q E h => ?_) (fun cdv A outer s H vs Q E hr h => ?_)
  · obtain ⟨a, dx, v, rfl, _⟩ := h
    rfl
  · obtain ⟨a, dx, v, rfl, ha, k⟩ := h
    refine ⟨_, pss_one (ps_fld (pv 0) (pv 1) rfl), ?_⟩
    exact ⟨_, rfl, _, rfl, a, C, dx, [], rfl, ha, c, n, by decide, k⟩
theorem scNeg : FnScope ["self", "names", "top", "bottom"] ["self"] (defScope sNeg) := ⟨rfl, rfl, rfl, by decide +kernel, rfl, by decide +kernel, by decide +kernel⟩
theorem ok_neg {f : Addr} {fd : FuncData} (F : Fun K "__neg__" "Form.__neg__" sNeg f fd) (T : Fx P w K mg base C) : FnOk P w K mg base CX0 3 f fd ["self"] (spNeg K C (fun q => -q)) := by
  refine F.ok scNeg (fun vs H Q E h => ?_) (fun cdv A outer s H vs Q E hr h => ?_)
  · obtain ⟨a, fm, rfl, _⟩ := h
    rfl
  · obtain ⟨a, fm, rfl, ⟨dx, d, kvs, ha, hd, hf⟩, hn, hz, k⟩ := h
    refine ⟨_, pss_one (ps_ret (pe_mkF T.maks hr (by decide) rfl (pe_lock (pe_dcT (own := [("names", 1), ("top", 2), ("bottom", 3)]) (g := gTup K 2 (gCons (gName 1) (gCons (gTup K 2 (gCons (gName 2) (gCons (gName 3) gNil))) gNil))) (tt := tYes) (tk := tVar 1) (tv := tTupS (tCons (tUn (rU fun i => V.int (-i)) (tVar 2)) (tCons (tVar 3) tNil))) (Nat.lt_of_le_of_lt (Nat.le_add_right _ 64) hr.units) rfl scNeg.nd (pi_itemsT (pe_fld (pv 0) rfl))
      (blkOk_by (own := [("names", 1), ("top", 2), ("bottom", 3)]) (N := ["self", "names", "top", "bottom"]) (sc := defScope sNeg) (by decide +kernel))
      ⟨fun _ _ _ _ _ => pg_tup rfl (pgs_cons (pg_name (i := 1) scNeg.nd rfl (Or.inl rfl)) (pgs_cons (pg_tup rfl (pgs_cons (pg_name (i := 2) scNeg.nd rfl (Or.inl rfl)) (pgs_cons (pg_name (i := 3) scNeg.nd rfl (Or.inl rfl)) pgs_nil))) pgs_nil)),
       fun _ _ _ _ _ => pts_nil, fun _ _ _ _ _ => pv 1, fun _ _ _ _ _ => by exact pe_tupS (pa_cons (pe_un un_neg (pv 2)) (pa_cons (pv 3) pa_nil))⟩)))), ?_⟩
    refine ret_mkF (lock_items (p := fun _ => true) (f := fun q => -q) hd hf hn hz (fun od R h => ⟨_, rfl, a, C, dx, _, _, rfl, by rw [upd_ne (ne_of ha hd (by intro z; cases z))]; exact ha, T.cl, T.na, rfl, h⟩) ?_ ?_)
    · intro H1 lk i m q H' T b a put skip hm S hT hb sa hput hskip
      refine ⟨T, _, rfl, SqT.of hT, rfl, _, _, rfl, _, _, rfl, ⟨a, _, rfl, sa, rfl, _, _, rfl, _, _, rfl, rfl, rfl, rfl, ?_⟩⟩
      refine iteT (B := skip H') ?_
      exact ⟨_, rfl, _, rfl, _, rfl, _, rfl, (by show 2 ≤ sizeLine; decide), fun p2 H5 S5 n5 h5 => hput rfl H5 b p2 S5 (S5 _ _ hb) (SqT.of h5)⟩
    · intro H' D kvs' S nD hD kv b dx' H2 S2 nb hb
      exact k _ _ (S.trans S2) (S.free nb) ⟨dx', D, kvs', hb, S2 _ _ hD, kv.same S2⟩
end
end E2

set_option Elab.async false
set_option linter.all false
set_option maxRecDepth 100000
set_option maxHeartbeats 1000000
/-! _law_draw, _law_one_of -/
namespace E2
open PySem PySem.Spec PyProof.Rows L2
open C8 (Cal Mak Met InsC pe_c pe_mt pe_mt0 call_isC clsBody)
theorem SqL.sameB {K : PySem.W.Frag} {D : Addr} {H H' : Hp} {a : Addr} {xs : List V} (h : SqL K H a xs) (S : SameB D H H') (n : a ≠ D) : SqL K H' a xs := by
  rcases h with (h | ⟨o, h⟩) | h
  · exact .inl (.inl (S _ _ n h))
  · exact .inl (.inr ⟨o, S _ _ n h⟩)
  · exact .inr h
def spDraw : Sp := fun vs H Q _ => ∃ (a : Addr) (many : Int) (n : Nat), vs = [.ref a, .int many] ∧ PurseAt H a (n + 4) ∧ 1 ≤ many ∧ many < 2 ^ 100 ∧ ∀ r H', 0 ≤ r → r < many → PurseAt H' a n → SameB a H H' → Q (.int r) H'
theorem bits_100 {m : Int} (h0 : 1 ≤ m) (h : m < 2 ^ 100) : Builtin.Int.intBits m ≤ 100 := by
  unfold Builtin.Int.intBits
  rw [if_neg (by intro e; have := eq_of_beq e; omega)]
  have h1 : m.natAbs < 2 ^ 100 := by
    have e : ((m.natAbs : Nat) : Int) = m := Int.natAbs_of_nonneg (by omega)
    have : ((m.natAbs : Nat) : Int) < ((2 ^ 100 : Nat) : Int) := by rw [e]; exact_mod_cast h
    exact Int.ofNat_lt.mp this
  have := PySem.Flt.log2_lt_of (by decide) h1
  omega
section
variable {P : Program} {w : World} {K : PySem.W.Frag} {mg : Str → Option Value} {base : Heap}
theorem scDraw : FnScope ["_law_purse_here", "_law_many", "_law_drawn", "_law_found", "_law_piece"] ["_law_purse_here", "_law_many"] (defScope sDraw) := ⟨rfl, rfl, rfl, by decide +kernel, rfl, by decide +kernel, by decide +kernel⟩
theorem ok_draw {f : Addr} {fd : FuncData} (F : Fun K "_law_draw" "_law_draw" sDraw f fd) (B : Bt4 mg) (M : Cal P w K mg base 1 "_law_mixed" spMixed []) : FnOk P w K mg base CX0 2 f fd ["_law_purse_here", "_law_many"] spDraw := by
  refine F.ok scDraw (fun vs H Q E h => ?_) (fun cdv A outer s H vs Q E hr h => ?_)
  · obtain ⟨a, many, n, rfl, _⟩ := h
    rfl
  · obtain ⟨a, many, n, rfl, ⟨p0, p1, p2, p3, hp, a0, a1, b0, b1, c0, c1, d0, d1⟩, m1, m2, k⟩ := h
    refine ⟨_, pss_cons (ps_if (pt_cmpR op_gt (pe_ix ix_list (pv 0) pe_int (fun _ _ => rfl)) pe_int (by rfl))
        (pss_cons (ps_set (i := 2) scDraw.nd rfl (Or.inl rfl) (pe_op op_mod (pe_ix ix_list (pv 0) pe_int (fun _ _ => rfl)) (pv 1)))
        (pss_cons (ps_asg (pe_op op_fdivW (pe_ix ix_list (pv 0) pe_int (fun _ _ => rfl)) (pv 1)) (pg_sub (pv 0) pe_int set_list))
        (pss_one (ps_ret (pv 2))))) pss_nil)
      (pss_cons (ps_set (i := 3) scDraw.nd rfl (Or.inl rfl) pe_int)
      (pss_cons (ps_for PassesOwn.never rfl (pi_range1 rfl B.rng_ (pa_cons (pe_op op_add pe_int (pe_op op_fdiv (pe_bits (pv 1)) pe_int)) pa_nil)) (pg_name (i := 4) scDraw.nd rfl (Or.inl rfl))
        (pss_cons (ps_asg (pe_op op_add (pe_ix ix_list (pv 0) pe_int (fun _ _ => rfl)) pe_int) (pg_sub (pv 0) pe_int set_list))
        (pss_one (ps_set (i := 3) scDraw.nd rfl (Or.inl rfl) (pe_op op_add (pe_op op_mul (pv 3) pe_int) (pe_c M hr (by decide) rfl (pa_cons (pe_ix ix_list (pv 0) pe_int (fun _ _ => rfl)) (pa_cons (pe_ix ix_list (pv 0) pe_int (fun _ _ => rfl)) (pa_cons (pe_ix ix_list (pv 0) pe_int (fun _ _ => rfl)) pa_nil)))))))))
      (pss_one (ps_ret (pe_op op_mod (pv 3) (pv 1)))))), ?_⟩
    have ml : CDivW p0 many := by
      refine ⟨by omega, ?_⟩
      have h1 := bits_100 m1 m2
      unfold Builtin.Int.intBits at h1
      rw [if_neg (by intro e; have := eq_of_beq e; omega)] at h1
      omega
    refine ⟨_, rfl, a, _, 0, _, rfl, rfl, SqL.of hp, rfl, _, _, rfl, rfl, _, rfl, iteD (fun h => ?_) (fun h => ?_)⟩
    · refine ⟨_, rfl, a, _, 0, _, rfl, rfl, SqL.of hp, rfl, _, rfl, _, _, rfl, rfl, (show 0 < many by omega), ?_⟩
      refine ⟨_, rfl, a, _, 0, _, rfl, rfl, SqL.of hp, rfl, _, rfl, _, _, rfl, rfl, ml, _, rfl, a, _, 0, 0, rfl, rfl, hp, rfl, ?_⟩
      refine ⟨_, rfl, k _ _ (Int.emod_nonneg _ (by omega)) (Int.emod_lt_of_pos _ (by omega)) ⟨p0 / many, p1, p2, p3, upd_same, Int.ediv_nonneg a0 (by omega), Int.lt_of_le_of_lt (Int.ediv_le_self _ a0) a1, b0, b1, c0, by omega, d0, d1⟩ fun c o nc e => by rw [upd_ne nc]; exact e⟩
    · dsimp only [tNext]
      refine seq_asg ?_
      dsimp only [tC]
      have bb := bits_100 m1 m2
      have jn : ((1 + ((Builtin.Int.intBits many : Nat) : Int) / 28)).toNat ≤ 4 := by omega
      refine ⟨_, rfl, many, rfl, _, 28, rfl, rfl, (by constructor <;> decide), _, _, rfl, rfl, _, rfl, ?_⟩
      refine ⟨by omega, by omega, for_it (walk_range (n := (1 + ((Builtin.Int.intBits many : Nat) : Int) / 28).toNat)) (fun i σ' H' => (∃ fnd v, σ' = [some (.ref a), some (.int many), none, some (.int fnd), v]) ∧ SameB a H H' ∧ H' a = some (.lst [.int p0, .int p1, .int (p2 + (i : Nat)), .int p3])) ⟨⟨0, none, rfl⟩, SameB.refl _ _, by rw [hp]; simp⟩ (fun _ _ _ _ _ => trivial) ?_ ?_⟩
      · rintro i x σ' H1 H2 hi ⟨⟨fnd, v, rfl⟩, S, hp'⟩ ⟨rfl, rfl⟩
        have hi4 : i < 4 := Nat.lt_of_lt_of_le hi jn
        refine ⟨_, rfl, a, _, 2, _, rfl, rfl, SqL.of hp', rfl, _, _, rfl, rfl, _, rfl, a, _, 2, 2, rfl, rfl, hp', rfl, ?_⟩
        have hq : (upd H2 a (.lst [.int p0, .int p1, .int (p2 + (i : Nat) + 1), .int p3])) a = some (.lst [.int p0, .int p1, .int (p2 + (i : Nat) + 1), .int p3]) := upd_same
        have sq : SqL K (upd H2 a (.lst [.int p0, .int p1, .int (p2 + (i : Nat) + 1), .int p3])) a [.int p0, .int p1, .int (p2 + (i : Nat) + 1), .int p3] := SqL.of hq
        refine ⟨_, rfl, _, _, rfl, rfl, .inr (by constructor <;> decide), _, rfl, a, _, 1, _, rfl, rfl, sq, rfl, _, rfl, a, _, 2, _, rfl, rfl, sq, rfl, _, rfl, a, _, 3, _, rfl, rfl, sq, rfl, p1, p2 + (i : Nat) + 1, p3, rfl, b0, b1, by omega, by omega, d0, d1, fun r r0 r1 => ⟨_, _, rfl, rfl, ⟨_, _, rfl⟩, S.upd, ?_⟩⟩
        rw [upd_same]
        have e : p2 + ((i + 1 : Nat) : Int) = p2 + (i : Nat) + 1 := by omega
        rw [e]
        rfl
      · rintro σ' H1 ⟨⟨fnd, v, rfl⟩, S, hp'⟩
        dsimp only
        exact ⟨_, rfl, _, rfl, _, _, rfl, rfl, (show 0 < many by omega), k _ _ (Int.emod_nonneg _ (by omega)) (Int.emod_lt_of_pos _ (by omega)) ⟨p0, p1, _, p3, hp', a0, a1, b0, b1, by omega, by omega, d0, d1⟩ S⟩
def spOneOf (K : PySem.W.Frag) : Sp := fun vs H Q _ => ∃ (a l : Addr) (xs : List V) (n : Nat), vs = [.ref a, .ref l] ∧ PurseAt H a (n + 4) ∧ SqL K H l xs ∧ l ≠ a ∧ 0 < xs.length ∧ xs.length < 1000 ∧ ∀ r H', r ∈ xs → PurseAt H' a n → SameB a H H' → Q r H'
theorem scOneOf : FnScope ["_law_purse_here", "_law_some"] ["_law_purse_here", "_law_some"] (defScope sOneOf) := ⟨rfl, rfl, rfl, by decide +kernel, rfl, by decide +kernel, by decide +kernel⟩
theorem ok_oneOf {f : Addr} {fd : FuncData} (F : Fun K "_law_one_of" "_law_one_of" sOneOf f fd) (B : Bt4 mg) (M : Cal P w K mg base 2 "_law_draw" spDraw []) : FnOk P w K mg base CX0 3 f fd ["_law_purse_here", "_law_some"] (spOneOf K) := by
  refine F.ok scOneOf (fun vs H Q E h => ?_) (fun cdv A outer s H vs Q E hr h => ?_)
  · obtain ⟨a, l, xs, n, rfl, _⟩ := h
    rfl
  · obtain ⟨a, l, xs, n, rfl, hp, hs, ne, l0, l1, k⟩ := h
    refine ⟨_, pss_one (ps_ret (pe_ix ix_list (pv 1) (pe_c M hr (by decide) rfl (pa_cons (pv 0) (pa_cons (pe_callB call_len_seq (by rfl) B.len_ PySem.boot_len (pa_cons (pv 1) pa_nil)) pa_nil))) (fun _ _ => rfl))), ?_⟩
    refine ⟨_, rfl, _, rfl, _, rfl, l, xs, rfl, .inl hs, a, (xs.length : Int), n, rfl, hp, by omega, by omega, fun r H' r0 r1 hp' S => ?_⟩
    have hlt : r.toNat < xs.length := by omega
    have e : atI xs r = some (xs[r.toNat]) := by
      unfold atI ixN
      rw [if_pos r0, if_pos r1]
      exact List.getElem?_eq_getElem hlt
    exact ⟨l, xs, r, _, rfl, rfl, E2.SqL.sameB hs S ne, e, k _ _ (List.getElem_mem hlt) hp' S⟩
end
end E2

set_option Elab.async false
set_option linter.all false
set_option maxRecDepth 100000
set_option maxHeartbeats 1000000
/-! _law_tree -/
namespace E2
open PySem PySem.Spec PyProof.Rows L2
open C8 (Cal Mak Met InsC pe_c pe_mt pe_mt0 call_isC clsBody)
abbrev sTree : Stmt := top 28
inductive Tr where
  | num (n : Int)
  | var (z : Str)
  | div (t : Tr) (k : Int)
  | bin (o : Nat) (l r : Tr)
def word : Nat → Str
  | 0 => "plus"
  | 1 => "minus"
  | _ => "times"
/-- the expression at an address, nested tuples -/
def TrAt (K : PySem.W.Frag) (H : Hp) : Tr → Addr → Prop
  | .num n, a => SqT K H a [.str "number", .int n]
  | .var z, a => SqT K H a [.str "letter", .str z]
  | .div t k, a => ∃ b, SqT K H a [.str "divided", .ref b, .int k] ∧ TrAt K H t b
  | .bin o l r, a => ∃ b c, SqT K H a [.str (word o), .ref b, .ref c] ∧ TrAt K H l b ∧ TrAt K H r c
theorem SqT.sameL {K : PySem.W.Frag} {D : Addr} {H H' : Hp} {a : Addr} {xs ys : List V} (h : SqT K H a xs) (S : SameB D H H') (hD : H D = some (.lst ys)) : SqT K H' a xs := by
  rcases h with (h | ⟨o, h⟩) | h
  · exact .inl (.inl (S _ _ (by rintro rfl; rw [hD] at h; cases h) h))
  · exact .inl (.inr ⟨o, S _ _ (by rintro rfl; rw [hD] at h; cases h) h⟩)
  · exact .inr h
theorem TrAt.imp {K : PySem.W.Frag} {H H' : Hp} (f : ∀ a xs, SqT K H a xs → SqT K H' a xs) : ∀ {t : Tr} {a : Addr}, TrAt K H t a → TrAt K H' t a
  | .num n, a, h => f _ _ h
  | .var z, a, h => f _ _ h
  | .div t k, a, ⟨b, h1, h2⟩ => ⟨b, f _ _ h1, TrAt.imp f h2⟩
  | .bin o l r, a, ⟨b, c, h1, h2, h3⟩ => ⟨b, c, f _ _ h1, TrAt.imp f h2, TrAt.imp f h3⟩
theorem TrAt.same {K : PySem.W.Frag} {H H' : Hp} {t : Tr} {a : Addr} (h : TrAt K H t a) (S : Same H H') : TrAt K H' t a := h.imp fun _ _ s => s.same S
theorem PurseAt.lst {H : Hp} {a : Addr} {n : Nat} (h : PurseAt H a n) : ∃ ys, H a = some (.lst ys) := let ⟨_, _, _, _, h, _⟩ := h; ⟨_, h⟩
theorem TrAt.sameB {K : PySem.W.Frag} {H H' : Hp} {t : Tr} {a p : Addr} {n : Nat} (h : TrAt K H t a) (S : SameB p H H') (hp : PurseAt H p n) : TrAt K H' t a := by
  obtain ⟨ys, e⟩ := hp.lst
  exact h.imp fun _ _ s => E2.SqT.sameL s S e
theorem PurseAt.same {H H' : Hp} {a : Addr} {n : Nat} (h : PurseAt H a n) (S : Same H H') : PurseAt H' a n := let ⟨p0, p1, p2, p3, h, r⟩ := h; ⟨p0, p1, p2, p3, S _ _ h, r⟩
theorem PurseAt.less {H : Hp} {a : Addr} {n m : Nat} (h : PurseAt H a n) (l : m ≤ n) : PurseAt H a m := let ⟨p0, p1, p2, p3, h, a0, a1, b0, b1, c0, c1, r⟩ := h; ⟨p0, p1, p2, p3, h, a0, a1, b0, b1, c0, by omega, r⟩
def TrOk (names : List Str) : Nat → Tr → Prop
  | _, .num n => n.natAbs < 2 ^ 40
  | _, .var z => z ∈ names
  | 0, .div _ _ => False
  | d + 1, .div t k => TrOk names d t ∧ 1 ≤ k ∧ k ≤ 9
  | 0, .bin _ _ _ => False
  | d + 1, .bin o l r => o ≤ 2 ∧ TrOk names d l ∧ TrOk names d r
def cT : Nat → Nat
  | 0 => 8
  | d + 1 => 8 + 2 * cT d
def spTree (K : PySem.W.Frag) (d : Nat) : Sp := fun vs H Q _ => ∃ (a l : Addr) (names : List Str) (n : Nat), vs = [.ref a, .int (d : Int), .ref l] ∧ PurseAt H a (n + cT d) ∧ SqL K H l (names.map V.str) ∧ l ≠ a ∧ names.length ≤ 10 ∧ (∀ z ∈ names, PyData.strOk z = true) ∧
  ∀ t b H', TrOk names d t → TrAt K H' t b → PurseAt H' a n → SameB a H H' → Q (.ref b) H'
def spTreeP (K : PySem.W.Frag) : Nat → Sp
  | 0 => fun _ _ _ _ => False
  | d + 1 => spTree K d
theorem canLay_strs (l : List Str) (h : ∀ z ∈ l, PyData.strOk z = true) : PyData.canLayAll0 (l.map PyData.str) = true := by
  induction l with
  | nil => rfl
  | cons b l ih => simpa [PyData.canLayAll0, PyData.canLay0] using ⟨h b (List.mem_cons.mpr (.inl rfl)), ih fun z hz => h z (List.mem_cons.mpr (.inr hz))⟩
theorem depth_strs (l : List Str) : PyData.depthAll (l.map PyData.str) = 0 := by
  induction l with
  | nil => rfl
  | cons b l ih =>
    show max (PyData.depth (.str b)) (PyData.depthAll (l.map PyData.str)) = 0
    rw [ih]
    rfl
theorem shaped_strs (l : List Str) (h : ∀ z ∈ l, PyData.strOk z = true) : SeqAt.shaped (.list (l.map PyData.str)) = true := by
  have h1 : PyData.canLay0 (.list (l.map PyData.str)) = true := by simpa [PyData.canLay0] using canLay_strs l h
  have h2 : PyData.depth (.list (l.map PyData.str)) ≤ 64 := by
    simp only [PyData.depth]
    rw [depth_strs]
    decide
  show (PyData.canLay0 _ && decide (PyData.depth _ ≤ 64)) = true
  rw [h1, decide_eq_true h2]
  rfl
theorem dp_strs {K : PySem.W.Frag} {H : Hp} (l : List Str) : DpAll K H (l.map V.str) (l.map PyData.str) := by
  induction l with
  | nil => exact .nil
  | cons b l ih => exact .cons (.str b) ih
theorem eqv_nil (l : List Str) : PyData.eqv (.list (l.map PyData.str)) (.list []) = l.isEmpty := by
  cases l with
  | nil => rfl
  | cons b l => rfl
theorem _root_.L2.SameB.trans {D : Addr} {H H1 H2 : Hp} (S : SameB D H H1) (T : SameB D H1 H2) : SameB D H H2 := fun b o n h => T b o n (S b o n h)
/-- ("letter", ..) or ("number", 5) -/
theorem letter_part {K : PySem.W.Frag} {D : Ends} {σ : L2.St} {H : Hp} {a l : Addr} {names : List Str} {n : Nat} (h0 : σ[0]? = some (some (.ref a))) (h2 : σ[2]? = some (some (.ref l))) (hp : PurseAt H a (n + 4)) (hs : SqL K H l (names.map V.str)) (ne : l ≠ a) (hn : names.length ≤ 10) (hso : ∀ z ∈ names, PyData.strOk z = true)
    (k : ∀ t b H', (t = .num 5 ∨ ∃ z ∈ names, t = .var z) → TrAt K H' t b → PurseAt H' a n → SameB a H H' → D.rt (.ref b) H') :
    tRet (tIf (tTest (tOp (rNeD K) (tVar 2) (tLstS tNil))) (tTupS (tCons (tC (V.str "letter")) (tCons (tCall (spOneOf K) [] C8.E0 (tCons (tVar 0) (tCons (tVar 2) tNil))) tNil))) (tTupS (tCons (tC (V.str "number")) (tCons (tC (V.int 5)) tNil)))) D σ H := by
  refine ret_of ⟨_, h2, (by show 0 ≤ sizeLine; decide), fun pe H2 S2 n2 hpe => ⟨.list (names.map PyData.str), .list [], .lst (hs.same S2) (dp_strs _), .lst (SqL.of hpe) .nil, shaped_strs _ hso, by decide, _, rfl, ?_⟩⟩
  rw [eqv_nil]
  cases names with
  | nil => exact iteF ⟨(by show 2 ≤ sizeLine; decide), fun pt H3 S3 n3 h3 => k (.num 5) pt H3 (.inl rfl) (SqT.of h3) (((hp.same S2).same S3).less (by omega)) fun c o nc e => S3 _ _ (S2 _ _ e)⟩
  | cons x xs =>
    refine iteT (B := False) ⟨_, h0, _, h2, a, l, _, n, rfl, hp.same S2, hs.same S2, ne, by rw [List.length_map]; exact Nat.succ_pos _, by rw [List.length_map]; omega, fun r H3 hr hp3 S3 => ?_⟩
    obtain ⟨z, hz, rfl⟩ := List.mem_map.mp hr
    exact ⟨(by show 2 ≤ sizeLine; decide), fun pt H4 S4 n4 h4 => k (.var z) pt H4 (.inr ⟨z, hz, rfl⟩) (SqT.of h4) (hp3.same S4) fun c o nc e => S4 _ _ (S3 _ _ nc (S2 _ _ e))⟩
theorem few_nums {r : V} (h : r ∈ [V.int 0, V.int 1, V.int 2, V.int 3, V.int 7, V.int 12, V.int 99]) : ∃ m : Int, r = .int m ∧ 0 ≤ m ∧ m ≤ 99 := by
  simp only [List.mem_cons, List.not_mem_nil, or_false] at h
  rcases h with rfl | rfl | rfl | rfl | rfl | rfl | rfl
  all_goals exact ⟨_, rfl, by decide, by decide⟩
section
variable {P : Program} {w : World} {K : PySem.W.Frag} {mg : Str → Option Value} {base : Heap}
theorem scTree : FnScope ["_law_purse_here", "_law_depth", "_law_names_here", "_law_way", "_law_word"] ["_law_purse_here", "_law_depth", "_law_names_here"] (defScope sTree) := ⟨rfl, rfl, rfl, by decide +kernel, rfl, by decide +kernel, by decide +kernel⟩
theorem ok_tree {f : Addr} {fd : FuncData} (F : Fun K "_law_tree" "_law_tree" sTree f fd) (d : Nat) (hd : d ≤ 3) (D : Cal P w K mg base 2 "_law_draw" spDraw []) (O : Cal P w K mg base 3 "_law_one_of" (spOneOf K) []) (R : Cal P w K mg base (4 + d) "_law_tree" (spTreeP K d) []) : FnOk P w K mg base CX0 (5 + d) f fd ["_law_purse_here", "_law_depth", "_law_names_here"] (spTree K d) := by
  have e5 : 5 + d = (4 + d) + 1 := by omega
  rw [e5]
  refine F.ok scTree (fun vs H Q E h => ?_) (fun cdv A outer s H vs Q E hr h => ?_)
  · obtain ⟨a, l, names, n, rfl, _⟩ := h
    rfl
  · obtain ⟨a, l, names, n, rfl, hp, hs, ne, hn, hso, k⟩ := h
    refine ⟨_, pss_cons (ps_set (i := 3) scTree.nd rfl (Or.inl rfl) (pe_c D hr (by omega) rfl (pa_cons (pv 0) (pa_cons (pe_ifExp (pt_cmpR op_gt (pv 1) pe_int (by rfl)) pe_int pe_int) pa_nil))))
      (pss_cons (ps_if (pt_cmpR op_eq (pv 3) pe_int (nomark _)) (pss_one (ps_ret (pe_tupS (pa_cons pe_str (pa_cons (pe_c O hr (by omega) rfl (pa_cons (pv 0) (pa_cons (pe_lstS (pa_cons pe_int (pa_cons pe_int (pa_cons pe_int (pa_cons pe_int (pa_cons pe_int (pa_cons pe_int (pa_cons pe_int pa_nil)))))))) pa_nil))) pa_nil))))) pss_nil)
      (pss_cons (ps_if (PW.pt (pw_or (pt_cmpR op_eq (pv 3) pe_int (nomark _)) (pw_or1 (pt_cmpR (op_eqD hr.units) (pv 2) (pe_lstS pa_nil) (nomark _)))))
          (pss_one (ps_ret (pe_ifExp (pt_cmpR (op_neD hr.units) (pv 2) (pe_lstS pa_nil) (nomark _)) (pe_tupS (pa_cons pe_str (pa_cons (pe_c O hr (by omega) rfl (pa_cons (pv 0) (pa_cons (pv 2) pa_nil))) pa_nil))) (pe_tupS (pa_cons pe_str (pa_cons pe_int pa_nil)))))) pss_nil)
      (pss_cons (ps_if (pt_cmpR op_eq (pv 3) pe_int (nomark _)) (pss_one (ps_ret (pe_tupS (pa_cons pe_str (pa_cons (pe_c R hr (by omega) rfl (pa_cons (pv 0) (pa_cons (pe_op op_sub (pv 1) pe_int) (pa_cons (pv 2) pa_nil)))) (pa_cons (pe_op op_add pe_int (pe_c D hr (by omega) rfl (pa_cons (pv 0) (pa_cons pe_int pa_nil)))) pa_nil)))))) pss_nil)
      (pss_cons (ps_set (i := 4) scTree.nd rfl (Or.inl rfl) (pe_ix ix_list (pe_lstS (pa_cons pe_str (pa_cons pe_str (pa_cons pe_str (pa_cons pe_str pa_nil))))) (pe_op op_sub (pv 3) pe_int) (fun _ _ => rfl)))
      (pss_one (ps_ret (pe_tupS (pa_cons (pv 4) (pa_cons (pe_c R hr (by omega) rfl (pa_cons (pv 0) (pa_cons (pe_op op_sub (pv 1) pe_int) (pa_cons (pv 2) pa_nil)))) (pa_cons (pe_c R hr (by omega) rfl (pa_cons (pv 0) (pa_cons (pe_op op_sub (pv 1) pe_int) (pa_cons (pv 2) pa_nil)))) pa_nil)))))))))), ?_⟩
    have tok : ∀ t, (t = .num 5 ∨ ∃ z ∈ names, t = .var z) → TrOk names d t := by
      rintro t (rfl | ⟨z, hz, rfl⟩)
      · cases d <;> exact (show (5 : Int).natAbs < 2 ^ 40 by decide)
      · cases d <;> exact hz
    cases d with
    | zero =>
      refine seq_asg ⟨_, rfl, _, rfl, _, _, rfl, rfl, _, rfl, iteF ⟨a, 2, n + 4, rfl, hp, by decide, by decide, fun r H1 r0 r1 hp1 S1 => ?_⟩⟩
      refine ⟨_, rfl, rfl, _, rfl, iteD (fun hw => ?_) (fun hw => ?_)⟩
      · refine ⟨_, rfl, (by show 7 ≤ sizeLine; decide), fun pl H2 S2 npl hpl => ⟨a, pl, _, n, rfl, (hp1.less (by omega)).same S2, SqL.of hpl, ?_, by decide, by decide, fun r2 H3 hr2 hp3 S3 => ?_⟩⟩
        · rintro rfl
          obtain ⟨ys, e⟩ := hp1.lst
          rw [npl] at e
          cases e
        · obtain ⟨m, rfl, m0, m1⟩ := few_nums hr2
          exact ⟨(by show 2 ≤ sizeLine; decide), fun pt H4 S4 n4 h4 => k (.num m) pt H4 (show m.natAbs < 2 ^ 40 by omega) (SqT.of h4) ((hp3.same S4).less (by omega)) (((S1.to S2).trans S3).to S4)⟩
      dsimp only [tNext]
      have hs1 := E2.SqL.sameB hs S1 ne
      have hr : r = 1 := by
        have : r ≠ 0 := fun e => hw (by rw [e])
        omega
      subst hr
      refine ⟨_, rfl, rfl, _, rfl, iteT (B := False) ?_⟩
      exact letter_part rfl rfl hp1 hs1 ne hn hso fun t b H' ht hb hp' S' => k t b H' (tok t ht) hb hp' (S1.trans S')
    | succ d =>
      have e1 : n + cT (d + 1) = (n + 4 + 2 * cT d) + 4 := by show n + (8 + 2 * cT d) = _; omega
      rw [e1] at hp
      refine seq_asg ⟨_, rfl, _, rfl, _, _, rfl, rfl, _, rfl, iteD (fun _ => ?_) (fun h => absurd (by omega) h)⟩
      refine ⟨a, 7, n + 4 + 2 * cT d, rfl, hp, by decide, by decide, fun r H1 r0 r1 hp1 S1 => ?_⟩
      refine ⟨_, rfl, rfl, _, rfl, iteD (fun hw => ?_) (fun hw => ?_)⟩
      · refine ⟨_, rfl, (by show 7 ≤ sizeLine; decide), fun pl H2 S2 npl hpl => ⟨a, pl, _, n, rfl, (hp1.less (by omega)).same S2, SqL.of hpl, ?_, by decide, by decide, fun r2 H3 hr2 hp3 S3 => ?_⟩⟩
        · rintro rfl
          obtain ⟨ys, e⟩ := hp1.lst
          rw [npl] at e
          cases e
        · obtain ⟨m, rfl, m0, m1⟩ := few_nums hr2
          exact ⟨(by show 2 ≤ sizeLine; decide), fun pt H4 S4 n4 h4 => k (.num m) pt H4 (show m.natAbs < 2 ^ 40 by omega) (SqT.of h4) ((hp3.same S4).less (by omega)) (((S1.to S2).trans S3).to S4)⟩
      dsimp only [tNext]
      have hs1 := E2.SqL.sameB hs S1 ne
      refine ⟨_, rfl, rfl, _, rfl, iteD (fun _ => ?_) (fun hw1 => ?_)⟩
      · exact letter_part rfl rfl (hp1.less (by omega)) hs1 ne hn hso fun t b H' ht hb hp' S' => k t b H' (tok t ht) hb hp' (S1.trans S')
      refine ⟨_, rfl, (by show 0 ≤ sizeLine; decide), fun pe H2 S2 n2 hpe => ⟨.list (names.map PyData.str), .list [], .lst (hs1.same S2) (dp_strs _), .lst (SqL.of hpe) .nil, shaped_strs _ hso, by decide, _, rfl, ?_⟩⟩
      rw [eqv_nil]
      have hp2 := hp1.same S2
      have hs2 := hs1.same S2
      have SB2 := S1.to S2
      cases hem : names.isEmpty with
      | true =>
        refine iteT (B := False) ?_
        exact letter_part rfl rfl (hp2.less (by omega)) hs2 ne hn hso fun t b H' ht hb hp' S' => k t b H' (tok t ht) hb hp' (SB2.trans S')
      | false =>
        refine iteF ?_
        dsimp only [tNext]
        have ed : ([V.ref a, V.int (((d + 1 : Nat) : Int) - 1), V.ref l] : List V) = [V.ref a, V.int (d : Int), V.ref l] := by
          rw [show ((d + 1 : Nat) : Int) - 1 = (d : Int) by omega]
        refine ⟨_, rfl, rfl, _, rfl, iteD (fun h6 => ?_) (fun h6 => ?_)⟩
        · refine ⟨_, rfl, _, rfl, _, _, rfl, rfl, _, rfl, a, l, names, n + 4, ed, hp2.less (by omega), hs2, ne, hn, hso, fun t b H3 tk tb hp3 S3 => ?_⟩
          refine ⟨_, rfl, a, 6, n, rfl, hp3, by decide, by decide, fun r2 H4 r20 r21 hp4 S4 => ⟨_, _, rfl, rfl, (by show 3 ≤ sizeLine; decide), fun pt H5 S5 n5 h5 => ?_⟩⟩
          exact k (.div t (1 + r2)) pt H5 ⟨tk, by omega, by omega⟩ ⟨b, SqT.of h5, (tb.sameB S4 hp3).same S5⟩ (hp4.same S5) (((SB2.trans S3).trans S4).to S5)
        · dsimp only [tNext]
          obtain ⟨o, ho, hat⟩ : ∃ o, o ≤ 2 ∧ atI [V.str "plus", V.str "plus", V.str "minus", V.str "times"] (r - 2) = some (V.str (word o)) := by
            have c0 : r ≠ 0 := fun e => hw (by rw [e])
            have c1 : r ≠ 1 := fun e => hw1 (by rw [e])
            have c6 : r ≠ 6 := fun e => h6 (by rw [e])
            have : r = 2 ∨ r = 3 ∨ r = 4 ∨ r = 5 := by omega
            rcases this with rfl | rfl | rfl | rfl
            · exact ⟨0, by decide, rfl⟩
            · exact ⟨0, by decide, rfl⟩
            · exact ⟨1, by decide, rfl⟩
            · exact ⟨2, by decide, rfl⟩
          refine seq_asg ⟨(by show 4 ≤ sizeLine; decide), fun pl H3 S3 n3 h3 => ⟨_, rfl, _, _, rfl, rfl, pl, _, r - 2, V.str (word o), rfl, rfl, SqL.of h3, hat, ?_⟩⟩
          have hp3 := hp2.same S3
          refine ⟨_, rfl, _, rfl, _, rfl, _, _, rfl, rfl, _, rfl, a, l, names, n + cT d, ed, hp3.less (by omega), hs2.same S3, ne, hn, hso, fun t1 b1 H4 tk1 tb1 hp4 S4 => ?_⟩
          refine ⟨_, rfl, _, rfl, _, _, rfl, rfl, _, rfl, a, l, names, n, ed, hp4, E2.SqL.sameB (hs2.same S3) S4 ne, ne, hn, hso, fun t2 b2 H5 tk2 tb2 hp5 S5 => ⟨(by show 3 ≤ sizeLine; decide), fun pt H6 S6 n6 h6 => ?_⟩⟩
          exact k (.bin o t1 t2) pt H6 ⟨ho, tk1, tk2⟩ ⟨b1, b2, SqT.of h6, (tb1.sameB S5 hp4).same S6, tb2.same S6⟩ (hp5.same S6) ((((SB2.to S3).trans S4).trans S5).to S6)
end
end E2

set_option Elab.async false
set_option linter.all false
set_option maxRecDepth 100000
set_option maxHeartbeats 1000000
/-! is_whole, right_side, number, without_noughts, over -/
namespace E2
open PySem PySem.Spec PyProof.Rows L2
open C8 (Cal Mak Met InsC pe_c pe_mt pe_mt0 call_isC clsBody)
/-- builtin names that the module leaves alone, and the class for isinstance -/
structure Bt (K : PySem.W.Frag) (mg : Str → Option Value) (C : Addr) : Prop where
  isi : mg "isinstance" = none
  int_ : mg "int" = none
  bool_ : mg "bool" = none
  ins : InsC K C
  ki : PySem.W.kitOne K (.ref C) (.type "int") = some false
  mgF : mg "Form" = some (.ref C)
def spWhole (C : Addr) : Sp := fun vs H Q _ => ∃ v, vs = [v] ∧ ((∃ i : Int, v = .int i ∧ Q (.bl true) H) ∨ ∃ a dx fs, v = .ref a ∧ H a = some (.ins C dx fs) ∧ Q (.bl false) H)
section
variable {P : Program} {w : World} {K : PySem.W.Frag} {mg : Str → Option Value} {base : Heap} {C : Addr}
theorem kit_ii : PySem.W.kitOne K (.type "int") (.type "int") = some true := by kernel_rfl
theorem kit_ib : PySem.W.kitOne K (.type "int") (.type "bool") = some false := by kernel_rfl
theorem scWhole : FnScope ["value"] ["value"] (defScope sIsWhole) := ⟨rfl, rfl, rfl, by decide +kernel, rfl, by decide +kernel, by decide +kernel⟩
theorem ok_whole {f : Addr} {fd : FuncData} (F : Fun K "is_whole" "is_whole" sIsWhole f fd) (B : Bt K mg C) : FnOk P w K mg base CX0 1 f fd ["value"] (spWhole C) := by
  refine F.ok scWhole (fun vs H Q E h => ?_) (fun cdv A outer s H vs Q E hr h => ?_)
  · obtain ⟨v, rfl, _⟩ := h
    rfl
  · obtain ⟨v, rfl, k⟩ := h
    refine ⟨_, pss_one (ps_ret (pe_and (pe_callB call_isi (by rfl) B.isi (by decide +kernel) (pa_cons (pv 0) (pa_cons (pe_bltn (v := .ty "int") (by rfl) B.int_ (by decide +kernel) rfl) pa_nil)))
      (pe_one (pe_not (pe_callB call_isi (by rfl) B.isi (by decide +kernel) (pa_cons (pv 0) (pa_cons (pe_bltn (v := .ty "bool") (by rfl) B.bool_ (by decide +kernel) rfl) pa_nil))))))), ?_⟩
    rcases k with ⟨i, rfl, q⟩ | ⟨a, dx, fs, rfl, ha, q⟩
    · refine ⟨_, rfl, _, _, _, _, true, rfl, .ty "int", .base (.int i), kit_ii, true, rfl, iteT (B := False) ?_⟩
      exact ⟨_, rfl, _, _, _, _, false, rfl, .ty "bool", .base (.int i), kit_ib, false, rfl, q⟩
    · refine ⟨_, rfl, _, _, _, _, false, rfl, .ty "int", .base (.ins ha B.ins.cl B.ins.ha B.ins.hn B.ins.htk B.ins.hm), B.ki, false, rfl, iteF ?_⟩
      exact q
def spWithout (K : PySem.W.Frag) : Sp := fun vs H Q _ => ∃ d kvs fm, vs = [.ref d] ∧ H d = some (.dT kvs) ∧ FmKv K H kvs fm ∧ (fm.map (·.1)).Nodup ∧ fm.length ≤ sizeLine ∧ ∀ H' D kvs', Same H H' → H D = none → H' D = some (.dT kvs') → FmKv K H' kvs' (mapM (fun q => !decide (q = 0)) id fm) → Q (.ref D) H'
theorem scWithout : FnScope ["parts", "names", "worth"] ["parts"] (defScope sWithout) := ⟨rfl, rfl, rfl, by decide +kernel, rfl, by decide +kernel, by decide +kernel⟩
theorem ok_without {f : Addr} {fd : FuncData} (F : Fun K "without_noughts" "without_noughts" sWithout f fd) : FnOk P w K mg base CX0 1 f fd ["parts"] (spWithout K) := by
  refine F.ok scWithout (fun vs H Q E h => ?_) (fun cdv A outer s H vs Q E hr h => ?_)
  · obtain ⟨d, kvs, fm, rfl, _⟩ := h
    rfl
  · obtain ⟨d, kvs, fm, rfl, hd, hf, hn, hz, k⟩ := h
    refine ⟨_, pss_one (ps_ret (pe_lock (pe_dcT (own := [("names", 1), ("worth", 2)]) (g := gTup K 2 (gCons (gName 1) (gCons (gName 2) gNil))) (tt := tTest (tOp rNe (tOp (rIxT K) (tVar 2) (tC (.int 0))) (tC (.int 0)))) (tk := tVar 1) (tv := tVar 2) (Nat.lt_of_le_of_lt (Nat.le_add_right _ 64) hr.units) rfl scWithout.nd (pi_itemsT (pv 0))
      (blkOk_by (own := [("names", 1), ("worth", 2)]) (N := ["parts", "names", "worth"]) (sc := defScope sWithout) (by decide +kernel))
      ⟨fun _ _ _ _ _ => pg_tup rfl (pgs_cons (pg_name (i := 1) scWithout.nd rfl (Or.inl rfl)) (pgs_cons (pg_name (i := 2) scWithout.nd rfl (Or.inl rfl)) pgs_nil)),
       fun _ _ _ _ _ => pts_one (by exact pt_cmpR op_ne (pe_ix ix_tup (pv 2) pe_int (fun _ _ => rfl)) pe_int (nomark _)), fun _ _ _ _ _ => pv 1, fun _ _ _ _ _ => pv 2⟩))), ?_⟩
    refine ret_of (lock_items (p := fun q => !decide (q = 0)) (f := id) hd hf hn hz (fun od R h => ⟨_, rfl, h⟩) ?_ fun H' D kvs' S nD hD kv => k H' D kvs' S nD hD kv)
    intro H1 lk i m q H' T b a put skip hm S hT hb sa hput hskip
    refine ⟨T, _, rfl, SqT.of hT, rfl, _, _, rfl, _, _, rfl, rfl, rfl, ?_⟩
    have e : (!decide (V.int q.num = V.int 0)) = (!decide (q = 0)) := by
      rw [dec_int]
      congr 1
      by_cases h : q = 0
      · rw [decide_eq_true h]
        exact beq_iff_eq.mpr (Rat.num_eq_zero.mpr h)
      · rw [decide_eq_false h]
        exact beq_eq_false_iff_ne.mpr fun z => h (Rat.num_eq_zero.mp z)
    refine ⟨_, rfl, a, _, 0, _, rfl, rfl, sa, rfl, rfl, !decide (q = 0), congrArg V.bl e, ?_⟩
    cases hc : (!decide (q = 0)) with
    | true => exact iteT (B := skip H') ⟨_, rfl, _, rfl, hput hc H' b a (Same.refl H') hb sa⟩
    | false => exact iteF (hskip hc H' (Same.refl H'))
theorem pow1 (n : Nat) : 1 < 2 ^ (n + 1) := Nat.one_lt_two_pow (Nat.succ_ne_zero n)

/-- the coefficients that the fractions' arithmetic takes -/
def Sm (fm : Fm) : Prop := ∀ x ∈ fm, x.2.num.natAbs < 2 ^ 400000 ∧ x.2.den < 2 ^ 4000
theorem inv_bq {n : Int} (h : n ≠ 0) : Bq n.natAbs 1 (Rat.divInt 1 n) := by
  have hn : (n : Rat) ≠ 0 := fun e => h (Rat.intCast_inj.mp (e.trans (by rfl : (0 : Rat) = ((0 : Int) : Rat))))
  rcases Int.lt_or_gt_of_ne h with c | c
  · refine ⟨-1, ?_, by decide⟩
    have e : ((n.natAbs : Nat) : Rat) = -(n : Rat) := by
      rw [← Rat.intCast_natCast, ← Rat.intCast_neg]
      congr 1
      omega
    rw [e, Rat.divInt_eq_div]
    have e1 : ((1 : Int) : Rat) = 1 := rfl
    have e2 : ((-1 : Int) : Rat) = -1 := rfl
    rw [e1, e2]
    grind
  · refine ⟨1, ?_, by decide⟩
    have e : ((n.natAbs : Nat) : Rat) = (n : Rat) := by
      rw [← Rat.intCast_natCast]
      congr 1
      omega
    rw [e, Rat.divInt_eq_div]
    have e1 : ((1 : Int) : Rat) = 1 := rfl
    rw [e1]
    grind
def spOver (K : PySem.W.Frag) (C : Addr) : Sp := fun vs H Q _ => ∃ a n fm, vs = [.ref a, .int n] ∧ n ≠ 0 ∧ n.natAbs < 2 ^ 2000 ∧ FmAt K C H a fm ∧ (fm.map (·.1)).Nodup ∧ fm.length ≤ sizeLine ∧ Sm fm ∧ ∀ H' b, Same H H' → H b = none → FmAt K C H' b (mapM (fun _ => true) (fun q => q * Rat.divInt 1 n) fm) → Q (.ref b) H'
theorem scOver : FnScope ["self", "divisor", "factor", "names", "worth"] ["self", "divisor"] (defScope sOver) := ⟨rfl, rfl, rfl, by decide +kernel, rfl, by decide +kernel, by decide +kernel⟩
theorem ok_over {f : Addr} {fd : FuncData} (F : Fun K "over" "Form.over" sOver f fd) (T : Fx P w K mg base C) (L : Cal P w K mg base 1 "lowest" spLowest []) (M : Cal P w K mg base 2 "fraction_product" (spFrac K (· * ·)) []) (Wh : Cal P w K mg base 1 "is_whole" (spWhole C) []) : FnOk P w K mg base CX0 4 f fd ["self", "divisor"] (spOver K C) := by
  refine F.ok scOver (fun vs H Q E h => ?_) (fun cdv A outer s H vs Q E hr h => ?_)
  · obtain ⟨a, n, fm, rfl, _⟩ := h
    rfl
  · obtain ⟨a, n, fm, rfl, n0, nz, ⟨dx, d, kvs, ha, hd, hf⟩, hn, hz, sm, k⟩ := h
    refine ⟨_, pss_cons (ps_if (PW.pt (pw_or (pt_not (pt_val (pe_c Wh hr (by decide) rfl (pa_cons (pv 1) pa_nil)))) (pw_or1 (pt_cmpR op_eq (pv 1) pe_int (nomark _))))) (pss_one ps_never) pss_nil)
      (pss_cons (ps_set (i := 2) scOver.nd rfl (Or.inr rfl) (pe_c L hr (by decide) rfl (pa_cons pe_int (pa_cons (pv 1) pa_nil))))
      (pss_one (ps_ret (pe_mkF T.maks hr (by decide) rfl (pe_lock (pe_dcT (own := [("names", 3), ("worth", 4)]) (g := gTup K 2 (gCons (gName 3) (gCons (gName 4) gNil))) (tt := tYes) (tk := tVar 3) (tv := tCall (spFrac K (· * ·)) [] E0 (tCons (tVar 4) (tCons (tVar 2) tNil))) (Nat.lt_of_le_of_lt (Nat.le_add_right _ 64) hr.units) rfl scOver.nd (pi_itemsT (pe_fld (pv 0) rfl))
      (blkOk_by (own := [("names", 3), ("worth", 4)]) (N := ["self", "divisor", "factor", "names", "worth"]) (sc := defScope sOver) (by decide +kernel))
      ⟨fun _ _ _ _ _ => pg_tup rfl (pgs_cons (pg_name (i := 3) scOver.nd rfl (Or.inl rfl)) (pgs_cons (pg_name (i := 4) scOver.nd rfl (Or.inl rfl)) pgs_nil)),
       fun _ _ _ _ _ => pts_nil, fun _ _ _ _ _ => pv 3, fun _ _ _ _ _ => by exact pe_c M hr (by decide) rfl (pa_cons (pv 4) (pa_cons (pv 2) pa_nil))⟩)))))), ?_⟩
    have bq := inv_bq n0
    have np : 0 < n.natAbs := by omega
    refine ⟨_, rfl, _, rfl, .inl ⟨n, rfl, true, rfl, ?_⟩⟩
    refine iteF ⟨_, rfl, rfl, _, rfl, iteD (fun h => ?_) (fun _ => ?_)⟩
    · injection h with h
      exact (n0 h).elim
    refine ⟨_, rfl, 1, n, rfl, n0, Nat.lt_of_lt_of_le (PySem.Flt.log2_lt_of (by decide) nz) (by decide), fun p1 H0 S0 n1 h1 => ?_⟩
    rw [loq_eq n0] at h1
    have h1 : SqT K H0 p1 (frac (Rat.divInt 1 n)) := SqT.of h1
    have hf0 := hf.same S0
    refine ret_mkF (lock_items (p := fun _ => true) (f := fun q => q * Rat.divInt 1 n) (S0 _ _ hd) hf0 hn hz (fun od R h => ⟨_, rfl, a, C, dx, _, _, rfl, by rw [upd_ne (ne_of ha hd (by intro z; cases z))]; exact S0 _ _ ha, T.cl, T.na, rfl, h⟩) ?_ ?_)
    · intro H1 lk i m q H' T b a put skip hm S hT hb sa hput hskip
      have hq := sm _ (List.mem_of_getElem? hm)
      have bn := bq.num_le np
      have bd := bq.den_le np
      refine ⟨T, _, rfl, SqT.of hT, rfl, _, _, rfl, _, _, rfl, rfl, rfl, ?_⟩
      refine iteT (B := skip H') ?_
      exact ⟨_, rfl, _, rfl, _, rfl, a, p1, q, Rat.divInt 1 n, rfl, sa, (lk _ _ h1).same S, hq.1, Nat.lt_of_le_of_lt bn (pow1 _), hq.2, Nat.lt_of_le_of_lt bd (Nat.lt_of_lt_of_le nz (Nat.pow_le_pow_right (by decide) (by decide))), fun p2 H5 S5 n5 h5 => hput rfl H5 b p2 S5 (S5 _ _ hb) (SqT.of h5)⟩
    · intro H' D kvs' S nD hD kv b dx' H2 S2 nb hb
      exact k _ _ ((S0.trans S).trans S2) ((S0.trans S).free nb) ⟨dx', D, kvs', hb, S2 _ _ hD, kv.same S2⟩
end
end E2

set_option Elab.async false
set_option linter.all false
set_option maxRecDepth 100000
set_option maxHeartbeats 1000000
/-! {k: v}, k a tuple -/
namespace L2
open PySem PySem.Spec PyProof.Rows
def tDisp1 (tk tv : TE) : TE := fun σ H Q => ∀ p, H p = none → tk σ (upd H p (.dT [])) fun x H1 => tv σ H1 fun y H2 => H2 p = some (.dT []) ∧ ∃ k b, x = .ref b ∧ H2 b = some (.tup (k.map kV)) ∧ Q (.ref p) (upd H2 p (.dT [(k, y)]))
section
variable {X : Cx} {k v : Expr} {tk tv : TE} {pos : Pos}
theorem pe_disp1 (hu : X.A.units < cLine) (hk : PE X k tk) (hv : PE X v tv) : PE X (.Dict [some k] [v] pos) (tDisp1 tk tv) := by
  refine ⟨fun pins s σ H Q I q => ?_⟩
  have hn := I.hok.fresh (Nat.le_refl s.heap.objs.size)
  generalize hp : s.heap.objs.size = p at hn
  have I1 : Inv X pins σ (upd H p (.dT [])) { s with heap := s.heap.push { cls := .type "dict", data := .dict #[] } } := by
    subst hp
    exact I.laid (t' := s.toks) (fun _ _ e => Heap.get?_push_of_some _ e) (Nat.le_refl _) (dt_empty s.heap I.big)
  have one : (pairTrees [some k] [v] X.env pos).length = 1 := rfl
  rw [arm_eval_Dict, zip_pairTrees [some k] [v] X.env pos rfl rfl, dictDisplay_pairs _ (by intro e; rw [e] at one; cases one) (by rw [one]; decide)]
  refine wpAny_bind (wpAny_standAt (wpAny_bind (wpAny_subDictH (knd := tupleKind (mixKind X.prog X.w)) (Q := fun d s' => wpAny (model X.prog X.w) X.A (pure (Value.ref d)) (EP X pins σ Q) X.xe s') hu (by rw [one]; decide) ?_)))
  refine thn ((pps_cons (pos := pos) hk hv pps_nil).run pins _ σ _ (fun ps H2 => match ps with
    | [(x, y)] => H2 p = some (.dT []) ∧ ∃ k b, x = .ref b ∧ H2 b = some (.tup (k.map kV)) ∧ Q (.ref p) (upd H2 p (.dT [(k, y)]))
    | _ => False) I1 (q p hn)) fun ws s2 hh => ?_
  obtain ⟨ps, H2, I2, rel, hh⟩ := hh
  match ps, hh with
  | [(x, y)], ⟨hD, kk, b, ex, hb, hq⟩ =>
    subst ex
    unfold VV at rel
    cases rel with
    | @cons _ w1 _ _ h t =>
    cases t
    obtain ⟨w1a, w1b⟩ := w1
    obtain ⟨rx, ry⟩ := h
    obtain rfl : w1a = Value.ref b := rx
    obtain ⟨z, ne, xs, rel2, dd⟩ := dt_of I2.hok hD
    cases rel2
    rw [hp]
    refine ⟨[(kk, b, w1b)], ⟨rfl, rfl, key_of I2.hok hb, trivial⟩, dd, fun h' tk dd' hs => wpAny_pure ⟨.ref p, _, ?_, rfl, hq⟩⟩
    obtain ⟨o, es, ep, ho, h2, h3, h4, _, h5⟩ := dd'
    have e2 : upd H2 p (.dT [(kk, y)]) b = some (.tup (kk.map kV)) := by
      rw [upd_ne (ne_of hb hD (by intro q; cases q))]
      exact hb
    have ob : ObjOk X.prog X.w (upd H2 p (.dT [(kk, y)])) h' p (.dT [(kk, y)]) := ⟨(by show 1 ≤ sizeLine; decide), ne, _, .cons ⟨rfl, e2, ry⟩ .nil, o, es, ep, ho, h2, h3, h4, h5⟩
    exact d_write I2 (by rw [hD]; exact True.intro) hs ⟨o, ho⟩ ob
end
end L2

set_option Elab.async false
set_option linter.all false
set_option maxRecDepth 100000
set_option maxHeartbeats 1000000
/-! is_letter, letter, number, right_side -/
namespace E2
open PySem PySem.Spec PyProof.Rows L2
open C8 (Cal Mak Met InsC pe_c pe_mt pe_mt0 call_isC clsBody)
theorem iteP {p : Prop} [Decidable p] {A B : Prop} (hp : p) (h : B) : if (!decide p) = true then A else B := by
  rw [decide_eq_true hp]
  exact h
theorem iteN {p : Prop} [Decidable p] {A B : Prop} (hp : ¬ p) (h : A) : if (!decide p) = true then A else B := by
  rw [decide_eq_false hp]
  exact h
/-- a letter -/
def LetOk (z : Str) : Prop := 1 ≤ z.length ∧ z.length ≤ 10 ∧ ∀ c ∈ z.cps.toList, 97 ≤ c ∧ c ≤ 122
/-- more names that the module leaves alone -/
structure Bt2 (mg : Str → Option Value) : Prop where
  str_ : mg "str" = none
  len_ : mg "len" = none
  all_ : mg "all" = none
def spIsLet : Sp := fun vs H Q _ => ∃ z : Str, vs = [.str z] ∧ LetOk z ∧ ∀ H', Same H H' → Q (.bl true) H'
section
variable {P : Program} {w : World} {K : PySem.W.Frag} {mg : Str → Option Value} {base : Heap} {C : Addr}
theorem kit_ss : PySem.W.kitOne K (.type "str") (.type "str") = some true := by kernel_rfl
theorem scIsLet : FnScope ["name", "sign"] ["name"] (defScope sIsLetter) := ⟨rfl, rfl, rfl, by decide +kernel, rfl, by decide +kernel, by decide +kernel⟩
abbrev rLeS : R2 := fun x y H Q => ∃ i j, x = .str i ∧ y = .str j ∧ Q (.bl (!decide (j.cps.toList < i.cps.toList))) H
theorem ok_isLet {f : Addr} {fd : FuncData} (F : Fun K "is_letter" "is_letter" sIsLetter f fd) (B : Bt K mg C) (B2 : Bt2 mg) : FnOk P w K mg base CX0 1 f fd ["name"] spIsLet := by
  refine F.ok scIsLet (fun vs H Q E h => ?_) (fun cdv A outer s H vs Q E hr h => ?_)
  · obtain ⟨z, rfl, _⟩ := h
    rfl
  · obtain ⟨z, rfl, ⟨l1, l2, hc⟩, k⟩ := h
    refine ⟨_, pss_cons (ps_if (PW.pt (pw_or (pt_not (pt_val (pe_callB call_isi (by rfl) B.isi (by decide +kernel) (pa_cons (pv 0) (pa_cons (pe_bltn (v := .ty "str") (by rfl) B2.str_ (by decide +kernel) rfl) pa_nil)))))
        (pw_or1 (pt_not (pt_chain op_le op_le pe_int (pe_callB call_len_str (by rfl) B2.len_ PySem.boot_len (pa_cons (pv 0) pa_nil)) pe_int))))) (pss_one (ps_ret pe_bl)) pss_nil)
      (pss_one (ps_ret (pe_callB (cr_all rfl) (by rfl) B2.all_ (by decide +kernel) (pa_cons (pe_lc (own := [("sign", 1)]) (g := gName 1) (tt := tYes) (te := tChain rLeS rLeS (tC (.str "a")) (tVar 1) (tC (.str "z"))) rfl scIsLet.nd (pi_str (pv 0))
        (blkOk_by (own := [("sign", 1)]) (N := ["name", "sign"]) (sc := defScope sIsLetter) (by decide +kernel))
        (fun _ _ _ _ _ => pg_name (i := 1) scIsLet.nd rfl (Or.inl rfl)) (fun _ _ _ _ _ => pts_nil) (fun _ _ _ _ _ => by exact pe_chain op_le_str op_le_str pe_str (pv 1) pe_str)) pa_nil)))), ?_⟩
    have hz : z.length ≤ sizeLine := by rw [sizeLine_eq]; omega
    refine ⟨_, rfl, _, _, _, _, true, rfl, .ty "str", .base (.str z), kit_ss, true, rfl, iteF ?_⟩
    refine ⟨_, rfl, z, rfl, hz, _, _, rfl, rfl, _, rfl, iteD (fun _ => ?_) (fun h => absurd (by omega) h)⟩
    refine ⟨_, _, rfl, rfl, _, rfl, iteP (by omega) ?_⟩
    refine ⟨_, rfl, z, rfl, fun D nD => lc_it walk_str (fun i H' => Same H H' ∧ H' D = some (.lst (List.replicate i (V.bl true)))) ⟨Same.upd nD, upd_same⟩ (fun _ _ _ _ => trivial) ?_ ?_⟩
    · rintro i x H1 H1' hi ⟨S, hD⟩ ⟨rfl, c, hcz, rfl⟩
      have hm : c ∈ z.cps.toList := by
        rw [← Array.getElem?_toList] at hcz
        exact List.mem_of_getElem? hcz
      obtain ⟨c1, c2⟩ := hc c hm
      have n1 : ¬ ((⟨#[c]⟩ : Str).cps.toList < ("a" : Str).cps.toList) := by
        show ¬ ([c] < [97])
        rw [List.cons_lt_cons_iff]
        rintro (h | ⟨_, h⟩)
        · omega
        · exact absurd h (by decide)
      have n2 : ¬ (("z" : Str).cps.toList < (⟨#[c]⟩ : Str).cps.toList) := by
        show ¬ ([122] < [c])
        rw [List.cons_lt_cons_iff]
        rintro (h | ⟨_, h⟩)
        · omega
        · exact absurd h (by decide)
      refine ⟨rfl, iteT (B := False) ⟨_, rfl, _, _, rfl, rfl, _, rfl, iteN n1 ⟨_, _, rfl, rfl, _, hD, ?_, ?_, ?_⟩⟩⟩
      · rw [List.length_replicate]
        have : i < z.length := hi
        omega
      · intro b o hb
        rw [upd_ne (ne_of_none hb nD)]
        exact S _ _ hb
      · rw [upd_same, decide_eq_false n2, List.replicate_succ']
        rfl
    · rintro H1 ⟨S, hD⟩
      refine ⟨D, List.replicate z.cps.size true, rfl, SqL.of ?_, ?_⟩
      · rw [List.map_replicate]
        exact hD
      · rw [show (List.replicate z.cps.size true).all id = true by simp]
        exact k H1 S
def spLetter (K : PySem.W.Frag) (C : Addr) : Sp := fun vs H Q _ => ∃ z : Str, vs = [.str z] ∧ LetOk z ∧ ∀ H' b, Same H H' → H b = none → FmAt K C H' b [([z], 1)] → Q (.ref b) H'
theorem scLetter : FnScope ["name"] ["name"] (defScope sLetter) := ⟨rfl, rfl, rfl, by decide +kernel, rfl, by decide +kernel, by decide +kernel⟩
theorem ok_letter {f : Addr} {fd : FuncData} (F : Fun K "letter" "letter" sLetter f fd) (T : Fx P w K mg base C) (L : Cal P w K mg base 1 "is_letter" spIsLet []) : FnOk P w K mg base CX0 3 f fd ["name"] (spLetter K C) := by
  refine F.ok scLetter (fun vs H Q E h => ?_) (fun cdv A outer s H vs Q E hr h => ?_)
  · obtain ⟨z, rfl, _⟩ := h
    rfl
  · obtain ⟨z, rfl, hz, k⟩ := h
    refine ⟨_, pss_cons (ps_if (pt_not (pt_val (pe_c L hr (by decide) rfl (pa_cons (pv 0) pa_nil)))) (pss_one ps_never) pss_nil)
      (pss_one (ps_ret (pe_mkF T.maks hr (by decide) rfl (pe_disp1 (Nat.lt_of_le_of_lt (Nat.le_add_right _ 64) hr.units) (pe_tupS (pa_cons (pv 0) pa_nil)) (pe_tupS (pa_cons pe_int (pa_cons pe_int pa_nil))))))), ?_⟩
    refine ⟨_, rfl, z, rfl, hz, fun H0 S0 => ⟨true, rfl, iteF ?_⟩⟩
    refine fun p np => ⟨_, rfl, (by show 1 ≤ sizeLine; decide), fun t H1 S1 n1 h1 => ⟨(by show 2 ≤ sizeLine; decide), fun u H2 S2 n2 h2 => ?_⟩⟩
    have hp := S2 _ _ (S1 _ _ (upd_same (H := H0) (a := p) (o := .dT [])))
    refine ⟨hp, [Sum.inr z], t, rfl, S2 _ _ h1, fun a dx H3 S3 na ha => ?_⟩
    have SA : Same H0 (upd H2 p (.dT [([Sum.inr z], V.ref u)])) := by
      intro b o hb
      rw [upd_ne (ne_of_none hb np)]
      exact S2 _ _ (S1 _ _ (Same.upd np _ _ hb))
    refine k H3 a ((S0.trans SA).trans S3) ((S0.trans SA).free na) ⟨dx, p, _, ha, S3 _ _ upd_same, .cons ⟨rfl, u, rfl, ?_⟩ .nil⟩
    exact (SqT.off (SqT.of h2) hp (fun z => nomatch z) (fun _ z => nomatch z)).same S3
def spNumber (K : PySem.W.Frag) (C : Addr) : Sp := fun vs H Q _ => ∃ n : Int, vs = [.int n] ∧ ∀ H' b, Same H H' → H b = none → FmAt K C H' b (if n = 0 then [] else [([], (n : Rat))]) → Q (.ref b) H'
theorem scNumber : FnScope ["value"] ["value"] (defScope sNumber) := ⟨rfl, rfl, rfl, by decide +kernel, rfl, by decide +kernel, by decide +kernel⟩
theorem ok_number {f : Addr} {fd : FuncData} (F : Fun K "number" "number" sNumber f fd) (T : Fx P w K mg base C) (Wh : Cal P w K mg base 1 "is_whole" (spWhole C) []) (Wo : Cal P w K mg base 1 "without_noughts" (spWithout K) []) : FnOk P w K mg base CX0 3 f fd ["value"] (spNumber K C) := by
  refine F.ok scNumber (fun vs H Q E h => ?_) (fun cdv A outer s H vs Q E hr h => ?_)
  · obtain ⟨n, rfl, _⟩ := h
    rfl
  · obtain ⟨n, rfl, k⟩ := h
    refine ⟨_, pss_cons (ps_if (pt_not (pt_val (pe_c Wh hr (by decide) rfl (pa_cons (pv 0) pa_nil)))) (pss_one ps_never) pss_nil)
      (pss_one (ps_ret (pe_mkF T.maks hr (by decide) rfl (pe_c Wo hr (by decide) rfl (pa_cons (pe_disp1 (Nat.lt_of_le_of_lt (Nat.le_add_right _ 64) hr.units) (pe_tupS pa_nil) (pe_tupS (pa_cons (pv 0) (pa_cons pe_int pa_nil)))) pa_nil))))), ?_⟩
    refine ⟨_, rfl, _, rfl, .inl ⟨n, rfl, true, rfl, iteF ?_⟩⟩
    refine fun p np => ⟨(by show 0 ≤ sizeLine; decide), fun t H1 S1 n1 h1 => ⟨_, rfl, (by show 2 ≤ sizeLine; decide), fun u H2 S2 n2 h2 => ?_⟩⟩
    have hp := S2 _ _ (S1 _ _ (upd_same (H := H) (a := p) (o := .dT [])))
    refine ⟨hp, [], t, rfl, S2 _ _ h1, ?_⟩
    have SA : Same H (upd H2 p (.dT [([], V.ref u)])) := by
      intro b o hb
      rw [upd_ne (ne_of_none hb np)]
      exact S2 _ _ (S1 _ _ (Same.upd np _ _ hb))
    refine ⟨p, _, [([], (n : Rat))], rfl, upd_same, .cons ⟨rfl, u, rfl, SqT.off (SqT.of h2) hp (fun z => nomatch z) (fun _ z => nomatch z)⟩ .nil, ?_, by show 1 ≤ sizeLine; decide, fun H3 D kvs' S3 nD hD kv a dx H4 S4 na ha => ?_⟩
    · exact List.nodup_cons.mpr ⟨List.not_mem_nil, List.nodup_nil⟩
    · refine k H4 a ((SA.trans S3).trans S4) ((SA.trans S3).free na) ⟨dx, D, kvs', ha, S4 _ _ hD, ?_⟩
      have e : mapM (fun q => !decide (q = 0)) id [([], (n : Rat))] = if n = 0 then [] else [([], (n : Rat))] := by
        by_cases h : n = 0
        · subst h
          rfl
        · have h2 : ¬ ((n : Rat) = 0) := fun e => h (Rat.intCast_inj.mp (e.trans (by rfl : (0 : Rat) = ((0 : Int) : Rat))))
          rw [if_neg h]
          unfold mapM
          rw [List.filter_cons, if_pos (by show (!decide ((n : Rat) = 0)) = true; rw [decide_eq_false h2]; rfl)]
          rfl
      rw [e] at kv
      exact kv.same S4
/-- the terms of a whole number -/
def numM (n : Int) : Fm := if n = 0 then [] else [([], (n : Rat))]
def spRight (K : PySem.W.Frag) (C : Addr) : Sp := fun vs H Q _ => ∃ v, vs = [v] ∧ ((∃ n : Int, v = .int n ∧ ∀ H' b, Same H H' → H b = none → FmAt K C H' b (numM n) → Q (.ref b) H') ∨ ∃ a dx fs, v = .ref a ∧ H a = some (.ins C dx fs) ∧ Q (.ref a) H)
theorem scRight : FnScope ["other"] ["other"] (defScope sRightSide) := ⟨rfl, rfl, rfl, by decide +kernel, rfl, by decide +kernel, by decide +kernel⟩
theorem ok_right {f : Addr} {fd : FuncData} (F : Fun K "right_side" "right_side" sRightSide f fd) (B : Bt K mg C) (Wh : Cal P w K mg base 1 "is_whole" (spWhole C) []) (Nu : Cal P w K mg base 3 "number" (spNumber K C) []) : FnOk P w K mg base CX0 4 f fd ["other"] (spRight K C) := by
  refine F.ok scRight (fun vs H Q E h => ?_) (fun cdv A outer s H vs Q E hr h => ?_)
  · obtain ⟨v, rfl, _⟩ := h
    rfl
  · obtain ⟨v, rfl, k⟩ := h
    refine ⟨_, pss_cons (ps_if (pt_val (pe_c Wh hr (by decide) rfl (pa_cons (pv 0) pa_nil))) (pss_one (ps_ret (pe_c Nu hr (by decide) rfl (pa_cons (pv 0) pa_nil)))) pss_nil)
      (pss_cons (ps_if (pt_not (pt_val (pe_callB (call_isC B.ins) (by rfl) B.isi (by decide +kernel) (pa_cons (pv 0) (pa_cons (pe_glob (v := .ref C) (by rfl) B.mgF rfl) pa_nil))))) (pss_one ps_never) pss_nil)
      (pss_one (ps_ret (pv 0)))), ?_⟩
    rcases k with ⟨n, rfl, q⟩ | ⟨a, dx, fs, rfl, ha, q⟩
    · exact ⟨_, rfl, _, rfl, .inl ⟨n, rfl, true, rfl, iteT (B := False) ⟨_, rfl, n, rfl, q⟩⟩⟩
    · exact ⟨_, rfl, _, rfl, .inr ⟨a, dx, fs, rfl, ha, false, rfl, iteF ⟨_, rfl, a, dx, fs, rfl, ha, true, rfl, iteF ⟨_, rfl, q⟩⟩⟩⟩
end
end E2

set_option Elab.async false
set_option linter.all false
set_option maxRecDepth 100000
set_option maxHeartbeats 1000000
/-! Sums of forms: the mathematics; {names: d[names] for names in d}. -/
namespace L2
open PySem PySem.Spec PyProof.Rows
def prodI : List Int → Int
  | [] => 1
  | x :: r => x * prodI r
theorem prodI_append : ∀ (l r : List Int), prodI (l ++ r) = prodI l * prodI r
  | [], r => by show prodI r = 1 * prodI r; omega
  | x :: l, r => by
    show x * prodI (l ++ r) = x * prodI l * prodI r
    rw [prodI_append l r, Int.mul_assoc]
theorem prodI_perm {l r : List Int} (h : l.Perm r) : prodI l = prodI r := by
  induction h with
  | nil => rfl
  | cons x _ ih => show x * _ = x * _; rw [ih]
  | swap x y l => show y * (x * prodI l) = x * (y * prodI l); rw [Int.mul_left_comm]
  | trans _ _ h1 h2 => rw [h1, h2]
def evM (σ : Str → Int) (m : Mon) : Int := prodI (m.map σ)
def ev (σ : Str → Int) : Fm → Rat
  | [] => 0
  | x :: r => x.2 * (evM σ x.1 : Rat) + ev σ r
theorem ev_append (σ : Str → Int) : ∀ (a b : Fm), ev σ (a ++ b) = ev σ a + ev σ b
  | [], b => by show ev σ b = 0 + ev σ b; grind
  | x :: a, b => by
    show x.2 * _ + ev σ (a ++ b) = x.2 * _ + ev σ a + ev σ b
    rw [ev_append σ a b]
    grind
theorem ev_mapM (σ : Str → Int) {p : Rat → Bool} (hp : ∀ q, p q = false → q = 0) : ∀ fm : Fm, ev σ (mapM p id fm) = ev σ fm
  | [] => rfl
  | x :: r => by
    have ih := ev_mapM σ hp r
    unfold mapM at ih ⊢
    rw [List.filter_cons]
    by_cases c : p x.2 = true
    · rw [if_pos c]
      show x.2 * _ + ev σ _ = x.2 * _ + ev σ r
      rw [ih]
    · rw [if_neg c, ih]
      show ev σ r = x.2 * _ + ev σ r
      rw [hp x.2 (by simpa using c)]
      grind
theorem ev_scale (σ : Str → Int) (c : Rat) : ∀ fm : Fm, ev σ (mapM (fun _ => true) (fun q => q * c) fm) = ev σ fm * c
  | [] => by show (0 : Rat) = 0 * c; grind
  | x :: r => by
    have ih := ev_scale σ c r
    unfold mapM at ih ⊢
    rw [List.filter_cons, if_pos rfl]
    show x.2 * c * _ + ev σ _ = (x.2 * _ + ev σ r) * c
    rw [ih]
    grind
theorem ev_neg (σ : Str → Int) : ∀ fm : Fm, ev σ (mapM (fun _ => true) (fun q => -q) fm) = -ev σ fm
  | [] => by show (0 : Rat) = -0; grind
  | x :: r => by
    have ih := ev_neg σ r
    unfold mapM at ih ⊢
    rw [List.filter_cons, if_pos rfl]
    show -x.2 * _ + ev σ _ = -(x.2 * _ + ev σ r)
    rw [ih]
    grind
theorem putM_hit {x : Mon × Rat} {r : Fm} {m : Mon} {q : Rat} (e : x.1 = m) (h : m ∉ r.map (·.1)) : putM (x :: r) m q = (m, q) :: r := by
  unfold putM
  rw [if_pos (by simp [e]), List.map_cons, if_pos e, e]
  congr 1
  have : ∀ l : Fm, m ∉ l.map (·.1) → l.map (fun y => if y.1 = m then (y.1, q) else y) = l := by
    intro l
    induction l with
    | nil => intro _; rfl
    | cons y l ih =>
      intro hl
      rw [List.map_cons] at hl
      rw [List.map_cons, if_neg fun z => hl (List.mem_cons.mpr (.inl z.symm)), ih fun z => hl (List.mem_cons.mpr (.inr z))]
  exact this r h
theorem putM_miss {x : Mon × Rat} {r : Fm} {m : Mon} {q : Rat} (e : ¬ x.1 = m) : putM (x :: r) m q = x :: putM r m q := by
  unfold putM
  rw [List.any_cons, decide_eq_false e, Bool.false_or]
  split
  · rw [List.map_cons, if_neg e]
  · rfl
theorem valM_hit {x : Mon × Rat} {r : Fm} {m : Mon} (e : x.1 = m) : valM (x :: r) m = some x.2 := by simp [valM, List.find?_cons, e]
theorem valM_miss {x : Mon × Rat} {r : Fm} {m : Mon} (e : ¬ x.1 = m) : valM (x :: r) m = valM r m := by simp [valM, List.find?_cons, e]
theorem keys_putM (m : Mon) (q : Rat) : ∀ fm : Fm, ∀ n ∈ (putM fm m q).map (·.1), n ∈ fm.map (·.1) ∨ n = m := by
  intro fm n hn
  unfold putM at hn
  split at hn
  · left
    rw [List.map_map] at hn
    obtain ⟨x, hx, e⟩ := List.mem_map.mp hn
    refine List.mem_map.mpr ⟨x, hx, ?_⟩
    by_cases c : x.1 = m
    · simpa [Function.comp, c] using e
    · simpa [Function.comp, c] using e
  · rw [List.map_append] at hn
    rcases List.mem_append.mp hn with h | h
    · exact .inl h
    · exact .inr (by simpa using h)
theorem nodup_putM (m : Mon) (q : Rat) : ∀ fm : Fm, (fm.map (·.1)).Nodup → ((putM fm m q).map (·.1)).Nodup
  | [], _ => by simp [putM]
  | x :: r, h => by
    rw [List.map_cons] at h
    obtain ⟨h1, h2⟩ := List.nodup_cons.mp h
    by_cases c : x.1 = m
    · rw [putM_hit c (by rw [← c]; exact h1), List.map_cons, ← c]
      exact List.nodup_cons.mpr ⟨h1, h2⟩
    · rw [putM_miss c, List.map_cons]
      refine List.nodup_cons.mpr ⟨fun z => ?_, nodup_putM m q r h2⟩
      rcases keys_putM m q r _ z with z | z
      · exact h1 z
      · exact c z
theorem mem_putM {m : Mon} {q : Rat} {fm : Fm} {x : Mon × Rat} (h : x ∈ putM fm m q) : x ∈ fm ∨ x = (m, q) := by
  unfold putM at h
  split at h
  · obtain ⟨y, hy, e⟩ := List.mem_map.mp h
    by_cases c : y.1 = m
    · rw [if_pos c] at e
      exact .inr (by rw [← e, c])
    · rw [if_neg c] at e
      exact .inl (e ▸ hy)
  · rcases List.mem_append.mp h with h | h
    · exact .inl h
    · exact .inr (by simpa using h)
theorem length_putM (m : Mon) (q : Rat) (fm : Fm) : (putM fm m q).length ≤ fm.length + 1 := by
  unfold putM
  split
  · rw [List.length_map]; omega
  · rw [List.length_append]; exact Nat.le_refl _
theorem mem_valM {m : Mon} {fm : Fm} {q : Rat} (h : valM fm m = some q) : (m, q) ∈ fm := by
  unfold valM at h
  obtain ⟨x, hx, e⟩ := Option.map_eq_some_iff.mp h
  have h1 := List.find?_some hx
  have h2 := List.mem_of_find?_eq_some hx
  have h3 : x = (m, q) := Prod.ext (of_decide_eq_true h1) e
  rwa [← h3]
/-- a term more -/
def add1 (acc : Fm) (x : Mon × Rat) : Fm := putM acc x.1 ((valM acc x.1).getD 0 + x.2)
def addTo (acc l : Fm) : Fm := l.foldl add1 acc
theorem addTo_snoc (acc l : Fm) (x : Mon × Rat) : addTo acc (l ++ [x]) = add1 (addTo acc l) x := by
  unfold addTo
  rw [List.foldl_append]
  rfl
theorem nodup_addTo : ∀ (l acc : Fm), (acc.map (·.1)).Nodup → ((addTo acc l).map (·.1)).Nodup
  | [], _, h => h
  | x :: l, acc, h => nodup_addTo l (add1 acc x) (nodup_putM _ _ _ h)
theorem length_addTo : ∀ (l acc : Fm), (addTo acc l).length ≤ acc.length + l.length
  | [], _ => Nat.le_refl _
  | x :: l, acc => by
    have h1 := length_addTo l (add1 acc x)
    have h2 : (add1 acc x).length ≤ acc.length + 1 := length_putM _ _ _
    rw [List.length_cons]
    show (addTo (add1 acc x) l).length ≤ _
    omega
theorem bq_add1 {D M N : Nat} {acc : Fm} {x : Mon × Rat} (h : ∀ y ∈ acc, Bq D M y.2) (hx : Bq D N x.2) : ∀ y ∈ add1 acc x, Bq D (M + N) y.2 := by
  intro y hy
  rcases mem_putM hy with hy | rfl
  · exact (h y hy).mono (Nat.le_add_right _ _)
  · rcases hv : valM acc x.1 with _ | q
    · refine Bq.mono (M := 0 + N) ?_ (by omega)
      rw [Option.getD_none]
      exact Bq.zero.add hx
    · rw [Option.getD_some]
      exact (h _ (mem_valM hv)).add hx
theorem bq_addTo {D N : Nat} : ∀ (l acc : Fm) (M : Nat), (∀ y ∈ acc, Bq D M y.2) → (∀ y ∈ l, Bq D N y.2) → ∀ y ∈ addTo acc l, Bq D (M + l.length * N) y.2
  | [], acc, M, h, _ => fun y hy => (h y hy).mono (Nat.le_add_right _ _)
  | x :: l, acc, M, h, hl => fun y hy => by
    have z := bq_addTo l (add1 acc x) (M + N) (bq_add1 h (hl x (List.mem_cons.mpr (.inl rfl)))) (fun y hy => hl y (List.mem_cons.mpr (.inr hy))) y hy
    refine z.mono ?_
    rw [List.length_cons, Nat.add_mul]
    omega
theorem ev_putM (σ : Str → Int) (m : Mon) (c : Rat) : ∀ fm : Fm, (fm.map (·.1)).Nodup → ev σ (putM fm m ((valM fm m).getD 0 + c)) = ev σ fm + c * (evM σ m : Rat)
  | [], _ => by
    show (0 + c) * _ + 0 = 0 + c * _
    grind
  | x :: r, h => by
    rw [List.map_cons] at h
    obtain ⟨h1, h2⟩ := List.nodup_cons.mp h
    by_cases e : x.1 = m
    · rw [valM_hit e, putM_hit e (by rw [← e]; exact h1), Option.getD_some]
      show (x.2 + c) * _ + ev σ r = x.2 * (evM σ x.1 : Rat) + ev σ r + c * _
      rw [e]
      grind
    · rw [valM_miss e, putM_miss e]
      show x.2 * _ + ev σ _ = x.2 * _ + ev σ r + c * _
      rw [ev_putM σ m c r h2]
      grind
theorem ev_addTo (σ : Str → Int) : ∀ (l acc : Fm), (acc.map (·.1)).Nodup → ev σ (addTo acc l) = ev σ acc + ev σ l
  | [], acc, _ => by show ev σ acc = ev σ acc + 0; grind
  | x :: l, acc, h => by
    show ev σ (addTo (add1 acc x) l) = ev σ acc + (x.2 * _ + ev σ l)
    rw [ev_addTo σ l (add1 acc x) (nodup_putM _ _ _ h)]
    unfold add1
    rw [ev_putM σ x.1 x.2 acc h]
    grind
theorem keys_addTo : ∀ (l acc : Fm) (n : Mon), n ∈ (addTo acc l).map (·.1) → n ∈ acc.map (·.1) ∨ n ∈ l.map (·.1)
  | [], _, _, h => .inl h
  | x :: l, acc, n, h => by
    rcases keys_addTo l (add1 acc x) n h with h | h
    · rcases keys_putM _ _ _ _ h with h | h
      · exact .inl h
      · exact .inr (List.mem_cons.mpr (.inl h))
    · exact .inr (List.mem_cons.mpr (.inr h))
theorem take_addTo {acc l : Fm} {i : Nat} {x : Mon × Rat} (h : l[i]? = some x) : addTo acc (l.take (i + 1)) = add1 (addTo acc (l.take i)) x := by
  rw [take_snoc h, addTo_snoc]
/-! ### {names: d[names] for names in d} -/
theorem FmKv.keys {K : PySem.W.Frag} {H : Hp} {kvs : List (List Key × V)} {fm : Fm} (h : FmKv K H kvs fm) : kvs.map (·.1) = fm.map fun x => kS x.1 := by
  unfold FmKv at h
  induction h with
  | nil => rfl
  | cons r t ih => rw [List.map_cons, List.map_cons, ih, r.1]
theorem valV_at {kvs : List (List Key × V)} : (kvs.map (·.1)).Nodup → ∀ {i : Nat} {k : List Key} {v : V}, kvs[i]? = some (k, v) → valV kvs k = some v := by
  induction kvs with
  | nil => intro _ i k v e; simp at e
  | cons x r ih =>
    intro h i k v e
    rw [List.map_cons] at h
    obtain ⟨h1, h2⟩ := List.nodup_cons.mp h
    cases i with
    | zero =>
      simp only [List.getElem?_cons_zero, Option.some.injEq] at e
      subst e
      exact valV_pos rfl
    | succ j =>
      simp only [List.getElem?_cons_succ] at e
      rw [valV_neg fun z => h1 (z ▸ List.mem_map.mpr ⟨(k, v), List.mem_of_getElem? e, rfl⟩)]
      exact ih h2 e
theorem FmKv.nodup {K : PySem.W.Frag} {H : Hp} {kvs : List (List Key × V)} {fm : Fm} (h : FmKv K H kvs fm) (hn : (fm.map (·.1)).Nodup) : (kvs.map (·.1)).Nodup := by
  rw [h.keys]
  have e : (fm.map fun x => kS x.1) = (fm.map (·.1)).map kS := by rw [List.map_map]; rfl
  rw [e]
  exact List.Pairwise.map _ (fun a b n z => n (kS_inj z)) hn
end L2

set_option Elab.async false
set_option linter.all false
set_option maxRecDepth 100000
set_option maxHeartbeats 1000000
/-! {names: d[names] for names in d}: the copy of a form's dict -/
namespace L2
open PySem PySem.Spec PyProof.Rows
theorem mapM_id (fm : Fm) : mapM (fun _ => true) id fm = fm := by
  unfold mapM
  rw [List.filter_eq_self.mpr fun _ _ => rfl]
  exact List.map_id' fm
/-- the dict locked, its keys walked by a dict comprehension, the dict open again -/
theorem lock_keys {K : PySem.W.Frag} {H : Hp} {d : Addr} {kvs : List (List Key × V)} {fm : Fm} {td : TE} {g : TG} {tk tv : TE} {vs : List Nat} {σ : St} {Q : VK}
    (hd : H d = some (.dT kvs)) (hf : FmKv K H kvs fm) (hn : (fm.map (·.1)).Nodup) (hz : fm.length ≤ sizeLine)
    (hte : ∀ (od : Obj) (R : VK), R (.ref d) (upd H d (.frz od (.dT kvs))) → td σ (upd H d (.frz od (.dT kvs))) R)
    (hs : ∀ (od : Obj) (H1 : Hp), H1 = upd H d (.frz od (.dT kvs)) → ∀ (i : Nat) (m : Mon) (q : Rat) (H' : Hp) (b a : Addr) (put : V → V → Hp → Prop) (skip : Hp → Prop), fm[i]? = some (m, q) → Same H1 H' → H' b = some (.tup ((kS m).map kV)) → DGet H' d (.ref b) (some (.ref a)) → SqT K H' a (frac q) →
      (∀ H5 (b' a' : Addr), Same H' H5 → H5 b' = some (.tup ((kS m).map kV)) → SqT K H5 a' (frac q) → put (.ref b') (.ref a') H5) →
      g (.ref b) (wipe σ vs) H' fun σ2 H2 => wipe σ2 vs = wipe σ vs ∧ tYes σ2 H2 fun c H3 => if c = true then tk σ2 H3 fun y H4 => tv σ2 H4 fun z H5 => put y z H5 else skip H3)
    (hq : ∀ H' D kvs', Same H H' → H D = none → H' D = some (.dT kvs') → FmKv K H' kvs' fm → Q (.ref D) H') :
    tLockE (tDcT (iKeys td) g tYes tk tv vs) σ H Q := by
  refine ⟨d, .dT kvs, hd, trivial, fun od => ?_⟩
  have hf0 : FmKv K (upd H d (.frz od (.dT kvs))) kvs fm := hf.imp fun b x s => s.off hd (fun z => nomatch z) (fun _ z => nomatch z)
  refine hte od _ ⟨d, od, rfl, .inr ⟨kvs, upd_same, fun D nD => ?_⟩⟩
  have neD : D ≠ d := by
    rintro rfl
    rw [upd_same] at nD
    cases nD
  have nD' : H D = none := by rwa [upd_ne neD] at nD
  have h1 : (upd H d (.frz od (.dT kvs))) d = some (.frz od (.dT kvs)) := upd_same
  generalize hH1 : upd H d (.frz od (.dT kvs)) = H1 at hf0 nD h1 ⊢
  refine dcT_it walk_keysT (fun i H' => Same H1 H' ∧ ∃ kvs', H' D = some (.dT kvs') ∧ FmKv K H' kvs' (fm.take i)) ⟨Same.upd nD, [], upd_same, .nil⟩ (fun i H _ q => q.1 _ _ h1) ?_ ?_
  · rintro i x H0 H' hi ⟨S, kvs', hD', kv'⟩ ⟨rfl, k, v, b, hkv, rfl, hb⟩
    obtain ⟨m, q, a, hm, e, sa⟩ := hf0.get hkv
    obtain ⟨rfl, rfl⟩ := Prod.mk.inj e
    have tk1 := take_snoc hm
    have hil : i < fm.length := by rw [← hf.length]; exact hi
    have dg : DGet H' d (.ref b) (some (.ref a)) := .inr ⟨kvs, kS m, b, .inr ⟨od, S _ _ h1⟩, rfl, hb, (valV_at (hf.nodup hn) hkv).symm⟩
    refine hs od H1 hH1.symm i m q H' b a _ _ hm S hb dg (sa.same S) fun H5 b' a' S5 hb' sa' => ?_
    refine ⟨kvs', kS m, b', rfl, hb', S5 _ _ hD', ?_, ?_, ?_⟩
    · rw [kv'.length, List.length_take]
      omega
    · intro c u e
      by_cases cD : c = D
      · subst cD
        rw [nD] at e
        cases e
      · rw [upd_ne cD]
        exact S5 _ _ (S _ _ e)
    · refine ⟨_, upd_same, ?_⟩
      rw [tk1]
      have k6 := (kv'.same S5).put m sa'
      rw [putM_new _ (nodup_new hn hm)] at k6
      exact k6.imp fun c x s => s.off (S5 _ _ hD') (fun z => nomatch z) (fun _ z => nomatch z)
  · rintro H' ⟨S, kvs', hD', kv'⟩
    rw [hf.length, List.take_length] at kv'
    subst hH1
    refine ⟨S _ _ h1, hq _ D kvs' (same_back hd S) nD' (by rw [upd_ne neD]; exact hD') ?_⟩
    exact kv'.imp fun b x s => s.off (S _ _ h1) (fun z => nomatch z) (fun _ z => nomatch z)
end L2

set_option Elab.async false
set_option linter.all false
set_option maxRecDepth 100000
set_option maxHeartbeats 1000000
/-! a + b -/
namespace E2
open PySem PySem.Spec PyProof.Rows L2
open C8 (Cal Mak Met InsC pe_c pe_mt pe_mt0 call_isC clsBody)
abbrev nz : Rat → Bool := fun q => !decide (q = 0)
/-- what stands on the right: a whole number, or a form -/
def RightV (K : PySem.W.Frag) (C : Addr) (H : Hp) (v : V) (fm : Fm) : Prop := (∃ n : Int, v = .int n ∧ fm = numM n) ∨ ∃ b, v = .ref b ∧ FmAt K C H b fm
theorem right_of {K : PySem.W.Frag} {C : Addr} {H : Hp} {v : V} {fm : Fm} {Q : VK} {E : XK} (h : RightV K C H v fm) (k : ∀ H0 b, Same H H0 → FmAt K C H0 b fm → Q (.ref b) H0) : spRight K C [v] H Q E := by
  rcases h with ⟨n, rfl, rfl⟩ | ⟨b, rfl, hb⟩
  · exact ⟨_, rfl, .inl ⟨n, rfl, fun H' b S _ hb => k H' b S hb⟩⟩
  · obtain ⟨dx, d, kvs, ha, hd, hf⟩ := hb
    exact ⟨_, rfl, .inr ⟨b, dx, _, rfl, ha, k H b (Same.refl H) ⟨dx, d, kvs, ha, hd, hf⟩⟩⟩
/-- sizes that the fractions' arithmetic takes -/
structure Szs (fm1 fm2 : Fm) : Prop where
  n1 : (fm1.map (·.1)).Nodup
  n2 : (fm2.map (·.1)).Nodup
  len : fm1.length + fm2.length < sizeLine
  bq : ∃ D M N, 0 < D ∧ D < 2 ^ 4000 ∧ M + fm2.length * N < 2 ^ 400000 ∧ N < 2 ^ 400000 ∧ (∀ x ∈ fm1, Bq D M x.2) ∧ ∀ x ∈ fm2, Bq D N x.2
def spAdd (K : PySem.W.Frag) (C : Addr) : Sp := fun vs H Q _ => ∃ a v fm1 fm2, vs = [.ref a, v] ∧ FmAt K C H a fm1 ∧ RightV K C H v fm2 ∧ Szs fm1 fm2 ∧ ∀ H' b, Same H H' → H b = none → FmAt K C H' b (mapM nz id (addTo fm1 fm2)) → Q (.ref b) H'
theorem get_or {K : PySem.W.Frag} {H : Hp} {kvs : List (List Key × V)} {fm : Fm} {D M : Nat} {t : Addr} (h : FmKv K H kvs fm) (m : Mon) (ht : SqT K H t (frac 0)) (hb : ∀ y ∈ fm, Bq D M y.2) :
    ∃ p, (valV kvs (kS m)).getD (.ref t) = .ref p ∧ SqT K H p (frac ((valM fm m).getD 0)) ∧ Bq D M ((valM fm m).getD 0) := by
  rcases h.val m with ⟨e1, e2⟩ | ⟨a, q, e1, e2, sa⟩
  · rw [e1, e2]
    exact ⟨t, rfl, ht, Bq.zero.mono (Nat.zero_le _)⟩
  · rw [e1, e2]
    exact ⟨a, rfl, sa, hb _ (mem_valM e2)⟩
section
variable {P : Program} {w : World} {K : PySem.W.Frag} {mg : Str → Option Value} {base : Heap} {C : Addr}
theorem scAdd : FnScope ["self", "other", "right", "parts", "names", "worth"] ["self", "other"] (defScope sAdd) := ⟨rfl, rfl, rfl, by decide +kernel, rfl, by decide +kernel, by decide +kernel⟩
theorem ok_add {f : Addr} {fd : FuncData} (F : Fun K "__add__" "Form.__add__" sAdd f fd) (T : Fx P w K mg base C) (R : Cal P w K mg base 4 "right_side" (spRight K C) []) (Fs : Cal P w K mg base 2 "fraction_sum" (spFrac K (· + ·)) []) (Wo : Cal P w K mg base 1 "without_noughts" (spWithout K) []) : FnOk P w K mg base CX0 5 f fd ["self", "other"] (spAdd K C) := by
  refine F.ok scAdd (fun vs H Q E h => ?_) (fun cdv A outer s H vs Q E hr h => ?_)
  · obtain ⟨a, v, fm1, fm2, rfl, _⟩ := h
    rfl
  · obtain ⟨a, v0, fm1, fm2, rfl, ⟨dx, d, kvs, ha, hd, hf⟩, hv, Z, k⟩ := h
    have u1 := Nat.lt_of_le_of_lt (Nat.add_le_add_left (by decide : 1 ≤ 64) _) hr.units
    refine ⟨_, pss_cons (ps_set (i := 2) scAdd.nd rfl (Or.inl rfl) (pe_c R hr (by decide) rfl (pa_cons (pv 1) pa_nil)))
      (pss_cons (ps_lock (ps_dcT (i := 3) (swD_true rfl rfl rfl (by rfl)) (own := [("names", 4)]) (g := gName 4) (tt := tYes) (tk := tVar 4) (tv := tDGet (tFld K (tVar 0) "_parts") (tVar 4)) (Nat.lt_of_le_of_lt (Nat.le_add_right _ 64) hr.units) rfl scAdd.nd rfl rfl (pi_keys (pe_fld (pv 0) rfl))
        (blkOk_by (own := [("names", 4)]) (N := ["self", "other", "right", "parts", "names", "worth"]) (sc := defScope sAdd) (by decide +kernel))
        ⟨fun _ _ _ _ _ => pg_name (i := 4) scAdd.nd rfl (Or.inl rfl), fun _ _ _ _ _ => pts_nil, fun _ _ _ _ _ => pv 4, fun _ _ _ _ _ => by exact pe_dget u1 (pe_fld (pv 0) rfl) (pv 4) (fun _ _ => rfl)⟩))
      (pss_cons (ps_lock (ps_for PassesOwn.never rfl (pi_itemsT (pe_fld (pv 2) rfl)) (pg_tup rfl (pgs_cons (pg_name (i := 4) scAdd.nd rfl (Or.inl rfl)) (pgs_cons (pg_name (i := 5) scAdd.nd rfl (Or.inl rfl)) pgs_nil)))
        (pss_one (ps_dput u1 (pv 3) (pv 4) (pe_c Fs hr (by decide) rfl (pa_cons (pe_dget2 u1 (pv 3) (pv 4) (pe_tupS (pa_cons pe_int (pa_cons pe_int pa_nil))) ⟨rfl, rfl, rfl, rfl⟩) (pa_cons (pv 5) pa_nil))) rfl))))
      (pss_one (ps_ret (pe_mkF T.maks hr (by decide) rfl (pe_c Wo hr (by decide) rfl (pa_cons (pv 3) pa_nil))))))), ?_⟩
    refine seq_asg (call_one rfl (right_of hv fun H0 b S0 hb => ?_))
    refine seq_lockasg (lock_keys (S0 _ _ hd) (hf.same S0) Z.n1 (by have := Z.len; omega) (fun od R h => ⟨_, rfl, a, C, dx, _, _, rfl, by rw [upd_ne (ne_of ha hd (by intro z; cases z))]; exact S0 _ _ ha, T.cl, T.na, rfl, h⟩) ?_ ?_)
    · rintro od H1 rfl i m q H' b1 a1 put skip hm S hb1 dg sa hput
      refine ⟨rfl, iteT (B := False) ?_⟩
      refine ⟨_, rfl, _, rfl, a, C, dx, _, _, rfl, S _ _ (by rw [upd_ne (ne_of ha hd (by intro z; cases z))]; exact S0 _ _ ha), T.cl, T.na, rfl, _, rfl, d, _, rfl, dg, hput H' b1 a1 (Same.refl H') hb1 sa⟩
    · intro H1 D kvs1 S1 nD hD kv1
      obtain ⟨dx2, d2, kvs2, hb1, hd2, hf2⟩ := hb
      have neD : D ≠ d2 := by
        rintro rfl
        rw [nD] at hd2
        cases hd2
      have hd21 := S1 _ _ hd2
      have hb11 := S1 _ _ hb1
      obtain ⟨Dn, M, N, hD0, hD4, hMN, hN, hq1, hq2⟩ := Z.bq
      refine seq_for_items (kvs := kvs2) (fm := fm2) (d := d2) hd21 (hf2.same S1) (fun od R h => ⟨_, rfl, b, C, dx2, _, _, rfl, by rw [upd_ne (ne_of hb11 hd21 (by intro z; cases z))]; exact hb11, T.cl, T.na, rfl, h⟩)
        (fun od i σ' H' => (∃ u v, σ' = [some (.ref a), some v0, some (.ref b), some (.ref D), u, v]) ∧ SameB D (upd H1 d2 (.frz od (.dT kvs2))) H' ∧ ∃ kvs', H' D = some (.dT kvs') ∧ FmKv K H' kvs' (addTo fm1 (fm2.take i))) ?_ ?_ ?_ ?_
      · intro od
        refine ⟨⟨none, none, rfl⟩, SameB.refl _ _, kvs1, by rw [upd_ne neD]; exact hD, ?_⟩
        exact kv1.imp fun b x s => s.off hd21 (fun z => nomatch z) (fun _ z => nomatch z)
      · rintro od i σ' H' ⟨_, S, _⟩
        exact ⟨S _ _ (Ne.symm neD) upd_same, fun b xs s => s.sameB S (by rw [upd_ne neD]; exact hD)⟩
      · rintro od i m q σ' H' T b2 a2 rt bk hm ⟨⟨u, v, rfl⟩, S, kvs', hD', kv'⟩ nT hb2 sa2
        have S2 : Same H' (upd H' T (.tup [.ref b2, .ref a2])) := Same.upd nT
        refine ⟨T, _, rfl, SqT.of upd_same, rfl, _, _, rfl, _, _, rfl, rfl, ?_⟩
        refine ⟨_, rfl, D, rfl, .inr ⟨kvs', .inl (S2 _ _ hD')⟩, _, rfl, (by show 2 ≤ sizeLine; decide), fun t H3 S3 n3 h3 => ?_⟩
        have hD3 := S3 _ _ (S2 _ _ hD')
        have kv3 := (kv'.same S2).same S3
        refine ⟨_, DGet.t hD3 (S3 _ _ (S2 _ _ hb2)), ?_⟩
        have hil : i < fm2.length := (List.getElem?_eq_some_iff.mp hm).1
        have tl : (fm2.take i).length = i := by rw [List.length_take]; omega
        obtain ⟨p0, e0, sp, bq0⟩ := get_or kv3 m (SqT.of h3) (bq_addTo (fm2.take i) fm1 M hq1 fun y hy => hq2 y (List.mem_of_mem_take hy))
        rw [e0]
        have bq1 := hq2 _ (List.mem_of_getElem? hm)
        have le0 : M + (fm2.take i).length * N < 2 ^ 400000 := Nat.lt_of_le_of_lt (Nat.add_le_add_left (Nat.mul_le_mul_right _ (by rw [tl]; omega)) _) hMN
        refine ⟨_, rfl, p0, a2, _, q, rfl, sp, (sa2.same S2).same S3, Nat.lt_of_le_of_lt (bq0.num_le hD0) le0, Nat.lt_of_le_of_lt (bq1.num_le hD0) hN, Nat.lt_of_le_of_lt (bq0.den_le hD0) hD4, Nat.lt_of_le_of_lt (bq1.den_le hD0) hD4, fun p5 H5 S5 n5 h5 => ?_⟩
        have hD5 := S5 _ _ hD3
        have ll := length_addTo (fm2.take i) fm1
        refine ⟨_, rfl, _, rfl, D, _, rfl, DPut.t hD5 (S5 _ _ (S3 _ _ (S2 _ _ hb2))) (by rw [kv'.length]; have := Z.len; omega), ⟨_, _, rfl⟩, (((S.to S2).to S3).to S5).upd, _, upd_same, ?_⟩
        rw [take_addTo hm]
        exact ((kv3.same S5).put m (SqT.of h5)).imp fun c x s => s.off hD5 (fun z => nomatch z) (fun _ z => nomatch z)
      · rintro od σ' H' ⟨⟨u, v, rfl⟩, S, kvs', hD', kv'⟩
        rw [List.take_length] at kv'
        have hl2 : H' d2 = some (.frz od (.dT kvs2)) := S _ _ (Ne.symm neD) upd_same
        have SH : Same H (upd H' d2 (.dT kvs2)) := by
          intro c o e
          have e0 := S0 _ _ e
          have nc : c ≠ D := by
            rintro rfl
            rw [nD] at e0
            cases e0
          by_cases c2 : c = d2
          · subst c2
            rw [upd_same]
            rw [hd2] at e0
            exact e0
          · rw [upd_ne c2]
            exact S _ _ nc (by rw [upd_ne c2]; exact S1 _ _ e0)
        have nDH : ∀ {c : Addr}, upd H' d2 (.dT kvs2) c = none → H c = none := fun {c} n => SH.free n
        refine ret_mkF ?_
        refine call_one rfl ⟨D, kvs', addTo fm1 fm2, rfl, by rw [upd_ne neD]; exact hD', kv'.imp fun c x s => s.off hl2 (fun z => nomatch z) (fun _ z => nomatch z), nodup_addTo _ _ Z.n1, Nat.le_of_lt (Nat.lt_of_le_of_lt (length_addTo _ _) Z.len), fun H4 D4 kvs4 S4 nD4 hD4 kv4 b5 dx5 H5 S5 nb5 hb5 => ?_⟩
        exact k H5 b5 ((SH.trans S4).trans S5) ((SH.trans S4).free nb5) ⟨dx5, D4, kvs4, hb5, S5 _ _ hD4, kv4.same S5⟩
end
end E2

set_option Elab.async false
set_option linter.all false
set_option maxRecDepth 100000
set_option maxHeartbeats 1000000
/-! is_values, product_at -/
namespace E2
open PySem PySem.Spec PyProof.Rows L2
open C8 (Cal Mak Met InsC pe_c pe_mt pe_mt0 call_isC clsBody)
/-- a dict of letters and whole numbers -/
def ValsOk (kvs : List (Key × V)) : Prop := ∀ kv ∈ kvs, ∃ (z : Str) (n : Int), kv = (Sum.inr z, V.int n) ∧ LetOk z
def spIsVals (K : PySem.W.Frag) : Sp := fun vs H Q _ => ∃ (d l : Addr) (kvs : List (Key × V)) (xs : List Str), vs = [.ref d, .ref l] ∧ H d = some (.dK kvs) ∧ ValsOk kvs ∧ kvs.length ≤ 1000 ∧ SqL K H l (xs.map V.str) ∧ xs.length ≤ 1000 ∧ (∀ x ∈ xs, (valV kvs (Sum.inr x)).isSome = true) ∧ ∀ H', Same H H' → Q (.bl true) H'
theorem all_true (n : Nat) : (List.replicate n true).all id = true := by simp
theorem dk_back {H H' : Hp} {d : Addr} {u z : HO} (hd : H d = some u) (S : Same (upd H d z) H') : Same H (upd H' d u) := same_back hd S
section
variable {P : Program} {w : World} {K : PySem.W.Frag} {mg : Str → Option Value} {base : Heap} {C : Addr}
theorem kit_dd : PySem.W.kitOne K (.type "dict") (.type "dict") = some true := by kernel_rfl
theorem scIsVals : FnScope ["values", "names", "name", "value"] ["values", "names"] (defScope sIsValues) := ⟨rfl, rfl, rfl, by decide +kernel, rfl, by decide +kernel, by decide +kernel⟩
theorem ok_isVals {f : Addr} {fd : FuncData} (F : Fun K "is_values" "is_values" sIsValues f fd) (B : Bt K mg C) (B2 : Bt2 mg) (hdict : mg "dict" = none) (L : Cal P w K mg base 1 "is_letter" spIsLet []) (Wh : Cal P w K mg base 1 "is_whole" (spWhole C) []) : FnOk P w K mg base CX0 2 f fd ["values", "names"] (spIsVals K) := by
  refine F.ok scIsVals (fun vs H Q E h => ?_) (fun cdv A outer s H vs Q E hr h => ?_)
  · obtain ⟨d, l, kvs, xs, rfl, _⟩ := h
    rfl
  · obtain ⟨d, l, kvs, xs, rfl, hd, hv, hk, hl, hx, hin, k⟩ := h
    have u1 := Nat.lt_of_le_of_lt (Nat.add_le_add_left (by decide : 1 ≤ 64) _) hr.units
    refine ⟨_, pss_cons (ps_if (pt_not (pt_val (pe_callB call_isi (by rfl) B.isi (by decide +kernel) (pa_cons (pv 0) (pa_cons (pe_bltn (v := .ty "dict") (by rfl) hdict (by decide +kernel) rfl) pa_nil))))) (pss_one (ps_ret pe_bl)) pss_nil)
      (pss_cons (ps_if (pt_not (pt_val (pe_callB (cr_all rfl) (by rfl) B2.all_ (by decide +kernel) (pa_cons (pe_lock (pe_lc (own := [("name", 2), ("value", 3)]) (g := gTup K 2 (gCons (gName 2) (gCons (gName 3) gNil))) (tt := tYes) (te := tAndV (tCall spIsLet [] E0 (tCons (tVar 2) tNil)) (tCall (spWhole C) [] E0 (tCons (tVar 3) tNil))) rfl scIsVals.nd (pi_items (pv 0))
          (blkOk_by (own := [("name", 2), ("value", 3)]) (N := ["values", "names", "name", "value"]) (sc := defScope sIsValues) (by decide +kernel))
          (fun _ _ _ _ _ => pg_tup rfl (pgs_cons (pg_name (i := 2) scIsVals.nd rfl (Or.inl rfl)) (pgs_cons (pg_name (i := 3) scIsVals.nd rfl (Or.inl rfl)) pgs_nil))) (fun _ _ _ _ _ => pts_nil)
          (fun _ _ _ _ _ => by exact pe_and (pe_c L hr (by decide) rfl (pa_cons (pv 2) pa_nil)) (pe_one (pe_c Wh hr (by decide) rfl (pa_cons (pv 3) pa_nil)))))) pa_nil)))) (pss_one (ps_ret pe_bl)) pss_nil)
      (pss_one (ps_ret (pe_callB (cr_all rfl) (by rfl) B2.all_ (by decide +kernel) (pa_cons (pe_lc (own := [("name", 2)]) (g := gName 2) (tt := tYes) (te := tDIn (tVar 2) (tVar 0)) rfl scIsVals.nd (pi_list (pv 1))
          (blkOk_by (own := [("name", 2)]) (N := ["values", "names", "name", "value"]) (sc := defScope sIsValues) (by decide +kernel))
          (fun _ _ _ _ _ => pg_name (i := 2) scIsVals.nd rfl (Or.inl rfl)) (fun _ _ _ _ _ => pts_nil) (fun _ _ _ _ _ => by exact pe_cmp (pc_din u1 (pv 2) (pv 0)))) pa_nil))))), ?_⟩
    refine ⟨_, rfl, _, _, _, _, true, rfl, .ty "dict", .base (.dK hd), kit_dd, true, rfl, iteF ?_⟩
    have sz : ∀ n : Nat, n ≤ 1000 → n < sizeLine := fun n h => by rw [sizeLine_eq]; omega
    -- the rest, with any heap that has grown
    have rest : ∀ H1, Same H H1 → ∀ σ : L2.St, σ = [some (.ref d), some (.ref l), none, none] → ∀ D, H1 D = none → ∃ W : Nat → Nat → Hp → Prop, (∃ m, W 0 m (upd H1 D (.lst []))) ∧ ∀ i m H, W i m H → ((Itl K l).stop i H ∧ rAll K [.ref D] H Q) ∨ ((Itl K l).go i H ∧ ∃ Nx : Hp → Prop, (∀ H', Nx H' → ∃ m', m' < m ∧ W (i + 1) m' H') ∧ ∀ x H', (Itl K l).yld i H x H' → gName 2 x (wipe σ [2]) H' fun σ2 H2 => wipe σ2 [2] = wipe σ [2] ∧ tYes σ2 H2 fun b H3 =>
        if b = true then tDIn (tVar 2) (tVar 0) σ2 H3 fun y H4 => ∃ acc, H4 D = some (.lst acc) ∧ acc.length < sizeLine ∧ Nx (upd H4 D (.lst (acc ++ [y]))) else Nx H3) := by
      rintro H1 S1 σ rfl D nD
      refine lc_it walk_list (fun i H' => Same H1 H' ∧ H' D = some (.lst (List.replicate i (V.bl true)))) ⟨Same.upd nD, upd_same⟩ (fun i H' _ q => (hl.same S1).same q.1) ?_ ?_
      · rintro i x H2 H3 hi ⟨S, hD⟩ ⟨rfl, hx2⟩
        rw [List.length_map] at hi
        obtain ⟨z, hz, rfl⟩ : ∃ z, xs[i]? = some z ∧ x = V.str z := by
          rw [List.getElem?_map] at hx2
          obtain ⟨z, hz, e⟩ := Option.map_eq_some_iff.mp hx2
          exact ⟨z, hz, e.symm⟩
        have hs := hin z (List.mem_of_getElem? hz)
        refine ⟨rfl, iteT (B := False) ⟨_, rfl, _, rfl, d, valV kvs (Sum.inr z), rfl, DGet.k (k := Sum.inr z) (S _ _ (S1 _ _ hd)), _, hD, ?_, ?_, ?_⟩⟩
        · rw [List.length_replicate]
          exact sz _ (by omega)
        · intro b o hb
          rw [upd_ne (ne_of_none hb nD)]
          exact S _ _ hb
        · rw [upd_same, hs, List.replicate_succ']
      · rintro H2 ⟨S, hD⟩
        refine ⟨D, List.replicate xs.length true, rfl, SqL.of ?_, ?_⟩
        · rw [List.map_replicate]
          rw [List.length_map] at hD
          exact hD
        · rw [all_true]
          exact k H2 (S1.trans S)
    refine ⟨d, .dK kvs, hd, trivial, fun od => ⟨_, rfl, d, od, kvs, rfl, upd_same, fun D nD => ?_⟩⟩
    have h1 : (upd H d (.frz od (.dK kvs))) d = some (.frz od (.dK kvs)) := upd_same
    have neD : D ≠ d := by rintro rfl; rw [upd_same] at nD; cases nD
    have back : ∀ H2, Same (upd H d (.frz od (.dK kvs))) H2 → Same H (upd H2 d (.dK kvs)) := fun H2 S => same_back hd S
    generalize upd H d (.frz od (.dK kvs)) = H1 at h1 nD back ⊢
    refine lc_it walk_items (fun i H' => Same H1 H' ∧ H' D = some (.lst (List.replicate i (V.bl true)))) ⟨Same.upd nD, upd_same⟩ (fun i H' _ q => q.1 _ _ h1) ?_ ?_
    · rintro i x H2 H3 hi ⟨S, hD⟩ ⟨T, x1, y1, rfl, nT, rfl, e1, e2⟩
      obtain ⟨kv, hkv⟩ : ∃ kv, kvs[i]? = some kv := ⟨kvs[i], List.getElem?_eq_getElem hi⟩
      obtain ⟨z, n, rfl, hz⟩ := hv kv (List.mem_of_getElem? hkv)
      replace e1 : (kvs[i]?.map fun kv => kV kv.1) = some x1 := e1
      replace e2 : kvs[i]?.map Prod.snd = some y1 := e2
      rw [hkv] at e1 e2
      obtain rfl : V.str z = x1 := Option.some.inj e1
      obtain rfl : V.int n = y1 := Option.some.inj e2
      have S2 : Same H2 (upd H2 T (.tup [.str z, .int n])) := Same.upd nT
      refine ⟨T, _, rfl, SqT.of upd_same, rfl, _, _, rfl, _, _, rfl, rfl, rfl, iteT (B := False) ?_⟩
      refine ⟨_, rfl, z, rfl, hz, fun H4 S4 => ⟨true, rfl, iteT (B := False) ⟨_, rfl, _, rfl, .inl ⟨n, rfl, _, S4 _ _ (S2 _ _ hD), ?_, ?_, ?_⟩⟩⟩⟩
      · rw [List.length_replicate]
        exact sz _ (by omega)
      · intro b o hb
        rw [upd_ne (ne_of_none hb nD)]
        exact S4 _ _ (S2 _ _ (S _ _ hb))
      · rw [upd_same, List.replicate_succ']
    · rintro H2 ⟨S, hD⟩
      refine ⟨S _ _ h1, D, List.replicate kvs.length true, rfl, SqL.of ?_, true, by rw [all_true], iteF ?_⟩
      · rw [upd_ne neD, List.map_replicate]
        exact hD
      · exact ⟨_, rfl, l, rfl, ⟨_, hl.same (back H2 S)⟩, fun D2 nD2 => rest _ (back H2 S) _ rfl D2 nD2⟩
def spProd (K : PySem.W.Frag) : Sp := fun vs H Q _ => ∃ (t d : Addr) (m : List Str) (kvs : List (Key × V)) (g : Str → Int), vs = [.ref t, .ref d] ∧ SqT K H t (m.map V.str) ∧ H d = some (.dK kvs) ∧ (∀ x ∈ m, valV kvs (Sum.inr x) = some (.int (g x))) ∧ m.length ≤ 1000 ∧ (∀ x ∈ m, (g x).natAbs < 2 ^ 400) ∧ Q (.int (prodI (m.map g))) H
theorem scProd : FnScope ["names", "values", "found", "name"] ["names", "values"] (defScope sProductAt) := ⟨rfl, rfl, rfl, by decide +kernel, rfl, by decide +kernel, by decide +kernel⟩
theorem prod_lt (g : Str → Int) : ∀ l : List Str, (∀ x ∈ l, (g x).natAbs < 2 ^ 400) → (prodI (l.map g)).natAbs < 2 ^ (1 + l.length * 400)
  | [], _ => by show (1 : Int).natAbs < 2 ^ (1 + 0 * 400); decide
  | x :: l, h => by
    have ih := prod_lt g l fun y hy => h y (List.mem_cons.mpr (.inr hy))
    have hx := h x (List.mem_cons.mpr (.inl rfl))
    have e := wide_lt (a := 400) (b := 1 + l.length * 400) hx ih
    have e2 : 400 + (1 + l.length * 400) = 1 + (x :: l).length * 400 := by rw [List.length_cons, Nat.add_mul]; omega
    rw [e2] at e
    exact e
theorem ok_prod {f : Addr} {fd : FuncData} (F : Fun K "product_at" "product_at" sProductAt f fd) : FnOk P w K mg base CX0 1 f fd ["names", "values"] (spProd K) := by
  refine F.ok scProd (fun vs H Q E h => ?_) (fun cdv A outer s H vs Q E hr h => ?_)
  · obtain ⟨t, d, m, kvs, g, rfl, _⟩ := h
    rfl
  · obtain ⟨t, d, m, kvs, g, rfl, ht, hd, hg, hl, hb, k⟩ := h
    have u1 := Nat.lt_of_le_of_lt (Nat.add_le_add_left (by decide : 1 ≤ 64) _) hr.units
    refine ⟨_, pss_cons (ps_set (i := 2) scProd.nd rfl (Or.inl rfl) pe_int)
      (pss_cons (ps_for PassesOwn.never rfl (pi_tup (pv 0)) (pg_name (i := 3) scProd.nd rfl (Or.inl rfl)) (pss_one (ps_set (i := 2) scProd.nd rfl (Or.inl rfl) (pe_op op_mulW (pv 2) (pe_dget u1 (pv 1) (pv 3) (fun _ _ => rfl))))))
      (pss_one (ps_ret (pv 2)))), ?_⟩
    refine seq_asg ⟨_, rfl, t, rfl, ⟨_, ht⟩, for_it (walk_tup (xs := m.map V.str)) (fun i σ H' => H' = H ∧ ∃ u, σ = [some (.ref t), some (.ref d), some (.int (prodI ((m.take i).map g))), u]) ⟨rfl, none, rfl⟩ ?_ ?_ ?_⟩
    · rintro i σ H' _ ⟨rfl, _⟩
      exact ht
    · rintro i x σ H1 H2 hi ⟨rfl, u, rfl⟩ ⟨rfl, hx⟩
      rw [List.length_map] at hi
      obtain ⟨z, hz, rfl⟩ : ∃ z, m[i]? = some z ∧ x = V.str z := by
        rw [List.getElem?_map] at hx
        obtain ⟨z, hz, e⟩ := Option.map_eq_some_iff.mp hx
        exact ⟨z, hz, e.symm⟩
      have hm := List.mem_of_getElem? hz
      have p1 := prod_lt g (m.take i) fun y hy => hb y (List.mem_of_mem_take hy)
      have tl : (m.take i).length ≤ 1000 := by rw [List.length_take]; omega
      refine ⟨_, rfl, _, rfl, _, rfl, d, _, rfl, by rw [← hg z hm]; exact DGet.k (k := Sum.inr z) hd, _, _, rfl, rfl, cmw p1 (hb z hm) (by omega) (by decide) (by omega), rfl, some (V.str z), ?_⟩
      rw [take_snoc hz, List.map_append, prodI_append]
      show _ = [_, _, some (V.int (_ * (g z * 1))), _]
      rw [Int.mul_one]
      rfl
    · rintro σ H1 ⟨rfl, u, rfl⟩
      rw [List.length_map, List.take_length]
      exact ⟨_, rfl, k⟩
end
end E2

set_option Elab.async false
set_option linter.all false
set_option maxRecDepth 100000
set_option maxHeartbeats 1000000
/-! _law_worth, _law_whole_at -/
namespace E2
open PySem PySem.Spec PyProof.Rows L2
open C8 (Cal Mak Met InsC pe_c pe_mt pe_mt0 call_isC clsBody)
abbrev sWorth : Stmt := top 29
abbrev sWholeAt : Stmt := top 31
def wT (g : Str → Int) : Tr → Int × Int
  | .num n => (n, 1)
  | .var z => (g z, 1)
  | .div t k => ((wT g t).1, (wT g t).2 * k)
  | .bin 0 l r => ((wT g l).1 * (wT g r).2 + (wT g r).1 * (wT g l).2, (wT g l).2 * (wT g r).2)
  | .bin 1 l r => ((wT g l).1 * (wT g r).2 - (wT g r).1 * (wT g l).2, (wT g l).2 * (wT g r).2)
  | .bin (_ + 2) l r => ((wT g l).1 * (wT g r).1, (wT g l).2 * (wT g r).2)
def bW (d : Nat) : Nat := 100 * 4 ^ d
/-- numbers of any tree of the depth, and its divisors -/
def Wd (names : List Str) (g : Str → Int) (d : Nat) (t : Tr) : Prop := (wT g t).1.natAbs < 2 ^ bW d ∧ (wT g t).2.natAbs < 2 ^ bW d ∧ 0 < (wT g t).2
theorem bW_pos (d : Nat) : 0 < bW d := Nat.mul_pos (by decide) (Nat.pow_pos (by decide))
theorem bW_succ (d : Nat) : bW (d + 1) = 4 * bW d := by unfold bW; rw [Nat.pow_succ]; omega
theorem lt_pow_mono {a m n : Nat} (h : a < 2 ^ m) (l : m ≤ n) : a < 2 ^ n := Nat.lt_of_lt_of_le h (Nat.pow_le_pow_right (by decide) l)
theorem sum_lt {x y : Int} {m : Nat} (hx : x.natAbs < 2 ^ m) (hy : y.natAbs < 2 ^ m) : (x + y).natAbs < 2 ^ (m + 1) ∧ (x - y).natAbs < 2 ^ (m + 1) := by
  rw [Nat.pow_succ]
  omega
theorem wd_of {names : List Str} {g : Str → Int} (hg : ∀ z ∈ names, (g z).natAbs < 2 ^ 100) : ∀ (d : Nat) (t : Tr), TrOk names d t → Wd names g d t := by
  intro d
  induction d with
  | zero =>
    intro t ht
    match t, ht with
    | .num n, h0 => exact ⟨lt_pow_mono (m := 40) h0 (by decide), (show (1 : Int).natAbs < 2 ^ 100 by decide), (show (0 : Int) < 1 by decide)⟩
    | .var z, h => exact ⟨hg z h, (show (1 : Int).natAbs < 2 ^ 100 by decide), (show (0 : Int) < 1 by decide)⟩
  | succ d ih =>
    intro t ht
    have b1 := bW_pos d
    have b4 := bW_succ d
    match t, ht with
    | .num n, h0 =>
      have b0 : 100 ≤ bW (d + 1) := by unfold bW; exact Nat.le_mul_of_pos_right _ (Nat.pow_pos (by decide))
      exact ⟨lt_pow_mono (m := 40) h0 (by omega), lt_pow_mono (m := 100) (show (1 : Int).natAbs < 2 ^ 100 by decide) b0, (show (0 : Int) < 1 by decide)⟩
    | .var z, h =>
      have b0 : 100 ≤ bW (d + 1) := by unfold bW; exact Nat.le_mul_of_pos_right _ (Nat.pow_pos (by decide))
      exact ⟨lt_pow_mono (hg z h) b0, lt_pow_mono (m := 100) (show (1 : Int).natAbs < 2 ^ 100 by decide) b0, (show (0 : Int) < 1 by decide)⟩
    | .div t k, ⟨ht, k0, k1⟩ =>
      obtain ⟨w1, w2, w3⟩ := ih t ht
      refine ⟨lt_pow_mono w1 (by omega), ?_, Int.mul_pos w3 (by omega)⟩
      have hk : k.natAbs < 2 ^ 4 := by omega
      have b0 : 100 ≤ bW d := by unfold bW; exact Nat.le_mul_of_pos_right _ (Nat.pow_pos (by decide))
      exact lt_pow_mono (wide_lt w2 hk) (by omega)
    | .bin o l r, ⟨ho, hl, hr⟩ =>
      obtain ⟨u1, u2, u3⟩ := ih l hl
      obtain ⟨v1, v2, v3⟩ := ih r hr
      have p := wide_lt u2 v2
      have q1 := wide_lt u1 v2
      have q2 := wide_lt v1 u2
      have q3 := wide_lt u1 v1
      have s := sum_lt q1 q2
      have le : bW d + bW d + 1 ≤ bW (d + 1) := by omega
      match o with
      | 0 => exact ⟨lt_pow_mono s.1 le, lt_pow_mono p (by omega), Int.mul_pos u3 v3⟩
      | 1 => exact ⟨lt_pow_mono s.2 le, lt_pow_mono p (by omega), Int.mul_pos u3 v3⟩
      | _ + 2 => exact ⟨lt_pow_mono q3 (by omega), lt_pow_mono p (by omega), Int.mul_pos u3 v3⟩
def bU (d : Nat) : Nat := 4 * 2 ^ d
theorem ud_of {names : List Str} {g : Str → Int} : ∀ (d : Nat) (t : Tr), TrOk names d t → (wT g t).2.natAbs < 2 ^ bU d := by
  intro d
  have b4 : ∀ d, 4 ≤ bU d := fun d => by unfold bU; exact Nat.le_mul_of_pos_right _ (Nat.pow_pos (by decide))
  have one : ∀ d, (1 : Int).natAbs < 2 ^ bU d := fun d => lt_pow_mono (m := 4) (by decide) (b4 d)
  induction d with
  | zero =>
    intro t ht
    match t, ht with
    | .num n, _ => exact one 0
    | .var z, _ => exact one 0
  | succ d ih =>
    intro t ht
    have bs : bU (d + 1) = 2 * bU d := by unfold bU; rw [Nat.pow_succ]; omega
    have b := b4 d
    match t, ht with
    | .num n, _ => exact one (d + 1)
    | .var z, _ => exact one (d + 1)
    | .div t k, ⟨ht, k0, k1⟩ =>
      have hk : k.natAbs < 2 ^ 4 := by omega
      exact lt_pow_mono (wide_lt (ih t ht) hk) (by omega)
    | .bin o l r, ⟨ho, hl, hr⟩ =>
      have p := wide_lt (ih l hl) (ih r hr)
      match o with
      | 0 => exact lt_pow_mono p (by omega)
      | 1 => exact lt_pow_mono p (by omega)
      | _ + 2 => exact lt_pow_mono p (by omega)
theorem bU_le {d : Nat} (h : d ≤ 6) : bU d ≤ 256 := by
  have : d = 0 ∨ d = 1 ∨ d = 2 ∨ d = 3 ∨ d = 4 ∨ d = 5 ∨ d = 6 := by omega
  rcases this with rfl | rfl | rfl | rfl | rfl | rfl | rfl <;> decide
theorem bW_le {d : Nat} (h : d ≤ 6) : bW d ≤ 409600 := by
  have : d = 0 ∨ d = 1 ∨ d = 2 ∨ d = 3 ∨ d = 4 ∨ d = 5 ∨ d = 6 := by omega
  rcases this with rfl | rfl | rfl | rfl | rfl | rfl | rfl <;> decide
/-- a values' dict -/
def VlAt (H : Hp) (dv : Addr) (names : List Str) (g : Str → Int) : Prop := ∃ kvs, H dv = some (.dK kvs) ∧ ValsOk kvs ∧ kvs.length ≤ 1000 ∧ ∀ z ∈ names, valV kvs (Sum.inr z) = some (.int (g z)) ∧ (g z).natAbs < 2 ^ 100
theorem VlAt.same {H H' : Hp} {dv : Addr} {names : List Str} {g : Str → Int} (h : VlAt H dv names g) (S : Same H H') : VlAt H' dv names g := let ⟨k, h1, h2⟩ := h; ⟨k, S _ _ h1, h2⟩
def spWorth (K : PySem.W.Frag) (d : Nat) : Sp := fun vs H Q _ => ∃ (b dv : Addr) (t : Tr) (names : List Str) (g : Str → Int), vs = [.ref b, .ref dv] ∧ TrAt K H t b ∧ TrOk names d t ∧ VlAt H dv names g ∧ ∀ H' p, Same H H' → H p = none → H' p = some (.tup [.int (wT g t).1, .int (wT g t).2]) → Q (.ref p) H'
def spWorthP (K : PySem.W.Frag) : Nat → Sp
  | 0 => fun _ _ _ _ => False
  | d + 1 => spWorth K d
theorem seq_asgG {te : TE} {g : TG} {u : TS} {D : Ends} {σ : L2.St} {H : Hp} (h : te σ H fun x H1 => g x σ H1 fun σ2 H2 => u D σ2 H2) : tSeq (tAsg te g) u D σ H := h
theorem iteNe {x y : V} {A B : Prop} (h : x ≠ y) (b : B) : if decide (x = y) = true then A else B := by rw [decide_eq_false h]; exact b
theorem iteEq {x : V} {A B : Prop} (a : A) : if decide (x = x) = true then A else B := by rw [decide_eq_true rfl]; exact a
theorem ns {a b : Str} (h : a ≠ b) : V.str a ≠ V.str b := fun e => h (V.str.inj e)
section
variable {P : Program} {w : World} {K : PySem.W.Frag} {mg : Str → Option Value} {base : Heap}
theorem scWorth : FnScope ["_law_tree_here", "_law_values_here", "_law_first", "_law_under", "_law_second", "_law_lower"] ["_law_tree_here", "_law_values_here"] (defScope sWorth) := ⟨rfl, rfl, rfl, by decide +kernel, rfl, by decide +kernel, by decide +kernel⟩
theorem ok_worth {f : Addr} {fd : FuncData} (F : Fun K "_law_worth" "_law_worth" sWorth f fd) (d : Nat) (hd : d ≤ 6) (R : Cal P w K mg base (1 + d) "_law_worth" (spWorthP K d) []) : FnOk P w K mg base CX0 (2 + d) f fd ["_law_tree_here", "_law_values_here"] (spWorth K d) := by
  have e5 : 2 + d = (1 + d) + 1 := by omega
  rw [e5]
  refine F.ok scWorth (fun vs H Q E h => ?_) (fun cdv A outer s H vs Q E hr h => ?_)
  · obtain ⟨b, dv, t, names, g, rfl, _⟩ := h
    rfl
  · obtain ⟨b, dv, t, names, g, rfl, ht, tk, ⟨kvs, hv, vo, hk, hg⟩, k⟩ := h
    have u1 := Nat.lt_of_le_of_lt (Nat.add_le_add_left (by decide : 1 ≤ 64) _) hr.units
    refine ⟨_, pss_cons (ps_if (pt_cmpR op_eq (pe_ix ix_tup (pv 0) pe_int (fun _ _ => rfl)) pe_str (nomark _)) (pss_one (ps_ret (pe_tupS (pa_cons (pe_ix ix_tup (pv 0) pe_int (fun _ _ => rfl)) (pa_cons pe_int pa_nil))))) pss_nil)
      (pss_cons (ps_if (pt_cmpR op_eq (pe_ix ix_tup (pv 0) pe_int (fun _ _ => rfl)) pe_str (nomark _)) (pss_one (ps_ret (pe_tupS (pa_cons (pe_dget u1 (pv 1) (pe_ix ix_tup (pv 0) pe_int (fun _ _ => rfl)) (fun _ _ => rfl)) (pa_cons pe_int pa_nil))))) pss_nil)
      (pss_cons (ps_asg (pe_c R hr (by omega) rfl (pa_cons (pe_ix ix_tup (pv 0) pe_int (fun _ _ => rfl)) (pa_cons (pv 1) pa_nil))) (pg_tup rfl (pgs_cons (pg_name (i := 2) scWorth.nd rfl (Or.inl rfl)) (pgs_cons (pg_name (i := 3) scWorth.nd rfl (Or.inl rfl)) pgs_nil))))
      (pss_cons (ps_if (pt_cmpR op_eq (pe_ix ix_tup (pv 0) pe_int (fun _ _ => rfl)) pe_str (nomark _)) (pss_one (ps_ret (pe_tupS (pa_cons (pv 2) (pa_cons (pe_op op_mulW (pv 3) (pe_ix ix_tup (pv 0) pe_int (fun _ _ => rfl))) pa_nil))))) pss_nil)
      (pss_cons (ps_asg (pe_c R hr (by omega) rfl (pa_cons (pe_ix ix_tup (pv 0) pe_int (fun _ _ => rfl)) (pa_cons (pv 1) pa_nil))) (pg_tup rfl (pgs_cons (pg_name (i := 4) scWorth.nd rfl (Or.inl rfl)) (pgs_cons (pg_name (i := 5) scWorth.nd rfl (Or.inl rfl)) pgs_nil))))
      (pss_cons (ps_if (pt_cmpR op_eq (pe_ix ix_tup (pv 0) pe_int (fun _ _ => rfl)) pe_str (nomark _)) (pss_one (ps_ret (pe_tupS (pa_cons (pe_op op_mulW (pv 2) (pv 4)) (pa_cons (pe_op op_mulW (pv 3) (pv 5)) pa_nil))))) pss_nil)
      (pss_cons (ps_if (pt_cmpR op_eq (pe_ix ix_tup (pv 0) pe_int (fun _ _ => rfl)) pe_str (nomark _)) (pss_one (ps_ret (pe_tupS (pa_cons (pe_op op_sub (pe_op op_mulW (pv 2) (pv 5)) (pe_op op_mulW (pv 4) (pv 3))) (pa_cons (pe_op op_mulW (pv 3) (pv 5)) pa_nil))))) pss_nil)
      (pss_one (ps_ret (pe_tupS (pa_cons (pe_op op_add (pe_op op_mulW (pv 2) (pv 5)) (pe_op op_mulW (pv 4) (pv 3))) (pa_cons (pe_op op_mulW (pv 3) (pv 5)) pa_nil))))))))))), ?_⟩
    have wd := wd_of (names := names) (g := g) fun z hz => (hg z hz).2
    match t, ht, tk with
    | .num n, ht, tk =>
      exact ⟨_, rfl, b, _, 0, _, rfl, rfl, ht, rfl, rfl, _, rfl, iteEq ⟨_, rfl, b, _, 1, _, rfl, rfl, ht, rfl, (by show 2 ≤ sizeLine; decide), fun p H' S n h => k H' p S n h⟩⟩
    | .var z, ht, tk =>
      have hz : z ∈ names := by cases d <;> exact tk
      refine ⟨_, rfl, b, _, 0, _, rfl, rfl, ht, rfl, rfl, _, rfl, iteNe (ns (by decide)) ?_⟩
      dsimp only [tNext]
      exact ⟨_, rfl, b, _, 0, _, rfl, rfl, ht, rfl, rfl, _, rfl, iteEq ⟨_, rfl, _, rfl, b, _, 1, _, rfl, rfl, ht, rfl, dv, _, rfl, (by show DGet H dv (V.str z) (some (V.int (g z))); rw [← (hg z hz).1]; exact DGet.k (k := Sum.inr z) hv), (by show 2 ≤ sizeLine; decide), fun p H' S n h => k H' p S n h⟩⟩
    | .div t c, ⟨bt, ht, hbt⟩, tk =>
      cases d with
      | zero => exact tk.elim
      | succ d =>
      obtain ⟨tk, c0, c1⟩ := tk
      have wt := wd d t tk
      have bl := bW_le (show d ≤ 6 by omega)
      refine ⟨_, rfl, b, _, 0, _, rfl, rfl, ht, rfl, rfl, _, rfl, iteNe (ns (by decide)) ?_⟩
      dsimp only [tNext]
      refine ⟨_, rfl, b, _, 0, _, rfl, rfl, ht, rfl, rfl, _, rfl, iteNe (ns (by decide)) ?_⟩
      dsimp only [tNext]
      refine seq_asgG ⟨_, rfl, b, _, 1, _, rfl, rfl, ht, rfl, _, rfl, bt, dv, t, names, g, rfl, hbt, tk, ⟨kvs, hv, vo, hk, hg⟩, fun H1 p S1 n1 h1 => ⟨p, _, rfl, SqT.of h1, rfl, _, _, rfl, _, _, rfl, rfl, ?_⟩⟩
      have ht1 := ht.same S1
      refine ⟨_, rfl, b, _, 0, _, rfl, rfl, ht1, rfl, rfl, _, rfl, iteEq ?_⟩
      have cc : c.natAbs < 2 ^ 4 := by omega
      exact ⟨_, rfl, _, rfl, _, rfl, b, _, 2, _, rfl, rfl, ht1, rfl, _, _, rfl, rfl, cmw wt.2.1 cc (bW_pos d) (by decide) (by omega), (by show 2 ≤ sizeLine; decide), fun p2 H2 S2 n2 h2 => k H2 p2 (S1.trans S2) (S1.free n2) h2⟩
    | .bin o l r, ⟨bl, br, ht, hbl, hbr⟩, tk =>
      cases d with
      | zero => exact tk.elim
      | succ d =>
      obtain ⟨ho, tkl, tkr⟩ := tk
      have wl := wd d l tkl
      have wr := wd d r tkr
      have bL := bW_le (show d ≤ 6 by omega)
      have b0 := bW_pos d
      have o3 : o = 0 ∨ o = 1 ∨ o = 2 := by omega
      refine ⟨_, rfl, b, _, 0, _, rfl, rfl, ht, rfl, rfl, _, rfl, iteNe (ns (by rcases o3 with rfl | rfl | rfl <;> decide)) ?_⟩
      dsimp only [tNext]
      refine ⟨_, rfl, b, _, 0, _, rfl, rfl, ht, rfl, rfl, _, rfl, iteNe (ns (by rcases o3 with rfl | rfl | rfl <;> decide)) ?_⟩
      dsimp only [tNext]
      refine seq_asgG ⟨_, rfl, b, _, 1, _, rfl, rfl, ht, rfl, _, rfl, bl, dv, l, names, g, rfl, hbl, tkl, ⟨kvs, hv, vo, hk, hg⟩, fun H1 p S1 n1 h1 => ⟨p, _, rfl, SqT.of h1, rfl, _, _, rfl, _, _, rfl, rfl, ?_⟩⟩
      have ht1 := ht.same S1
      refine ⟨_, rfl, b, _, 0, _, rfl, rfl, ht1, rfl, rfl, _, rfl, iteNe (ns (by rcases o3 with rfl | rfl | rfl <;> decide)) ?_⟩
      dsimp only [tNext]
      refine seq_asgG ⟨_, rfl, b, _, 2, _, rfl, rfl, ht1, rfl, _, rfl, br, dv, r, names, g, rfl, hbr.same S1, tkr, ⟨kvs, S1 _ _ hv, vo, hk, hg⟩, fun H2 p2 S2 n2 h2 => ⟨p2, _, rfl, SqT.of h2, rfl, _, _, rfl, _, _, rfl, rfl, ?_⟩⟩
      have ht2 := ht1.same S2
      have S12 := S1.trans S2
      have c1 := cmw wl.1 wr.2.1 b0 b0 (by omega)
      have c2 := cmw wr.1 wl.2.1 b0 b0 (by omega)
      have c3 := cmw wl.2.1 wr.2.1 b0 b0 (by omega)
      have c4 := cmw wl.1 wr.1 b0 b0 (by omega)
      rcases o3 with rfl | rfl | rfl
      · refine ⟨_, rfl, b, _, 0, _, rfl, rfl, ht2, rfl, rfl, _, rfl, iteNe (ns (by decide)) ?_⟩
        dsimp only [tNext]
        refine ⟨_, rfl, b, _, 0, _, rfl, rfl, ht2, rfl, rfl, _, rfl, iteNe (ns (by decide)) ?_⟩
        dsimp only [tNext]
        exact ⟨_, rfl, _, rfl, _, _, rfl, rfl, c1, _, rfl, _, rfl, _, _, rfl, rfl, c2, _, _, rfl, rfl, _, rfl, _, rfl, _, _, rfl, rfl, c3, (by show 2 ≤ sizeLine; decide), fun p3 H3 S3 n3 h3 => k H3 p3 (S12.trans S3) (S12.free n3) h3⟩
      · refine ⟨_, rfl, b, _, 0, _, rfl, rfl, ht2, rfl, rfl, _, rfl, iteNe (ns (by decide)) ?_⟩
        dsimp only [tNext]
        refine ⟨_, rfl, b, _, 0, _, rfl, rfl, ht2, rfl, rfl, _, rfl, iteEq ?_⟩
        exact ⟨_, rfl, _, rfl, _, _, rfl, rfl, c1, _, rfl, _, rfl, _, _, rfl, rfl, c2, _, _, rfl, rfl, _, rfl, _, rfl, _, _, rfl, rfl, c3, (by show 2 ≤ sizeLine; decide), fun p3 H3 S3 n3 h3 => k H3 p3 (S12.trans S3) (S12.free n3) h3⟩
      · refine ⟨_, rfl, b, _, 0, _, rfl, rfl, ht2, rfl, rfl, _, rfl, iteEq ?_⟩
        exact ⟨_, rfl, _, rfl, _, _, rfl, rfl, c4, _, rfl, _, rfl, _, _, rfl, rfl, c3, (by show 2 ≤ sizeLine; decide), fun p3 H3 S3 n3 h3 => k H3 p3 (S12.trans S3) (S12.free n3) h3⟩
/-- an expression's value -/
def tv (g : Str → Int) (t : Tr) : Rat := ((wT g t).1 : Rat) / ((wT g t).2 : Rat)
def spWholeAt (K : PySem.W.Frag) (d : Nat) : Sp := fun vs H Q _ => ∃ (b dv : Addr) (t : Tr) (names : List Str) (g : Str → Int), vs = [.ref b, .ref dv] ∧ TrAt K H t b ∧ TrOk names d t ∧ VlAt H dv names g ∧ ∀ H', Same H H' → (∀ n : Int, tv g t = (n : Rat) → Q (.int n) H') ∧ ((∀ n : Int, tv g t ≠ (n : Rat)) → Q .non H')
theorem scWholeAt : FnScope ["_law_tree_here", "_law_values_here", "_law_above", "_law_under"] ["_law_tree_here", "_law_values_here"] (defScope sWholeAt) := ⟨rfl, rfl, rfl, by decide +kernel, rfl, by decide +kernel, by decide +kernel⟩
theorem ok_wholeAt {f : Addr} {fd : FuncData} (F : Fun K "_law_whole_at" "_law_whole_at" sWholeAt f fd) (d : Nat) (hd : d ≤ 6) (R : Cal P w K mg base (2 + d) "_law_worth" (spWorth K d) []) : FnOk P w K mg base CX0 (3 + d) f fd ["_law_tree_here", "_law_values_here"] (spWholeAt K d) := by
  have e5 : 3 + d = (2 + d) + 1 := by omega
  rw [e5]
  refine F.ok scWholeAt (fun vs H Q E h => ?_) (fun cdv A outer s H vs Q E hr h => ?_)
  · obtain ⟨b, dv, t, names, g, rfl, _⟩ := h
    rfl
  · obtain ⟨b, dv, t, names, g, rfl, ht, tk, ⟨kvs, hv, vo, hk, hg⟩, k⟩ := h
    refine ⟨_, pss_cons (ps_asg (pe_c R hr (by omega) rfl (pa_cons (pv 0) (pa_cons (pv 1) pa_nil))) (pg_tup rfl (pgs_cons (pg_name (i := 2) scWholeAt.nd rfl (Or.inl rfl)) (pgs_cons (pg_name (i := 3) scWholeAt.nd rfl (Or.inl rfl)) pgs_nil))))
      (pss_one (ps_ret (pe_ifExp (pt_cmpR op_eq (pe_op op_modN (pv 2) (pv 3)) pe_int (nomark _)) (pe_op op_fdivX (pv 2) (pv 3)) pe_non))), ?_⟩
    obtain ⟨w1, w2, w3⟩ := wd_of (names := names) (g := g) (fun z hz => (hg z hz).2) d t tk
    have bL := bW_le hd
    refine seq_asgG ⟨_, rfl, _, rfl, b, dv, t, names, g, rfl, ht, tk, ⟨kvs, hv, vo, hk, hg⟩, fun H1 p S1 n1 h1 => ⟨p, _, rfl, SqT.of h1, rfl, _, _, rfl, _, _, rfl, rfl, ?_⟩⟩
    have ur : ((wT g t).2 : Rat) ≠ 0 := fun e => by
      have := Rat.intCast_inj.mp (e.trans (by rfl : (0 : Rat) = ((0 : Int) : Rat)))
      omega
    refine ret_of ⟨_, rfl, _, rfl, _, _, rfl, rfl, (show (wT g t).2 ≠ 0 by omega), rfl, _, rfl, iteD (fun h => ?_) (fun h => ?_)⟩
    · have h0 : (wT g t).1.fmod (wT g t).2 = 0 := by injection h
      have dv0 := Int.dvd_of_fmod_eq_zero h0
      refine ⟨_, rfl, _, rfl, _, _, rfl, rfl, ⟨by omega, ?_⟩, ?_⟩
      · have uu := ud_of (g := g) d t tk
        exact Nat.lt_of_lt_of_le (PySem.Flt.log2_lt_of (by unfold bU; exact Nat.mul_pos (by decide) (Nat.pow_pos (by decide))) uu) (Nat.le_trans (bU_le hd) (by decide))
      · refine (k H1 S1).1 _ ?_
        have e2 : (wT g t).1 = (wT g t).2 * ((wT g t).1.fdiv (wT g t).2) := by
          rw [fdiv_dvd (by omega) dv0]
          have := Int.mul_ediv_cancel' dv0
          omega
        unfold tv
        have e3 : ((wT g t).1 : Rat) = ((wT g t).2 : Rat) * (((wT g t).1.fdiv (wT g t).2 : Int) : Rat) := by
          rw [← Rat.intCast_mul, ← e2]
        grind
    · refine (k H1 S1).2 fun n hn => h ?_
      unfold tv at hn
      have e3 : ((wT g t).1 : Rat) = (((wT g t).2 * n : Int) : Rat) := by
        rw [Rat.intCast_mul]
        grind
      have e4 := Rat.intCast_inj.mp e3
      show V.int ((wT g t).1.fmod (wT g t).2) = V.int 0
      rw [e4, Int.mul_fmod_right]
end
end E2

set_option Elab.async false
set_option linter.all false
set_option maxRecDepth 100000
set_option maxHeartbeats 1000000
/-! sorted(t), t a tuple of texts -/
namespace L2
open PySem PySem.Spec PyProof.Rows
def rSortedTS (K : PySem.W.Frag) : List V → Hp → VK → Prop := fun vs H Q => ∃ (a : Addr) (xs : List Str), vs = [V.ref a] ∧ SqT K H a (xs.map V.str) ∧ xs.length ≤ sizeLine ∧
  ∀ (ys : List Str), ys.Perm xs → sortedS ys = true → NewQ H (.lst (ys.map V.str)) Q
theorem cr_sortedTS {X : Cx} : CallR X (.builtin "sorted") (rSortedTS X.K) := by
  intro pins s σ H vs us Q I r h
  obtain ⟨a, xs, rfl, hs, hz, q⟩ := h
  obtain ⟨its, rv, tp, _⟩ := I.tuple hs
  obtain ⟨o, ho, hc, n, hd⟩ := tp
  have hlen0 := rv.length
  rw [List.length_map] at hlen0
  have hS := rv.strs
  rw [Vals.ref1 r]
  refine Calls.call_function_entry kind_sorted plain_sorted entry_sorted (args_sorted1 _) ?_
  unfold Builtin.«sorted»
  refine wpAny_bind (m := checkCount "sorted" 1 1 _) (wpAny_pure ?_)
  refine wpAny_bind (wpAny_collect_seq a (.inr rfl) ho hc hd (fun h' hk => ?_) (by rw [List.size_toArray]; omega))
  rw [List.toList_toArray]
  have I1 : Inv X pins σ H { s with heap := h' } := I.kept (t' := s.toks) hk
  refine wpAny_bind (wpAny_newList ?_ (by omega))
  have hoL : (h'.push (seqObj "list" its.toArray 0)).get? h'.objs.size = some (seqObj "list" its.toArray 0) := Heap.get?_push_size _ rfl
  show wpAny _ _ _ _ _ { s with heap := h'.push (seqObj "list" its.toArray 0) }
  refine wpAny_bind (wpAny_holding (wpAny_call_entry slot_list_sort ⟨_, hoL, rfl⟩ entry_list_sort (list_sort_treeKAny strKind_oneLt hoL hS.keysOf (fun v₁ v₂ rest e => keyKind_strs (by rw [← e]; exact hS)) (by omega) fun st' hp hs => ⟨_, rfl, ?_⟩) (args_list_sort _)))
  obtain ⟨ys, h1, h2, h3⟩ := sorted_out_str hS hp hs
  obtain ⟨ep, he'⟩ := sortedHeap_at (vs := its) (out := (arrOf st').map (·.2)) hoL
  have hlen : (ys.map V.str).length ≤ sizeLine := by rw [List.length_map, h2.length_eq]; exact hz
  refine wpAny_pure ⟨_, rfl, .ref h'.objs.size, upd H h'.objs.size (.lst (ys.map V.str)), I1.laid (t' := s.toks) (fun b u e => ?_) (Nat.le_refl _) ⟨hlen, _, ep, vals_of_strs h1, he'⟩, rfl, (q ys h2 h3).at I1.fresh⟩
  have lt := Heap.lt_size e
  rw [sortedHeap_old (Nat.ne_of_lt lt) (by rw [size_push']; exact Nat.lt_succ_of_lt lt)]
  exact Heap.get?_push_of_some _ e
end L2

set_option Elab.async false
set_option linter.all false
set_option maxRecDepth 100000
set_option maxHeartbeats 1000000
/-! for .. in d.items(), where d may be walked already; products of forms: the mathematics -/
namespace L2
open PySem PySem.Spec PyProof.Rows
def tLockO (t : TS) : TS := fun D σ H => tLock t D σ H ∨ t D σ H
theorem ps_lockO {X : Cx} {st : Stmt} {t : TS} (h : PS X st t) : PS X st (tLockO t) :=
  ⟨fun pins s σ H D I hw => hw.elim (fun q => (ps_lock h).run pins s σ H D I q) fun q => h.run pins s σ H D I q⟩
/-- Hl is H, d's dict locked -/
structure Lk (d : Addr) (kvs : List (List Key × V)) (od : Obj) (H Hl : Hp) : Prop where
  at_ : Hl d = some (.frz od (.dT kvs))
  off : ∀ b, b ≠ d → Hl b = H b
theorem SqT.agree {K : PySem.W.Frag} {H H' : Hp} {a d : Addr} {xs : List V} {u : HO} (h : SqT K H a xs) (hd : H d = some u) (n1 : u ≠ .tup xs) (n2 : ∀ o, u ≠ .frz o (.tup xs)) (A : ∀ b, b ≠ d → H' b = H b) : SqT K H' a xs := by
  rcases h with (h | ⟨o, h⟩) | h
  · refine .inl (.inl ?_)
    rw [A a]
    · exact h
    · rintro rfl
      rw [hd] at h
      exact n1 (Option.some.inj h)
  · refine .inl (.inr ⟨o, ?_⟩)
    rw [A a]
    · exact h
    · rintro rfl
      rw [hd] at h
      exact n2 o (Option.some.inj h)
  · exact .inr h
theorem for_itemsO {K : PySem.W.Frag} {H : Hp} {d : Addr} {kvs : List (List Key × V)} {fm : Fm} {td : TE} {g : TG} {tb : TS} {D : Ends} {σ : St} (hd : Rd H d (.dT kvs)) (hf : FmKv K H kvs fm)
    (hte : ∀ (od : Obj) (Hl : Hp), Lk d kvs od H Hl → ∀ R : VK, R (.ref d) Hl → td σ Hl R) (Pv : Obj → Hp → Nat → St → Hp → Prop) (h0 : ∀ od Hl, Lk d kvs od H Hl → Pv od Hl 0 σ Hl)
    (hl : ∀ od Hl, Lk d kvs od H Hl → ∀ i σ' H', Pv od Hl i σ' H' → H' d = some (.frz od (.dT kvs)) ∧ ∀ b xs, SqT K Hl b xs → SqT K H' b xs)
    (hs : ∀ (od : Obj) (Hl : Hp), Lk d kvs od H Hl → ∀ (i : Nat) (m : Mon) (q : Rat) (σ' : St) (H' : Hp) (T b a : Addr) (rt : VK) (bk : St → Hp → Prop), fm[i]? = some (m, q) → Pv od Hl i σ' H' → H' T = none → H' b = some (.tup ((kS m).map kV)) → SqT K H' a (frac q) →
      g (.ref T) σ' (upd H' T (.tup [.ref b, .ref a])) fun σ2 H2 => tb { nx := Pv od Hl (i + 1), rt := rt, bk := bk, ct := Pv od Hl (i + 1) } σ2 H2)
    (he : ∀ od Hl, Lk d kvs od H Hl → ∀ σ' H' Hu, Pv od Hl fm.length σ' H' → Hu d = H d → (∀ b, b ≠ d → Hu b = H' b) → D.nx σ' Hu) : tLockO (tFor (iItemsT td) g tb) D σ H := by
  have core : ∀ (od : Obj) (Hl : Hp) (L : Lk d kvs od H Hl) (D' : Ends), FmKv K Hl kvs fm → (∀ σ' H', Pv od Hl fm.length σ' H' → D'.nx σ' H') → tFor (iItemsT td) g tb D' σ Hl := by
    intro od Hl L D' hf0 hnx
    refine hte od Hl L _ ⟨d, od, kvs, rfl, L.at_, for_it walk_itemsT (Pv od Hl) (h0 od Hl L) (fun i σ' H' _ p => (hl od Hl L i σ' H' p).1) ?_ ?_⟩
    · rintro i x σ' H' H'' hi p ⟨T, k, v, b, hkv, rfl, nT, hb, rfl⟩
      obtain ⟨m, q, a, hm, e, sa⟩ := hf0.get hkv
      obtain ⟨rfl, rfl⟩ := Prod.mk.inj e
      exact hs od Hl L i m q σ' H' T b a _ _ hm p nT hb ((hl od Hl L i σ' H' p).2 _ _ sa)
    · intro σ' H' p
      rw [hf.length] at p
      exact hnx σ' H' p
  rcases hd with hd | ⟨o, hd⟩
  · refine .inl ⟨d, .dT kvs, hd, trivial, fun od => ?_⟩
    have L : Lk d kvs od H (upd H d (.frz od (.dT kvs))) := ⟨upd_same, fun b n => upd_ne n⟩
    refine core od _ L _ (hf.imp fun b x s => s.agree hd (fun z => nomatch z) (fun _ z => nomatch z) L.off) fun σ' H' p => ⟨(hl od _ L _ σ' H' p).1, ?_⟩
    exact he od _ L σ' H' _ p (by rw [upd_same, hd]) fun b n => upd_ne n
  · have L : Lk d kvs o H H := ⟨hd, fun _ _ => rfl⟩
    refine .inr (core o H L D hf fun σ' H' p => he o H L σ' H' H' p ?_ fun _ _ => rfl)
    rw [(hl o H L _ σ' H' p).1, hd]
/-- a product of two terms, its letters sorted -/
def MulT (z : Mon × Rat) (xy : (Mon × Rat) × (Mon × Rat)) : Prop := z.1.Perm (xy.1.1 ++ xy.2.1) ∧ sortedS z.1 = true ∧ z.2 = xy.1.2 * xy.2.2
def allP (a b : Fm) : List ((Mon × Rat) × (Mon × Rat)) := a.flatMap fun x => b.map fun y => (x, y)
theorem allP_snoc (a b : Fm) (x : Mon × Rat) : allP (a ++ [x]) b = allP a b ++ b.map fun y => (x, y) := by
  unfold allP
  rw [List.flatMap_append]
  simp
theorem allP_length (a b : Fm) : (allP a b).length = a.length * b.length := by
  unfold allP
  induction a with
  | nil => simp
  | cons x a ih => rw [List.flatMap_cons, List.length_append, List.length_map, ih, List.length_cons, Nat.add_mul]; omega
theorem evM_perm (σ : Str → Int) {m n : Mon} (h : m.Perm n) : evM σ m = evM σ n := prodI_perm (h.map σ)
theorem evM_append (σ : Str → Int) (m n : Mon) : evM σ (m ++ n) = evM σ m * evM σ n := by
  unfold evM
  rw [List.map_append, prodI_append]
theorem ev_mulT (σ : Str → Int) {l : Fm} {ps : List ((Mon × Rat) × (Mon × Rat))} (h : Paired MulT l ps) : ev σ l = (ps.map fun p => p.1.2 * p.2.2 * (evM σ p.1.1 : Rat) * (evM σ p.2.1 : Rat)).sum := by
  induction h with
  | nil => rfl
  | @cons z p l ps r t ih =>
    show z.2 * (evM σ z.1 : Rat) + ev σ l = _
    rw [List.map_cons, List.sum_cons, ih, evM_perm σ r.1, evM_append, r.2.2, Rat.intCast_mul]
    grind
theorem sum_row (σ : Str → Int) (x : Mon × Rat) : ∀ b : Fm, ((b.map fun y => (x, y)).map fun p => p.1.2 * p.2.2 * (evM σ p.1.1 : Rat) * (evM σ p.2.1 : Rat)).sum = x.2 * (evM σ x.1 : Rat) * ev σ b
  | [] => by show (0 : Rat) = _ * 0; grind
  | y :: b => by
    have ih := sum_row σ x b
    rw [List.map_cons, List.map_cons, List.sum_cons, ih]
    show _ = x.2 * _ * (y.2 * _ + ev σ b)
    grind
theorem sum_all (σ : Str → Int) (b : Fm) : ∀ a : Fm, ((allP a b).map fun p => p.1.2 * p.2.2 * (evM σ p.1.1 : Rat) * (evM σ p.2.1 : Rat)).sum = ev σ a * ev σ b
  | [] => by show (0 : Rat) = 0 * _; grind
  | x :: a => by
    have ih := sum_all σ b a
    unfold allP at ih ⊢
    rw [List.flatMap_cons, List.map_append, List.sum_append, ih, sum_row]
    show _ = (x.2 * _ + ev σ a) * _
    grind
theorem ev_prod (σ : Str → Int) {l a b : Fm} (h : Paired MulT l (allP a b)) : ev σ l = ev σ a * ev σ b := by
  rw [ev_mulT σ h, sum_all]
end L2

set_option Elab.async false
set_option linter.all false
set_option maxRecDepth 100000
set_option maxHeartbeats 1000000
/-! a * b -/
namespace E2
open PySem PySem.Spec PyProof.Rows L2
open C8 (Cal Mak Met InsC pe_c pe_mt pe_mt0 call_isC clsBody)
structure Bt3 (mg : Str → Option Value) : Prop where
  tup_ : mg "tuple" = none
  srt_ : mg "sorted" = none
structure SzM (fm1 fm2 : Fm) : Prop where
  n1 : (fm1.map (·.1)).Nodup
  n2 : (fm2.map (·.1)).Nodup
  len : fm1.length * fm2.length < sizeLine
  keys : ∀ x ∈ fm1, ∀ y ∈ fm2, x.1.length + y.1.length ≤ sizeLine
  bq : ∃ D M E N, 0 < D ∧ 0 < E ∧ D * E < 2 ^ 4000 ∧ fm1.length * fm2.length * (M * N) < 2 ^ 400000 ∧ M * N < 2 ^ 400000 ∧ M < 2 ^ 400000 ∧ N < 2 ^ 400000 ∧ (∀ x ∈ fm1, Bq D M x.2) ∧ ∀ x ∈ fm2, Bq E N x.2
def spMul (K : PySem.W.Frag) (C : Addr) : Sp := fun vs H Q _ => ∃ a v fm1 fm2, vs = [.ref a, v] ∧ FmAt K C H a fm1 ∧ RightV K C H v fm2 ∧ SzM fm1 fm2 ∧ ∀ H' b l, Same H H' → H b = none → Paired MulT l (allP fm1 fm2) → FmAt K C H' b (mapM nz id (addTo [] l)) → Q (.ref b) H'
theorem sort_cat {K : PySem.W.Frag} {i j : Nat} {a b : Addr} {m n : List Str} {σ : L2.St} {H : Hp} {Q : VK} (h4 : σ[i]? = some (some (.ref a))) (h6 : σ[j]? = some (some (.ref b))) (sa : SqT K H a (m.map V.str)) (sb : SqT K H b (n.map V.str)) (hz : m.length + n.length ≤ sizeLine)
    (k : ∀ H' p (ys : List Str), Same H H' → ys.Perm (m ++ n) → sortedS ys = true → H' p = some (.tup (ys.map V.str)) → Q (.ref p) H') : tThen (tCB (rSortedTS K) (tCons (tOp (rCatA K) (tVar i) (tVar j)) tNil)) (kTup K) σ H Q := by
  have fin : ∀ H1 c, Same H H1 → SqT K H1 c ((m ++ n).map V.str) → rSortedTS K [.ref c] H1 (fun x H2 => kTup K x H2 Q) := fun H1 c S s =>
    ⟨c, m ++ n, rfl, s, by rw [List.length_append]; exact hz, fun ys p1 p2 p H2 S2 np hp => .inl ⟨p, _, rfl, SqL.of hp, fun q nq => k _ q ys ((S.trans S2).trans (Same.upd nq)) p1 p2 upd_same⟩⟩
  refine ⟨_, h4, _, h6, a, b, _, _, rfl, rfl, sa, sb, by rw [List.length_map, List.length_map]; exact hz, fun e => ?_, fun e1 e2 => ?_, fun e1 e2 p np => ?_⟩
  · have e' : m = [] := List.map_eq_nil_iff.mp e
    exact fin H b (Same.refl H) (by rw [e']; exact sb)
  · have e' : n = [] := List.map_eq_nil_iff.mp e2
    exact fin H a (Same.refl H) (by rw [e', List.append_nil]; exact sa)
  · exact fin _ p (Same.upd np) (by rw [List.map_append]; exact SqT.of upd_same)
theorem bq_mulT {D M E N : Nat} {l : Fm} {ps : List ((Mon × Rat) × (Mon × Rat))} (h : Paired MulT l ps) (hp : ∀ p ∈ ps, Bq D M p.1.2 ∧ Bq E N p.2.2) : ∀ z ∈ l, Bq (D * E) (M * N) z.2 := by
  induction h with
  | nil => intro z hz; exact absurd hz List.not_mem_nil
  | @cons z p l ps r t ih =>
    intro y hy
    rcases List.mem_cons.mp hy with rfl | hy
    · rw [r.2.2]
      exact (hp p (List.mem_cons.mpr (.inl rfl))).1.mul (hp p (List.mem_cons.mpr (.inl rfl))).2
    · exact ih (fun p h => hp p (List.mem_cons.mpr (.inr h))) y hy
theorem mem_allP {a b : Fm} {p : (Mon × Rat) × (Mon × Rat)} (h : p ∈ allP a b) : p.1 ∈ a ∧ p.2 ∈ b := by
  unfold allP at h
  obtain ⟨x, hx, h⟩ := List.mem_flatMap.mp h
  obtain ⟨y, hy, rfl⟩ := List.mem_map.mp h
  exact ⟨hx, hy⟩
theorem seq_lockO {wi : TI} {g : TG} {tb u : TS} {D : Ends} {σ : L2.St} {H : Hp} (h : tLockO (tFor wi g tb) { D with nx := u D } σ H) : tSeq (tLockO (tFor wi g tb)) u D σ H := h
section
variable {P : Program} {w : World} {K : PySem.W.Frag} {mg : Str → Option Value} {base : Heap} {C : Addr}
theorem scMul : FnScope ["self", "other", "right", "parts", "mine", "worth", "its", "factor", "names", "grown"] ["self", "other"] (defScope sMul) := ⟨rfl, rfl, rfl, by decide +kernel, rfl, by decide +kernel, by decide +kernel⟩
theorem ok_mul {f : Addr} {fd : FuncData} (F : Fun K "__mul__" "Form.__mul__" sMul f fd) (T : Fx P w K mg base C) (B : Bt3 mg) (R : Cal P w K mg base 4 "right_side" (spRight K C) []) (Fs : Cal P w K mg base 2 "fraction_sum" (spFrac K (· + ·)) []) (Fp : Cal P w K mg base 2 "fraction_product" (spFrac K (· * ·)) []) (Wo : Cal P w K mg base 1 "without_noughts" (spWithout K) []) : FnOk P w K mg base CX0 5 f fd ["self", "other"] (spMul K C) := by
  refine F.ok scMul (fun vs H Q E h => ?_) (fun cdv A outer s H vs Q E hr h => ?_)
  · obtain ⟨a, v, fm1, fm2, rfl, _⟩ := h
    rfl
  · obtain ⟨a, v0, fm1, fm2, rfl, ⟨dx, d, kvs, ha, hd, hf⟩, hv, Z, k⟩ := h
    have u1 := Nat.lt_of_le_of_lt (Nat.add_le_add_left (by decide : 1 ≤ 64) _) hr.units
    refine ⟨_, pss_cons (ps_set (i := 2) scMul.nd rfl (Or.inl rfl) (pe_c R hr (by decide) rfl (pa_cons (pv 1) pa_nil)))
      (pss_cons (ps_set (i := 3) scMul.nd rfl (Or.inl rfl) pe_dnewT)
      (pss_cons (ps_lockO (ps_for PassesOwn.never rfl (pi_itemsT (pe_fld (pv 0) rfl)) (pg_tup rfl (pgs_cons (pg_name (i := 4) scMul.nd rfl (Or.inl rfl)) (pgs_cons (pg_name (i := 5) scMul.nd rfl (Or.inl rfl)) pgs_nil)))
        (pss_one (ps_lockO (ps_for PassesOwn.never rfl (pi_itemsT (pe_fld (pv 2) rfl)) (pg_tup rfl (pgs_cons (pg_name (i := 6) scMul.nd rfl (Or.inl rfl)) (pgs_cons (pg_name (i := 7) scMul.nd rfl (Or.inl rfl)) pgs_nil)))
          (pss_cons (ps_set (i := 8) scMul.nd rfl (Or.inl rfl) (pe_tupleOf (by rfl) B.tup_ (pe_callB cr_sortedTS (by rfl) B.srt_ (by decide +kernel) (pa_cons (pe_op op_catA (pv 4) (pv 6)) pa_nil))))
          (pss_cons (ps_set (i := 9) scMul.nd rfl (Or.inl rfl) (pe_c Fp hr (by decide) rfl (pa_cons (pv 5) (pa_cons (pv 7) pa_nil))))
          (pss_one (ps_dput u1 (pv 3) (pv 8) (pe_c Fs hr (by decide) rfl (pa_cons (pe_dget2 u1 (pv 3) (pv 8) (pe_tupS (pa_cons pe_int (pa_cons pe_int pa_nil))) ⟨rfl, rfl, rfl, rfl⟩) (pa_cons (pv 9) pa_nil))) rfl))))))))) 
      (pss_one (ps_ret (pe_mkF T.maks hr (by decide) rfl (pe_c Wo hr (by decide) rfl (pa_cons (pv 3) pa_nil))))))), ?_⟩
    refine seq_asg (call_one rfl (right_of hv fun H0 b S0 hb => ?_))
    refine seq_asg (fun D nD => ?_)
    obtain ⟨dx2, d2, kvs2, hb1, hd2, hf2⟩ := hb
    have hd0 := S0 _ _ hd
    have neD : d ≠ D := by rintro rfl; rw [nD] at hd0; cases hd0
    have neD2 : d2 ≠ D := by rintro rfl; rw [nD] at hd2; cases hd2
    have nebD : b ≠ D := by rintro rfl; rw [nD] at hb1; cases hb1
    have nebd : b ≠ d := by rintro rfl; rw [hd0] at hb1; cases hb1
    have nebd2 : b ≠ d2 := by rintro rfl; rw [hd2] at hb1; cases hb1
    have nad : a ≠ d := ne_of ha hd (by intro z; cases z)
    have naD : a ≠ D := by rintro rfl; rw [S0 _ _ ha] at nD; cases nD
    have SN : Same H0 (upd H0 D (.dT [])) := Same.upd nD
    have hDn : (upd H0 D (.dT [])) D = some (.dT []) := upd_same
    have hoff : ∀ c, c ≠ D → (upd H0 D (.dT [])) c = H0 c := fun c n => upd_ne n
    generalize upd H0 D (.dT []) = Hn at SN hDn hoff ⊢
    obtain ⟨Dn, M, En, N, p1', p2', bDE, b1', b2', b3, b4, hq1, hq2⟩ := Z.bq
    have hdn := SN _ _ hd0
    have lkD : ∀ {od Hl}, Lk d kvs od Hn Hl → Hl D = some (.dT []) := fun {od Hl} L => by rw [L.off D (Ne.symm neD)]; exact hDn
    have lkS : ∀ {od Hl}, Lk d kvs od Hn Hl → ∀ c xs, SqT K Hn c xs → SqT K Hl c xs := fun {od Hl} L c xs s => s.agree hdn (fun z => nomatch z) (fun _ z => nomatch z) L.off
    have rd2 : ∀ {od Hl}, Lk d kvs od Hn Hl → Rd Hl d2 (.dT kvs2) := fun {od Hl} L => by
      by_cases e : d2 = d
      · subst e
        rw [hd0] at hd2
        cases hd2
        exact .inr ⟨od, L.at_⟩
      · exact .inl (by rw [L.off d2 e]; exact SN _ _ hd2)
    refine seq_lockO (for_itemsO (kvs := kvs) (fm := fm1) (d := d) (.inl hdn) ((hf.same S0).same SN) (fun od Hl L R h => ⟨_, rfl, a, C, dx, _, _, rfl, by rw [L.off a nad]; exact SN _ _ (S0 _ _ ha), T.cl, T.na, rfl, h⟩)
      (fun od Hl i σ' H' => (∃ u4 u5 u6 u7 u8 u9, σ' = [some (.ref a), some v0, some (.ref b), some (.ref D), u4, u5, u6, u7, u8, u9]) ∧ SameB D Hl H' ∧ ∃ kvs' l, H' D = some (.dT kvs') ∧ FmKv K H' kvs' (addTo [] l) ∧ Paired MulT l (allP (fm1.take i) fm2)) ?_ ?_ ?_ ?_)
    · intro od Hl L
      exact ⟨⟨none, none, none, none, none, none, rfl⟩, SameB.refl _ _, [], [], lkD L, .nil, .nil⟩
    · rintro od Hl L i σ' H' ⟨_, S, _⟩
      exact ⟨S _ _ neD L.at_, fun c xs s => s.sameB S (lkD L)⟩
    · rintro od Hl L i m q σ' H' T1 k1 a1 rt bk hm ⟨⟨u4, u5, u6, u7, u8, u9, rfl⟩, S, kvs', l, hD', kv', pl⟩ nT hk1 sa1
      have hq := hq1 _ (List.mem_of_getElem? hm)
      have hmm := List.mem_of_getElem? hm
      refine ⟨T1, _, rfl, SqT.of upd_same, rfl, _, _, rfl, _, _, rfl, rfl, ?_⟩
      have S2 : Same H' (upd H' T1 (.tup [.ref k1, .ref a1])) := Same.upd nT
      have hD1 := S2 _ _ hD'
      have SB := S.to S2
      have kv1 := kv'.same S2
      have sa1 := sa1.same S2
      have hk1 := S2 _ _ hk1
      generalize upd H' T1 (.tup [.ref k1, .ref a1]) = H1 at S2 hD1 SB kv1 sa1 hk1 ⊢
      have rd1 : Rd H1 d2 (.dT kvs2) := by
        rcases rd2 L with h | ⟨o, h⟩
        · exact .inl (SB _ _ neD2 h)
        · exact .inr ⟨o, SB _ _ neD2 h⟩
      have hf21 : FmKv K H1 kvs2 fm2 := (hf2.same SN).imp fun c x s => (lkS L _ _ s).sameB SB (lkD L)
      have hb11 : H1 b = some (.ins C dx2 [("_parts", .ref d2)]) := SB _ _ nebD (by rw [L.off b nebd]; exact SN _ _ hb1)
      have lk2S : ∀ {od2 Hl2}, Lk d2 kvs2 od2 H1 Hl2 → ∀ c xs, SqT K H1 c xs → SqT K Hl2 c xs := fun {od2 Hl2} L2 c xs s => by
        rcases rd1 with h | ⟨o, h⟩
        · exact s.agree h (fun z => nomatch z) (fun _ z => nomatch z) L2.off
        · exact s.agree h (fun z => nomatch z) (fun _ z => nomatch z) L2.off
      have lk2D : ∀ {od2 Hl2}, Lk d2 kvs2 od2 H1 Hl2 → Hl2 D = some (.dT kvs') := fun {od2 Hl2} L2 => by rw [L2.off D (Ne.symm neD2)]; exact hD1
      refine for_itemsO (kvs := kvs2) (fm := fm2) (d := d2) rd1 hf21 (fun od2 Hl2 L2 R h => ⟨_, rfl, b, C, dx2, _, _, rfl, by rw [L2.off b nebd2]; exact hb11, T.cl, T.na, rfl, h⟩)
        (fun od2 Hl2 j σ' H' => (∃ u6 u7 u8 u9, σ' = [some (.ref a), some v0, some (.ref b), some (.ref D), some (.ref k1), some (.ref a1), u6, u7, u8, u9]) ∧ SameB D Hl2 H' ∧ ∃ kvs' l, H' D = some (.dT kvs') ∧ FmKv K H' kvs' (addTo [] l) ∧ Paired MulT l (allP (fm1.take i) fm2 ++ (fm2.take j).map fun y => ((m, q), y))) ?_ ?_ ?_ ?_
      · intro od2 Hl2 L2
        exact ⟨⟨u6, u7, u8, u9, rfl⟩, SameB.refl _ _, kvs', l, lk2D L2, kv1.imp fun c x s => lk2S L2 _ _ s, by rw [List.take_zero, List.map_nil, List.append_nil]; exact pl⟩
      · rintro od2 Hl2 L2 j σ' H'' ⟨_, S'', _⟩
        exact ⟨S'' _ _ neD2 L2.at_, fun c xs s => s.sameB S'' (lk2D L2)⟩
      · rintro od2 Hl2 L2 j m2 q2 σ' H'' T2 k2 a2 rt2 bk2 hm2 ⟨⟨u6, u7, u8, u9, rfl⟩, S'', kvs'', l'', hD'', kv'', pl''⟩ nT2 hk2 sa2
        have hm2m := List.mem_of_getElem? hm2
        have hqq := hq2 _ hm2m
        have T2S : Same H'' (upd H'' T2 (.tup [.ref k2, .ref a2])) := Same.upd nT2
        refine ⟨T2, _, rfl, SqT.of upd_same, rfl, _, _, rfl, _, _, rfl, rfl, ?_⟩
        have hD2 := T2S _ _ hD''
        have SB2 := S''.to T2S
        have kv2 := kv''.same T2S
        have sk1 : SqT K (upd H'' T2 (.tup [.ref k2, .ref a2])) k1 (m.map V.str) := ((lk2S L2 _ _ (SqT.of (by rw [← kS_kV]; exact hk1))).sameB S'' (lk2D L2)).same T2S
        have sk2 : SqT K (upd H'' T2 (.tup [.ref k2, .ref a2])) k2 (m2.map V.str) := SqT.of (by rw [← kS_kV]; exact T2S _ _ hk2)
        have sv1 : SqT K (upd H'' T2 (.tup [.ref k2, .ref a2])) a1 (frac q) := ((lk2S L2 _ _ sa1).sameB S'' (lk2D L2)).same T2S
        have sv2 := sa2.same T2S
        generalize upd H'' T2 (.tup [.ref k2, .ref a2]) = G0 at hD2 SB2 kv2 sk1 sk2 sv1 sv2 ⊢
        refine seq_asg (sort_cat rfl rfl sk1 sk2 (Z.keys _ hmm _ hm2m) fun G1 p1 ys S1 pm so hp1 => ?_)
        have pE : 0 < Dn * En := Nat.mul_pos p1' p2'
        have d1 : Dn ≤ Dn * En := Nat.le_mul_of_pos_right _ p2'
        have d2' : En ≤ Dn * En := Nat.le_mul_of_pos_left _ p1'
        refine seq_asg ⟨_, rfl, _, rfl, a1, a2, q, q2, rfl, sv1.same S1, sv2.same S1, Nat.lt_of_le_of_lt (hq.num_le p1') b3, Nat.lt_of_le_of_lt (hqq.num_le p2') b4, Nat.lt_of_le_of_lt (Nat.le_trans (hq.den_le p1') d1) bDE, Nat.lt_of_le_of_lt (Nat.le_trans (hqq.den_le p2') d2') bDE, fun p4 G2 S2' n4 h4 => ?_⟩
        refine ⟨_, rfl, D, rfl, .inr ⟨kvs'', .inl (S2' _ _ (S1 _ _ hD2))⟩, _, rfl, (by show 2 ≤ sizeLine; decide), fun t G3 S3 n5 h5 => ?_⟩
        have SG := (S1.trans S2').trans S3
        have hk3 : G3 p1 = some (.tup ((kS ys).map kV)) := by rw [kS_kV]; exact S3 _ _ (S2' _ _ hp1)
        have hD3 := SG _ _ hD2
        refine ⟨_, DGet.t hD3 hk3, ?_⟩
        have lps : l''.length = i * fm2.length + j := by
          have h1 := Paired.length pl''
          have li : (fm1.take i).length = i := by rw [List.length_take]; have := (List.getElem?_eq_some_iff.mp hm).1; omega
          have lj : (fm2.take j).length = j := by rw [List.length_take]; have := (List.getElem?_eq_some_iff.mp hm2).1; omega
          rw [List.length_append, allP_length, List.length_map, li, lj] at h1
          exact h1
        have hlt : i * fm2.length + j < fm1.length * fm2.length := by
          have h1 := (List.getElem?_eq_some_iff.mp hm).1
          have h2 := (List.getElem?_eq_some_iff.mp hm2).1
          have h3 : (i + 1) * fm2.length ≤ fm1.length * fm2.length := Nat.mul_le_mul_right _ h1
          rw [Nat.add_mul] at h3
          omega
        have bl : ∀ z ∈ l'', Bq (Dn * En) (M * N) z.2 := bq_mulT pl'' fun p hp => by
          rcases List.mem_append.mp hp with hp | hp
          · exact ⟨hq1 _ (List.mem_of_mem_take (mem_allP hp).1), hq2 _ (mem_allP hp).2⟩
          · obtain ⟨y, hy, rfl⟩ := List.mem_map.mp hp
            exact ⟨hq, hq2 _ (List.mem_of_mem_take hy)⟩
        obtain ⟨p0, e0, sp, bq0⟩ := get_or (kv2.same SG) ys (SqT.of h5) (bq_addTo l'' [] 0 (fun y hy => absurd hy List.not_mem_nil) bl)
        rw [e0]
        have le0 : 0 + l''.length * (M * N) < 2 ^ 400000 := by
          rw [Nat.zero_add, lps]
          exact Nat.lt_of_le_of_lt (Nat.mul_le_mul_right _ (Nat.le_of_lt hlt)) b1'
        have bqm := hq.mul hqq
        refine ⟨_, rfl, p0, p4, _, q * q2, rfl, sp, (SqT.of h4).same S3, Nat.lt_of_le_of_lt (bq0.num_le pE) le0, Nat.lt_of_le_of_lt (bqm.num_le pE) b2', Nat.lt_of_le_of_lt (bq0.den_le pE) bDE, Nat.lt_of_le_of_lt (bqm.den_le pE) bDE, fun p6 G4 S4 n6 h6 => ?_⟩
        have hD4 := S4 _ _ hD3
        have ll := length_addTo l'' []
        refine ⟨_, rfl, _, rfl, D, _, rfl, DPut.t hD4 (S4 _ _ hk3) (by rw [kv2.length]; rw [List.length_nil] at ll; have := Z.len; omega), ⟨_, _, _, _, rfl⟩, ((SB2.to SG).to S4).upd, _, l'' ++ [(ys, q * q2)], upd_same, ?_, ?_⟩
        · rw [addTo_snoc]
          exact (((kv2.same SG).same S4).put ys (SqT.of h6)).imp fun c x s => s.off hD4 (fun z => nomatch z) (fun _ z => nomatch z)
        · rw [take_snoc hm2, List.map_append, ← List.append_assoc]
          exact Paired.snoc pl'' ⟨pm, so, rfl⟩
      · rintro od2 Hl2 L2 σ' H'' Hu ⟨⟨u6, u7, u8, u9, rfl⟩, S'', kvs'', l'', hD'', kv'', pl''⟩ e1 e2
        refine ⟨⟨_, _, _, _, _, _, rfl⟩, fun c o nc h => ?_, kvs'', l'', by rw [e2 D (Ne.symm neD2)]; exact hD'', kv''.imp fun c x s => s.agree (S'' _ _ neD2 L2.at_) (fun z => nomatch z) (fun _ z => nomatch z) e2, ?_⟩
        · by_cases cd : c = d2
          · subst cd
            rw [e1]
            exact SB _ _ nc h
          · rw [e2 c cd]
            exact S'' _ _ nc (by rw [L2.off c cd]; exact SB _ _ nc h)
        · rw [take_snoc hm, allP_snoc]
          rw [List.take_length] at pl''
          exact pl''
    · rintro od Hl L σ' H' Hu ⟨⟨u4, u5, u6, u7, u8, u9, rfl⟩, S, kvs', l, hD', kv', pl⟩ e1 e2
      rw [List.take_length] at pl
      have SH : Same H Hu := by
        intro c o e
        have e0 := S0 _ _ e
        have nc : c ≠ D := by rintro rfl; rw [nD] at e0; cases e0
        by_cases cd : c = d
        · subst cd
          rw [e1]
          exact SN _ _ e0
        · rw [e2 c cd]
          exact S _ _ nc (by rw [L.off c cd]; exact SN _ _ e0)
      have ll : (addTo [] l).length ≤ fm1.length * fm2.length := by
        have h1 := length_addTo l []
        have h2 := Paired.length pl
        rw [allP_length] at h2
        rw [List.length_nil] at h1
        omega
      show tRet (tMkF C (tCall (spWithout K) [] C8.E0 (tCons (tVar 3) tNil))) _ _ _
      refine ret_mkF ?_
      refine call_one rfl ⟨D, kvs', addTo [] l, rfl, by rw [e2 D (Ne.symm neD)]; exact hD', kv'.imp fun c x s => s.agree (S _ _ neD L.at_) (fun z => nomatch z) (fun _ z => nomatch z) e2, nodup_addTo _ _ List.nodup_nil, Nat.le_of_lt (Nat.lt_of_le_of_lt ll Z.len), fun H4 D4 kvs4 S4 nD4 hD4 kv4 b5 dx5 H5 S5 nb5 hb5 => ?_⟩
      exact k H5 b5 l ((SH.trans S4).trans S5) ((SH.trans S4).free nb5) pl ⟨dx5, D4, kvs4, hb5, S5 _ _ hD4, kv4.same S5⟩
end
end E2

set_option Elab.async false
set_option linter.all false
set_option maxRecDepth 100000
set_option maxHeartbeats 1000000
/-! a.at(values) -/
namespace L2
open PySem PySem.Spec PyProof.Rows
def rLcm : List V → Hp → VK → Prop := fun vs H Q => ∃ a b : Nat, vs = [.int (a : Int), .int (b : Int)] ∧ 0 < a ∧ a < 2 ^ 64 ∧ b < 2 ^ 64 ∧ Q (.int ((Nat.lcm a b : Nat) : Int)) H
theorem cr_lcm {X : Cx} : CallR X (.builtin "math.lcm") rLcm := by
  intro pins s σ H vs us Q I r h
  obtain ⟨a, b, rfl, ha0, ha, hb, q⟩ := h
  obtain ⟨t, u, rfl⟩ := Vals.int2 r
  have e1 : Nat.lcm 1 (a : Int).natAbs = a := by rw [Int.natAbs_natCast, Nat.lcm_comm, Nat.lcm_one_right]
  have e2 : (((Nat.lcm 1 (a : Int).natAbs).lcm (b : Int).natAbs : Nat) : Int) = ((Nat.lcm a b : Nat) : Int) := by rw [e1, Int.natAbs_natCast]
  have hl : Nat.lcm a b < 2 ^ 128 := by
    have h1 : Nat.lcm a b ≤ a * b := by
      unfold Nat.lcm
      exact Nat.div_le_self _ _
    exact Nat.lt_of_le_of_lt h1 (by rw [show (2 : Nat) ^ 128 = 2 ^ 64 * 2 ^ 64 by decide]; exact Nat.mul_lt_mul'' ha hb)
  exact PySem.W.mg_lcm_v (by rw [Int.natAbs_natCast]; exact ha) (by rw [Int.natAbs_natCast]; exact hb) e2 (by rw [Int.natAbs_natCast]; exact Nat.lt_of_lt_of_le (PySem.Flt.log2_lt_of (by decide) hl) (by decide)) ⟨.int _, H, I.tok _, ⟨_, rfl⟩, q⟩
/-- the least common multiple of the denominators -/
def cmD (fm : Fm) : Nat := fm.foldl (fun c x => Nat.lcm c x.2.den) 1
theorem cmD_snoc (fm : Fm) (x : Mon × Rat) : cmD (fm ++ [x]) = Nat.lcm (cmD fm) x.2.den := by
  unfold cmD
  rw [List.foldl_append]
  rfl
theorem foldl_dvd {D : Nat} : ∀ (fm : Fm) (c : Nat), c ∣ D → (∀ x ∈ fm, x.2.den ∣ D) → fm.foldl (fun c x => Nat.lcm c x.2.den) c ∣ D
  | [], _, h, _ => h
  | x :: r, c, h, hx => foldl_dvd r _ (Nat.lcm_dvd h (hx x (List.mem_cons.mpr (.inl rfl)))) fun y hy => hx y (List.mem_cons.mpr (.inr hy))
theorem cmD_dvd {D : Nat} {fm : Fm} (h : ∀ x ∈ fm, x.2.den ∣ D) : cmD fm ∣ D := foldl_dvd fm 1 (Nat.one_dvd _) h
theorem foldl_base : ∀ (fm : Fm) (c : Nat), c ∣ fm.foldl (fun c x => Nat.lcm c x.2.den) c
  | [], _ => Nat.dvd_refl _
  | x :: r, c => Nat.dvd_trans (Nat.dvd_lcm_left c x.2.den) (foldl_base r _)
theorem den_foldl : ∀ (fm : Fm) (c : Nat), ∀ x ∈ fm, x.2.den ∣ fm.foldl (fun c x => Nat.lcm c x.2.den) c
  | y :: r, c, x, h => by
    rcases List.mem_cons.mp h with rfl | h
    · exact Nat.dvd_trans (Nat.dvd_lcm_right c x.2.den) (foldl_base r _)
    · exact den_foldl r _ x h
theorem den_cmD {fm : Fm} : ∀ x ∈ fm, x.2.den ∣ cmD fm := den_foldl fm 1
theorem foldl_pos : ∀ (fm : Fm) (c : Nat), 0 < c → 0 < fm.foldl (fun c x => Nat.lcm c x.2.den) c
  | [], _, h => h
  | x :: r, c, h => foldl_pos r _ (Nat.lcm_pos h x.2.den_pos)
theorem cmD_pos (fm : Fm) : 0 < cmD fm := foldl_pos fm 1 (by decide)
/-- the sum that at builds -/
def totD (c : Nat) (g : Str → Int) : Fm → Int
  | [] => 0
  | x :: r => x.2.num * ((c : Int) / (x.2.den : Int)) * evM g x.1 + totD c g r
theorem totD_append (c : Nat) (g : Str → Int) : ∀ a b : Fm, totD c g (a ++ b) = totD c g a + totD c g b
  | [], b => by show totD c g b = 0 + totD c g b; omega
  | x :: a, b => by
    show _ + totD c g (a ++ b) = _ + totD c g a + totD c g b
    rw [totD_append c g a b, Int.add_assoc]
theorem totD_ev {c : Nat} (g : Str → Int) : ∀ fm : Fm, (∀ x ∈ fm, x.2.den ∣ c) → (totD c g fm : Rat) = (c : Rat) * ev g fm
  | [], _ => by show (0 : Rat) = _ * 0; grind
  | x :: r, h => by
    have ih := totD_ev g r fun y hy => h y (List.mem_cons.mpr (.inr hy))
    obtain ⟨k, hk⟩ := h x (List.mem_cons.mpr (.inl rfl))
    have hd : (x.2.den : Int) ≠ 0 := by have := x.2.den_nz; omega
    have e1 : (c : Int) / (x.2.den : Int) = (k : Int) := by rw [hk, Int.natCast_mul, Int.mul_ediv_cancel_left _ hd]
    show ((x.2.num * ((c : Int) / (x.2.den : Int)) * evM g x.1 + totD c g r : Int) : Rat) = (c : Rat) * (x.2 * _ + ev g r)
    rw [Rat.intCast_add, ih, e1, Rat.intCast_mul, Rat.intCast_mul, rat_num, Rat.intCast_natCast, hk, Rat.natCast_mul]
    grind
end L2

set_option Elab.async false
set_option linter.all false
set_option maxRecDepth 100000
set_option maxHeartbeats 1000000
/-! a.at(values) -/
namespace L2
open PySem PySem.Spec PyProof.Rows
theorem upd_back {H : Hp} {d : Addr} {u z : HO} (h : H d = some u) : upd (upd H d z) d u = H := by
  funext b
  by_cases c : b = d
  · subst c
    rw [upd_same, h]
  · rw [upd_ne c, upd_ne c]
theorem mem_sum : ∀ {l : List Nat} {n : Nat}, n ∈ l → n ≤ l.sum
  | x :: l, n, h => by
    rw [List.sum_cons]
    rcases List.mem_cons.mp h with rfl | h
    · omega
    · have := mem_sum h
      omega
/-- for .. in d.values(), the heap as it was -/
theorem for_valsO {K : PySem.W.Frag} {H : Hp} {d : Addr} {kvs : List (List Key × V)} {fm : Fm} {td : TE} {g : TG} {tb : TS} {D : Ends} {σ : L2.St} (hd : Rd H d (.dT kvs)) (hf : FmKv K H kvs fm)
    (hte : ∀ (od : Obj) (Hl : Hp), Lk d kvs od H Hl → ∀ R : VK, R (.ref d) Hl → td σ Hl R) (Pv : Nat → L2.St → Prop) (h0 : Pv 0 σ)
    (hs : ∀ (Hl : Hp) (i : Nat) (m : Mon) (q : Rat) (σ' : L2.St) (a : Addr) (rt : VK) (bk : L2.St → Hp → Prop), fm[i]? = some (m, q) → Pv i σ' → SqT K Hl a (frac q) →
      g (.ref a) σ' Hl fun σ2 H2 => tb { nx := fun σ3 H3 => H3 = Hl ∧ Pv (i + 1) σ3, rt := rt, bk := bk, ct := fun σ3 H3 => H3 = Hl ∧ Pv (i + 1) σ3 } σ2 H2)
    (he : ∀ σ', Pv fm.length σ' → D.nx σ' H) : tLockO (tFor (iValsT td) g tb) D σ H := by
  have core : ∀ (od : Obj) (Hl : Hp) (L : Lk d kvs od H Hl) (D' : Ends), FmKv K Hl kvs fm → (∀ σ', Pv fm.length σ' → D'.nx σ' Hl) → tFor (iValsT td) g tb D' σ Hl := by
    intro od Hl L D' hf0 hnx
    refine hte od Hl L _ ⟨d, od, kvs, rfl, L.at_, for_it walk_valuesT (fun i σ' H' => H' = Hl ∧ Pv i σ') ⟨rfl, h0⟩ (fun i σ' H' _ p => by rw [p.1]; exact L.at_) ?_ ?_⟩
    · rintro i x σ' H' H'' hi ⟨rfl, p⟩ ⟨rfl, k, hkv⟩
      obtain ⟨m, q, a, hm, e, sa⟩ := hf0.get hkv
      obtain ⟨rfl, rfl⟩ := Prod.mk.inj e
      exact hs _ i m q σ' a _ _ hm p sa
    · rintro σ' H' ⟨rfl, p⟩
      rw [hf.length] at p
      exact hnx σ' p
  rcases hd with hd | ⟨o, hd⟩
  · refine .inl ⟨d, .dT kvs, hd, trivial, fun od => ?_⟩
    have L : Lk d kvs od H (upd H d (.frz od (.dT kvs))) := ⟨upd_same, fun b n => upd_ne n⟩
    refine core od _ L _ (hf.imp fun b x s => s.agree hd (fun z => nomatch z) (fun _ z => nomatch z) L.off) fun σ' p => ⟨upd_same, ?_⟩
    rw [upd_back hd]
    exact he σ' p
  · exact .inr (core o H ⟨hd, fun _ _ => rfl⟩ D hf he)
end L2
namespace E2
open PySem PySem.Spec PyProof.Rows L2
open C8 (Cal Mak Met InsC pe_c pe_mt pe_mt0 call_isC clsBody)
def spLetters (K : PySem.W.Frag) (C : Addr) : Sp := fun vs H Q _ => ∃ a fm, vs = [.ref a] ∧ FmAt K C H a fm ∧ fm.length ≤ 1000 ∧ (fm.map fun x => x.1.length).sum ≤ 1000 ∧
  ∀ H' p (xs : List Str), Same H H' → H p = none → H' p = some (.lst (xs.map V.str)) → xs.length ≤ 1000 → sortedS xs = true → xs.Nodup → (∀ x, x ∈ xs ↔ ∃ m ∈ fm.map (·.1), x ∈ m) → Q (.ref p) H'
def spAt (K : PySem.W.Frag) (C : Addr) : Sp := fun vs H Q _ => ∃ (a d : Addr) (fm : Fm) (kvs : List (Key × V)) (g : Str → Int) (D M : Nat), vs = [.ref a, .ref d] ∧ FmAt K C H a fm ∧ fm.length ≤ 1000 ∧ (fm.map fun x => x.1.length).sum ≤ 1000 ∧ H d = some (.dK kvs) ∧ ValsOk kvs ∧ kvs.length ≤ 1000 ∧
  (∀ x ∈ fm, ∀ z ∈ x.1, valV kvs (Sum.inr z) = some (.int (g z)) ∧ (g z).natAbs < 2 ^ 400) ∧ 0 < D ∧ D < 2 ^ 64 ∧ M < 2 ^ 400000 ∧ (∀ x ∈ fm, Bq D M x.2) ∧
  ∀ H', Same H H' → (∀ n : Int, ev g fm = (n : Rat) → Q (.int n) H') ∧ ((∀ n : Int, ev g fm ≠ (n : Rat)) → Q .non H')
section
variable {P : Program} {w : World} {K : PySem.W.Frag} {mg : Str → Option Value} {base : Heap} {C : Addr}
theorem scAt : FnScope ["self", "values", "common", "_", "bottom", "total", "names", "top"] ["self", "values"] (defScope sAt) := ⟨rfl, rfl, rfl, by decide +kernel, rfl, by decide +kernel, by decide +kernel⟩
theorem ok_at {f : Addr} {fd : FuncData} (F : Fun K "at" "Form.at" sAt f fd) (T : Fx P w K mg base C) (hlcm : mg "lcm" = some (.builtin "math.lcm")) (Iv : Cal P w K mg base 2 "is_values" (spIsVals K) []) (Le : Met P w K mg base 2 C "letters" (spLetters K C) []) (Pr : Cal P w K mg base 1 "product_at" (spProd K) []) : FnOk P w K mg base CX0 3 f fd ["self", "values"] (spAt K C) := by
  refine F.ok scAt (fun vs H Q E h => ?_) (fun cdv A outer s H vs Q E hr h => ?_)
  · obtain ⟨a, d, fm, kvs, g, D, M, rfl, _⟩ := h
    rfl
  · obtain ⟨a, d, fm, kvs, g, D, M, rfl, ⟨dx, dp, kvp, ha, hd, hf⟩, hl, hsum, hv, vok, hk, hg, D0, D64, M4, hq, k⟩ := h
    refine ⟨_, pss_cons (ps_if (pt_not (pt_val (pe_c Iv hr (by decide) rfl (pa_cons (pv 1) (pa_cons (pe_mt0 Le hr (by decide) (pv 0)) pa_nil))))) (pss_one ps_never) pss_nil)
      (pss_cons (ps_set (i := 2) scAt.nd rfl (Or.inl rfl) pe_int)
      (pss_cons (ps_lockO (ps_for PassesOwn.never rfl (pi_valuesT (pe_fld (pv 0) rfl)) (pg_tup rfl (pgs_cons (pg_name (i := 3) scAt.nd rfl (Or.inl rfl)) (pgs_cons (pg_name (i := 4) scAt.nd rfl (Or.inl rfl)) pgs_nil)))
        (pss_one (ps_set (i := 2) scAt.nd rfl (Or.inl rfl) (pe_callBfun cr_lcm rfl hlcm (pa_cons (pv 2) (pa_cons (pv 4) pa_nil)))))))
      (pss_cons (ps_set (i := 5) scAt.nd rfl (Or.inl rfl) pe_int)
      (pss_cons (ps_lockO (ps_for PassesOwn.never rfl (pi_itemsT (pe_fld (pv 0) rfl)) (pg_tup rfl (pgs_cons (pg_name (i := 6) scAt.nd rfl (Or.inl rfl)) (pgs_cons (pg_tup rfl (pgs_cons (pg_name (i := 7) scAt.nd rfl (Or.inl rfl)) (pgs_cons (pg_name (i := 4) scAt.nd rfl (Or.inl rfl)) pgs_nil))) pgs_nil)))
        (pss_one (ps_set (i := 5) scAt.nd rfl (Or.inl rfl) (pe_op op_add (pv 5) (pe_op op_mulW (pe_op op_mulW (pv 7) (pe_op op_fdivW (pv 2) (pv 4))) (pe_c Pr hr (by decide) rfl (pa_cons (pv 6) (pa_cons (pv 1) pa_nil)))))))))
      (pss_one (ps_ret (pe_ifExp (pt_cmpR op_eq (pe_op op_modN (pv 5) (pv 2)) pe_int (nomark _)) (pe_op op_fdivW (pv 5) (pv 2)) pe_non))))))), ?_⟩
    have hin : ∀ (xs : List Str), (∀ x, x ∈ xs ↔ ∃ m ∈ fm.map (·.1), x ∈ m) → ∀ x ∈ xs, (valV kvs (Sum.inr x)).isSome = true := fun xs hm x hx => by
      obtain ⟨m, hm2, hxm⟩ := (hm x).mp hx
      obtain ⟨y, hy, rfl⟩ := List.mem_map.mp hm2
      rw [(hg y hy x hxm).1]
      rfl
    refine ⟨_, rfl, _, rfl, a, dx, _, rfl, ha, rfl, a, fm, rfl, ⟨dx, dp, kvp, ha, hd, hf⟩, hl, hsum, fun H1 p xs S1 np hp hxl hso hnd hmem => ?_⟩
    refine ⟨d, p, kvs, xs, rfl, S1 _ _ hv, vok, hk, SqL.of hp, hxl, hin xs hmem, fun H2 S2 => ⟨true, rfl, iteF ?_⟩⟩
    dsimp only [tNext]
    have SS := S1.trans S2
    have ha2 := SS _ _ ha
    have hd2 := SS _ _ hd
    have hv2 := SS _ _ hv
    have hf2 := hf.same SS
    have nad : a ≠ dp := ne_of ha hd (by intro z; cases z)
    have ndd : d ≠ dp := ne_of hv hd (by intro z; cases z)
    refine seq_asg (show (tSeq _ _ _ _ _) from ?_)
    have cdv : ∀ i, cmD (fm.take i) ∣ D := fun i => cmD_dvd fun x hx => (hq x (List.mem_of_mem_take hx)).den
    have cle : ∀ i, cmD (fm.take i) < 2 ^ 64 := fun i => Nat.lt_of_le_of_lt (Nat.le_of_dvd D0 (cdv i)) D64
    refine seq_lockO (for_valsO (kvs := kvp) (fm := fm) (d := dp) (.inl hd2) hf2 (fun od Hl L R h => ⟨_, rfl, a, C, dx, _, _, rfl, by rw [L.off a nad]; exact ha2, T.cl, T.na, rfl, h⟩)
      (fun i σ' => ∃ u3 u4, σ' = [some (.ref a), some (.ref d), some (.int (cmD (fm.take i) : Nat)), u3, u4, none, none, none]) ⟨none, none, rfl⟩ ?_ ?_)
    · rintro Hl i m q σ' a1 rt bk hm ⟨u3, u4, rfl⟩ sa
      have hq1 := hq _ (List.mem_of_getElem? hm)
      refine ⟨a1, _, rfl, sa, rfl, _, _, rfl, _, _, rfl, rfl, ?_⟩
      refine ⟨_, rfl, _, rfl, cmD (fm.take i), q.den, rfl, cmD_pos _, cle i, Nat.lt_of_le_of_lt (hq1.den_le D0) D64, rfl, some (.int q.num), some (.int q.den), ?_⟩
      rw [take_snoc hm, cmD_snoc]
      rfl
    rintro σ' ⟨u3, u4, rfl⟩
    rw [List.take_length]
    have c64 : cmD fm < 2 ^ 64 := by have := cle fm.length; rwa [List.take_length] at this
    have c0 := cmD_pos fm
    dsimp only
    refine seq_asg (show (tSeq _ _ _ _ _) from ?_)
    refine seq_lockO (for_itemsO (kvs := kvp) (fm := fm) (d := dp) (.inl hd2) hf2 (fun od Hl L R h => ⟨_, rfl, a, C, dx, _, _, rfl, by rw [L.off a nad]; exact ha2, T.cl, T.na, rfl, h⟩)
      (fun od Hl i σ' H' => Same Hl H' ∧ ∃ u3 u4 u6 u7, σ' = [some (.ref a), some (.ref d), some (.int (cmD fm : Nat)), u3, u4, some (.int (totD (cmD fm) g (fm.take i))), u6, u7]) ?_ ?_ ?_ ?_)
    · intro od Hl L
      exact ⟨Same.refl _, u3, u4, none, none, rfl⟩
    · rintro od Hl L i σ' H' ⟨S, _⟩
      exact ⟨S _ _ L.at_, fun b xs s => s.same S⟩
    · rintro od Hl L i m q σ' H' T1 b1 a1 rt bk hm ⟨S, u3, u4, u6, u7, rfl⟩ nT hb1 sa
      have hmem1 := List.mem_of_getElem? hm
      have hq1 := hq _ hmem1
      have hgm := hg _ hmem1
      have ST : Same H' (upd H' T1 (.tup [.ref b1, .ref a1])) := Same.upd nT
      have hdv : (upd H' T1 (.tup [.ref b1, .ref a1])) d = some (.dK kvs) := ST _ _ (S _ _ (by rw [L.off d ndd]; exact hv2))
      have hml : m.length ≤ 1000 := by
        have h1 : m.length ∈ fm.map fun x => x.1.length := List.mem_map.mpr ⟨(m, q), hmem1, rfl⟩
        exact Nat.le_trans (mem_sum h1) hsum
      have dq : (0 : Int) < (q.den : Int) := by have := q.den_pos; omega
      have dl : q.den < 2 ^ 64 := Nat.lt_of_le_of_lt (hq1.den_le D0) D64
      have cd : ((cmD fm : Int) / (q.den : Int)).natAbs < 2 ^ 64 := by
        have e : (cmD fm : Int) / (q.den : Int) = ((cmD fm / q.den : Nat) : Int) := (Int.natCast_ediv _ _).symm
        rw [e, Int.natAbs_natCast]
        exact Nat.lt_of_le_of_lt (Nat.div_le_self _ _) c64
      have nl : q.num.natAbs < 2 ^ 400000 := Nat.lt_of_le_of_lt (hq1.num_le D0) M4
      have pl := prod_lt g m fun y hy => (hgm y hy).2
      refine ⟨T1, _, rfl, SqT.of upd_same, rfl, _, _, rfl, _, _, rfl, ⟨a1, _, rfl, sa.same ST, rfl, _, _, rfl, _, _, rfl, rfl, rfl, ?_⟩⟩
      refine ⟨_, rfl, _, rfl, _, rfl, _, rfl, _, _, rfl, rfl, wide_div dq (by rw [Int.natAbs_natCast]; exact dl) (by decide) (by decide), _, _, rfl, rfl, cmw nl cd (by decide) (by decide) (by decide), ?_⟩
      refine ⟨_, rfl, _, rfl, b1, d, m, kvs, g, rfl, SqT.of (by rw [← kS_kV]; exact ST _ _ hb1), hdv, fun x hx => (hgm x hx).1, hml, fun x hx => (hgm x hx).2, _, _, rfl, rfl, cmw (wide_lt nl cd) pl (by decide) (by omega) (by omega), _, _, rfl, rfl, S.trans ST, u3, some (.int q.den), some (.ref b1), some (.int q.num), ?_⟩
      rw [take_snoc hm, totD_append]
      show _ = [_, _, _, _, _, some (V.int (_ + (q.num * ((cmD fm : Int) / (q.den : Int)) * evM g m + 0))), _, _]
      rw [Int.add_zero]
      rfl
    · rintro od Hl L σ' H' Hu ⟨S, u3, u4, u6, u7, rfl⟩ e1 e2
      rw [List.take_length]
      have SH : Same H Hu := by
        intro c o e
        have e0 := SS _ _ e
        by_cases cd : c = dp
        · subst cd
          rw [e1]
          exact e0
        · rw [e2 c cd]
          exact S _ _ (by rw [L.off c cd]; exact e0)
      have te := totD_ev g fm den_cmD
      have cz : (cmD fm : Int) ≠ 0 := by omega
      have crat : ((cmD fm : Nat) : Rat) ≠ 0 := fun e => by
        rw [← Rat.intCast_natCast] at e
        have := Rat.intCast_inj.mp (e.trans (by rfl : (0 : Rat) = ((0 : Int) : Rat)))
        omega
      dsimp only
      refine ret_of ⟨_, rfl, _, rfl, _, _, rfl, rfl, cz, rfl, _, rfl, iteD (fun h => ?_) (fun h => ?_)⟩
      · have h0 : (totD (cmD fm) g fm).fmod (cmD fm : Int) = 0 := by injection h
        have h1 : totD (cmD fm) g fm = (cmD fm : Int) * (totD (cmD fm) g fm / (cmD fm : Int)) := by
          have := Int.mul_ediv_cancel' (Int.dvd_of_fmod_eq_zero h0)
          omega
        refine ⟨_, rfl, _, rfl, _, _, rfl, rfl, wide_div (by omega) (by rw [Int.natAbs_natCast]; exact c64) (by decide) (by decide), (k Hu SH).1 _ ?_⟩
        have h2 := te
        rw [h1, Rat.intCast_mul, Rat.intCast_natCast] at h2
        grind
      · refine (k Hu SH).2 fun n hn => h ?_
        rw [hn] at te
        have h3 : totD (cmD fm) g fm = (cmD fm : Int) * n := by
          apply Rat.intCast_inj.mp
          rw [te, Rat.intCast_mul, Rat.intCast_natCast]
        show V.int ((totD (cmD fm) g fm).fmod (cmD fm : Int)) = V.int 0
        rw [h3, Int.mul_fmod_right]
end
end E2

set_option Elab.async false
set_option linter.all false
set_option maxRecDepth 100000
set_option maxHeartbeats 1000000
/-! a - b -/
namespace E2
open PySem PySem.Spec PyProof.Rows L2
open C8 (Cal Mak Met InsC pe_c pe_mt pe_mt0 call_isC clsBody)
/-- an operator's method of the class at C -/
structure OpM (P : Program) (w : World) (K : PySem.W.Frag) (mg : Str → Option Value) (base : Heap) (k : Nat) (C : Addr) (name : Str) (sp : Sp) : Prop where
  ex : ∃ (f : Addr) (fd : FuncData) (ps : List Str), OwnOp K C name f ∧ FnOk P w K mg base CX0 k f fd ps sp ∧ Binds K fd ps []
abbrev negM (fm : Fm) : Fm := mapM (fun _ => true) (fun q => -q) fm
def spSub (K : PySem.W.Frag) (C : Addr) : Sp := fun vs H Q _ => ∃ a v fm1 fm2, vs = [.ref a, v] ∧ FmAt K C H a fm1 ∧ RightV K C H v fm2 ∧ Szs fm1 (negM fm2) ∧ (fm2.map (·.1)).Nodup ∧ fm2.length ≤ sizeLine ∧ ∀ H' b, Same H H' → H b = none → FmAt K C H' b (mapM nz id (addTo fm1 (negM fm2))) → Q (.ref b) H'
theorem un_one {r : V → Hp → VK → Prop} {t : TE} {σ : L2.St} {H : Hp} {Q : VK} (h : t σ H fun x H1 => r x H1 Q) : tUn r t σ H Q := h
section
variable {P : Program} {w : World} {K : PySem.W.Frag} {mg : Str → Option Value} {base : Heap} {C : Addr}
theorem scSub : FnScope ["self", "other"] ["self", "other"] (defScope sSub) := ⟨rfl, rfl, rfl, by decide +kernel, rfl, by decide +kernel, by decide +kernel⟩
theorem ok_sub {f : Addr} {fd : FuncData} (F : Fun K "__sub__" "Form.__sub__" sSub f fd) (R : Cal P w K mg base 4 "right_side" (spRight K C) []) (Oa : OpM P w K mg base 5 C "__add__" (spAdd K C)) (On : OpM P w K mg base 3 C "__neg__" (spNeg K C (fun q => -q))) : FnOk P w K mg base CX0 6 f fd ["self", "other"] (spSub K C) := by
  obtain ⟨fa, fda, pa, oa, Fa, ba⟩ := Oa.ex
  obtain ⟨fn, fdn, pn, on, Fn, bn⟩ := On.ex
  refine F.ok scSub (fun vs H Q E h => ?_) (fun cdv A outer s H vs Q E hr h => ?_)
  · obtain ⟨a, v, fm1, fm2, rfl, _⟩ := h
    rfl
  · obtain ⟨a, v, fm1, fm2, rfl, ha, hv, Z, n2, l2, k⟩ := h
    refine ⟨_, pss_one (ps_ret (pe_op (op_own (op := .Add) oa Fa hr ba) (pv 0) (pe_un (un_own on Fn (hr.mono (by decide)) bn) (pe_c R hr (by decide) rfl (pa_cons (pv 1) pa_nil))))), ?_⟩
    refine ⟨_, rfl, un_one (call_one rfl (right_of hv fun H0 b S0 hb => ?_))⟩
    obtain ⟨dxb, db, kvb, hb1, hb2, hb3⟩ := hb
    refine ⟨b, dxb, _, rfl, hb1, b, fm2, rfl, ⟨dxb, db, kvb, hb1, hb2, hb3⟩, n2, l2, fun H1 c S1 nc hc => ?_⟩
    have ha1 := (ha.same S0).same S1
    obtain ⟨dxa, da, kva, ha2, ha3, ha4⟩ := ha1
    obtain ⟨dxc, dc, kvc, hc2, hc3, hc4⟩ := hc
    exact ⟨a, c, dxa, _, dxc, _, rfl, rfl, ha2, hc2, a, _, fm1, negM fm2, rfl, ⟨dxa, da, kva, ha2, ha3, ha4⟩, .inr ⟨c, rfl, dxc, dc, kvc, hc2, hc3, hc4⟩, Z, fun H2 e S2 ne he => k H2 e ((S0.trans S1).trans S2) ((S0.trans S1).free ne) he⟩
end
end E2

set_option Elab.async false
set_option linter.all false
set_option maxRecDepth 100000
set_option maxHeartbeats 1000000
/-! _law_form -/
namespace E2
open PySem PySem.Spec PyProof.Rows L2
open C8 (Cal Mak Met InsC pe_c pe_mt pe_mt0 call_isC clsBody)
abbrev sLawForm : Stmt := top 30
def nF : Nat → Nat
  | 0 => 1
  | 1 => 2
  | 2 => 4
  | _ => 16
/-- what a form of an expression of the depth is -/
structure FOk (names : List Str) (d : Nat) (t : Tr) (fm : Fm) : Prop where
  nd : (fm.map (·.1)).Nodup
  len : fm.length ≤ nF d
  keys : ∀ x ∈ fm, x.1.length ≤ 2 ^ d ∧ ∀ z ∈ x.1, z ∈ names
  bq : ∃ D M, 0 < D ∧ D < 2 ^ (4 * 2 ^ d) ∧ M < 2 ^ (60 * 4 ^ d) ∧ ∀ x ∈ fm, Bq D M x.2
  ev : ∀ g, ev g fm = tv g t
theorem keys_mapM {p : Rat → Bool} {f : Rat → Rat} {fm : Fm} {x : Mon × Rat} (h : x ∈ mapM p f fm) : ∃ y ∈ fm, x = (y.1, f y.2) ∧ p y.2 = true := by
  unfold mapM at h
  obtain ⟨y, hy, e⟩ := List.mem_map.mp h
  have := List.mem_filter.mp hy
  exact ⟨y, this.1, e.symm, this.2⟩
theorem mem_addTo_key {acc l : Fm} {x : Mon × Rat} (h : x ∈ addTo acc l) : x.1 ∈ acc.map (·.1) ∨ x.1 ∈ l.map (·.1) := keys_addTo l acc x.1 (List.mem_map.mpr ⟨x, h, rfl⟩)
theorem length_mapM {p : Rat → Bool} {f : Rat → Rat} {fm : Fm} : (mapM p f fm).length ≤ fm.length := by
  unfold mapM
  rw [List.length_map]
  exact List.length_filter_le _ _
theorem nz0 (q : Rat) (h : nz q = false) : q = 0 := by
  have : decide (q = 0) = true := by simpa using h
  exact of_decide_eq_true this
theorem tv_u {names : List Str} {g : Str → Int} {d : Nat} {t : Tr} (h : TrOk names d t) : ((wT g t).2 : Rat) ≠ 0 := by
  have h2 : 0 < (wT g t).2 := by
    induction t generalizing d with
    | num n => exact (show (0 : Int) < 1 by decide)
    | var z => exact (show (0 : Int) < 1 by decide)
    | div t k ih =>
      cases d with
      | zero => exact h.elim
      | succ d => exact Int.mul_pos (ih h.1) (by have := h.2; omega)
    | bin o l r ihl ihr =>
      cases d with
      | zero => exact h.elim
      | succ d =>
        have a := ihl h.2.1
        have b := ihr h.2.2
        match o with
        | 0 => exact Int.mul_pos a b
        | 1 => exact Int.mul_pos a b
        | _ + 2 => exact Int.mul_pos a b
  intro e
  have := Rat.intCast_inj.mp (e.trans (by rfl : (0 : Rat) = ((0 : Int) : Rat)))
  omega
theorem tv_div {names : List Str} {g : Str → Int} {d : Nat} {t : Tr} {k : Int} (h : TrOk names d t) (hk : k ≠ 0) : tv g (.div t k) = tv g t * Rat.divInt 1 k := by
  have u := tv_u (g := g) h
  have hk2 : (k : Rat) ≠ 0 := fun e => hk (Rat.intCast_inj.mp (e.trans (by rfl : (0 : Rat) = ((0 : Int) : Rat))))
  show ((wT g t).1 : Rat) / (((wT g t).2 * k : Int) : Rat) = ((wT g t).1 : Rat) / ((wT g t).2 : Rat) * Rat.divInt 1 k
  rw [Rat.divInt_eq_div, Rat.intCast_mul]
  have e1 : ((1 : Int) : Rat) = 1 := rfl
  rw [e1]
  grind
theorem tv_add {names : List Str} {g : Str → Int} {d : Nat} {l r : Tr} (h1 : TrOk names d l) (h2 : TrOk names d r) : tv g (.bin 0 l r) = tv g l + tv g r := by
  have u := tv_u (g := g) h1
  have v := tv_u (g := g) h2
  show (((wT g l).1 * (wT g r).2 + (wT g r).1 * (wT g l).2 : Int) : Rat) / (((wT g l).2 * (wT g r).2 : Int) : Rat) = ((wT g l).1 : Rat) / ((wT g l).2 : Rat) + ((wT g r).1 : Rat) / ((wT g r).2 : Rat)
  rw [Rat.intCast_add, Rat.intCast_mul, Rat.intCast_mul, Rat.intCast_mul]
  grind
theorem tv_sub {names : List Str} {g : Str → Int} {d : Nat} {l r : Tr} (h1 : TrOk names d l) (h2 : TrOk names d r) : tv g (.bin 1 l r) = tv g l + -tv g r := by
  have u := tv_u (g := g) h1
  have v := tv_u (g := g) h2
  show (((wT g l).1 * (wT g r).2 - (wT g r).1 * (wT g l).2 : Int) : Rat) / (((wT g l).2 * (wT g r).2 : Int) : Rat) = ((wT g l).1 : Rat) / ((wT g l).2 : Rat) + -(((wT g r).1 : Rat) / ((wT g r).2 : Rat))
  rw [Rat.intCast_sub, Rat.intCast_mul, Rat.intCast_mul, Rat.intCast_mul]
  grind
theorem tv_mul {names : List Str} {g : Str → Int} {d : Nat} {l r : Tr} (h1 : TrOk names d l) (h2 : TrOk names d r) : tv g (.bin 2 l r) = tv g l * tv g r := by
  have u := tv_u (g := g) h1
  have v := tv_u (g := g) h2
  show (((wT g l).1 * (wT g r).1 : Int) : Rat) / (((wT g l).2 * (wT g r).2 : Int) : Rat) = ((wT g l).1 : Rat) / ((wT g l).2 : Rat) * (((wT g r).1 : Rat) / ((wT g r).2 : Rat))
  rw [Rat.intCast_mul, Rat.intCast_mul]
  grind
theorem pw_lt {a b m n k : Nat} (ha : a < 2 ^ m) (hb : b < 2 ^ n) (h : m + n ≤ k) : a * b < 2 ^ k := by
  have h1 : a * b < 2 ^ (m + n) := by rw [Nat.pow_add]; exact Nat.mul_lt_mul'' ha hb
  exact Nat.lt_of_lt_of_le h1 (Nat.pow_le_pow_right (by decide) h)
theorem nF16 (d : Nat) : nF d < 2 ^ 5 := by
  unfold nF
  split <;> decide
theorem nF_two {d : Nat} (h : d ≤ 2) : 2 * nF d ≤ nF (d + 1) ∧ nF d * nF d ≤ nF (d + 1) ∧ nF d ≤ nF (d + 1) := by
  have : d = 0 ∨ d = 1 ∨ d = 2 := by omega
  rcases this with rfl | rfl | rfl <;> decide
theorem fok_leaf {names : List Str} {d : Nat} {t : Tr} {fm : Fm} (hd : d ≤ 3) (h1 : fm = [] ∨ ∃ m q, fm = [(m, q)] ∧ m.length ≤ 1 ∧ (∀ z ∈ m, z ∈ names) ∧ Bq 1 (2 ^ 40) q) (he : ∀ g, ev g fm = tv g t) : FOk names d t fm := by
  have n1 : 1 ≤ nF d := by unfold nF; split <;> decide
  have e1 : 1 ≤ 2 ^ d := Nat.one_le_two_pow
  have e2 : (1 : Nat) < 2 ^ (4 * 2 ^ d) := Nat.one_lt_two_pow (by have := Nat.one_le_two_pow (n := d); omega)
  have e4 : 1 ≤ 4 ^ d := Nat.one_le_pow _ _ (by decide)
  have e3 : 2 ^ 40 < 2 ^ (60 * 4 ^ d) := Nat.pow_lt_pow_right (by decide) (by omega)
  rcases h1 with rfl | ⟨m, q, rfl, ml, mz, bq⟩
  · exact ⟨List.nodup_nil, Nat.zero_le _, fun x hx => absurd hx List.not_mem_nil, ⟨1, 2 ^ 40, by decide, e2, e3, fun x hx => absurd hx List.not_mem_nil⟩, he⟩
  · refine ⟨List.nodup_cons.mpr ⟨List.not_mem_nil, List.nodup_nil⟩, n1, fun x hx => ?_, ⟨1, 2 ^ 40, by decide, e2, e3, fun x hx => ?_⟩, he⟩
    · obtain rfl := List.mem_singleton.mp hx
      exact ⟨by show m.length ≤ 2 ^ d; omega, mz⟩
    · obtain rfl := List.mem_singleton.mp hx
      exact bq
end E2

set_option Elab.async false
set_option linter.all false
set_option maxRecDepth 100000
set_option maxHeartbeats 1000000
/-! _law_form: sums, products, quotients of forms keep their bounds -/
namespace E2
open PySem PySem.Spec PyProof.Rows L2
open C8 (Cal Mak Met InsC pe_c pe_mt pe_mt0 call_isC clsBody)
theorem bN_succ (d : Nat) : 60 * 4 ^ (d + 1) = 4 * (60 * 4 ^ d) := by rw [Nat.pow_succ]; omega
theorem bD_succ (d : Nat) : 4 * 2 ^ (d + 1) = 2 * (4 * 2 ^ d) := by rw [Nat.pow_succ]; omega
theorem bN_ge (d : Nat) : 60 ≤ 60 * 4 ^ d := Nat.le_mul_of_pos_right _ (Nat.pow_pos (by decide))
theorem bD_ge (d : Nat) : 4 ≤ 4 * 2 ^ d := Nat.le_mul_of_pos_right _ (Nat.pow_pos (by decide))
theorem bD_le_bN (d : Nat) : 4 * 2 ^ d ≤ 60 * 4 ^ d := by
  have : 2 ^ d ≤ 4 ^ d := Nat.pow_le_pow_left (by decide) d
  omega
theorem two_pow_succ (d : Nat) : 2 ^ (d + 1) = 2 * 2 ^ d := by rw [Nat.pow_succ]; omega
theorem add_lt {a b n k : Nat} (ha : a < 2 ^ n) (hb : b < 2 ^ n) (h : n + 1 ≤ k) : a + b < 2 ^ k := by
  have : a + b < 2 ^ (n + 1) := by rw [Nat.pow_succ]; omega
  exact Nat.lt_of_lt_of_le this (Nat.pow_le_pow_right (by decide) h)
section
variable {names : List Str} {d : Nat} {t l r : Tr} {fm f1 f2 : Fm}
theorem FOk.div (F : FOk names d t fm) (hd : d ≤ 2) (ht : TrOk names d t) {k : Int} (k0 : 1 ≤ k) (k9 : k ≤ 9) : FOk names (d + 1) (.div t k) (mapM (fun _ => true) (fun q => q * Rat.divInt 1 k) fm) := by
  obtain ⟨D, M, D0, D1, M1, hq⟩ := F.bq
  have kn : k ≠ 0 := by omega
  have bk := inv_bq kn
  refine ⟨mapM_nodup F.nd, Nat.le_trans length_mapM (Nat.le_trans F.len (nF_two hd).2.2), fun x hx => ?_, ⟨D * k.natAbs, M * 1, Nat.mul_pos D0 (by omega), ?_, ?_, fun x hx => ?_⟩, fun g => ?_⟩
  · obtain ⟨y, hy, rfl, _⟩ := keys_mapM hx
    obtain ⟨a, b⟩ := F.keys y hy
    exact ⟨by show y.1.length ≤ _; rw [two_pow_succ]; omega, b⟩
  · rw [bD_succ]
    exact pw_lt D1 (show k.natAbs < 2 ^ 4 by omega) (by have := bD_ge d; omega)
  · rw [bN_succ, Nat.mul_one]
    exact Nat.lt_of_lt_of_le M1 (Nat.pow_le_pow_right (by decide) (by omega))
  · obtain ⟨y, hy, rfl, _⟩ := keys_mapM hx
    exact (hq y hy).mul bk
  · rw [ev_scale, F.ev g, tv_div ht kn]
/-- one denominator for both -/
theorem FOk.both (F1 : FOk names d l f1) (F2 : FOk names d r f2) : ∃ D M N, 0 < D ∧ D < 2 ^ (4 * 2 ^ (d + 1)) ∧ M < 2 ^ (2 * (60 * 4 ^ d)) ∧ N < 2 ^ (2 * (60 * 4 ^ d)) ∧ (∀ x ∈ f1, Bq D M x.2) ∧ ∀ x ∈ f2, Bq D N x.2 := by
  obtain ⟨D, M, D0, D1, M1, hq⟩ := F1.bq
  obtain ⟨E, N, E0, E1, N1, hr⟩ := F2.bq
  have db := bD_le_bN d
  refine ⟨D * E, M * E, N * D, Nat.mul_pos D0 E0, ?_, pw_lt M1 E1 (by omega), pw_lt N1 D1 (by omega), fun x hx => (hq x hx).scale, fun x hx => ?_⟩
  · rw [bD_succ]
    exact pw_lt D1 E1 (by omega)
  · rw [Nat.mul_comm D E]
    exact (hr x hx).scale
theorem FOk.szs (F1 : FOk names d l f1) (F2 : FOk names d r f2) (hd : d ≤ 2) : Szs f1 f2 := by
  obtain ⟨D, M, N, D0, D1, M1, N1, h1, h2⟩ := F1.both F2
  have l1 := F1.len
  have l2 := F2.len
  have n5 := nF16 d
  have q4 : 4 ^ d ≤ 16 := by have : d = 0 ∨ d = 1 ∨ d = 2 := by omega
                             rcases this with rfl | rfl | rfl <;> decide
  have q2 : 2 ^ (d + 1) ≤ 8 := by have : d = 0 ∨ d = 1 ∨ d = 2 := by omega
                                  rcases this with rfl | rfl | rfl <;> decide
  refine ⟨F1.nd, F2.nd, by rw [sizeLine_eq]; omega, D, M, N, D0, Nat.lt_of_lt_of_le D1 (Nat.pow_le_pow_right (by decide) (by omega)), ?_, Nat.lt_of_lt_of_le N1 (Nat.pow_le_pow_right (by decide) (by omega)), h1, h2⟩
  have a : f2.length * N < 2 ^ (2 * (60 * 4 ^ d) + 5) := pw_lt (Nat.lt_of_le_of_lt l2 n5) N1 (by omega)
  exact add_lt (Nat.lt_of_lt_of_le M1 (Nat.pow_le_pow_right (by decide) (by omega))) a (by omega)
theorem FOk.add {t' : Tr} (F1 : FOk names d l f1) (F2 : FOk names d r f2) (hd : d ≤ 2) (he : ∀ g, tv g t' = tv g l + tv g r) : FOk names (d + 1) t' (mapM nz id (addTo f1 f2)) := by
  obtain ⟨D, M, N, D0, D1, M1, N1, h1, h2⟩ := F1.both F2
  have l1 := F1.len
  have l2 := F2.len
  refine ⟨mapM_nodup (nodup_addTo _ _ F1.nd), Nat.le_trans length_mapM (Nat.le_trans (length_addTo _ _) (by have := (nF_two hd).1; omega)), fun x hx => ?_, ⟨D, M + f2.length * N, D0, D1, ?_, fun x hx => ?_⟩, fun g => ?_⟩
  · obtain ⟨y, hy, rfl, _⟩ := keys_mapM hx
    rcases mem_addTo_key hy with h | h
    · obtain ⟨z, hz, e⟩ := List.mem_map.mp h
      obtain ⟨a, b⟩ := F1.keys z hz
      rw [e] at a b
      exact ⟨by show y.1.length ≤ _; rw [two_pow_succ]; omega, b⟩
    · obtain ⟨z, hz, e⟩ := List.mem_map.mp h
      obtain ⟨a, b⟩ := F2.keys z hz
      rw [e] at a b
      exact ⟨by show y.1.length ≤ _; rw [two_pow_succ]; omega, b⟩
  · have a : f2.length * N < 2 ^ (2 * (60 * 4 ^ d) + 5) := pw_lt (Nat.lt_of_le_of_lt l2 (nF16 d)) N1 (by omega)
    have g := bN_ge d
    rw [bN_succ]
    exact add_lt (Nat.lt_of_lt_of_le M1 (Nat.pow_le_pow_right (by decide) (by omega))) a (by omega)
  · obtain ⟨y, hy, rfl, _⟩ := keys_mapM hx
    exact bq_addTo f2 f1 M h1 h2 y hy
  · rw [ev_mapM g nz0, ev_addTo g _ _ F1.nd, F1.ev g, F2.ev g, he g]
/-- the form turned round -/
theorem FOk.neg' (F : FOk names d r fm) {r' : Tr} (h : ∀ g, tv g r' = -tv g r) : FOk names d r' (negM fm) := by
  obtain ⟨D, M, D0, D1, M1, hq⟩ := F.bq
  refine ⟨mapM_nodup F.nd, Nat.le_trans length_mapM F.len, fun x hx => ?_, ⟨D, M, D0, D1, M1, fun x hx => ?_⟩, fun g => ?_⟩
  · obtain ⟨y, hy, rfl, _⟩ := keys_mapM hx
    exact F.keys y hy
  · obtain ⟨y, hy, rfl, _⟩ := keys_mapM hx
    exact (hq y hy).neg
  · rw [ev_neg, F.ev g, h g]
theorem FOk.mul {lz : Fm} (F1 : FOk names d l f1) (F2 : FOk names d r f2) (hd : d ≤ 2) (hl : TrOk names d l) (hr : TrOk names d r) (hp : Paired MulT lz (allP f1 f2)) : FOk names (d + 1) (.bin 2 l r) (mapM nz id (addTo [] lz)) := by
  obtain ⟨D, M, D0, D1, M1, hq⟩ := F1.bq
  obtain ⟨E, N, E0, E1, N1, hr2⟩ := F2.bq
  have l1 := F1.len
  have l2 := F2.len
  have pl := Paired.length hp
  rw [allP_length] at pl
  have ll : lz.length ≤ nF d * nF d := by rw [pl]; exact Nat.mul_le_mul l1 l2
  have bz : ∀ z ∈ lz, Bq (D * E) (M * N) z.2 := bq_mulT hp fun p h => ⟨hq _ (mem_allP h).1, hr2 _ (mem_allP h).2⟩
  have kz : ∀ z ∈ lz, z.1.length ≤ 2 ^ (d + 1) ∧ ∀ x ∈ z.1, x ∈ names := by
    intro z hz
    obtain ⟨i, hi⟩ := List.getElem?_of_mem hz
    obtain ⟨p, hp2, pm, _, _⟩ := paired_get hp hi
    obtain ⟨m1, m2⟩ := mem_allP (List.mem_of_getElem? hp2)
    obtain ⟨a1, b1⟩ := F1.keys _ m1
    obtain ⟨a2, b2⟩ := F2.keys _ m2
    refine ⟨by rw [pm.length_eq, List.length_append, two_pow_succ]; omega, fun x hx => ?_⟩
    rcases List.mem_append.mp (pm.mem_iff.mp hx) with h | h
    · exact b1 x h
    · exact b2 x h
  refine ⟨mapM_nodup (nodup_addTo _ _ List.nodup_nil), Nat.le_trans length_mapM (Nat.le_trans (length_addTo _ _) (by rw [List.length_nil]; have := (nF_two hd).2.1; omega)), fun x hx => ?_, ⟨D * E, 0 + lz.length * (M * N), Nat.mul_pos D0 E0, ?_, ?_, fun x hx => ?_⟩, fun g => ?_⟩
  · obtain ⟨y, hy, rfl, _⟩ := keys_mapM hx
    rcases mem_addTo_key hy with h | h
    · exact absurd h List.not_mem_nil
    · obtain ⟨z, hz, e⟩ := List.mem_map.mp h
      have := kz z hz
      rw [e] at this
      exact this
  · rw [bD_succ]
    exact pw_lt D1 E1 (by omega)
  · have g := bN_ge d
    rw [Nat.zero_add, bN_succ]
    have h10 : lz.length < 2 ^ 10 := Nat.lt_of_le_of_lt ll (pw_lt (nF16 d) (nF16 d) (by decide))
    exact pw_lt h10 (pw_lt M1 N1 (Nat.le_refl _)) (by omega)
  · obtain ⟨y, hy, rfl, _⟩ := keys_mapM hx
    exact bq_addTo lz [] 0 (fun y hy => absurd hy List.not_mem_nil) bz y hy
  · rw [ev_mapM g nz0, ev_addTo g lz [] List.nodup_nil, ev_prod g hp, F1.ev g, F2.ev g, tv_mul hl hr]
    show 0 + _ = _
    grind
theorem FOk.szm (F1 : FOk names d l f1) (F2 : FOk names d r f2) (hd : d ≤ 2) : SzM f1 f2 := by
  obtain ⟨D, M, D0, D1, M1, hq⟩ := F1.bq
  obtain ⟨E, N, E0, E1, N1, hr2⟩ := F2.bq
  have l1 := F1.len
  have l2 := F2.len
  have q4 : 4 ^ d ≤ 16 := by have : d = 0 ∨ d = 1 ∨ d = 2 := by omega
                             rcases this with rfl | rfl | rfl <;> decide
  have q2 : 2 ^ d ≤ 4 := by have : d = 0 ∨ d = 1 ∨ d = 2 := by omega
                            rcases this with rfl | rfl | rfl <;> decide
  have ll : f1.length * f2.length < 2 ^ 10 := pw_lt (Nat.lt_of_le_of_lt l1 (nF16 d)) (Nat.lt_of_le_of_lt l2 (nF16 d)) (by decide)
  have le : ∀ {n}, n ≤ 400000 → ∀ {a}, a < 2 ^ n → a < 2 ^ 400000 := fun {n} h {a} ha => Nat.lt_of_lt_of_le ha (Nat.pow_le_pow_right (by decide) h)
  refine ⟨F1.nd, F2.nd, by rw [sizeLine_eq]; omega, fun x hx y hy => ?_, D, M, E, N, D0, E0, ?_, ?_, le (by omega) (pw_lt M1 N1 (Nat.le_refl _)), le (by omega) M1, le (by omega) N1, hq, hr2⟩
  · have a := (F1.keys x hx).1
    have b := (F2.keys y hy).1
    rw [sizeLine_eq]
    omega
  · exact Nat.lt_of_lt_of_le (pw_lt D1 E1 (Nat.le_refl _)) (Nat.pow_le_pow_right (by decide) (by omega))
  · exact le (by omega) (pw_lt ll (pw_lt M1 N1 (Nat.le_refl _)) (Nat.le_refl _))
theorem FOk.sm (F : FOk names d t fm) (hd : d ≤ 3) : Sm fm := by
  obtain ⟨D, M, D0, D1, M1, hq⟩ := F.bq
  have q4 : 4 ^ d ≤ 64 := by have : d = 0 ∨ d = 1 ∨ d = 2 ∨ d = 3 := by omega
                             rcases this with rfl | rfl | rfl | rfl <;> decide
  have q2 : 2 ^ d ≤ 8 := by have : d = 0 ∨ d = 1 ∨ d = 2 ∨ d = 3 := by omega
                            rcases this with rfl | rfl | rfl | rfl <;> decide
  intro x hx
  exact ⟨Nat.lt_of_le_of_lt ((hq x hx).num_le D0) (Nat.lt_of_lt_of_le M1 (Nat.pow_le_pow_right (by decide) (by omega))), Nat.lt_of_le_of_lt ((hq x hx).den_le D0) (Nat.lt_of_lt_of_le D1 (Nat.pow_le_pow_right (by decide) (by omega)))⟩
end
end E2

set_option Elab.async false
set_option linter.all false
set_option maxRecDepth 100000
set_option maxHeartbeats 1000000
/-! _law_form -/
namespace E2
open PySem PySem.Spec PyProof.Rows L2
open C8 (Cal Mak Met InsC pe_c pe_mt pe_mt0 call_isC clsBody)
def spLawForm (K : PySem.W.Frag) (C : Addr) (d : Nat) : Sp := fun vs H Q _ => ∃ (b : Addr) (t : Tr) (names : List Str), vs = [.ref b] ∧ TrAt K H t b ∧ TrOk names d t ∧ (∀ z ∈ names, LetOk z) ∧ ∀ H' p fm, Same H H' → FmAt K C H' p fm → FOk names d t fm → Q (.ref p) H'
def spLawFormP (K : PySem.W.Frag) (C : Addr) : Nat → Sp
  | 0 => fun _ _ _ _ => False
  | d + 1 => spLawForm K C d
section
variable {P : Program} {w : World} {K : PySem.W.Frag} {mg : Str → Option Value} {base : Heap} {C : Addr}
theorem scLawForm : FnScope ["_law_tree_here", "_law_first", "_law_second"] ["_law_tree_here"] (defScope sLawForm) := ⟨rfl, rfl, rfl, by decide +kernel, rfl, by decide +kernel, by decide +kernel⟩
theorem fok_num {names : List Str} {d : Nat} {n : Int} (hd : d ≤ 3) (h : n.natAbs < 2 ^ 40) : FOk names d (.num n) (if n = 0 then [] else [([], (n : Rat))]) := by
  refine fok_leaf hd ?_ fun g => ?_
  · by_cases c : n = 0
    · exact .inl (if_pos c)
    · exact .inr ⟨[], n, if_neg c, Nat.zero_le _, fun z hz => absurd hz List.not_mem_nil, Bq.int.mono (Nat.le_of_lt h)⟩
  · have e : tv g (.num n) = (n : Rat) := by
      show (n : Rat) / ((1 : Int) : Rat) = n
      have e1 : ((1 : Int) : Rat) = 1 := rfl
      rw [e1]
      grind
    rw [e]
    by_cases c : n = 0
    · rw [if_pos c, c]
      rfl
    · rw [if_neg c]
      show (n : Rat) * ((1 : Int) : Rat) + 0 = n
      have e1 : ((1 : Int) : Rat) = 1 := rfl
      rw [e1]
      grind
theorem fok_var {names : List Str} {d : Nat} {z : Str} (hd : d ≤ 3) (h : z ∈ names) : FOk names d (.var z) [([z], 1)] := by
  refine fok_leaf hd (.inr ⟨[z], 1, rfl, Nat.le_refl _, fun y hy => by rw [List.mem_singleton.mp hy]; exact h, ⟨1, by rw [Rat.one_mul]; rfl, by decide⟩⟩) fun g => ?_
  show (1 : Rat) * ((g z * 1 : Int) : Rat) + 0 = (g z : Rat) / ((1 : Int) : Rat)
  have e1 : ((1 : Int) : Rat) = 1 := rfl
  rw [Int.mul_one, e1]
  grind
theorem ok_lawForm {f : Addr} {fd : FuncData} (F : Fun K "_law_form" "_law_form" sLawForm f fd) (d : Nat) (hd : d ≤ 3) (Nu : Cal P w K mg base 3 "number" (spNumber K C) []) (Le : Cal P w K mg base 3 "letter" (spLetter K C) []) (Ov : Met P w K mg base 4 C "over" (spOver K C) [])
    (Oa : OpM P w K mg base 5 C "__add__" (spAdd K C)) (Os : OpM P w K mg base 6 C "__sub__" (spSub K C)) (Om : OpM P w K mg base 5 C "__mul__" (spMul K C)) (R : Cal P w K mg base (6 + d) "_law_form" (spLawFormP K C d) []) : FnOk P w K mg base CX0 (7 + d) f fd ["_law_tree_here"] (spLawForm K C d) := by
  obtain ⟨fa, fda, pa, oa, Fa, ba⟩ := Oa.ex
  obtain ⟨fs, fds, ps, os, Fs, bs⟩ := Os.ex
  obtain ⟨fm_, fdm, pm, om, Fm_, bm⟩ := Om.ex
  have e5 : 7 + d = (6 + d) + 1 := by omega
  rw [e5]
  refine F.ok scLawForm (fun vs H Q E h => ?_) (fun cdv A outer s H vs Q E hr h => ?_)
  · obtain ⟨b, t, names, rfl, _⟩ := h
    rfl
  · obtain ⟨b, t, names, rfl, ht, tk, hn, k⟩ := h
    refine ⟨_, pss_cons (ps_if (pt_cmpR op_eq (pe_ix ix_tup (pv 0) pe_int (fun _ _ => rfl)) pe_str (nomark _)) (pss_one (ps_ret (pe_c Nu hr (by omega) rfl (pa_cons (pe_ix ix_tup (pv 0) pe_int (fun _ _ => rfl)) pa_nil)))) pss_nil)
      (pss_cons (ps_if (pt_cmpR op_eq (pe_ix ix_tup (pv 0) pe_int (fun _ _ => rfl)) pe_str (nomark _)) (pss_one (ps_ret (pe_c Le hr (by omega) rfl (pa_cons (pe_ix ix_tup (pv 0) pe_int (fun _ _ => rfl)) pa_nil)))) pss_nil)
      (pss_cons (ps_set (i := 1) scLawForm.nd rfl (Or.inl rfl) (pe_c R hr (by omega) rfl (pa_cons (pe_ix ix_tup (pv 0) pe_int (fun _ _ => rfl)) pa_nil)))
      (pss_cons (ps_if (pt_cmpR op_eq (pe_ix ix_tup (pv 0) pe_int (fun _ _ => rfl)) pe_str (nomark _)) (pss_one (ps_ret (pe_mt Ov hr (by omega) (pv 1) (pa_cons (pe_ix ix_tup (pv 0) pe_int (fun _ _ => rfl)) pa_nil)))) pss_nil)
      (pss_cons (ps_set (i := 2) scLawForm.nd rfl (Or.inl rfl) (pe_c R hr (by omega) rfl (pa_cons (pe_ix ix_tup (pv 0) pe_int (fun _ _ => rfl)) pa_nil)))
      (pss_cons (ps_if (pt_cmpR op_eq (pe_ix ix_tup (pv 0) pe_int (fun _ _ => rfl)) pe_str (nomark _)) (pss_one (ps_ret (pe_op (op_own (op := .Mult) om Fm_ (hr.mono (by omega)) bm) (pv 1) (pv 2)))) pss_nil)
      (pss_one (ps_ret (pe_ifExp (pt_cmpR op_eq (pe_ix ix_tup (pv 0) pe_int (fun _ _ => rfl)) pe_str (nomark _)) (pe_op (op_own (op := .Sub) os Fs (hr.mono (by omega)) bs) (pv 1) (pv 2)) (pe_op (op_own (op := .Add) oa Fa (hr.mono (by omega)) ba) (pv 1) (pv 2)))))))))), ?_⟩
    match t, ht, tk with
    | .num n, ht, tk =>
      have tk : n.natAbs < 2 ^ 40 := by cases d <;> exact tk
      exact ⟨_, rfl, b, _, 0, _, rfl, rfl, ht, rfl, rfl, _, rfl, iteEq ⟨_, rfl, b, _, 1, _, rfl, rfl, ht, rfl, n, rfl, fun H' p S np hp => k H' p _ S hp (fok_num hd tk)⟩⟩
    | .var z, ht, tk =>
      have hz : z ∈ names := by cases d <;> exact tk
      refine ⟨_, rfl, b, _, 0, _, rfl, rfl, ht, rfl, rfl, _, rfl, iteNe (ns (by decide)) ?_⟩
      dsimp only [tNext]
      exact ⟨_, rfl, b, _, 0, _, rfl, rfl, ht, rfl, rfl, _, rfl, iteEq ⟨_, rfl, b, _, 1, _, rfl, rfl, ht, rfl, z, rfl, hn z hz, fun H' p S np hp => k H' p _ S hp (fok_var hd hz)⟩⟩
    | .div t c, ⟨bt, ht, hbt⟩, tk =>
      cases d with
      | zero => exact tk.elim
      | succ d =>
      obtain ⟨tk, c0, c1⟩ := tk
      refine ⟨_, rfl, b, _, 0, _, rfl, rfl, ht, rfl, rfl, _, rfl, iteNe (ns (by decide)) ?_⟩
      dsimp only [tNext]
      refine ⟨_, rfl, b, _, 0, _, rfl, rfl, ht, rfl, rfl, _, rfl, iteNe (ns (by decide)) ?_⟩
      dsimp only [tNext]
      refine seq_asg ⟨_, rfl, b, _, 1, _, rfl, rfl, ht, rfl, bt, t, names, rfl, hbt, tk, hn, fun H1 p fm S1 hp F1 => ?_⟩
      have ht1 := ht.same S1
      refine ⟨_, rfl, b, _, 0, _, rfl, rfl, ht1, rfl, rfl, _, rfl, iteEq ?_⟩
      have sl := F1.len
      have n5 := nF16 d
      have hp' := hp
      obtain ⟨dx, dd, kvs, a1, a2, a3⟩ := hp
      refine ⟨_, rfl, p, dx, _, rfl, a1, rfl, _, rfl, b, _, 2, _, rfl, rfl, ht1, rfl, p, c, fm, rfl, by omega, ?_, hp', F1.nd, by rw [sizeLine_eq]; omega, F1.sm (by omega), fun H2 q S2 nq hq => ?_⟩
      · exact Nat.lt_of_lt_of_le (show c.natAbs < 2 ^ 4 by omega) (Nat.pow_le_pow_right (by decide) (by decide))
      · exact k H2 q _ (S1.trans S2) hq (F1.div (by omega) tk c0 c1)
    | .bin o l r, ⟨bl, br, ht, hbl, hbr⟩, tk =>
      cases d with
      | zero => exact tk.elim
      | succ d =>
      obtain ⟨ho, tkl, tkr⟩ := tk
      have o3 : o = 0 ∨ o = 1 ∨ o = 2 := by omega
      refine ⟨_, rfl, b, _, 0, _, rfl, rfl, ht, rfl, rfl, _, rfl, iteNe (ns (by rcases o3 with rfl | rfl | rfl <;> decide)) ?_⟩
      dsimp only [tNext]
      refine ⟨_, rfl, b, _, 0, _, rfl, rfl, ht, rfl, rfl, _, rfl, iteNe (ns (by rcases o3 with rfl | rfl | rfl <;> decide)) ?_⟩
      dsimp only [tNext]
      refine seq_asg ⟨_, rfl, b, _, 1, _, rfl, rfl, ht, rfl, bl, l, names, rfl, hbl, tkl, hn, fun H1 p fm S1 hp F1 => ?_⟩
      have ht1 := ht.same S1
      refine ⟨_, rfl, b, _, 0, _, rfl, rfl, ht1, rfl, rfl, _, rfl, iteNe (ns (by rcases o3 with rfl | rfl | rfl <;> decide)) ?_⟩
      dsimp only [tNext]
      refine seq_asg ⟨_, rfl, b, _, 2, _, rfl, rfl, ht1, rfl, br, r, names, rfl, hbr.same S1, tkr, hn, fun H2 p2 fm2 S2 hp2 F2 => ?_⟩
      have ht2 := ht1.same S2
      have S12 := S1.trans S2
      have hpp := hp.same S2
      have hpp' := hpp
      have hp2' := hp2
      obtain ⟨dx, dd, kvs, a1, a2, a3⟩ := hpp
      obtain ⟨dx2, dd2, kvs2, b1, b2, b3⟩ := hp2
      have l2 : fm2.length ≤ sizeLine := by have := F2.len; have := nF16 d; rw [sizeLine_eq]; omega
      rcases o3 with rfl | rfl | rfl
      · refine ⟨_, rfl, b, _, 0, _, rfl, rfl, ht2, rfl, rfl, _, rfl, iteNe (ns (by decide)) ?_⟩
        dsimp only [tNext]
        refine ret_of ⟨_, rfl, b, _, 0, _, rfl, rfl, ht2, rfl, rfl, _, rfl, iteNe (ns (by decide)) ?_⟩
        exact ⟨_, rfl, _, rfl, p, p2, dx, _, dx2, _, rfl, rfl, a1, b1, p, .ref p2, fm, fm2, rfl, hpp', .inr ⟨p2, rfl, hp2'⟩, F1.szs F2 (by omega), fun H3 q S3 nq hq => k H3 q _ (S12.trans S3) hq (F1.add F2 (by omega) fun g => tv_add tkl tkr)⟩
      · refine ⟨_, rfl, b, _, 0, _, rfl, rfl, ht2, rfl, rfl, _, rfl, iteNe (ns (by decide)) ?_⟩
        dsimp only [tNext]
        refine ret_of ⟨_, rfl, b, _, 0, _, rfl, rfl, ht2, rfl, rfl, _, rfl, iteEq ?_⟩
        have F3 : FOk names d (.bin 1 (.num 0) r) (negM fm2) := F2.neg' fun g => by
          have t0 : TrOk names d (.num 0) := by cases d <;> exact (show (0 : Int).natAbs < 2 ^ 40 by decide)
          rw [tv_sub t0 tkr]
          have e0 : tv g (.num 0) = 0 := by
            show ((0 : Int) : Rat) / ((1 : Int) : Rat) = 0
            have e1 : ((1 : Int) : Rat) = 1 := rfl
            have e2 : ((0 : Int) : Rat) = 0 := rfl
            rw [e1, e2]
            grind
          rw [e0]
          grind
        have hev : ∀ g, tv g (.bin 1 l r) = tv g l + tv g (.bin 1 (.num 0) r) := fun g => by
          have t0 : TrOk names d (.num 0) := by cases d <;> exact (show (0 : Int).natAbs < 2 ^ 40 by decide)
          rw [tv_sub tkl tkr, tv_sub t0 tkr]
          have e0 : tv g (.num 0) = 0 := by
            show ((0 : Int) : Rat) / ((1 : Int) : Rat) = 0
            have e1 : ((1 : Int) : Rat) = 1 := rfl
            have e2 : ((0 : Int) : Rat) = 0 := rfl
            rw [e1, e2]
            grind
          rw [e0]
          grind
        exact ⟨_, rfl, _, rfl, p, p2, dx, _, dx2, _, rfl, rfl, a1, b1, p, .ref p2, fm, fm2, rfl, hpp', .inr ⟨p2, rfl, hp2'⟩, F1.szs F3 (by omega), F2.nd, l2, fun H3 q S3 nq hq => k H3 q _ (S12.trans S3) hq (F1.add F3 (by omega) hev)⟩
      · refine ⟨_, rfl, b, _, 0, _, rfl, rfl, ht2, rfl, rfl, _, rfl, iteEq ?_⟩
        exact ⟨_, rfl, _, rfl, p, p2, dx, _, dx2, _, rfl, rfl, a1, b1, p, .ref p2, fm, fm2, rfl, hpp', .inr ⟨p2, rfl, hp2'⟩, F1.szm F2 (by omega), fun H3 q lz S3 nq hl hq => k H3 q _ (S12.trans S3) hq (F1.mul F2 (by omega) tkl tkr hl)⟩
end
end E2

set_option Elab.async false
set_option linter.all false
set_option maxRecDepth 100000
set_option maxHeartbeats 1000000
/-! _law_values -/
namespace E2
open PySem PySem.Spec PyProof.Rows L2
open C8 (Cal Mak Met InsC pe_c pe_mt pe_mt0 call_isC clsBody)
abbrev sValues : Stmt := top 32
def spValues (K : PySem.W.Frag) : Sp := fun vs H Q _ => ∃ (a l : Addr) (names : List Str) (n : Nat), vs = [.ref a, .ref l] ∧ PurseAt H a (n + 12 * names.length) ∧ SqL K H l (names.map V.str) ∧ l ≠ a ∧ names.length ≤ 12 ∧ (∀ z ∈ names, LetOk z) ∧
  ∀ H' dv g, VlAt H' dv names g → H dv = none → PurseAt H' a n → SameB a H H' → Q (.ref dv) H'
/-- what the dict holds by then -/
def VlI (H : Hp) (D : Addr) (names : List Str) (i : Nat) : Prop := ∃ kvs, H D = some (.dK kvs) ∧ ValsOk kvs ∧ kvs.length ≤ i ∧ ∀ z ∈ names.take i, ∃ m : Int, valV kvs (Sum.inr z) = some (.int m) ∧ m.natAbs < 2 ^ 100
theorem mem_putK {kvs : List (Key × V)} {k : Key} {v : V} {x : Key × V} (h : x ∈ putK kvs k v) : x ∈ kvs ∨ x = (k, v) := by
  unfold putK at h
  split at h
  · obtain ⟨y, hy, e⟩ := List.mem_map.mp h
    by_cases c : y.1 = k
    · rw [if_pos c] at e
      exact .inr (by rw [← e, c])
    · rw [if_neg c] at e
      exact .inl (e ▸ hy)
  · rcases List.mem_append.mp h with h | h
    · exact .inl h
    · exact .inr (by simpa using h)
theorem VlI.put {H : Hp} {D : Addr} {names : List Str} {i : Nat} {z : Str} {m : Int} (h : VlI H D names i) (hz : names[i]? = some z) (lz : LetOk z) (hm : m.natAbs < 2 ^ 100) :
    ∃ kvs, H D = some (.dK kvs) ∧ kvs.length ≤ i ∧ VlI (upd H D (.dK (putK kvs (Sum.inr z) (.int m)))) D names (i + 1) := by
  obtain ⟨kvs, hD, vo, ll, hv⟩ := h
  refine ⟨kvs, hD, ll, _, upd_same, fun x hx => ?_, Nat.le_trans (length_putK _ _ _) (by omega), fun y hy => ?_⟩
  · rcases mem_putK hx with hx | rfl
    · exact vo x hx
    · exact ⟨z, m, rfl, lz⟩
  · rw [valV_put]
    by_cases c : y = z
    · rw [if_pos (by rw [c])]
      exact ⟨m, rfl, hm⟩
    · rw [if_neg (fun e => c (Sum.inr.inj e))]
      rw [take_snoc hz] at hy
      rcases List.mem_append.mp hy with hy | hy
      · exact hv y hy
      · exact absurd (List.mem_singleton.mp hy) c
def gOf (kvs : List (Key × V)) (z : Str) : Int := match valV kvs (Sum.inr z) with
  | some (.int m) => m
  | _ => 0
theorem VlI.at {H : Hp} {D : Addr} {names : List Str} {n : Nat} (h : VlI H D names n) (hn : names.length ≤ n) (l : n ≤ 1000) : ∃ g, VlAt H D names g := by
  obtain ⟨kvs, hD, vo, ll, hv⟩ := h
  refine ⟨gOf kvs, kvs, hD, vo, by omega, fun z hz => ?_⟩
  obtain ⟨m, e, b⟩ := hv z (by rw [List.take_of_length_le hn]; exact hz)
  have eg : gOf kvs z = m := by unfold gOf; rw [e]
  rw [eg]
  exact ⟨e, b⟩
theorem VlI.step {H H' : Hp} {D : Addr} {names : List Str} {i : Nat} (h : VlI H D names i) (e : ∀ o, H D = some o → H' D = some o) : VlI H' D names i := let ⟨kvs, hD, r⟩ := h; ⟨kvs, e _ hD, r⟩
theorem seven {d5 far w : Int} (h5 : 0 ≤ d5 ∧ d5 < 99) (hf : far.natAbs < 2 ^ 100) (w0 : 0 ≤ w) (w1 : w < 7) : ∃ m : Int, atI [V.int 0, V.int 1, V.int 2, V.int 3, V.int (0 - 1), V.int d5, V.int far] w = some (.int m) ∧ m.natAbs < 2 ^ 100 := by
  have : w = 0 ∨ w = 1 ∨ w = 2 ∨ w = 3 ∨ w = 4 ∨ w = 5 ∨ w = 6 := by omega
  rcases this with rfl | rfl | rfl | rfl | rfl | rfl | rfl
  · exact ⟨0, rfl, by decide⟩
  · exact ⟨1, rfl, by decide⟩
  · exact ⟨2, rfl, by decide⟩
  · exact ⟨3, rfl, by decide⟩
  · exact ⟨0 - 1, rfl, by decide⟩
  · exact ⟨d5, rfl, by omega⟩
  · exact ⟨far, rfl, hf⟩
section
variable {P : Program} {w : World} {K : PySem.W.Frag} {mg : Str → Option Value} {base : Heap}
theorem scValues : FnScope ["_law_purse_here", "_law_names_here", "_law_found", "_law_name", "_law_far"] ["_law_purse_here", "_law_names_here"] (defScope sValues) := ⟨rfl, rfl, rfl, by decide +kernel, rfl, by decide +kernel, by decide +kernel⟩
theorem ok_values {f : Addr} {fd : FuncData} (F : Fun K "_law_values" "_law_values" sValues f fd) (D : Cal P w K mg base 2 "_law_draw" spDraw []) : FnOk P w K mg base CX0 3 f fd ["_law_purse_here", "_law_names_here"] (spValues K) := by
  refine F.ok scValues (fun vs H Q E h => ?_) (fun cdv A outer s H vs Q E hr h => ?_)
  · obtain ⟨a, l, names, n, rfl, _⟩ := h
    rfl
  · obtain ⟨a, l, names, n, rfl, hp, hs, ne, hl, hz, k⟩ := h
    have u1 := Nat.lt_of_le_of_lt (Nat.add_le_add_left (by decide : 1 ≤ 64) _) hr.units
    refine ⟨_, pss_cons (ps_set (i := 2) scValues.nd rfl (Or.inl rfl) pe_dnewK)
      (pss_cons (ps_for PassesOwn.never rfl (pi_list (pv 1)) (pg_name (i := 3) scValues.nd rfl (Or.inl rfl))
        (pss_cons (ps_set (i := 4) scValues.nd rfl (Or.inl rfl) (pe_op op_sub (pe_c D hr (by decide) rfl (pa_cons (pv 0) (pa_cons (pe_op op_pow pe_int pe_int) pa_nil))) (pe_op op_pow pe_int pe_int)))
        (pss_one (ps_dput u1 (pv 2) (pv 3) (pe_ix ix_list (pe_lstS (pa_cons pe_int (pa_cons pe_int (pa_cons pe_int (pa_cons pe_int (pa_cons (pe_op op_sub pe_int pe_int) (pa_cons (pe_c D hr (by decide) rfl (pa_cons (pv 0) (pa_cons pe_int pa_nil))) (pa_cons (pv 4) pa_nil)))))))) (pe_c D hr (by decide) rfl (pa_cons (pv 0) (pa_cons pe_int pa_nil))) (fun _ _ => rfl)) rfl))))
      (pss_one (ps_ret (pv 2)))), ?_⟩
    refine seq_asg fun dv nd => ?_
    have nda : dv ≠ a := by
      rintro rfl
      obtain ⟨ys, e⟩ := hp.lst
      rw [nd] at e
      cases e
    refine ⟨_, rfl, l, rfl, ⟨_, hs.same (Same.upd nd)⟩, for_it (walk_list (xs := names.map V.str)) (fun i σ' H' => (∃ u v, σ' = [some (.ref a), some (.ref l), some (.ref dv), u, v]) ∧ SameB a H H' ∧ PurseAt H' a (n + 12 * (names.length - i)) ∧ VlI H' dv names i) ⟨⟨none, none, rfl⟩, fun c o _ e => Same.upd nd _ _ e, hp.same (Same.upd nd), [], upd_same, fun x hx => absurd hx List.not_mem_nil, Nat.le_refl _, fun z hz => absurd hz (by simp)⟩ (fun i σ' H' _ q => E2.SqL.sameB hs q.2.1 ne) ?_ ?_⟩
    · rintro i x σ' H1 H2 hi ⟨⟨u, v, rfl⟩, S, hpi, vi⟩ ⟨rfl, hx⟩
      rw [List.length_map] at hi
      obtain ⟨z, hz2, rfl⟩ : ∃ z, names[i]? = some z ∧ x = V.str z := by
        rw [List.getElem?_map] at hx
        obtain ⟨z, hz, e⟩ := Option.map_eq_some_iff.mp hx
        exact ⟨z, hz, e.symm⟩
      have lz := hz z (List.mem_of_getElem? hz2)
      have c1 : CPow 10 20 := ⟨by decide, by decide, by decide⟩
      have c2 : CPow 10 19 := ⟨by decide, by decide, by decide⟩
      have e12 : n + 12 * (names.length - i) = (n + 12 * (names.length - (i + 1)) + 8) + 4 := by omega
      rw [e12] at hpi
      refine seq_asg ⟨_, rfl, 10, 20, rfl, rfl, c1, a, _, _, rfl, hpi, by decide +kernel, by decide +kernel, fun r H3 r0 r1 hp3 S3 => ⟨10, 19, rfl, rfl, c2, _, _, rfl, rfl, ?_⟩⟩
      have hp3' := hp3.less (show n + 12 * (names.length - (i + 1)) + 4 + 4 ≤ n + 12 * (names.length - (i + 1)) + 8 by omega)
      refine ⟨_, _, rfl, rfl, _, rfl, a, 99, n + 12 * (names.length - (i + 1)) + 4, rfl, hp3', by decide, by decide, fun d5 H4 d50 d51 hp4 S4 => ⟨_, rfl, (by show 7 ≤ sizeLine; decide), fun pl H5 S5 n5 h5 => ?_⟩⟩
      have npl : pl ≠ a := by
        rintro rfl
        obtain ⟨ys, e⟩ := hp4.lst
        rw [n5] at e
        cases e
      refine ⟨_, rfl, a, 7, n + 12 * (names.length - (i + 1)), rfl, hp4.same S5, by decide, by decide, fun w H6 w0 w1 hp6 S6 => ?_⟩
      obtain ⟨m, hat, hm⟩ := seven (far := r - 10 ^ (19 : Int).toNat) ⟨d50, d51⟩ (by
        have e1 : (10 : Int) ^ (20 : Int).toNat = 100000000000000000000 := by decide +kernel
        have e2 : (10 : Int) ^ (19 : Int).toNat = 10000000000000000000 := by decide +kernel
        rw [e1] at r1
        rw [e2]
        omega) w0 w1
      have SB : SameB a H H6 := (((S.trans S3).trans S4).to S5).trans S6
      have vi6 : VlI H6 dv names i := vi.step fun o e => S6 _ _ nda (S5 _ _ (S4 _ _ nda (S3 _ _ nda e)))
      obtain ⟨kvs, hD, ll, vn⟩ := vi6.put hz2 lz hm
      refine ⟨pl, _, w, _, rfl, rfl, E2.SqL.sameB (SqL.of h5) S6 npl, hat, _, rfl, _, rfl, dv, _, rfl, DPut.k (k := Sum.inr z) hD (by rw [sizeLine_eq]; omega), ⟨_, _, rfl⟩, fun c o nc e => ?_, ?_, vn⟩
      · have nd2 : c ≠ dv := by
          rintro rfl
          rw [nd] at e
          cases e
        rw [upd_ne nd2]
        exact SB _ _ nc e
      · obtain ⟨p0, p1, p2, p3, e, rr⟩ := hp6
        exact ⟨p0, p1, p2, p3, by rw [upd_ne (Ne.symm nda)]; exact e, rr⟩
    · rintro σ' H1 ⟨⟨u, v, rfl⟩, S, hpi, vi⟩
      rw [List.length_map] at hpi vi
      obtain ⟨g, hg⟩ := vi.at (Nat.le_refl _) (by omega)
      exact ⟨_, rfl, k H1 dv g hg nd (hpi.less (by omega)) S⟩
end
end E2

set_option Elab.async false
set_option linter.all false
set_option maxRecDepth 100000
set_option maxHeartbeats 1000000
/-! _law_names -/
namespace E2
open PySem PySem.Spec PyProof.Rows L2
open C8 (Cal Mak Met InsC pe_c pe_mt pe_mt0 call_isC clsBody)
abbrev sNames : Stmt := top 33
def spNames (K : PySem.W.Frag) : Sp := fun vs H Q _ => ∃ (a : Addr) (m n : Nat), vs = [.ref a, .int (m : Int)] ∧ m ≤ 3 ∧ PurseAt H a (n + 20 * m) ∧
  ∀ (H' : Hp) (l : Addr) (names : List Str), names.length = m → (∀ z ∈ names, LetOk z) → H' l = some (.lst (names.map V.str)) → H l = none → PurseAt H' a n → SameB a H H' → Q (.ref l) H'
theorem strOk_of {z : Str} (h : LetOk z) : PyData.strOk z = true := by
  unfold PyData.strOk
  rw [Array.all_eq_true']
  intro c hc
  have := h.2.2 c (Array.mem_toList_iff.mpr hc)
  exact decide_eq_true (by omega)
def fixed : List Str := ["n", "m", "k", "i", "j", "size", "abcdefghij", "z", "row", "width", "column"]
def alpha : Str := "abcdefghijklmnopqrstuvwxyz"
theorem alpha_k : ∀ k, k < 26 → alpha.cps.toList[k]? = some (97 + k) := by decide
theorem alpha_at {c : Int} (h0 : 0 ≤ c) (h1 : c < 26) : ∃ ch, atI alpha.cps.toList c = some ch ∧ 97 ≤ ch ∧ ch ≤ 122 := by
  have hk := alpha_k c.toNat (by omega)
  refine ⟨97 + c.toNat, ?_, by omega, by omega⟩
  unfold atI ixN
  rw [if_pos h0, if_pos (show c < (alpha.cps.toList.length : Int) from h1)]
  exact hk
/-- a word that is being made -/
def Wo (w : Str) (j : Nat) : Prop := w.length = j ∧ ∀ c ∈ w.cps.toList, 97 ≤ c ∧ c ≤ 122
theorem Wo.snoc {w : Str} {j c : Nat} (h : Wo w j) (c0 : 97 ≤ c) (c1 : c ≤ 122) : Wo (w ++ ⟨#[c]⟩) (j + 1) := by
  obtain ⟨h1, h2⟩ := h
  have e : (w ++ (⟨#[c]⟩ : Str)).cps = w.cps ++ #[c] := rfl
  refine ⟨?_, fun x hx => ?_⟩
  · show (w ++ (⟨#[c]⟩ : Str)).cps.size = j + 1
    rw [e, Array.size_append]
    have : w.cps.size = j := h1
    rw [this]
    rfl
  · rw [e] at hx
    simp only [Array.toList_append, List.mem_append] at hx
    rcases hx with hx | hx
    · exact h2 x hx
    · simp only [List.mem_singleton] at hx
      omega
theorem inV_strs (z : Str) (fs : List Str) : inV (.str z) (fs.map V.str) = decide (z ∈ fs) := by
  unfold inV
  rw [Bool.eq_iff_iff]
  simp only [List.any_eq_true, List.mem_map, decide_eq_true_eq]
  constructor
  · rintro ⟨y, ⟨x, hx, rfl⟩, e⟩
    have : x = z := by simpa [eqV] using e
    exact this ▸ hx
  · intro h
    exact ⟨_, ⟨z, h, rfl⟩, by simp [eqV]⟩
theorem one_new {fs : List Str} (h : fs.length ≤ 2) : ∃ z ∈ fixed, z ∉ fs := by
  by_cases h1 : ("n" : Str) ∈ fs
  · by_cases h2 : ("m" : Str) ∈ fs
    · by_cases h3 : ("k" : Str) ∈ fs
      · exfalso
        have d : (["n", "m", "k"] : List Str).Nodup := by decide
        have sub : (["n", "m", "k"] : List Str) ⊆ fs := by
          intro x hx
          simp only [List.mem_cons, List.not_mem_nil, or_false] at hx
          rcases hx with rfl | rfl | rfl
          · exact h1
          · exact h2
          · exact h3
        have := List.Nodup.length_le_of_subset d sub
        simp at this
        omega
      · exact ⟨"k", by decide, h3⟩
    · exact ⟨"m", by decide, h2⟩
  · exact ⟨"n", by decide, h1⟩
theorem fixed_ok : ∀ z ∈ fixed, LetOk z := by
  intro z hz
  simp only [fixed, List.mem_cons, List.not_mem_nil, or_false] at hz
  rcases hz with rfl | rfl | rfl | rfl | rfl | rfl | rfl | rfl | rfl | rfl | rfl
  all_goals exact ⟨by decide, by decide, by decide⟩
section
variable {P : Program} {w : World} {K : PySem.W.Frag} {mg : Str → Option Value} {base : Heap}
theorem scNames : FnScope ["_law_purse_here", "_law_many", "_law_found", "_law_turn", "_law_word", "_law_spot", "_law_some", "_law_name"] ["_law_purse_here", "_law_many"] (defScope sNames) := ⟨rfl, rfl, rfl, by decide +kernel, rfl, by decide +kernel, by decide +kernel⟩
theorem ok_names {f : Addr} {fd : FuncData} (F : Fun K "_law_names" "_law_names" sNames f fd) (B : Bt4 mg) (D : Cal P w K mg base 2 "_law_draw" spDraw []) (O : Cal P w K mg base 3 "_law_one_of" (spOneOf K) []) : FnOk P w K mg base CX0 4 f fd ["_law_purse_here", "_law_many"] (spNames K) := by
  refine F.ok scNames (fun vs H Q E h => ?_) (fun cdv A outer s H vs Q E hr h => ?_)
  · obtain ⟨a, m, n, rfl, _⟩ := h
    rfl
  · obtain ⟨a, m, n, rfl, m3, hp, k⟩ := h
    refine ⟨_, pss_cons (ps_set (i := 2) scNames.nd rfl (Or.inr rfl) (pe_lstS pa_nil))
      (pss_cons (ps_for PassesOwn.never rfl (pi_range1 rfl B.rng_ (pa_cons (pv 1) pa_nil)) (pg_name (i := 3) scNames.nd rfl (Or.inl rfl))
        (pss_cons (ps_set (i := 4) scNames.nd rfl (Or.inl rfl) pe_str)
        (pss_cons (ps_for PassesOwn.never rfl (pi_range1 rfl B.rng_ (pa_cons (pe_op op_add pe_int (pe_c D hr (by decide) rfl (pa_cons (pv 0) (pa_cons pe_int pa_nil)))) pa_nil)) (pg_name (i := 5) scNames.nd rfl (Or.inl rfl))
          (pss_one (ps_set (i := 4) scNames.nd rfl (Or.inl rfl) (pe_op op_add_str (pv 4) (pe_ix ix_str pe_str (pe_c D hr (by decide) rfl (pa_cons (pv 0) (pa_cons pe_int pa_nil))) (fun _ _ => rfl))))))
        (pss_cons (ps_set (i := 6) scNames.nd rfl (Or.inl rfl) (pe_lstS (pa_cons pe_str (pa_cons pe_str (pa_cons pe_str (pa_cons pe_str (pa_cons pe_str (pa_cons pe_str (pa_cons pe_str (pa_cons pe_str (pa_cons pe_str (pa_cons pe_str (pa_cons pe_str (pa_cons (pv 4) (pa_cons (pv 4) (pa_cons (pv 4) pa_nil))))))))))))))))
        (pss_one (ps_expr (pe_bm PySem.F.plainAttrs_list PySem.F.slot_list_append PySem.F.type_list_append mt_append (pv 2) (pa_cons (pe_c O hr (by decide) rfl (pa_cons (pv 0) (pa_cons (pe_lc (own := [("_law_name", 7)]) (g := gName 7) (tt := tTest (tOp (rIn K true) (tVar 7) (tVar 2))) (te := tVar 7) rfl scNames.nd (pi_list (pv 6))
            (blkOk_by (own := [("_law_name", 7)]) (N := ["_law_purse_here", "_law_many", "_law_found", "_law_turn", "_law_word", "_law_spot", "_law_some", "_law_name"]) (sc := defScope sNames) (by decide +kernel))
            (fun _ _ _ _ _ => pg_name (i := 7) scNames.nd rfl (Or.inl rfl)) (fun _ _ _ _ _ => pts_one (by exact pt_cmpR op_notIn_seq (pv 7) (pv 2) (by rfl))) (fun _ _ _ _ _ => pv 7)) pa_nil))) pa_nil))))))))
      (pss_one (ps_ret (pv 2)))), ?_⟩
    refine seq_asg ⟨(by show 0 ≤ sizeLine; decide), fun fl H1 S1 n1 h1 => ?_⟩
    have nfa : fl ≠ a := by
      rintro rfl
      obtain ⟨ys, e⟩ := hp.lst
      rw [n1] at e
      cases e
    refine ⟨_, rfl, (m : Int), rfl, by omega, by omega, for_it (walk_range (n := (m : Int).toNat)) (fun i σ' H' => (∃ u3 u4 u5 u6, σ' = [some (.ref a), some (.int (m : Int)), some (.ref fl), u3, u4, u5, u6, none]) ∧ SameB a H H' ∧ PurseAt H' a (n + 20 * (m - i)) ∧ ∃ fs : List Str, fs.length = i ∧ (∀ z ∈ fs, LetOk z) ∧ H' fl = some (.lst (fs.map V.str))) ⟨⟨none, none, none, none, rfl⟩, fun c o _ e => S1 _ _ e, hp.same S1, [], rfl, fun z hz => absurd hz List.not_mem_nil, h1⟩ (fun _ _ _ _ _ => trivial) ?_ ?_⟩
    · rintro i x σ' H2 H3 hi ⟨⟨u3, u4, u5, u6, rfl⟩, S, hpi, fs, hf, fok, hfl⟩ ⟨rfl, rfl⟩
      have hi : i < m := by omega
      have e20 : n + 20 * (m - i) = (n + 20 * (m - (i + 1)) + 16) + 4 := by omega
      rw [e20] at hpi
      refine seq_asg ⟨_, rfl, a, 3, _, rfl, hpi, by decide, by decide, fun r H4 r0 r1 hp4 S4 => ⟨_, _, rfl, rfl, 1 + r, rfl, by omega, by omega, ?_⟩⟩
      refine for_it (walk_range (n := (1 + r).toNat)) (fun j σ' H' => (∃ w v5, σ' = [some (.ref a), some (.int (m : Int)), some (.ref fl), some (.int (0 + (i : Int))), some (.str w), v5, u6, none] ∧ Wo w j) ∧ SameB a H H' ∧ PurseAt H' a (n + 20 * (m - (i + 1)) + 4 + 4 * (3 - j)) ∧ H' fl = some (.lst (fs.map V.str))) ⟨⟨"", u5, rfl, rfl, fun c hc => absurd hc List.not_mem_nil⟩, S.trans S4, hp4.less (by omega), S4 _ _ nfa hfl⟩ (fun _ _ _ _ _ => trivial) ?_ ?_
      · rintro j y σ' H5 H6 hj ⟨⟨wd, v5, rfl, wo⟩, S5, hp5, hfl5⟩ ⟨rfl, rfl⟩
        have hj3 : j < 3 := by omega
        have e4 : n + 20 * (m - (i + 1)) + 4 + 4 * (3 - j) = (n + 20 * (m - (i + 1)) + 4 + 4 * (3 - (j + 1))) + 4 := by omega
        rw [e4] at hp5
        refine ⟨_, rfl, _, rfl, a, 26, _, rfl, hp5, by decide, by decide, fun c H7 c0 c1 hp7 S7 => ?_⟩
        obtain ⟨ch, hat, ch0, ch1⟩ := alpha_at c0 c1
        exact ⟨alpha, c, ch, rfl, rfl, (by show 26 ≤ sizeLine; decide), hat, _, _, rfl, rfl, (by rw [wo.1, sizeLine_eq]; show j + 1 ≤ _; omega), ⟨_, _, rfl, wo.snoc ch0 ch1⟩, S5.trans S7, hp7, S7 _ _ nfa hfl5⟩
      rintro σ' H5 ⟨⟨wd, v5, rfl, wo⟩, S5, hp5, hfl5⟩
      have wl : LetOk wd := ⟨by rw [wo.1]; omega, by rw [wo.1]; omega, wo.2⟩
      dsimp only
      refine seq_asg ⟨_, rfl, _, rfl, _, rfl, (by show 14 ≤ sizeLine; decide), fun sl H6 S6 n6 h6 => ?_⟩
      have hs6 : H6 sl = some (.lst ((fixed ++ [wd, wd, wd]).map V.str)) := h6
      have sok : ∀ z ∈ fixed ++ [wd, wd, wd], LetOk z := by
        intro z hz
        rcases List.mem_append.mp hz with h | h
        · exact fixed_ok z h
        · simp only [List.mem_cons, List.not_mem_nil, or_false] at h
          rcases h with rfl | rfl | rfl <;> exact wl
      have hfl6 := S6 _ _ hfl5
      have slen : (fixed ++ [wd, wd, wd]).length = 14 := rfl
      have hfx : ∀ z ∈ fixed, z ∈ fixed ++ [wd, wd, wd] := fun z hz => List.mem_append.mpr (.inl hz)
      generalize fixed ++ [wd, wd, wd] = so at hs6 sok slen hfx
      have flat : ∀ l : List Str, (l.map V.str).all flatV = true := fun l => by
        induction l with
        | nil => rfl
        | cons z l ih => rw [List.map_cons, List.all_cons, ih]; rfl
      refine ⟨_, rfl, .inl ⟨rfl, _, SqL.of hfl6⟩, _, rfl, _, rfl, sl, rfl, ⟨_, SqL.of hs6⟩, fun DD nDD => ?_⟩
      have nDa : DD ≠ a := by
        rintro rfl
        obtain ⟨ys, e⟩ := (hp5.same S6).lst
        rw [nDD] at e
        cases e
      refine lc_it (walk_list (xs := so.map V.str)) (fun j H7 => Same H6 H7 ∧ H7 DD = some (.lst (((so.take j).filter fun z => !decide (z ∈ fs)).map V.str))) ⟨Same.upd nDD, upd_same⟩ (fun j H7 _ q => SqL.of (q.1 _ _ hs6)) ?_ ?_
      · rintro j y H7 H8 hj ⟨S7, hDD⟩ ⟨rfl, hy⟩
        rw [List.length_map] at hj
        obtain ⟨z, hz, rfl⟩ : ∃ z, so[j]? = some z ∧ y = V.str z := by
          rw [List.getElem?_map] at hy
          obtain ⟨z, hz, e⟩ := Option.map_eq_some_iff.mp hy
          exact ⟨z, hz, e.symm⟩
        refine ⟨rfl, _, rfl, _, rfl, fl, fs.map V.str, rfl, .inl (SqL.of (S7 _ _ hfl6)), rfl, flat fs, _, rfl, ?_⟩
        show if (!inV (.str z) (fs.map V.str)) = true then _ else _
        rw [inV_strs]
        cases hc : (!decide (z ∈ fs)) with
        | true =>
          refine iteT (B := False) ⟨_, rfl, _, hDD, ?_, ?_, ?_⟩
          · rw [List.length_map, sizeLine_eq]
            have := List.length_filter_le (fun z => !decide (z ∈ fs)) (so.take j)
            rw [List.length_take] at this
            omega
          · intro c o e
            rw [upd_ne (ne_of_none e nDD)]
            exact S7 _ _ e
          · rw [upd_same, take_snoc hz, List.filter_append, List.filter_cons, if_pos hc, List.filter_nil, List.map_append]
            rfl
        | false =>
          refine iteF ⟨S7, ?_⟩
          rw [take_snoc hz, List.filter_append, List.filter_cons, if_neg (by rw [hc]; exact Bool.false_ne_true), List.filter_nil, List.append_nil]
          exact hDD
      · rintro H7 ⟨S7, hDD⟩
        rw [List.length_map, List.take_length] at hDD
        obtain ⟨z0, hz0, hn0⟩ := one_new (fs := fs) (by omega)
        have hin : z0 ∈ so.filter fun z => !decide (z ∈ fs) := List.mem_filter.mpr ⟨hfx z0 hz0, by simp [hn0]⟩
        have l0 : 0 < (so.filter fun z => !decide (z ∈ fs)).length := List.length_pos_of_mem hin
        have l1 : (so.filter fun z => !decide (z ∈ fs)).length ≤ 14 := by rw [← slen]; exact List.length_filter_le _ _
        refine ⟨a, DD, _, n + 20 * (m - (i + 1)), rfl, ((hp5.less (show n + 20 * (m - (i + 1)) + 4 ≤ _ by omega)).same S6).same S7, SqL.of hDD, nDa, by rw [List.length_map]; exact l0, by rw [List.length_map]; omega, fun r2 H8 hr2 hp8 S8 => ?_⟩
        obtain ⟨z, hz, rfl⟩ := List.mem_map.mp hr2
        have hzo := sok z (List.mem_filter.mp hz).1
        have hfl8 := S8 _ _ nfa (S7 _ _ hfl6)
        have SA : SameB a H H8 := ((S5.to S6).to S7).trans S8
        refine ⟨fl, _, _, rfl, rfl, hfl8, by rw [List.length_map, sizeLine_eq]; omega, ⟨_, _, _, _, rfl⟩, fun c o nc e => ?_, ?_, fs ++ [z], by rw [List.length_append, hf]; rfl, fun y hy => ?_, by rw [upd_same, List.map_append]; rfl⟩
        · have nfc : c ≠ fl := by
            rintro rfl
            rw [n1] at e
            cases e
          rw [upd_ne nfc]
          exact SA _ _ nc e
        · obtain ⟨p0, p1, p2, p3, e, rr⟩ := hp8
          exact ⟨p0, p1, p2, p3, by rw [upd_ne (Ne.symm nfa)]; exact e, rr⟩
        · rcases List.mem_append.mp hy with h | h
          · exact fok y h
          · rw [List.mem_singleton.mp h]
            exact hzo
    · rintro σ' H2 ⟨⟨u3, u4, u5, u6, rfl⟩, S, hpi, fs, hf, fok, hfl⟩
      exact ⟨_, rfl, k H2 fl fs (by rw [hf]; exact Int.toNat_natCast m) fok hfl (by
        exact n1) (hpi.less (by omega)) S⟩
end
end E2

set_option Elab.async false
set_option linter.all false
set_option maxRecDepth 100000
set_option maxHeartbeats 1000000
/-! _law_right -/
namespace E2
open PySem PySem.Spec PyProof.Rows L2
open C8 (Cal Mak Met InsC pe_c pe_mt pe_mt0 call_isC clsBody)
abbrev sRight2 : Stmt := top 34
/-- a form that at takes -/
structure FAt (names : List Str) (fm : Fm) : Prop where
  nd : (fm.map (·.1)).Nodup
  len : fm.length ≤ 1000
  sum : (fm.map fun x => x.1.length).sum ≤ 1000
  keys : ∀ x ∈ fm, ∀ z ∈ x.1, z ∈ names
  bq : ∃ D M, 0 < D ∧ D < 2 ^ 64 ∧ M < 2 ^ 400000 ∧ ∀ x ∈ fm, Bq D M x.2
theorem negM_map (fm : Fm) : (negM fm).map (·.1) = fm.map (·.1) := by
  unfold negM mapM
  rw [List.map_map, List.filter_eq_self.mpr fun _ _ => rfl]
  rfl
theorem FAt.neg {names : List Str} {fm : Fm} (F : FAt names fm) : FAt names (negM fm) := by
  obtain ⟨D, M, D0, D1, M1, hq⟩ := F.bq
  have e : (negM fm).map (fun x => x.1.length) = fm.map fun x => x.1.length := by
    have := congrArg (List.map List.length) (negM_map fm)
    rw [List.map_map, List.map_map] at this
    exact this
  refine ⟨by rw [negM_map]; exact F.nd, Nat.le_trans length_mapM F.len, by rw [e]; exact F.sum, fun x hx z hz => ?_, D, M, D0, D1, M1, fun x hx => ?_⟩
  · obtain ⟨y, hy, rfl, _⟩ := keys_mapM hx
    exact F.keys y hy z hz
  · obtain ⟨y, hy, rfl, _⟩ := keys_mapM hx
    exact (hq y hy).neg
theorem TrOk.up {names : List Str} : ∀ {d : Nat} {t : Tr}, TrOk names d t → TrOk names (d + 1) t
  | d, .num n, h => by cases d <;> exact h
  | d, .var z, h => by cases d <;> exact h
  | d + 1, .div t k, h => ⟨TrOk.up h.1, h.2⟩
  | d + 1, .bin o l r, h => ⟨h.1, TrOk.up h.2.1, TrOk.up h.2.2⟩
theorem tv_minus {names : List Str} {g : Str → Int} {d : Nat} {t : Tr} (h : TrOk names d t) : tv g (.bin 1 (.num 0) t) = -tv g t := by
  have t0 : TrOk names d (.num 0) := by cases d <;> exact (show (0 : Int).natAbs < 2 ^ 40 by decide)
  rw [tv_sub t0 h]
  have e0 : tv g (.num 0) = 0 := by
    show ((0 : Int) : Rat) / ((1 : Int) : Rat) = 0
    have e1 : ((1 : Int) : Rat) = 1 := rfl
    have e2 : ((0 : Int) : Rat) = 0 := rfl
    rw [e1, e2]
    grind
  rw [e0]
  grind
/-- a whole number, or none -/
def Val (q : Rat) (v : V) : Prop := (∃ n : Int, q = (n : Rat) ∧ v = .int n) ∨ ((∀ n : Int, q ≠ (n : Rat)) ∧ v = .non)
theorem val_ex (q : Rat) : ∃ v, Val q v := by
  by_cases h : ∃ n : Int, q = (n : Rat)
  · obtain ⟨n, e⟩ := h
    exact ⟨.int n, .inl ⟨n, e, rfl⟩⟩
  · exact ⟨.non, .inr ⟨fun n e => h ⟨n, e⟩, rfl⟩⟩
theorem val_q {q : Rat} {v : V} {Q : VK} {H : Hp} (h : Val q v) (k : (∀ n : Int, q = (n : Rat) → Q (.int n) H) ∧ ((∀ n : Int, q ≠ (n : Rat)) → Q .non H)) (hh : True := trivial) : Q v H := by
  rcases h with ⟨n, e, rfl⟩ | ⟨e, rfl⟩
  · exact k.1 n e
  · exact k.2 e
theorem val_k {q : Rat} {v : V} {Q : VK} {H : Hp} (h : Val q v) (k : Q v H) : (∀ n : Int, q = (n : Rat) → Q (.int n) H) ∧ ((∀ n : Int, q ≠ (n : Rat)) → Q .non H) := by
  rcases h with ⟨n, e, rfl⟩ | ⟨e, rfl⟩
  · refine ⟨fun m e2 => ?_, fun h => absurd e (h n)⟩
    have : n = m := Rat.intCast_inj.mp (e.symm.trans e2)
    exact this ▸ k
  · exact ⟨fun m e2 => absurd e2 (e m), fun _ => k⟩
theorem val_scal {q : Rat} {v : V} (h : Val q v) : scal v v = true := by
  rcases h with ⟨n, e, rfl⟩ | ⟨e, rfl⟩ <;> rfl
theorem FmAt.sameB {K : PySem.W.Frag} {C p : Addr} {H H' : Hp} {a : Addr} {fm : Fm} {n : Nat} (h : FmAt K C H a fm) (S : SameB p H H') (hp : PurseAt H p n) : FmAt K C H' a fm := by
  obtain ⟨ys, e⟩ := hp.lst
  obtain ⟨dx, d, kvs, h1, h2, h3⟩ := h
  exact ⟨dx, d, kvs, S _ _ (by rintro rfl; rw [e] at h1; cases h1) h1, S _ _ (by rintro rfl; rw [e] at h2; cases h2) h2, h3.imp fun c x s => E2.SqT.sameL s S e⟩
theorem VlAt.sub {H : Hp} {dv : Addr} {names names' : List Str} {g : Str → Int} (h : VlAt H dv names' g) (s : ∀ z ∈ names, z ∈ names') : VlAt H dv names g := let ⟨k, h1, h2, h3, h4⟩ := h; ⟨k, h1, h2, h3, fun z hz => h4 z (s z hz)⟩
theorem other_ok : LetOk "other" := ⟨by decide, by decide, by decide⟩
/-- what at wants, from a values' dict -/
theorem at_pre {K : PySem.W.Frag} {C : Addr} {H : Hp} {f dv : Addr} {fm : Fm} {names : List Str} {g : Str → Int} {v : V} {Q : VK} {E : XK} (hf : FmAt K C H f fm) (fa : FAt names fm) (hv : VlAt H dv names g) (hval : Val (ev g fm) v) (k : ∀ H', Same H H' → Q v H') : spAt K C [.ref f, .ref dv] H Q E := by
  obtain ⟨D, M, D0, D1, M1, hq⟩ := fa.bq
  obtain ⟨kvs, h1, h2, h3, h4⟩ := hv
  exact ⟨f, dv, fm, kvs, g, D, M, rfl, hf, fa.len, fa.sum, h1, h2, h3, fun x hx z hz => ⟨(h4 z (fa.keys x hx z hz)).1, Nat.lt_of_lt_of_le (h4 z (fa.keys x hx z hz)).2 (Nat.pow_le_pow_right (by decide) (by decide))⟩, D0, D1, M1, hq, fun H' S => val_k hval (k H' S)⟩
theorem whole_pre {K : PySem.W.Frag} {H : Hp} {tb dv : Addr} {t : Tr} {names : List Str} {g : Str → Int} {d : Nat} {v : V} {Q : VK} {E : XK} (ht : TrAt K H t tb) (tk : TrOk names d t) (hv : VlAt H dv names g) (hval : Val (tv g t) v) (k : ∀ H', Same H H' → Q v H') : spWholeAt K d [.ref tb, .ref dv] H Q E :=
  ⟨tb, dv, t, names, g, rfl, ht, tk, hv, fun H' S => val_k hval (k H' S)⟩
theorem call_two {sp : Sp} {E : XK} {i j : Nat} {v u : V} {σ : L2.St} {H : Hp} {Q : VK} (hs : σ[i]? = some (some v)) (hu : σ[j]? = some (some u)) (h : sp [v, u] H Q E) : tCall sp [] E (tCons (tVar i) (tCons (tVar j) tNil)) σ H Q := ⟨v, hs, u, hu, h⟩
theorem tail_one {sp : Sp} {E : XK} {j : Nat} {x u : V} {σ : L2.St} {H : Hp} {Q : VK} (hu : σ[j]? = some (some u)) (h : sp [x, u] H Q E) : tCons (tVar j) tNil σ H fun xs H2 => (fun vs H1 => sp (vs ++ []) H1 Q E) (x :: xs) H2 := ⟨u, hu, h⟩
theorem at_call {K : PySem.W.Frag} {C f dv : Addr} {i : Nat} {σ : L2.St} {H : Hp} {Q : VK} {E : XK} (hs : σ[i]? = some (some (.ref dv))) (h : spAt K C [.ref f, .ref dv] H Q E) : tCons (tVar i) tNil σ H fun vs H2 => spAt K C (V.ref f :: (vs ++ [])) H2 Q E := ⟨_, hs, h⟩
theorem iteV {q : Rat} {v : V} {H : Hp} {R : Bool → Hp → Prop} (h : Val q v) (k : R false H) : rNe v v H fun x H' => ∃ c, x = .bl c ∧ R c H' :=
  ⟨val_scal h, !decide (v = v), rfl, by rw [decide_eq_true rfl]; exact k⟩
def spLawRight (K : PySem.W.Frag) (C : Addr) : Sp := fun vs H Q _ => ∃ (a tb f l : Addr) (t : Tr) (fm : Fm) (names : List Str) (n : Nat), vs = [.ref a, .ref tb, .ref f, .ref l] ∧ PurseAt H a (n + 200) ∧ TrAt K H t tb ∧ TrOk names 5 t ∧ FmAt K C H f fm ∧ FAt names fm ∧ (∀ g, ev g fm = tv g t) ∧ H l = some (.lst (names.map V.str)) ∧ l ≠ a ∧ names.length ≤ 3 ∧ (∀ z ∈ names, LetOk z) ∧
  ∀ H', PurseAt H' a n → SameB a H H' → Q (.bl true) H'
section
variable {P : Program} {w : World} {K : PySem.W.Frag} {mg : Str → Option Value} {base : Heap} {C : Addr}
theorem kit_nb : PySem.W.kitOne K (.type "NoneType") (.type "bool") = some false := by kernel_rfl
theorem val_isi {q : Rat} {v : V} {H : Hp} {Q : VK} (h : Val q v) (k : Q (.bl false) H) : rIsi K [v, .ty "bool"] H Q := by
  rcases h with ⟨n, e, rfl⟩ | ⟨e, rfl⟩
  · exact ⟨_, _, _, _, false, rfl, .ty "bool", .base (.int n), kit_ib, k⟩
  · exact ⟨_, _, _, _, false, rfl, .ty "bool", .base .non, kit_nb, k⟩
theorem isi_tail {v : V} {σ : L2.St} {H : Hp} {Q : VK} (h : rIsi K [v, .ty "bool"] H Q) : tCons (tC (V.ty "bool")) tNil σ H fun xs H2 => (fun vs H1 => rIsi K vs H1 Q) (v :: xs) H2 := h
theorem scRight2 : FnScope ["_law_purse_here", "_law_tree_here", "_law_form_here", "_law_names_here", "_law_turn", "_law_values_here"] ["_law_purse_here", "_law_tree_here", "_law_form_here", "_law_names_here"] (defScope sRight2) := ⟨rfl, rfl, rfl, by decide +kernel, rfl, by decide +kernel, by decide +kernel⟩
theorem ok_right2 {f : Addr} {fd : FuncData} (F : Fun K "_law_right" "_law_right" sRight2 f fd) (B : Bt K mg C) (B4 : Bt4 mg) (Va : Cal P w K mg base 3 "_law_values" (spValues K) []) (Wa : Cal P w K mg base 9 "_law_whole_at" (spWholeAt K 6) []) (At : Met P w K mg base 3 C "at" (spAt K C) []) (On : OpM P w K mg base 3 C "__neg__" (spNeg K C (fun q => -q))) : FnOk P w K mg base CX0 10 f fd ["_law_purse_here", "_law_tree_here", "_law_form_here", "_law_names_here"] (spLawRight K C) := by
  obtain ⟨fn, fdn, pn, on, Fn, bn⟩ := On.ex
  refine F.ok scRight2 (fun vs H Q E h => ?_) (fun cdv A outer s H vs Q E hr h => ?_)
  · obtain ⟨a, tb, f, l, t, fm, names, n, rfl, _⟩ := h
    rfl
  · obtain ⟨a, tb, f, l, t, fm, names, n, rfl, hp, ht, tk, hf, fa, he, hl, nla, hn, hz, k⟩ := h
    refine ⟨_, pss_cons (ps_for PassesOwn.never rfl (pi_range1 rfl B4.rng_ (pa_cons pe_int pa_nil)) (pg_name (i := 4) scRight2.nd rfl (Or.inl rfl))
        (pss_cons (ps_set (i := 5) scRight2.nd rfl (Or.inl rfl) (pe_c Va hr (by decide) rfl (pa_cons (pv 0) (pa_cons (pe_op op_catS (pv 3) (pe_lstS (pa_cons pe_str pa_nil))) pa_nil))))
        (pss_cons (ps_if (PW.pt (pw_or (pt_cmpR op_ne (pe_mt At hr (by decide) (pv 2) (pa_cons (pv 5) pa_nil)) (pe_c Wa hr (by decide) rfl (pa_cons (pv 1) (pa_cons (pv 5) pa_nil))) (by rfl))
            (pw_or1 (pt_val (pe_callB call_isi (by rfl) B.isi (by decide +kernel) (pa_cons (pe_mt At hr (by decide) (pv 2) (pa_cons (pv 5) pa_nil)) (pa_cons (pe_bltn (v := .ty "bool") (by rfl) B.bool_ (by decide +kernel) rfl) pa_nil))))))) (pss_one (ps_ret pe_bl)) pss_nil)
        (pss_one (ps_if (pt_cmpR op_ne (pe_mt At hr (by decide) (pe_un (un_own on Fn (hr.mono (by decide)) bn) (pv 2)) (pa_cons (pv 5) pa_nil)) (pe_c Wa hr (by decide) rfl (pa_cons (pe_tupS (pa_cons pe_str (pa_cons (pe_tupS (pa_cons pe_str (pa_cons pe_int pa_nil))) (pa_cons (pv 1) pa_nil)))) (pa_cons (pv 5) pa_nil))) (by rfl)) (pss_one (ps_ret pe_bl)) pss_nil)))))
      (pss_one (ps_ret pe_bl)), ?_⟩
    refine ⟨4, rfl, by decide, by decide, for_it (walk_range (n := (4 : Int).toNat)) (fun i σ' H' => (∃ u4 u5, σ' = [some (.ref a), some (.ref tb), some (.ref f), some (.ref l), u4, u5]) ∧ SameB a H H' ∧ PurseAt H' a (n + 50 * (4 - i))) ⟨⟨none, none, rfl⟩, SameB.refl _ _, hp⟩ (fun _ _ _ _ _ => trivial) ?_ ?_⟩
    · rintro i x σ' H1 H2 hi ⟨⟨u4, u5, rfl⟩, S, hpi⟩ ⟨rfl, rfl⟩
      have hi4 : i < 4 := hi
      have e50 : n + 50 * (4 - i) = n + 50 * (4 - (i + 1)) + 50 := by omega
      rw [e50] at hpi
      have hl2 := S _ _ nla hl
      have hf2 := FmAt.sameB hf S hp
      have ht2 := ht.sameB S hp
      refine seq_asg ⟨_, rfl, _, rfl, (by show 1 ≤ sizeLine; decide), fun ol H3 S3 n3 h3 => ⟨l, ol, _, _, rfl, rfl, S3 _ _ hl2, h3, by rw [List.length_map, sizeLine_eq]; show _ + 1 ≤ _; omega, fun nl H4 S4 n4 h4 => ?_⟩⟩
      have h4' : H4 nl = some (.lst ((names ++ ([("other" : Str)] : List Str)).map V.str)) := by rw [List.map_append]; exact h4
      have nna : nl ≠ a := by
        rintro rfl
        obtain ⟨ys, e⟩ := (hpi.same S3).lst
        rw [n4] at e
        cases e
      have ln : (names ++ ([("other" : Str)] : List Str)).length ≤ 4 := by rw [List.length_append]; show _ + 1 ≤ 4; omega
      refine ⟨a, nl, names ++ ([("other" : Str)] : List Str), n + 50 * (4 - (i + 1)), rfl, ((hpi.less (by omega)).same S3).same S4, SqL.of h4', nna, by omega, fun z hz2 => ?_, fun H5 dv g hv nd hp5 S5 => ?_⟩
      · rcases List.mem_append.mp hz2 with h | h
        · exact hz z h
        · rw [List.mem_singleton.mp h]
          exact other_ok
      have hv := hv.sub (names := names) fun z h => List.mem_append.mpr (.inl h)
      have hpA := (hpi.same S3).same S4
      have SA : SameB a H H5 := ((S.to S3).to S4).trans S5
      have hf5 := FmAt.sameB ((hf2.same S3).same S4) S5 hpA
      have ht5 := ((ht2.same S3).same S4).sameB S5 hpA
      obtain ⟨v, hval⟩ := val_ex (tv g t)
      have hvale : Val (ev g fm) v := by rw [he g]; exact hval
      have insOf : ∀ {G q fm'}, FmAt K C G q fm' → ∃ dx fs, G q = some (.ins C dx fs) ∧ fs.lookup ("at" : Str) = none := fun {G q fm'} h => let ⟨dx, d, kvs, h1, _⟩ := h; ⟨dx, _, h1, rfl⟩
      obtain ⟨dx5, fs5, i5, l5⟩ := insOf hf5
      refine ⟨_, rfl, f, dx5, fs5, rfl, i5, l5, at_call rfl (at_pre hf5 fa hv hvale fun H6 S6 => ?_)⟩
      refine call_two rfl rfl (whole_pre (ht5.same S6) tk.up (hv.same S6) hval fun H7 S7 => iteV hval (iteF ?_))
      have S67 := S6.trans S7
      have hf7 := hf5.same S67
      obtain ⟨dx7, fs7, i7, l7⟩ := insOf hf7
      refine ⟨_, rfl, f, dx7, fs7, rfl, i7, l7, at_call rfl (at_pre hf7 fa (hv.same S67) hvale fun H8 S8 => isi_tail (val_isi hvale ⟨false, rfl, iteF ?_⟩))⟩
      dsimp only [tNext]
      have S68 := S67.trans S8
      have hf8 := hf5.same S68
      obtain ⟨dx8, fs8, i8, l8⟩ := insOf hf8
      refine ⟨_, rfl, f, dx8, fs8, rfl, i8, f, fm, rfl, hf8, fa.nd, by have := fa.len; rw [sizeLine_eq]; omega, fun H9 q S9 nq hq => ?_⟩
      obtain ⟨dx9, fs9, i9, l9⟩ := insOf hq
      obtain ⟨v2, hval2⟩ := val_ex (-tv g t)
      have hv2e : Val (ev g (negM fm)) v2 := by rw [ev_neg, he g]; exact hval2
      have hv2t : Val (tv g (.bin 1 (.num 0) t)) v2 := by rw [tv_minus tk]; exact hval2
      have S69 := S68.trans S9
      refine ⟨q, dx9, fs9, rfl, i9, l9, at_call rfl (at_pre hq fa.neg (hv.same S69) hv2e fun H10 S10 => ?_)⟩
      refine ⟨(by show 2 ≤ sizeLine; decide), fun it H11 S11 n11 h11 => ⟨_, rfl, (by show 3 ≤ sizeLine; decide), fun ot H12 S12 n12 h12 => tail_one rfl ?_⟩⟩
      have S612 := (((S69.trans S10).trans S11).trans S12)
      refine whole_pre (t := .bin 1 (.num 0) t) ⟨it, tb, SqT.of h12, SqT.of (S12 _ _ h11), ht5.same S612⟩ ⟨by decide, (show (0 : Int).natAbs < 2 ^ 40 by decide), tk⟩ (hv.same S612) hv2t fun H13 S13 => iteV hv2t (iteF ?_)
      exact ⟨⟨_, _, rfl⟩, (SA.to S612).to S13, (hp5.same S612).same S13⟩
    · rintro σ' H1 ⟨⟨u4, u5, rfl⟩, S, hpi⟩
      exact k H1 (hpi.less (by omega)) S
end
end E2

set_option Elab.async false
set_option linter.all false
set_option maxRecDepth 100000
set_option maxHeartbeats 1000000
/-! forms with one sign more -/
namespace E2
open PySem PySem.Spec PyProof.Rows L2
open C8 (Cal Mak Met InsC pe_c pe_mt pe_mt0 call_isC clsBody)
theorem sum_le (b : Nat) : ∀ l : List Nat, (∀ x ∈ l, x ≤ b) → l.sum ≤ l.length * b
  | [], _ => by simp
  | x :: l, h => by
    have ih := sum_le b l fun y hy => h y (List.mem_cons.mpr (.inr hy))
    have hx := h x (List.mem_cons.mpr (.inl rfl))
    rw [List.sum_cons, List.length_cons, Nat.add_mul]
    omega
theorem FAt.of {names : List Str} {fm : Fm} (nd : (fm.map (·.1)).Nodup) (len : fm.length ≤ 17) (keys : ∀ x ∈ fm, x.1.length ≤ 8 ∧ ∀ z ∈ x.1, z ∈ names) (bq : ∃ D M, 0 < D ∧ D < 2 ^ 64 ∧ M < 2 ^ 400000 ∧ ∀ x ∈ fm, Bq D M x.2) : FAt names fm := by
  refine ⟨nd, by omega, ?_, fun x hx => (keys x hx).2, bq⟩
  have h := sum_le 8 (fm.map fun x => x.1.length) fun n hn => by
    obtain ⟨x, hx, rfl⟩ := List.mem_map.mp hn
    exact (keys x hx).1
  rw [List.length_map] at h
  omega
/-- a term without letters, or none -/
structure One (f2 : Fm) (c : Rat) : Prop where
  nd : (f2.map (·.1)).Nodup
  len : f2.length ≤ 1
  of : ∀ x ∈ f2, x.1 = [] ∧ Bq 1 (2 ^ 30) x.2
  ev : ∀ g, ev g f2 = c
theorem one_num {n : Int} (h : n.natAbs < 2 ^ 30) : One (numM n) (n : Rat) := by
  unfold numM
  by_cases c : n = 0
  · rw [if_pos c]
    exact ⟨List.nodup_nil, Nat.zero_le _, fun x hx => absurd hx List.not_mem_nil, fun g => by rw [c]; rfl⟩
  · rw [if_neg c]
    refine ⟨List.nodup_cons.mpr ⟨List.not_mem_nil, List.nodup_nil⟩, Nat.le_refl _, fun x hx => ?_, fun g => ?_⟩
    · rw [List.mem_singleton.mp hx]
      exact ⟨rfl, Bq.int.mono (Nat.le_of_lt h)⟩
    · show (n : Rat) * ((1 : Int) : Rat) + 0 = n
      have e1 : ((1 : Int) : Rat) = 1 := rfl
      rw [e1]
      grind
theorem One.neg {f2 : Fm} {c : Rat} (O : One f2 c) : One (negM f2) (-c) := by
  refine ⟨by rw [negM_map]; exact O.nd, Nat.le_trans length_mapM O.len, fun x hx => ?_, fun g => by rw [ev_neg, O.ev g]⟩
  obtain ⟨y, hy, rfl, _⟩ := keys_mapM hx
  exact ⟨(O.of y hy).1, (O.of y hy).2.neg⟩
section
variable {names : List Str} {t : Tr} {fm f2 : Fm} {c : Rat}
theorem FOk.b3 (F : FOk names 3 t fm) : fm.length ≤ 16 ∧ (∀ x ∈ fm, x.1.length ≤ 8 ∧ ∀ z ∈ x.1, z ∈ names) ∧ ∃ D M, 0 < D ∧ D < 2 ^ 32 ∧ M < 2 ^ 3840 ∧ ∀ x ∈ fm, Bq D M x.2 := ⟨F.len, F.keys, F.bq⟩
theorem FOk.fat (F : FOk names 3 t fm) : FAt names fm := by
  obtain ⟨l, k, D, M, D0, D1, M1, hq⟩ := F.b3
  exact FAt.of F.nd (by omega) k ⟨D, M, D0, Nat.lt_of_lt_of_le D1 (Nat.pow_le_pow_right (by decide) (by decide)), Nat.lt_of_lt_of_le M1 (Nat.pow_le_pow_right (by decide) (by omega)), hq⟩
theorem up4 {M : Nat} {n : Nat} (h : M < 2 ^ n) (l : n ≤ 400000) : M < 2 ^ 400000 := Nat.lt_of_lt_of_le h (Nat.pow_le_pow_right (by decide) l)
theorem FOk.szs1 (F : FOk names 3 t fm) (O : One f2 c) : Szs fm f2 := by
  obtain ⟨l, k, D, M, D0, D1, M1, hq⟩ := F.b3
  have l2 := O.len
  have n62 : 2 ^ 30 * D < 2 ^ 63 := pw_lt (show 2 ^ 30 < 2 ^ 31 by decide) D1 (by decide)
  have nn : f2.length * (2 ^ 30 * D) < 2 ^ 64 := pw_lt (show f2.length < 2 ^ 1 by omega) n62 (by decide)
  refine ⟨F.nd, O.nd, by rw [sizeLine_eq]; omega, D, M, 2 ^ 30 * D, D0, Nat.lt_of_lt_of_le D1 (Nat.pow_le_pow_right (by decide) (by decide)), ?_, up4 n62 (by decide), hq, fun x hx => ?_⟩
  · exact up4 (add_lt M1 (Nat.lt_of_lt_of_le nn (Nat.pow_le_pow_right (by decide) (by decide))) (Nat.le_refl _)) (by decide)
  · have := (O.of x hx).2.scale (k := D)
    rwa [Nat.one_mul] at this
theorem FOk.add1 (F : FOk names 3 t fm) (O : One f2 c) : FAt names (mapM nz id (addTo fm f2)) ∧ ∀ g : Str → Int, L2.ev g (mapM nz id (addTo fm f2)) = tv g t + c := by
  obtain ⟨l, k, D, M, D0, D1, M1, hq⟩ := F.b3
  have l2 := O.len
  have n62 : 2 ^ 30 * D < 2 ^ 63 := pw_lt (show 2 ^ 30 < 2 ^ 31 by decide) D1 (by decide)
  have nn : f2.length * (2 ^ 30 * D) < 2 ^ 64 := pw_lt (show f2.length < 2 ^ 1 by omega) n62 (by decide)
  have hq2 : ∀ x ∈ f2, Bq D (2 ^ 30 * D) x.2 := fun x hx => by
    have := (O.of x hx).2.scale (k := D)
    rwa [Nat.one_mul] at this
  refine ⟨FAt.of (mapM_nodup (nodup_addTo _ _ F.nd)) (Nat.le_trans length_mapM (Nat.le_trans (length_addTo _ _) (by omega))) (fun x hx => ?_) ⟨D, M + f2.length * (2 ^ 30 * D), D0, Nat.lt_of_lt_of_le D1 (Nat.pow_le_pow_right (by decide) (by decide)), up4 (add_lt M1 (Nat.lt_of_lt_of_le nn (Nat.pow_le_pow_right (by decide) (by decide))) (Nat.le_refl _)) (by decide), fun x hx => ?_⟩, fun g => ?_⟩
  · obtain ⟨y, hy, rfl, _⟩ := keys_mapM hx
    rcases mem_addTo_key hy with h | h
    · obtain ⟨z, hz, e⟩ := List.mem_map.mp h
      have := k z hz
      rw [e] at this
      exact this
    · obtain ⟨z, hz, e⟩ := List.mem_map.mp h
      have e2 : y.1 = [] := by rw [← e]; exact (O.of z hz).1
      refine ⟨by show y.1.length ≤ 8; rw [e2]; decide, fun w hw => ?_⟩
      have hw : w ∈ y.1 := hw
      rw [e2] at hw
      exact absurd hw List.not_mem_nil
  · obtain ⟨y, hy, rfl, _⟩ := keys_mapM hx
    exact bq_addTo f2 fm M hq hq2 y hy
  · rw [ev_mapM g nz0, ev_addTo g _ _ F.nd, F.ev g, O.ev g]
theorem FOk.szm1 (F : FOk names 3 t fm) (O : One f2 c) : SzM fm f2 := by
  obtain ⟨l, k, D, M, D0, D1, M1, hq⟩ := F.b3
  have l2 := O.len
  have ll : fm.length * f2.length ≤ 16 := by
    have := Nat.mul_le_mul l l2
    omega
  have mm : M * 2 ^ 30 < 2 ^ 3871 := pw_lt M1 (show 2 ^ 30 < 2 ^ 31 by decide) (by decide)
  refine ⟨F.nd, O.nd, by rw [sizeLine_eq]; omega, fun x hx y hy => ?_, D, M, 1, 2 ^ 30, D0, by decide, by rw [Nat.mul_one]; exact Nat.lt_of_lt_of_le D1 (Nat.pow_le_pow_right (by decide) (by decide)), ?_, up4 mm (by decide), up4 M1 (by decide), up4 (show 2 ^ 30 < 2 ^ 31 by decide) (by decide), hq, fun x hx => (O.of x hx).2⟩
  · rw [(O.of y hy).1, sizeLine_eq]
    have := (k x hx).1
    show x.1.length + 0 ≤ _
    omega
  · exact up4 (pw_lt (show fm.length * f2.length < 2 ^ 5 by omega) mm (Nat.le_refl _)) (by decide)
theorem FOk.mul1 {lz : Fm} (F : FOk names 3 t fm) (O : One f2 c) (hp : Paired MulT lz (allP fm f2)) : ((mapM nz id (addTo [] lz)).map (·.1)).Nodup ∧ (mapM nz id (addTo [] lz)).length ≤ 16 ∧ (∀ x ∈ mapM nz id (addTo [] lz), x.1.length ≤ 8 ∧ ∀ z ∈ x.1, z ∈ names) ∧ (∃ D M, 0 < D ∧ D < 2 ^ 32 ∧ M < 2 ^ 3880 ∧ ∀ x ∈ mapM nz id (addTo [] lz), Bq D M x.2) ∧ ∀ g : Str → Int, L2.ev g (mapM nz id (addTo [] lz)) = tv g t * c := by
  obtain ⟨l, k, D, M, D0, D1, M1, hq⟩ := F.b3
  have l2 := O.len
  have pl := Paired.length hp
  rw [allP_length] at pl
  have ll : lz.length ≤ 16 := by
    have := Nat.mul_le_mul l l2
    omega
  have bz : ∀ z ∈ lz, Bq (D * 1) (M * 2 ^ 30) z.2 := bq_mulT hp fun p h => ⟨hq _ (mem_allP h).1, (O.of _ (mem_allP h).2).2⟩
  have mm : M * 2 ^ 30 < 2 ^ 3871 := pw_lt M1 (show 2 ^ 30 < 2 ^ 31 by decide) (by decide)
  refine ⟨mapM_nodup (nodup_addTo _ _ List.nodup_nil), Nat.le_trans length_mapM (Nat.le_trans (length_addTo _ _) (by rw [List.length_nil]; omega)), fun x hx => ?_, ⟨D * 1, 0 + lz.length * (M * 2 ^ 30), by omega, by omega, ?_, fun x hx => ?_⟩, fun g => ?_⟩
  · obtain ⟨y, hy, rfl, _⟩ := keys_mapM hx
    rcases mem_addTo_key hy with h | h
    · exact absurd h List.not_mem_nil
    · obtain ⟨z, hz, e⟩ := List.mem_map.mp h
      obtain ⟨i, hi⟩ := List.getElem?_of_mem hz
      obtain ⟨p, hp2, pm, _, _⟩ := paired_get hp hi
      obtain ⟨m1, m2⟩ := mem_allP (List.mem_of_getElem? hp2)
      have e2 := (O.of _ m2).1
      rw [e2, List.append_nil] at pm
      have k1 := k _ m1
      have ey : y.1 = z.1 := e.symm
      refine ⟨by show y.1.length ≤ 8; rw [ey, pm.length_eq]; exact k1.1, fun w hw => k1.2 w (pm.mem_iff.mp ?_)⟩
      have hw : w ∈ y.1 := hw
      rwa [ey] at hw
  · rw [Nat.zero_add]
    exact pw_lt (show lz.length < 2 ^ 5 by omega) mm (by decide)
  · obtain ⟨y, hy, rfl, _⟩ := keys_mapM hx
    exact bq_addTo lz [] 0 (fun y hy => absurd hy List.not_mem_nil) bz y hy
  · rw [ev_mapM g nz0, ev_addTo g lz [] List.nodup_nil, ev_prod g hp, F.ev g, O.ev g]
    show 0 + _ = _
    grind
/-- a form divided -/
theorem over1 {n : Int} (hn : n ≠ 0) (h9 : n.natAbs < 2 ^ 4) (nd : (fm.map (·.1)).Nodup) (l : fm.length ≤ 16) (k : ∀ x ∈ fm, x.1.length ≤ 8 ∧ ∀ z ∈ x.1, z ∈ names) (bq : ∃ D M, 0 < D ∧ D < 2 ^ 32 ∧ M < 2 ^ 3880 ∧ ∀ x ∈ fm, Bq D M x.2) :
    Sm fm ∧ FAt names (mapM (fun _ => true) (fun q => q * Rat.divInt 1 n) fm) := by
  obtain ⟨D, M, D0, D1, M1, hq⟩ := bq
  have bk := inv_bq hn
  refine ⟨fun x hx => ⟨up4 (Nat.lt_of_le_of_lt ((hq x hx).num_le D0) M1) (by decide), Nat.lt_of_le_of_lt ((hq x hx).den_le D0) (Nat.lt_of_lt_of_le D1 (Nat.pow_le_pow_right (by decide) (by decide)))⟩, ?_⟩
  refine FAt.of (mapM_nodup nd) (Nat.le_trans length_mapM (by omega)) (fun x hx => ?_) ⟨D * n.natAbs, M * 1, Nat.mul_pos D0 (by omega), pw_lt D1 h9 (by decide), by rw [Nat.mul_one]; exact up4 M1 (by decide), fun x hx => ?_⟩
  · obtain ⟨y, hy, rfl, _⟩ := keys_mapM hx
    exact k y hy
  · obtain ⟨y, hy, rfl, _⟩ := keys_mapM hx
    exact (hq y hy).mul bk
end
end E2

set_option Elab.async false
set_option linter.all false
set_option maxRecDepth 100000
set_option maxHeartbeats 1000000
/-! _law_mixed_right -/
namespace E2
open PySem PySem.Spec PyProof.Rows L2
open C8 (Cal Mak Met InsC pe_c pe_mt pe_mt0 call_isC clsBody)
abbrev sMixedRight : Stmt := top 35
structure OpI (P : Program) (w : World) (K : PySem.W.Frag) (mg : Str → Option Value) (base : Heap) (k : Nat) (C : Addr) (name : String) (sp : Sp) : Prop where
  ex : ∃ (f : Addr) (fd : FuncData) (ps : List Str), OwnOpI K C name f ∧ FnOk P w K mg base CX0 k f fd ps sp ∧ Binds K fd ps []
def spMixedRight (K : PySem.W.Frag) (C : Addr) : Sp := fun vs H Q _ => ∃ (a tb l : Addr) (t : Tr) (names : List Str) (n : Nat), vs = [.ref a, .ref tb, .ref l] ∧ PurseAt H a (n + 1300) ∧ TrAt K H t tb ∧ TrOk names 3 t ∧ H l = some (.lst (names.map V.str)) ∧ l ≠ a ∧ names.length ≤ 3 ∧ (∀ z ∈ names, LetOk z) ∧
  ∀ H', PurseAt H' a n → SameB a H H' → Q (.bl true) H'
theorem five {r : Int} (r0 : 0 ≤ r) (r1 : r < 5) : ∃ m : Int, atI [V.int 0, V.int 1, V.int 7, V.int (0 - 3), V.int (10 ^ (9 : Int).toNat)] r = some (.int m) ∧ m.natAbs < 2 ^ 30 := by
  have : r = 0 ∨ r = 1 ∨ r = 2 ∨ r = 3 ∨ r = 4 := by omega
  rcases this with rfl | rfl | rfl | rfl | rfl
  · exact ⟨0, rfl, by decide⟩
  · exact ⟨1, rfl, by decide⟩
  · exact ⟨7, rfl, by decide⟩
  · exact ⟨0 - 3, rfl, by decide⟩
  · exact ⟨10 ^ (9 : Int).toNat, rfl, by decide +kernel⟩
section
variable {P : Program} {w : World} {K : PySem.W.Frag} {mg : Str → Option Value} {base : Heap} {C : Addr}
theorem scMixedRight : FnScope ["_law_purse_here", "_law_tree_here", "_law_names_here", "_law_form_here", "_law_many", "_law_word", "_law_built", "_law_under", "_law_flipped", "_law_again"] ["_law_purse_here", "_law_tree_here", "_law_names_here"] (defScope sMixedRight) := ⟨rfl, rfl, rfl, by decide +kernel, rfl, by decide +kernel, by decide +kernel⟩
theorem ok_mixedRight {f : Addr} {fd : FuncData} (F : Fun K "_law_mixed_right" "_law_mixed_right" sMixedRight f fd) (D : Cal P w K mg base 2 "_law_draw" spDraw []) (Lf : Cal P w K mg base 10 "_law_form" (spLawForm K C 3) []) (Ri : Cal P w K mg base 10 "_law_right" (spLawRight K C) []) (Ov : Met P w K mg base 4 C "over" (spOver K C) [])
    (Oa : OpI P w K mg base 5 C "add" (spAdd K C)) (Os : OpI P w K mg base 6 C "sub" (spSub K C)) (Om : OpI P w K mg base 5 C "mul" (spMul K C)) : FnOk P w K mg base CX0 11 f fd ["_law_purse_here", "_law_tree_here", "_law_names_here"] (spMixedRight K C) := by
  obtain ⟨fa, fda, pa, oa, Fa, ba⟩ := Oa.ex
  obtain ⟨fs, fds, ps, os, Fs, bs⟩ := Os.ex
  obtain ⟨fm_, fdm, pm, om, Fm_, bm⟩ := Om.ex
  refine F.ok scMixedRight (fun vs H Q E h => ?_) (fun cdv A outer s H vs Q E hr h => ?_)
  · obtain ⟨a, tb, l, t, names, n, rfl, _⟩ := h
    rfl
  · obtain ⟨a, tb, l, t, names, n, rfl, hp, ht, tk, hl, nla, hn, hz, k⟩ := h
    refine ⟨_, pss_cons (ps_par (i := 3) (j := 4) (by rfl) scMixedRight.nd rfl rfl (by decide) rfl rfl (pa_cons (pe_c Lf hr (by decide) rfl (pa_cons (pv 1) pa_nil)) (pa_cons (pe_ix ix_list (pe_lstS (pa_cons pe_int (pa_cons pe_int (pa_cons pe_int (pa_cons (pe_op op_sub pe_int pe_int) (pa_cons (pe_op op_pow pe_int pe_int) pa_nil)))))) (pe_c D hr (by decide) rfl (pa_cons (pv 0) (pa_cons pe_int pa_nil))) (fun _ _ => rfl)) pa_nil)) (by rfl))
      (pss_cons (ps_for PassesOwn.never rfl (pi_list (pe_lstS (pa_cons (pe_tupS (pa_cons pe_str (pa_cons (pe_op (op_ownI (op := .Add) oa Fa (hr.mono (by decide)) ba) (pv 3) (pv 4)) pa_nil))) (pa_cons (pe_tupS (pa_cons pe_str (pa_cons (pe_op (op_ownI (op := .Sub) os Fs (hr.mono (by decide)) bs) (pv 3) (pv 4)) pa_nil))) (pa_cons (pe_tupS (pa_cons pe_str (pa_cons (pe_op (op_ownI (op := .Mult) om Fm_ (hr.mono (by decide)) bm) (pv 3) (pv 4)) pa_nil))) pa_nil)))))
          (pg_tup rfl (pgs_cons (pg_name (i := 5) scMixedRight.nd rfl (Or.inl rfl)) (pgs_cons (pg_name (i := 6) scMixedRight.nd rfl (Or.inl rfl)) pgs_nil)))
        (pss_one (ps_if (pt_not (pt_val (pe_c Ri hr (by decide) rfl (pa_cons (pv 0) (pa_cons (pe_tupS (pa_cons (pv 5) (pa_cons (pv 1) (pa_cons (pe_tupS (pa_cons pe_str (pa_cons (pv 4) pa_nil))) pa_nil)))) (pa_cons (pv 6) (pa_cons (pv 2) pa_nil))))))) (pss_one (ps_ret pe_bl)) pss_nil)))
      (pss_cons (ps_set (i := 7) scMixedRight.nd rfl (Or.inl rfl) (pe_op op_add pe_int (pe_c D hr (by decide) rfl (pa_cons (pv 0) (pa_cons pe_int pa_nil)))))
      (pss_cons (ps_set (i := 8) scMixedRight.nd rfl (Or.inl rfl) (pe_tupS (pa_cons pe_str (pa_cons (pe_tupS (pa_cons pe_str (pa_cons pe_int pa_nil))) (pa_cons (pv 1) pa_nil)))))
      (pss_cons (ps_if (pt_not (pt_val (pe_c Ri hr (by decide) rfl (pa_cons (pv 0) (pa_cons (pe_tupS (pa_cons pe_str (pa_cons (pv 8) (pa_cons (pv 7) pa_nil)))) (pa_cons (pe_mt Ov hr (by decide) (pv 3) (pa_cons (pe_op op_sub pe_int (pv 7)) pa_nil)) (pa_cons (pv 2) pa_nil))))))) (pss_one (ps_ret pe_bl)) pss_nil)
      (pss_cons (ps_set (i := 9) scMixedRight.nd rfl (Or.inl rfl) (pe_mt Ov hr (by decide) (pe_op (op_ownI (op := .Mult) om Fm_ (hr.mono (by decide)) bm) (pv 3) (pv 7)) (pa_cons (pv 7) pa_nil)))
      (pss_one (ps_ret (pe_and (pe_c Ri hr (by decide) rfl (pa_cons (pv 0) (pa_cons (pv 1) (pa_cons (pv 3) (pa_cons (pv 2) pa_nil))))) (pe_one (pe_c Ri hr (by decide) rfl (pa_cons (pv 0) (pa_cons (pv 1) (pa_cons (pv 9) (pa_cons (pv 2) pa_nil)))))))))))))), ?_⟩
    have c9 : CPow 10 9 := ⟨by decide, by decide, by decide⟩
    refine ⟨_, rfl, tb, t, names, rfl, ht, tk, hz, fun H1 f0 fm S1 hf F0 => ⟨_, _, rfl, rfl, _, _, rfl, rfl, c9, (by show 5 ≤ sizeLine; decide), fun pl H2 S2 n2 h2 => ?_⟩⟩
    have npa : pl ≠ a := by
      rintro rfl
      obtain ⟨ys, e⟩ := (hp.same S1).lst
      rw [n2] at e
      cases e
    refine ⟨_, rfl, a, 5, n + 1296, rfl, (hp.same S1).same S2, by decide, by decide, fun r H3 r0 r1 hp3 S3 => ?_⟩
    obtain ⟨many, hat, hmany⟩ := five r0 r1
    refine ⟨pl, _, r, _, rfl, rfl, E2.SqL.sameB (SqL.of h2) S3 npa, hat, _, _, rfl, ?_⟩
    have hpA := (hp.same S1).same S2
    have hf3 := FmAt.sameB (hf.same S2) S3 hpA
    have ht3 := ((ht.same S1).same S2).sameB S3 hpA
    have hl3 := S3 _ _ nla (S2 _ _ (S1 _ _ hl))
    have SA : SameB a H H3 := fun c o nc e => S3 _ _ nc (S2 _ _ (S1 _ _ e))
    have O := one_num hmany
    have insOf : ∀ {G q fm'}, FmAt K C G q fm' → ∃ dx fs, G q = some (.ins C dx fs) ∧ fs.lookup ("over" : Str) = none := fun {G q fm'} h => let ⟨dx, d, kvs, h1, _⟩ := h; ⟨dx, _, h1, rfl⟩
    dsimp only
    obtain ⟨dx3, fs3, i3, _⟩ := insOf hf3
    refine ⟨_, rfl, _, rfl, f0, many, dx3, fs3, rfl, rfl, i3, f0, .int many, fm, numM many, rfl, hf3, .inl ⟨many, rfl, rfl⟩, F0.szs1 O, fun H4 b1 S4 n4 hb1 => ⟨(by show 2 ≤ sizeLine; decide), fun t1 H5 S5 n5 h5 => ?_⟩⟩
    have hf5 := (hf3.same S4).same S5
    obtain ⟨dx5, fs5, i5, _⟩ := insOf hf5
    refine ⟨_, rfl, _, rfl, f0, many, dx5, fs5, rfl, rfl, i5, f0, .int many, fm, numM many, rfl, hf5, .inl ⟨many, rfl, rfl⟩, F0.szs1 O.neg, O.nd, by have := O.len; rw [sizeLine_eq]; omega, fun H6 b2 S6 n6 hb2 => ⟨(by show 2 ≤ sizeLine; decide), fun t2 H7 S7 n7 h7 => ?_⟩⟩
    have hf7 := (hf5.same S6).same S7
    obtain ⟨dx7, fs7, i7, _⟩ := insOf hf7
    refine ⟨_, rfl, _, rfl, f0, many, dx7, fs7, rfl, rfl, i7, f0, .int many, fm, numM many, rfl, hf7, .inl ⟨many, rfl, rfl⟩, F0.szm1 O, fun H8 b3 lz S8 n8 hlz hb3 => ⟨(by show 2 ≤ sizeLine; decide), fun t3 H9 S9 n9 h9 => ⟨(by show 3 ≤ sizeLine; decide), fun il H10 S10 n10 h10 => ?_⟩⟩⟩
    have S710 := (S8.trans S9).trans S10
    have S510 := (S6.trans S7).trans S710
    have S310 := (S4.trans S5).trans S510
    have hp10 : PurseAt H10 a (n + 1296) := hp3.same S310
    have tnum : TrOk names 4 (.num many) := (show many.natAbs < 2 ^ 40 by omega)
    have tn3 : TrOk names 3 (.num many) := (show many.natAbs < 2 ^ 40 by omega)
    have tvn : ∀ g, tv g (.num many) = (many : Rat) := fun g => by
      show (many : Rat) / ((1 : Int) : Rat) = many
      have e1 : ((1 : Int) : Rat) = 1 := rfl
      rw [e1]
      grind
    have items : ∀ (i : Nat) x, [V.ref t1, V.ref t2, V.ref t3][i]? = some x → ∃ ti o bf fm', x = .ref ti ∧ H10 ti = some (.tup [.str (word o), .ref bf]) ∧ o ≤ 2 ∧ FmAt K C H10 bf fm' ∧ FAt names fm' ∧ ∀ g, ev g fm' = tv g (.bin o t (.num many)) := by
      intro i x hx
      match i, hx with
      | 0, hx =>
        obtain rfl := Option.some.inj hx
        exact ⟨t1, 0, b1, _, rfl, S510 _ _ h5, by decide, hb1.same (S5.trans S510), (F0.add1 O).1, fun g => by rw [(F0.add1 O).2 g, tv_add tk tn3, tvn]⟩
      | 1, hx =>
        obtain rfl := Option.some.inj hx
        exact ⟨t2, 1, b2, _, rfl, S710 _ _ h7, by decide, hb2.same (S7.trans S710), (F0.add1 O.neg).1, fun g => by rw [(F0.add1 O.neg).2 g, tv_sub tk tn3, tvn]⟩
      | 2, hx =>
        obtain rfl := Option.some.inj hx
        obtain ⟨m1, m2, m3, ⟨D', M', d0, d1, d2, d3⟩, m5⟩ := F0.mul1 O hlz
        exact ⟨t3, 2, b3, _, rfl, S10 _ _ h9, by decide, hb3.same (S9.trans S10), FAt.of m1 (by omega) m3 ⟨D', M', d0, Nat.lt_of_lt_of_le d1 (Nat.pow_le_pow_right (by decide) (by decide)), up4 d2 (by decide), d3⟩, fun g => by rw [m5 g, tv_mul tk tn3, tvn]⟩
      | (k + 3), hx => simp at hx
    refine ⟨il, rfl, ⟨_, SqL.of h10⟩, for_it (walk_list (xs := [V.ref t1, V.ref t2, V.ref t3])) (fun i σ' H' => (∃ u5 u6, σ' = [some (.ref a), some (.ref tb), some (.ref l), some (.ref f0), some (.int many), u5, u6, none, none, none]) ∧ SameB a H10 H' ∧ PurseAt H' a (n + 604 + 200 * (3 - i))) ⟨⟨none, none, rfl⟩, SameB.refl _ _, hp10.less (by omega)⟩ ?_ ?_ ?_⟩
    · rintro i σ' H' _ ⟨_, S, _⟩
      refine E2.SqL.sameB (SqL.of h10) S ?_
      rintro rfl
      obtain ⟨ys, e⟩ := (hp3.same (((S4.trans S5).trans (S6.trans S7)).trans (S8.trans S9))).lst
      rw [n10] at e
      cases e
    · rintro i x σ' H11 H12 hi ⟨⟨u5, u6, rfl⟩, S, hpi⟩ ⟨rfl, hx⟩
      obtain ⟨ti, o, bf, fm', rfl, hti, ho, hbf, fat, hev⟩ := items i x hx
      have hi3 : i < 3 := hi
      have e2 : n + 604 + 200 * (3 - i) = n + 604 + 200 * (3 - (i + 1)) + 200 := by omega
      rw [e2] at hpi
      obtain ⟨ys, ey⟩ := hp10.lst
      refine ⟨ti, _, rfl, E2.SqT.sameL (SqT.of hti) S ey, rfl, _, _, rfl, _, _, rfl, rfl, ?_⟩
      refine ⟨_, rfl, _, rfl, _, rfl, _, rfl, (by show 2 ≤ sizeLine; decide), fun nt H13 S13 n13 h13 => ⟨(by show 3 ≤ sizeLine; decide), fun pt H14 S14 n14 h14 => ?_⟩⟩
      have SS := S13.trans S14
      refine ⟨_, rfl, _, rfl, a, pt, bf, l, .bin o t (.num many), fm', names, n + 604 + 200 * (3 - (i + 1)), rfl, hpi.same SS, ⟨tb, nt, SqT.of h14, ((ht3.same S310).sameB S hp10).same SS, SqT.of (S14 _ _ h13)⟩, ⟨ho, tk.up, tnum⟩, (FmAt.sameB hbf S hp10).same SS, fat, hev, SS _ _ (S _ _ nla (S310 _ _ hl3)), nla, hn, hz, fun H15 hp15 S15 => ⟨true, rfl, iteF ?_⟩⟩
      exact ⟨⟨_, _, rfl⟩, (S.to SS).trans S15, hp15⟩
    · rintro σ' H11 ⟨⟨u5, u6, rfl⟩, S, hpi⟩
      dsimp only
      have hpi : PurseAt H11 a (n + 600 + 4) := hpi.less (by omega)
      have hf11 := FmAt.sameB (hf3.same S310) S hp10
      have ht11 := (ht3.same S310).sameB S hp10
      have hl11 := S _ _ nla (S310 _ _ hl3)
      have SA11 : SameB a H H11 := (SA.to S310).trans S
      refine seq_asg ⟨_, rfl, a, 9, n + 600, rfl, hpi, by decide, by decide, fun r2 H12 r20 r21 hp12 S12 => ⟨_, _, rfl, rfl, ?_⟩⟩
      refine seq_asg ⟨(by show 2 ≤ sizeLine; decide), fun nt H13 S13 n13 h13 => ⟨_, rfl, (by show 3 ≤ sizeLine; decide), fun ft H14 S14 n14 h14 => ?_⟩⟩
      have u0 : 1 ≤ (1 + r2) := by omega
      have u9 : (1 + r2) ≤ 9 := by omega
      have S1214 := S13.trans S14
      have hf14 := (FmAt.sameB hf11 S12 hpi).same S1214
      have ht14 := (ht11.sameB S12 hpi).same S1214
      have hl14 := S1214 _ _ (S12 _ _ nla hl11)
      obtain ⟨lf, kf, bf3⟩ := F0.b3
      have bf4 : ∃ D M, 0 < D ∧ D < 2 ^ 32 ∧ M < 2 ^ 3880 ∧ ∀ x ∈ fm, Bq D M x.2 := let ⟨D, M, a1, a2, a3, a4⟩ := bf3; ⟨D, M, a1, a2, Nat.lt_of_lt_of_le a3 (Nat.pow_le_pow_right (by decide) (by decide)), a4⟩
      have ov1 := over1 (n := 0 - (1 + r2)) (by omega) (by omega) F0.nd lf kf bf4
      have big : ∀ {m : Int}, m.natAbs < 2 ^ 4 → m.natAbs < 2 ^ 2000 := fun {m} h => Nat.lt_of_lt_of_le h (Nat.pow_le_pow_right (by decide) (by decide))
      refine ⟨_, rfl, _, rfl, _, rfl, (by show 3 ≤ sizeLine; decide), fun dt H15 S15 n15 h15 => ?_⟩
      have hf15 := hf14.same S15
      obtain ⟨dx15, fs15, i15, l15⟩ := insOf hf15
      refine ⟨_, rfl, f0, dx15, fs15, rfl, i15, l15, _, rfl, _, _, rfl, rfl, f0, 0 - (1 + r2), fm, rfl, by omega, big (by omega), hf15, F0.nd, by rw [sizeLine_eq]; omega, ov1.1, fun H16 q S16 nq hq => ?_⟩
      have S1416 := S15.trans S16
      have hp16 := (hp12.same S1214).same S1416
      have ur : (((1 + r2 : Int) : Int) : Rat) ≠ 0 := fun e => by
        have := Rat.intCast_inj.mp (e.trans (by rfl : (0 : Rat) = ((0 : Int) : Rat)))
        omega
      have tkm : TrOk names 4 (.bin 1 (.num 0) t) := ⟨by decide, (show (0 : Int).natAbs < 2 ^ 40 by decide), tk⟩
      have hev1 : ∀ g, ev g (mapM (fun _ => true) (fun q => q * Rat.divInt 1 (0 - (1 + r2))) fm) = tv g (.div (.bin 1 (.num 0) t) (1 + r2)) := fun g => by
        rw [ev_scale, F0.ev g, tv_div tkm (by omega), tv_minus tk, Rat.divInt_eq_div, Rat.divInt_eq_div, Rat.intCast_sub]
        have e1 : ((1 : Int) : Rat) = 1 := rfl
        have e2 : ((0 : Int) : Rat) = 0 := rfl
        rw [e1, e2]
        grind
      refine ⟨_, rfl, a, dt, q, l, .div (.bin 1 (.num 0) t) (1 + r2), _, names, n + 400, rfl, hp16.less (by omega), ⟨ft, SqT.of (S16 _ _ h15), nt, tb, SqT.of (S1416 _ _ h14), SqT.of (S1416 _ _ (S14 _ _ h13)), ht14.same S1416⟩, ⟨tkm, u0, u9⟩, hq, ov1.2, hev1, S1416 _ _ hl14, nla, hn, hz, fun H17 hp17 S17 => ⟨true, rfl, iteF ?_⟩⟩
      dsimp only [tNext]
      have hf17 := FmAt.sameB (hf14.same S1416) S17 hp16
      have ht17 := (ht14.same S1416).sameB S17 hp16
      have hl17 := S17 _ _ nla (S1416 _ _ hl14)
      have SA17 : SameB a H H17 := (((SA11.trans S12).to S1214).to S1416).trans S17
      have O2 := one_num (show (1 + r2).natAbs < 2 ^ 30 by omega)
      obtain ⟨dx17, fs17, i17, _⟩ := insOf hf17
      refine seq_asg ⟨_, rfl, _, rfl, f0, (1 + r2), dx17, fs17, rfl, rfl, i17, f0, .int (1 + r2), fm, numM (1 + r2), rfl, hf17, .inl ⟨(1 + r2), rfl, rfl⟩, F0.szm1 O2, fun H18 mb lz2 S18 n18 hlz2 hmb => ?_⟩
      obtain ⟨m1, m2, m3, m4, m5⟩ := F0.mul1 O2 hlz2
      have ov2 := over1 (n := (1 + r2)) (by omega) (by omega) m1 m2 m3 m4
      obtain ⟨dx18, fs18, i18, l18⟩ := insOf hmb
      refine ⟨mb, dx18, fs18, rfl, i18, l18, _, rfl, mb, (1 + r2), _, rfl, by omega, big (by omega), hmb, m1, by rw [sizeLine_eq]; omega, ov2.1, fun H19 ab S19 n19 hab => ?_⟩
      have S1719 := S18.trans S19
      have hp19 := hp17.same S1719
      have hf19 := hf17.same S1719
      have ht19 := ht17.same S1719
      have hl19 := S1719 _ _ hl17
      have hev2 : ∀ g, ev g (mapM (fun _ => true) (fun q => q * Rat.divInt 1 (1 + r2)) (mapM nz id (addTo [] lz2))) = tv g t := fun g => by
        rw [ev_scale, m5 g, Rat.divInt_eq_div]
        have e1 : ((1 : Int) : Rat) = 1 := rfl
        rw [e1]
        grind
      refine ret_of ⟨_, rfl, _, rfl, _, rfl, _, rfl, a, tb, f0, l, t, fm, names, n + 200, rfl, hp19, ht19, tk.up.up, hf19, F0.fat, F0.ev, hl19, nla, hn, hz, fun H20 hp20 S20 => ⟨true, rfl, iteT (B := False) ?_⟩⟩
      exact ⟨_, rfl, _, rfl, _, rfl, _, rfl, a, tb, ab, l, t, _, names, n, rfl, hp20, ht19.sameB S20 hp19, tk.up.up, FmAt.sameB hab S20 hp19, ov2.2, hev2, S20 _ _ nla hl19, nla, hn, hz, fun H21 hp21 S21 => k H21 hp21 (((SA17.to S1719).trans S20).trans S21)⟩
end
end E2

set_option Elab.async false
set_option linter.all false
set_option maxRecDepth 100000
set_option maxHeartbeats 1000000
/-! _law_purses, law -/
namespace E2
open PySem PySem.Spec PyProof.Rows L2
open C8 (Cal Mak Met InsC pe_c pe_mt pe_mt0 call_isC clsBody)
abbrev sLaw : Stmt := top 36
def spPurses (K : PySem.W.Frag) : Sp := fun vs H Q _ => ∃ (sc : Addr) (ns : List Int), vs = [.ref sc, .int 20] ∧ SqL K H sc (ns.map V.int) ∧ ns.length ≤ 63 ∧ ∀ (H' : Hp) (p : Addr) (as : List Addr), Same H H' → H' p = some (.lst (as.map V.ref)) → as.Nodup → (∀ b ∈ as, PurseAt H' b (2 ^ 60)) → p ∉ as → Q (.ref p) H'
theorem pne {H : Hp} {D b : Addr} {as : List Addr} {n : Nat} (hD : H D = some (.lst (as.map V.ref))) (hb : PurseAt H b n) : b ≠ D := by
  rintro rfl
  obtain ⟨p0, p1, p2, p3, e, _⟩ := hb
  rw [hD] at e
  cases as with
  | nil => cases e
  | cons x xs => cases e
theorem PurseAt.off {H : Hp} {D b : Addr} {n : Nat} {o : HO} (hb : PurseAt H b n) (ne : b ≠ D) : PurseAt (upd H D o) b n := by
  obtain ⟨p0, p1, p2, p3, e, r⟩ := hb
  exact ⟨p0, p1, p2, p3, by rw [upd_ne ne]; exact e, r⟩
section
variable {P : Program} {w : World} {K : PySem.W.Frag} {mg : Str → Option Value} {base : Heap} {C : Addr}
theorem scPurses : FnScope ["_law_script", "_law_few", "_law_at"] ["_law_script", "_law_few"] (defScope sPurses) := ⟨rfl, rfl, rfl, by decide +kernel, rfl, by decide +kernel, by decide +kernel⟩
theorem ok_purses {f : Addr} {fd : FuncData} (F : Fun K "_law_purses" "_law_purses" sPurses f fd) (B : Bt4 mg) (Pu : Cal P w K mg base 1 "_law_purse" (spPurse K) []) : FnOk P w K mg base CX0 2 f fd ["_law_script", "_law_few"] (spPurses K) := by
  refine F.ok scPurses (fun vs H Q E h => ?_) (fun cdv A outer s H vs Q E hr h => ?_)
  · obtain ⟨sc, ns, rfl, _⟩ := h
    rfl
  · obtain ⟨sc, ns, rfl, hs, hl, k⟩ := h
    refine ⟨_, pss_one (ps_ret (pe_lc (own := [("_law_at", 2)]) (g := gName 2) (tt := tYes) (te := tCall (spPurse K) [] E0 (tCons (tVar 0) (tCons (tVar 2) tNil))) rfl scPurses.nd (pi_range1 rfl B.rng_ (pa_cons (pe_callB (call_max2 rfl) (by rfl) B.max_ (by decide +kernel) (pa_cons pe_int (pa_cons (pe_callB (call_min2 rfl) (by rfl) B.min_ (by decide +kernel) (pa_cons (pv 1) (pa_cons (pe_callB call_len_seq (by rfl) B.len_ PySem.boot_len (pa_cons (pv 0) pa_nil)) pa_nil))) pa_nil))) pa_nil))
      (blkOk_by (own := [("_law_at", 2)]) (N := ["_law_script", "_law_few", "_law_at"]) (sc := defScope sPurses) (by decide +kernel))
      (fun _ _ _ _ _ => pg_name (i := 2) scPurses.nd rfl (Or.inl rfl)) (fun _ _ _ _ _ => pts_nil) (fun _ _ _ _ _ => by exact pe_c Pu hr (by decide) rfl (pa_cons (pv 0) (pa_cons (pv 2) pa_nil))))), ?_⟩
    refine ret_of ⟨_, rfl, _, rfl, sc, _, rfl, .inl hs, _, _, rfl, _, _, rfl, _, rfl, ?_, ?_, fun D nD => ?_⟩
    · split <;> split <;> omega
    · rw [List.length_map]
      split <;> split <;> omega
    refine lc_it walk_range (fun i H' => Same H H' ∧ ∃ as : List Addr, as.length = i ∧ H' D = some (.lst (as.map V.ref)) ∧ as.Nodup ∧ ∀ b ∈ as, PurseAt H' b (2 ^ 60)) ⟨Same.upd nD, [], rfl, upd_same, List.nodup_nil, fun b hb => absurd hb List.not_mem_nil⟩ (fun _ _ _ _ => trivial) ?_ ?_
    · rintro i x H1 H2 hi ⟨S, as, la, hD, nd, hp⟩ ⟨rfl, rfl⟩
      have hi20 : i < 64 := by
        rw [List.length_map] at hi
        refine Nat.lt_of_lt_of_le hi ?_
        split <;> split <;> omega
      refine ⟨rfl, iteT (B := False) ⟨_, rfl, _, rfl, sc, 0 + (i : Int), ns, rfl, hs.same S, by omega, by omega, fun H3 p S3 np hp3 => ?_⟩⟩
      have hD3 := S3 _ _ hD
      have npa : p ∉ as := fun h => by
        obtain ⟨ys, e⟩ := (hp p h).lst
        rw [np] at e
        cases e
      refine ⟨_, hD3, by rw [List.length_map, la, sizeLine_eq]; omega, fun c o e => ?_, as ++ [p], by rw [List.length_append, la]; rfl, by rw [upd_same, List.map_append]; rfl, ?_, fun b hb => ?_⟩
      · rw [upd_ne (ne_of_none e nD)]
        exact S3 _ _ (S _ _ e)
      · exact List.nodup_append.mpr ⟨nd, List.nodup_cons.mpr ⟨List.not_mem_nil, List.nodup_nil⟩, fun x hx y hy => by
          rw [List.mem_singleton.mp hy]
          rintro rfl
          exact npa hx⟩
      · rcases List.mem_append.mp hb with h | h
        · exact ((hp b h).same S3).off (pne hD (hp b h))
        · rw [List.mem_singleton.mp h]
          exact hp3.off (pne hD3 hp3)
    · rintro H1 ⟨S, as, la, hD, nd, hp⟩
      exact k H1 D as S hD nd hp fun h => pne hD (hp D h) rfl
def spTreeAny (K : PySem.W.Frag) : Sp := fun vs H Q E => ∃ d, d ≤ 3 ∧ spTree K d vs H Q E
theorem tree_any {f : Addr} {fd : FuncData} {ps : List Str} (F : ∀ d, d ≤ 3 → FnOk P w K mg base CX0 (5 + d) f fd ps (spTree K d)) : FnOk P w K mg base CX0 8 f fd ps (spTreeAny K) :=
  ⟨fun vs H Q E ⟨d, hd, h⟩ => (F d hd).len vs H Q E h, fun A outer s H args us vs Q E hr e0 hb r ⟨d, hd, h⟩ => (F d hd).run A outer s H args us vs Q E (hr.mono (by omega)) e0 hb r h⟩
def spLaw (K : PySem.W.Frag) : Sp := fun vs H Q _ => ∃ (sc : Addr) (ns : List Int), vs = [.ref sc] ∧ SqL K H sc (ns.map V.int) ∧ ns.length ≤ 63 ∧ ∀ H', Q (.bl true) H'
theorem scLaw : FnScope ["_law_script", "_law_purse_here", "_law_names_here", "_law_tree_here"] ["_law_script"] (defScope sLaw) := ⟨rfl, rfl, rfl, by decide +kernel, rfl, by decide +kernel, by decide +kernel⟩
theorem trok3 {names : List Str} {d : Nat} {t : Tr} (hd : d ≤ 3) (h : TrOk names d t) : TrOk names 3 t := by
  have : d = 0 ∨ d = 1 ∨ d = 2 ∨ d = 3 := by omega
  rcases this with rfl | rfl | rfl | rfl
  · exact h.up.up.up
  · exact h.up.up
  · exact h.up
  · exact h
theorem ok_law {f : Addr} {fd : FuncData} (F : Fun K "law" "law" sLaw f fd) (Ps : Cal P w K mg base 2 "_law_purses" (spPurses K) []) (Na : Cal P w K mg base 4 "_law_names" (spNames K) []) (D : Cal P w K mg base 2 "_law_draw" spDraw []) (T : Cal P w K mg base 8 "_law_tree" (spTreeAny K) []) (Lf : Cal P w K mg base 10 "_law_form" (spLawForm K C 3) []) (Ri : Cal P w K mg base 10 "_law_right" (spLawRight K C) []) (Mi : Cal P w K mg base 11 "_law_mixed_right" (spMixedRight K C) []) :
    FnOk P w K mg base CX0 12 f fd ["_law_script"] (spLaw K) := by
  refine F.ok scLaw (fun vs H Q E h => ?_) (fun cdv A outer s H vs Q E hr h => ?_)
  · obtain ⟨sc, ns, rfl, _⟩ := h
    rfl
  · obtain ⟨sc, ns, rfl, hs, hl, k⟩ := h
    refine ⟨_, pss_cons (ps_for PassesOwn.never rfl (pi_list (pe_c Ps hr (by decide) rfl (pa_cons (pv 0) (pa_cons pe_int pa_nil)))) (pg_name (i := 1) scLaw.nd rfl (Or.inl rfl))
        (pss_cons (ps_set (i := 2) scLaw.nd rfl (Or.inl rfl) (pe_c Na hr (by decide) rfl (pa_cons (pv 1) (pa_cons (pe_c D hr (by decide) rfl (pa_cons (pv 1) (pa_cons pe_int pa_nil))) pa_nil))))
        (pss_cons (ps_set (i := 3) scLaw.nd rfl (Or.inl rfl) (pe_c T hr (by decide) rfl (pa_cons (pv 1) (pa_cons (pe_op op_add pe_int (pe_c D hr (by decide) rfl (pa_cons (pv 1) (pa_cons pe_int pa_nil)))) (pa_cons (pv 2) pa_nil)))))
        (pss_one (ps_if (PW.pt (pw_or (pt_not (pt_val (pe_c Ri hr (by decide) rfl (pa_cons (pv 1) (pa_cons (pv 3) (pa_cons (pe_c Lf hr (by decide) rfl (pa_cons (pv 3) pa_nil)) (pa_cons (pv 2) pa_nil))))))) (pw_or1 (pt_not (pt_val (pe_c Mi hr (by decide) rfl (pa_cons (pv 1) (pa_cons (pv 3) (pa_cons (pv 2) pa_nil))))))))) (pss_one (ps_ret pe_bl)) pss_nil)))))
      (pss_one (ps_ret pe_bl)), ?_⟩
    refine ⟨_, rfl, sc, ns, rfl, hs, hl, fun H1 p as S1 hp1 nd hpu npa => ⟨p, rfl, ⟨_, SqL.of hp1⟩, for_it (walk_list (xs := as.map V.ref)) (fun i σ' H' => (∃ u v x, σ' = [some (.ref sc), u, v, x]) ∧ H' p = some (.lst (as.map V.ref)) ∧ ∀ j b, i ≤ j → as[j]? = some b → PurseAt H' b (2 ^ 60)) ⟨⟨none, none, none, rfl⟩, hp1, fun j b _ hb => hpu b (List.mem_of_getElem? hb)⟩ (fun i σ' H' _ q => SqL.of q.2.1) ?_ ?_⟩⟩
    · rintro i x σ' H2 H3 hi ⟨⟨u, v, y, rfl⟩, hpp, hpj⟩ ⟨rfl, hx⟩
      rw [List.length_map] at hi
      obtain ⟨a, ha, rfl⟩ : ∃ a, as[i]? = some a ∧ x = V.ref a := by
        rw [List.getElem?_map] at hx
        obtain ⟨z, hz, e⟩ := Option.map_eq_some_iff.mp hx
        exact ⟨z, hz, e.symm⟩
      have hpa := hpj i a (Nat.le_refl _) ha
      have npp : p ≠ a := by rintro rfl; exact npa (List.mem_of_getElem? ha)
      have ndx : ∀ j b, i + 1 ≤ j → as[j]? = some b → b ≠ a := fun j b hj hb e => by
        obtain ⟨l1, e1⟩ := List.getElem?_eq_some_iff.mp hb
        obtain ⟨l2, e2⟩ := List.getElem?_eq_some_iff.mp ha
        have := (List.getElem_inj nd).mp (e1.trans (e.trans e2.symm))
        omega
      refine seq_asg ⟨_, rfl, _, rfl, a, 4, 4000, rfl, hpa.less (by decide), by decide, by decide, fun r H4 r0 r1 hp4 S4 => ?_⟩
      have er : ((r.toNat : Nat) : Int) = r := Int.toNat_of_nonneg r0
      refine ⟨a, r.toNat, 3900, by rw [er]; rfl, by omega, hp4.less (by omega), fun H5 l names ln lz hl5 nl hp5 S5 => ?_⟩
      have nla : l ≠ a := by
        rintro rfl
        obtain ⟨ys, e⟩ := hp4.lst
        rw [nl] at e
        cases e
      have ln3 : names.length ≤ 3 := by omega
      refine seq_asg ⟨_, rfl, _, rfl, a, 3, 3896, rfl, hp5, by decide, by decide, fun r2 H6 r20 r21 hp6 S6 => ⟨_, _, rfl, rfl, _, rfl, ?_⟩⟩
      have er2 : (((1 + r2).toNat : Nat) : Int) = 1 + r2 := Int.toNat_of_nonneg (by omega)
      have d3 : (1 + r2).toNat ≤ 3 := by omega
      have cle : cT (1 + r2).toNat ≤ 120 := by
        generalize (1 + r2).toNat = d at d3
        have : d = 0 ∨ d = 1 ∨ d = 2 ∨ d = 3 := by omega
        rcases this with rfl | rfl | rfl | rfl <;> decide
      refine ⟨(1 + r2).toNat, d3, a, l, names, 3700, by rw [er2]; rfl, hp6.less (by omega), SqL.of (S6 _ _ nla hl5), nla, by omega, fun z hz => strOk_of (lz z hz), fun t b H7 tk tb hp7 S7 => ?_⟩
      have tk3 := trok3 d3 tk
      have hl7 := S7 _ _ nla (S6 _ _ nla hl5)
      refine ⟨_, rfl, _, rfl, _, rfl, b, t, names, rfl, tb, tk3, lz, fun H8 f0 fm S8 hf F0 => ?_⟩
      refine ⟨_, rfl, a, b, f0, l, t, fm, names, 3500, rfl, hp7.same S8, tb.same S8, tk3.up.up, hf, F0.fat, F0.ev, S8 _ _ hl7, nla, ln3, lz, fun H9 hp9 S9 => ⟨true, rfl, iteF ?_⟩⟩
      refine ⟨_, rfl, _, rfl, _, rfl, a, b, l, t, names, 2200, rfl, hp9, (tb.same S8).sameB S9 (hp7.same S8), tk3, S9 _ _ nla (S8 _ _ hl7), nla, ln3, lz, fun H10 hp10 S10 => ⟨true, rfl, iteF ?_⟩⟩
      have SS : SameB a H3 H10 := (((((S4.trans S5).trans S6).trans S7).to S8).trans S9).trans S10
      refine ⟨⟨_, _, _, rfl⟩, SS _ _ npp hpp, fun j b2 hj hb2 => ?_⟩
      obtain ⟨p0, p1, p2, p3, e, rr⟩ := hpj j b2 (by omega) hb2
      exact ⟨p0, p1, p2, p3, SS _ _ (ndx j b2 hj hb2) e, rr⟩
    · rintro σ' H2 ⟨⟨u, v, y, rfl⟩, _⟩
      exact k H2
end
end E2

set_option Elab.async false
set_option linter.all false
set_option maxRecDepth 100000
set_option maxHeartbeats 2000000
/-! A set of texts, by the list of its members. -/
namespace L2
open PySem PySem.Spec PyProof.Rows
/-- an entry is a text under its hash -/
def GoodS (P : Program) (w : World) (e : Int × Value) : Prop := ∃ (x : Str) (t : Tok), e = ((PySem.strKind P w).hash x, .str x t)
def keyS (e : Int × Value) : Str := match e.2 with
  | .str x _ => x
  | _ => Str.empty
def SetS (P : Program) (w : World) (h : Heap) (a : Addr) (ks : List Str) : Prop := ∃ o es ep t, h.get? a = some o ∧ o.ExactSet ∧ o.data = .set es ep t ∧ (∀ e ∈ es.toList, GoodS P w e) ∧ (es.toList.map keyS).Perm ks ∧ ks.Nodup ∧
  es.size < scanBound ∧ t.fits es.size = true ∧ Ris t.place.toList ∧ (w.params.followText "set-order" = true ∨ t.led = true)
section
variable {P : Program} {w : World} {h h' : Heap} {a : Addr} {ks : List Str}
theorem SetS.at (R : SetS P w h a ks) (k : ∀ o, h.get? a = some o → h'.get? a = some o) : SetS P w h' a ks := let ⟨o, es, ep, t, ho, r⟩ := R; ⟨o, es, ep, t, k o ho, r⟩
theorem goodS_is {e : Int × Value} (g : GoodS P w e) (k : Str) : (PySem.strKind P w).is k e.2 = true ↔ keyS e = k := by
  obtain ⟨x, t, rfl⟩ := g
  unfold keyS
  show Value.isStrOf k (.str x t) = true ↔ x = k
  simp [Value.isStrOf]
theorem goodS_elems {l : List (Int × Value)} (g : ∀ e ∈ l, GoodS P w e) : ElemsOf (PySem.strKind P w) l := fun e he => by
  obtain ⟨x, t, rfl⟩ := g e he
  exact ⟨⟨x, strKind_is P w x t, rfl⟩, rfl⟩
theorem goodS_mem {l : List (Int × Value)} (g : ∀ e ∈ l, GoodS P w e) (k : Str) : k ∈ l.map keyS ↔ ∃ e ∈ l, (PySem.strKind P w).is k e.2 = true := by
  rw [List.mem_map]
  exact ⟨fun ⟨e, he, q⟩ => ⟨e, he, (goodS_is (g e he) k).mpr q⟩, fun ⟨e, he, q⟩ => ⟨e, he, (goodS_is (g e he) k).mp q⟩⟩
theorem setS_new (w : World) (P : Program) (h : Heap) : SetS P w (h.push { cls := .type "set", dict := none, data := .set #[] 0 (.fresh 0 0 (!w.params.followText "set-order")) }) h.objs.size [] := by
  refine ⟨_, #[], 0, _, Heap.get?_push_size _ rfl, ⟨rfl, rfl, rfl⟩, rfl, fun e he => absurd he (by simp), .nil, List.nodup_nil, by decide, rfl, List.Pairwise.nil, ?_⟩
  cases c : w.params.followText "set-order" with
  | true => exact .inl rfl
  | false => exact .inr rfl
end
section
variable {P : Program} {w : World} {A : Around} {E : Value → Shared → Prop} {s : Shared} {a : Addr} {ks : List Str}
/-- sorted of it -/
theorem setS_sorted {Q : Value → Shared → Prop} (R : SetS P w s.heap a ks) (hh : A.handled = none)
    (hQ : ∀ s' p (out : Array Value) (c : Nat) (ys : List Str), (∀ b o, s.heap.get? b = some o → s'.heap.get? b = some o) → s'.gens = s.gens → s'.os = s.os → s.heap.objs.size ≤ p → s'.heap.get? p = some (seqObj "list" out c) → StrsAre out.toList ys → ys.Perm ks → sortedS ys = true → Q (.ref p) s') :
    wpAny (model P w) A (call (.builtin "sorted") [.ref a]) Q E s := by
  obtain ⟨o, es, ep, t, ho, hex, hd, g, pm0, nd, hb, hf, hr, hl⟩ := R
  refine Calls.call_function_entry kind_sorted plain_sorted entry_sorted (args_sorted1 _) ?_
  unfold Builtin.«sorted»
  refine wpAny_bind (m := checkCount "sorted" 1 1 _) (wpAny_pure ?_)
  refine wpAny_bind (collect_set (A := A.in1) hh ⟨o, ho, hex.1, hd⟩ hf hb hr hl fun s1 vs k1 hz g1 o1 pm => ?_)
  have vl : vs.length < scanBound := by rw [pm.length_eq, List.length_map, Array.length_toList]; exact hb
  have texts : ∀ l : List Value, (∀ v ∈ l, ∃ x tk, v = Value.str x tk) → StrsAre l (l.map fun v => keyS (0, v)) := by
    intro l
    induction l with
    | nil => intro _; exact .nil
    | cons v l ih =>
      intro h
      obtain ⟨x, tk, rfl⟩ := h v (List.mem_cons.mpr (.inl rfl))
      exact .cons x tk (ih fun u hu => h u (List.mem_cons.mpr (.inr hu)))
  have hS := texts vs fun v hv => by
    obtain ⟨e, he, q⟩ := List.mem_map.mp (pm.mem_iff.mp hv)
    obtain ⟨x, tk, rfl⟩ := g e he
    exact ⟨x, tk, q.symm⟩
  have pk : (vs.map fun v => keyS (0, v)).Perm ks := by
    refine (pm.map fun v => keyS (0, v)).trans ?_
    rw [List.map_map]
    exact pm0
  have zl : vs.length ≤ sizeLine := fits_of_scanBound vl
  refine wpAny_bind (wpAny_newList ?_ zl)
  have hoL : (s1.heap.push (seqObj "list" vs.toArray 0)).get? s1.heap.objs.size = some (seqObj "list" vs.toArray 0) := Heap.get?_push_size _ rfl
  refine wpAny_bind (wpAny_holding (wpAny_call_entry slot_list_sort ⟨_, hoL, rfl⟩ entry_list_sort (list_sort_treeKAny strKind_oneLt hoL hS.keysOf (fun v₁ v₂ rest e => keyKind_strs (by rw [← e]; exact hS)) zl fun st' hp hs => ⟨_, rfl, ?_⟩) (args_list_sort _)))
  obtain ⟨ys, h1, h2, h3⟩ := sorted_out_str hS hp hs
  obtain ⟨c, hc⟩ := sortedHeap_at (vs := vs) (out := (arrOf st').map (·.2)) hoL
  refine wpAny_pure ⟨_, rfl, hQ _ s1.heap.objs.size _ c ys (fun b u e => ?_) g1 o1 hz hc h1 (h2.trans pk) h3⟩
  have q := k1 b u e
  have hlt := Heap.lt_size q
  show (sortedHeap (s1.heap.push (seqObj "list" vs.toArray 0)) s1.heap.objs.size vs _).get? b = some u
  rw [sortedHeap_old (Nat.ne_of_lt hlt) (by rw [size_push']; exact Nat.lt_succ_of_lt hlt)]
  exact Heap.get?_push_of_some _ q
end
end L2

set_option Elab.async false
set_option linter.all false
set_option maxRecDepth 100000
set_option maxHeartbeats 2000000
/-! A set of texts: one more. -/
namespace L2
open PySem PySem.Spec PyProof.Rows
section
variable {P : Program} {w : World} {A : Around} {E : Value → Shared → Prop} {s : Shared} {a : Addr} {ks : List Str}
/-- the entries laid down, and once more where the table is too full -/
theorem setS_tail {g : Bool → Sem Unit} (hg : ∀ (b : Bool) (s₁ : Shared) (Q' : Unit → Shared → Prop), Q' () s₁ → wpAny (model P w) A (g b) Q' E s₁) {o : Obj} {es es1 : Array (Int × Value)} {ep : Nat} {t t2 : SetTable} {ks1 : List Str}
    (ho : s.heap.get? a = some o) (hex : o.ExactSet) (hd : o.data = .set es ep t) (g1 : ∀ e ∈ es1.toList, GoodS P w e) (p1 : (es1.toList.map keyS).Perm ks1) (n1 : ks1.Nodup) (hb : es1.size < scanBound) (hf : t2.fits es1.size = true) (hr : Ris t2.place.toList)
    (hl : w.params.followText "set-order" = true ∨ t2.led = true) {wasDummy : Bool} {R : Option Bool → Shared → Prop} (hR : ∀ h', Heap.SameBut a s.heap h' → SetS P w h' a ks1 → R (some true) { s with heap := h' }) :
    wpAny (model P w) A (do
        storeSet a es1 t2
        if (!wasDummy && t2.tooFull) = true then do
            g (relayAll t2 es1 (SetTable.grown es1.size)).2.2
            storeSet a (relayAll t2 es1 (SetTable.grown es1.size)).1 (relayAll t2 es1 (SetTable.grown es1.size)).2.1
            pure (some true)
          else pure (some true)) R E s := by
  have at_ : ∀ {h : Heap} {o : Obj} {es es' : Array (Int × Value)} {ep : Nat} {t t' : SetTable}, h.get? a = some o → o.data = .set es ep t → (h.update a (Obj.putSet es' t')).get? a = some { o with data := .set es' (ep + 1) t' } := by
    intro h o es es' ep t t' ho hd
    have q := Heap.get?_update_self (Obj.putSet es' t') ho (by rw [putSet_of es' t' hd]; rfl)
    rwa [putSet_of es' t' hd] at q
  refine wpAny_bind (wpAny_storeSet_of ho hd ?_ (fits_of_scanBound hb))
  have h1 := at_ (es' := es1) (t' := t2) ho hd
  have b1 := Heap.SameBut.update s.heap a (Obj.putSet es1 t2)
  split
  · have pm := relayAll_perm t2 es1 (SetTable.grown es1.size)
    have z1 := relayAll_fits t2 es1 (SetTable.grown es1.size)
    have z2 := relayAll_ris t2 es1 (SetTable.grown es1.size)
    have z3 := relayAll_led t2 es1 (SetTable.grown es1.size)
    generalize relayAll t2 es1 (SetTable.grown es1.size) = Z at pm z1 z2 z3 ⊢
    obtain ⟨es2, t3, gave⟩ := Z
    dsimp only at pm z1 z2 z3 ⊢
    have es : es2.size = es1.size := by rw [← Array.length_toList, pm.length_eq, Array.length_toList]
    refine wpAny_bind (hg _ _ _ (wpAny_bind (wpAny_storeSet_of h1 rfl (wpAny_pure (hR _ (b1.trans (Heap.SameBut.update _ a _)) ?_)) (fits_of_scanBound (by rw [es]; exact hb)))))
    exact ⟨_, es2, _, t3, at_ h1 rfl, hex, rfl, fun e he => g1 e (pm.mem_iff.mp he), (pm.map keyS).trans p1, n1, by rw [es]; exact hb, z1, z2, hl.imp id fun z => by rw [z3]; exact z⟩
  · exact wpAny_pure (hR _ b1 ⟨_, es1, _, t2, h1, hex, rfl, g1, p1, n1, hb, hf, hr, hl⟩)
theorem setS_hashed {x : Str} {tk : Tok} {Q : Bool → Shared → Prop} (R : SetS P w s.heap a ks) (room : ks.length + 1 < scanBound)
    (hQ : ∀ b h', Heap.SameBut a s.heap h' → SetS P w h' a (if x ∈ ks then ks else x :: ks) → Q b { s with heap := h' }) : wpAny (model P w) A (setAddHashed a (.str x tk) ((PySem.strKind P w).hash x)) Q E s := by
  obtain ⟨o, es, ep, t, ho, hex, hd, g, pm0, nd, hb, hf, hr, hl⟩ := R
  have hkey : (PySem.strKind P w).is x (.str x tk) = true := strKind_is P w x tk
  have hsc : (Value.str x tk).scannable = true := rfl
  have hel := goodS_elems g
  unfold setAddHashed setAddHashedIn
  refine wpAny_holding (wpAny_bind (wpAny_setState_of ho hd hf ?_))
  dsimp only
  rw [byScan_of hsc hb hel]
  simp only [↓reduceIte]
  unfold setAddByScan
  refine wpAny_bind ?_
  refine wpAny_bind (wpAny_rule ?_)
  refine wpAny_bind (wpAny_setScan_of hkey ho hd hf hel ?_)
  cases hfi : List.findIdx? (fun e => (PySem.strKind P w).is x e.2) es.toList with
  | some j =>
    dsimp only
    obtain ⟨hj, pj, _⟩ := List.findIdx?_eq_some_iff_getElem.mp hfi
    have hin : x ∈ ks := pm0.mem_iff.mp ((goodS_mem g x).mpr ⟨es.toList[j], List.getElem_mem hj, pj⟩)
    refine wpAny_pure (wpAny_pure (hQ _ s.heap (Heap.SameBut.refl a s.heap) ?_))
    rw [if_pos hin]
    exact ⟨o, es, ep, t, ho, hex, hd, g, pm0, nd, hb, hf, hr, hl⟩
  | none =>
    dsimp only
    have hnot : x ∉ ks := fun z => by
      obtain ⟨e, he, q⟩ := (goodS_mem g x).mp (pm0.mem_iff.mpr z)
      have c := List.findIdx?_eq_none_iff.mp hfi e he
      rw [q] at c
      cases c
    rw [if_neg hnot] at hQ
    have gw : ∀ (b : Bool) {s₁ : Shared} {Q' : Unit → Shared → Prop}, Q' () s₁ → wpAny (model P w) A (match b with | true => rule "set.scan.the-table-gave-way" | false => pure ()) Q' E s₁ :=
      fun b s₁ Q' q => by cases b <;> first | exact wpAny_pure q | exact wpAny_rule q
    have pm := layNew_perm t es ((PySem.strKind P w).hash x) (.str x tk)
    have y1 := layNew_fits t es ((PySem.strKind P w).hash x) (.str x tk)
    have y2 := layNew_ris t es ((PySem.strKind P w).hash x) (.str x tk) hr
    have y3 := layNew_led t es ((PySem.strKind P w).hash x) (.str x tk)
    generalize layNew t es ((PySem.strKind P w).hash x) (.str x tk) = Z at pm y1 y2 y3 ⊢
    obtain ⟨es1, t1, wasDummy, gave⟩ := Z
    dsimp only at pm y1 y2 y3 ⊢
    rw [Array.toList_push] at pm
    have pc : es1.toList.Perm (((PySem.strKind P w).hash x, Value.str x tk) :: es.toList) := pm.trans (List.perm_append_singleton _ _)
    have g1 : ∀ e ∈ es1.toList, GoodS P w e := fun e he => by
      rcases List.mem_cons.mp (pc.mem_iff.mp he) with z | z
      · exact ⟨x, tk, z⟩
      · exact g e z
    have p1 : (es1.toList.map keyS).Perm (x :: ks) := (pc.map keyS).trans (List.Perm.cons x pm0)
    have n1 : (x :: ks).Nodup := List.nodup_cons.mpr ⟨hnot, nd⟩
    have size1 : es1.size = ks.length + 1 := by
      have := p1.length_eq
      rw [List.length_map, Array.length_toList, List.length_cons] at this
      exact this
    have b1 : es1.size < scanBound := by rw [size1]; exact room
    have l1 : w.params.followText "set-order" = true ∨ t1.led = true := hl.imp id fun z => by rw [y3]; exact z
    refine wpAny_bind (gw _ ?_)
    split
    · refine wpAny_bind ?_
      rw [hashByValue_scannable 8 hsc]
      refine wpAny_pure ?_
      refine setS_tail ?_ ho hex hd g1 p1 n1 b1 ?_ ?_ ?_ ?_
      · intro b s₁ Q' q; cases b <;> first | exact wpAny_pure q | exact wpAny_rule q
      · first | (split <;> first | exact y1 | exact SetTable.fits_plain_off y1) | exact y1
      · first | (split <;> exact y2) | exact y2
      · first | (split <;> exact l1) | exact l1
      · intro h' sb r; dsimp only; exact wpAny_pure (hQ _ h' sb r)
    · refine wpAny_bind (wpAny_pure ?_)
      simp only [↓reduceIte]
      refine setS_tail ?_ ho hex hd g1 p1 n1 b1 y1 y2 l1 ?_
      · intro b s₁ Q' q; cases b <;> first | exact wpAny_pure q | exact wpAny_rule q
      · intro h' sb r; dsimp only; exact wpAny_pure (hQ _ h' sb r)
theorem SetS.typeIs (R : SetS P w s.heap a ks) : s.TypeIs (.ref a) "set" := let ⟨o, _, _, _, ho, hex, _⟩ := R; ⟨o, ho, hex.1⟩
theorem setS_add {x : Str} {tk : Tok} {Q : Value → Shared → Prop} (R : SetS P w s.heap a ks) (room : ks.length + 1 < scanBound)
    (hQ : ∀ h' t, Heap.SameBut a s.heap h' → SetS P w h' a (if x ∈ ks then ks else x :: ks) → Q .none { s with heap := h', toks := t }) : wpAny (model P w) A (call (.builtin "set.add") [.ref a, .str x tk]) Q E s := by
  refine wpAny_call_entry F.slot_set_add R.typeIs F.entry_set_add ?_ (F.args_set_add_2 _ _)
  unfold Builtin.«set.add» Builtin.Frozenset.oneOther
  simp only [List.isEmpty_nil, bind_assoc]
  unfold Builtin.Frozenset.addrOf setAdd
  refine wpAny_bind (wpAny_pure ?_)
  try dsimp only
  refine wpAny_bind (wpAny_pure ?_)
  try dsimp only
  refine wpAny_bind ?_
  refine wpAny_holding ?_
  refine wpAny_bind ((PySem.strKind P w).pyHash (strKind_is P w x tk) ?_)
  refine setS_hashed (s := { s with toks := s.toks + 1 }) R room fun _ h' sb r => ?_
  show wpAny _ _ (ret Value.none) _ _ _
  exact wpAny_pure ⟨_, rfl, hQ h' _ sb r⟩
end
end L2

set_option Elab.async false
set_option linter.all false
set_option maxRecDepth 100000
set_option maxHeartbeats 2000000
/-! A set of texts made by a comprehension of two clauses without tests. -/
namespace L2
open PySem PySem.Spec PyProof.Rows
/-- the set of texts at a, as a thing that is followed -/
def SetSO (P : Program) (w : World) (a : Addr) (ks : List Str) : HO := .ext fun h => SetS P w h a ks
theorem setSO_new {P P' : Program} {w w' : World} {H : Hp} {h : Heap} {a : Addr} {ks : List Str} (R : SetS P w h a ks) : ObjOk P' w' H h a (SetSO P w a ks) := by
  have ⟨o, _, _, _, ho, _⟩ := R
  exact ⟨R, ⟨o, ho⟩, fun h1 h2 p k => SetS.at p k⟩
/-- one text more -/
def putS (ks : List Str) (x : Str) : List Str := if x ∈ ks then ks else x :: ks
section
variable {X : Cx}
theorem setSO_get {pins : List (Addr × Obj)} {σ : L2.St} {H : Hp} {s : Shared} {P : Program} {w : World} {a : Addr} {ks : List Str} (I : Inv X pins σ H s) (ha : H a = some (SetSO P w a ks)) : SetS P w s.heap a ks := (I.hok a _ ha).1
theorem addS_ok {pins : List (Addr × Obj)} {σ : L2.St} {H : Hp} {s : Shared} {E : Value → Shared → Prop} {D : Addr} {ks : List Str} {x : Str} {tk : Tok} {Q : Value → Shared → Prop} (I : Inv X pins σ H s) (hD : H D = some (SetSO X.prog X.w D ks)) (room : ks.length + 1 < scanBound)
    (h : ∀ s', Inv X pins σ (upd H D (SetSO X.prog X.w D (putS ks x))) s' → Q .none s') : wpAny (model X.prog X.w) X.A (call (.builtin "set.add") [.ref D, .str x tk]) Q E s := by
  refine setS_add (setSO_get I hD) room fun h' t sb new => ?_
  obtain ⟨o, _, _, _, ho, _⟩ := id new
  exact h _ (I.write (e := D) (t' := t) (by rw [hD]; trivial) (.inl rfl) (fun b u hb hu => (sb.2 b hb).trans hu) ⟨o, ho⟩ (setSO_new new))
end
section
variable {prog : Program} {w : World} {A : Around} {R : Result → Shared → Prop} {s : Shared} {elt t0 i0 t1 i1 : Expr} {scope : Scope} {pos : Pos} {it acc : Value} {env : Env}
/-- the comprehension that is spoken of -/
abbrev sc2 (elt t0 i0 t1 i1 : Expr) (scope : Scope) (pos : Pos) : Expr := .SetComp elt [⟨t0, i0, [], 0⟩, ⟨t1, i1, [], 0⟩] scope pos
theorem eval_sc2 : eval (sc2 elt t0 i0 t1 i1 scope pos) env = comprehension (sc2 elt t0 i0 t1 i1 scope pos) scope env (firstIterPos [⟨t0, i0, [], 0⟩, ⟨t1, i1, [], 0⟩] pos) (newSet (.type "set")) false (eval i0 env) := rfl
theorem sc2_turn0 : compTurn (sc2 elt t0 i0 t1 i1 scope pos) 0 it acc env = (do
      standAt i0.pos
      match ← pyNext it with
      | none => pure (.done .next)
      | some v =>
        letOwnedTupleGo t0 it v
        assign t0 env v
        let src ← eval i1 env
        standAt i1.pos
        let src ← foldedSetIterable i1 env src
        let _ ← runOwn (.compStart (sc2 elt t0 i0 t1 i1 scope pos) 1 (← holding [src] (pyIter src)) acc env) env
        again (.compLoop (sc2 elt t0 i0 t1 i1 scope pos) 0 it acc env)) := by rfl
theorem sc2_turn1 : compTurn (sc2 elt t0 i0 t1 i1 scope pos) 1 it acc env = (do
      standAt i1.pos
      match ← pyNext it with
      | none => pure (.done .next)
      | some v =>
        letOwnedTupleGo t1 it v
        assign t1 env v
        (do let u ← eval elt env; standAt elt.pos; let _ ← call (.builtin "set.add") [acc, u])
        again (.compLoop (sc2 elt t0 i0 t1 i1 scope pos) 1 it acc env)) := by rfl
end
end L2
namespace L2
open PySem PySem.Spec PyProof.Rows
section
variable {prog : Program} {w : World} {A : Around} {R : Result → Shared → Prop} {s : Shared} {elt t0 i0 t1 i1 : Expr} {scope : Scope} {pos : Pos} {it acc : Value} {env : Env}
/-- nothing is raised -/
abbrev NoE : Value → Shared → Prop := fun _ _ => False
/-- the outer loop, J by what is left to do -/
theorem sc2_loop0 (hs : ∀ x, foldedSetIterable i1 env x = pure x) (J : Nat → Shared → Prop)
    (turn : ∀ n s, J n s → wpAny (model prog w) A (pyNext it) (fun r s1 => match r with
      | none => R (.ok .next) s1
      | some v => wpAny (model prog w) A (letOwnedTupleGo t0 it v) (fun _ s2 => wpAny (model prog w) A (assign t0 env v) (fun _ s3 => wpAny (model prog w) A (eval i1 env) (fun x s4 => wpAny (model prog w) A (pyIter x) (fun it1 s5 =>
          codeAny (model prog w) A (.compStart (sc2 elt t0 i0 t1 i1 scope pos) 1 it1 acc env) (fun r s' => match r with
            | .ok _ => ∃ m, m < n ∧ J m s'
            | .error _ => False) s5) NoE s4) NoE s3) NoE s2) NoE s1) NoE s) (n : Nat) (h : J n s) : codeAny (model prog w) A (.compLoop (sc2 elt t0 i0 t1 i1 scope pos) 0 it acc env) R s := by
  refine codeAny_loop rfl J (fun n s hJ => ?_) n h
  show wpAny _ A ((compTurn (sc2 elt t0 i0 t1 i1 scope pos) 0 it acc env).onRaise (fun x => do noteFrame x env; theTreesLotGoes x)) _ _ s
  refine wpAny_noted ?_
  rw [sc2_turn0]
  refine wpAny_bind (wpAny_standAt (wpAny_bind (thnF (turn n s hJ) fun r s1 h1 => ?_)))
  cases r with
  | none => exact wpAny_pure h1
  | some v =>
    refine wpAny_bind (thnF h1 fun _ s2 h2 => wpAny_bind (thnF h2 fun _ s3 h3 => wpAny_bind (thnF h3 fun x s4 h4 => wpAny_bind (wpAny_standAt (wpAny_bind (wpAny_of_eq (hs x) (wpAny_bind (wpAny_holding (thnF h4 fun it1 s5 h5 => ?_)))))))))
    refine wpAny_bind (wpAny_runOwn ?_)
    rw [Around.mark_none]
    refine codeAny_mono h5 fun r s' hr => ?_
    cases r with
    | ok f => first | exact wpAny_pure ⟨rfl, hr⟩ | exact wpAny_bind (wpAny_pure (wpAny_pure ⟨rfl, hr⟩))
    | error e => exact hr.elim
/-- the inner loop -/
theorem sc2_loop1 (J : Nat → Shared → Prop)
    (turn : ∀ n s, J n s → wpAny (model prog w) A (pyNext it) (fun r s1 => match r with
      | none => R (.ok .next) s1
      | some v => wpAny (model prog w) A (letOwnedTupleGo t1 it v) (fun _ s2 => wpAny (model prog w) A (assign t1 env v) (fun _ s3 => wpAny (model prog w) A (eval elt env) (fun x s4 =>
          wpAny (model prog w) A (call (.builtin "set.add") [acc, x]) (fun _ s5 => ∃ m, m < n ∧ J m s5) NoE s4) NoE s3) NoE s2) NoE s1) NoE s) (n : Nat) (h : J n s) :
    codeAny (model prog w) A (.compLoop (sc2 elt t0 i0 t1 i1 scope pos) 1 it acc env) R s := by
  refine codeAny_loop rfl J (fun n s hJ => ?_) n h
  show wpAny _ A ((compTurn (sc2 elt t0 i0 t1 i1 scope pos) 1 it acc env).onRaise (fun x => do noteFrame x env; theTreesLotGoes x)) _ _ s
  refine wpAny_noted ?_
  rw [sc2_turn1]
  refine wpAny_bind (wpAny_standAt (wpAny_bind (thnF (turn n s hJ) fun r s1 h1 => ?_)))
  cases r with
  | none => exact wpAny_pure h1
  | some v =>
    refine wpAny_bind (thnF h1 fun _ s2 h2 => wpAny_bind (thnF h2 fun _ s3 h3 => ?_))
    exact wpAny_bind (wpAny_bind (thnF h3 fun x s4 h4 => wpAny_bind (wpAny_standAt (wpAny_bind (thnF h4 fun _ s5 h5 => wpAny_pure (wpAny_pure ⟨rfl, h5⟩))))))
/-- the inner loop's start -/
theorem sc2_start1 (h0 : codeAny (model prog w) A (.compLoop (sc2 elt t0 i0 t1 i1 scope pos) 1 it acc env) R s)
    (h : wpAny (model prog w) A (pyIter it) (fun it' s' => codeAny (model prog w) A (.compLoop (sc2 elt t0 i0 t1 i1 scope pos) 1 it' acc env) R s')
      (notedBy (model prog w) A env fun x s' => R (.error x) s') s) : codeAny (model prog w) A (.compStart (sc2 elt t0 i0 t1 i1 scope pos) 1 it acc env) R s := by
  refine codeAny_of_tree ?_
  show wpAny _ _ ((compStart (sc2 elt t0 i0 t1 i1 scope pos) 1 it acc env).onRaise (fun x => do noteFrame x env; standAt theWindowsPlace)) _ _ s
  refine wpAny_notedAt ?_
  unfold compStart
  show wpAny _ _ (ask >>= _) _ _ s
  refine wpAny_bind (wpAny_askSetting (wpAny_ite ?_))
  split
  · first
      | exact wpAny_bind (wpAny_pure (wpAny_pure (And.intro rfl h0)))
      | exact wpAny_pure (And.intro rfl h0)
  · first
      | exact wpAny_bind (wpAny_rule (wpAny_bind (wpAny_standAt (wpAny_bind (wpAny_mono h (fun it' s' h' => wpAny_pure (And.intro rfl h')) fun _ _ x => x)))))
      | (refine wpAny_bind (wpAny_rule ?_); show wpAny _ _ (standAt i1.pos >>= _) _ _ s; exact wpAny_bind (wpAny_standAt (wpAny_bind (wpAny_mono h (fun it' s' h' => wpAny_pure (And.intro rfl h')) fun _ _ x => x))))
end
section
variable {X : Cx}
/-- {elt for tg in iter for tg1 in iter1}: as tLc2 without tests, D the set -/
def tSc2 (P : Program) (w : World) (wi : TI) (g : TG) (wi1 : TI) (g1 : TG) (te : TE) (vs vs1 : List Nat) : TE := fun σ H Q => wi σ H fun J H1 => ∀ D, H1 D = none → ∃ W : Nat → Nat → Hp → Prop, (∃ m, W 0 m (upd H1 D (SetSO P w D []))) ∧ ∀ i m H, W i m H →
  (J.stop i H ∧ Q (.ref D) H) ∨ (J.go i H ∧ ∃ Nx : Hp → Prop, (∀ H', Nx H' → ∃ m', m' < m ∧ W (i + 1) m' H') ∧ ∀ x H', J.yld i H x H' → g x (wipe σ vs) H' fun σ2 H2 => wipe σ2 vs = wipe σ vs ∧
    wi1 σ2 H2 fun J1 H4 => ∃ W1 : Nat → Nat → Hp → Prop, (∃ m, W1 0 m H4) ∧ ∀ j k H, W1 j k H →
      (J1.stop j H ∧ Nx H) ∨ (J1.go j H ∧ ∃ Nx1 : Hp → Prop, (∀ H', Nx1 H' → ∃ k', k' < k ∧ W1 (j + 1) k' H') ∧ ∀ x H', J1.yld j H x H' → g1 x (wipe σ2 vs1) H' fun σ3 H5 => wipe σ3 vs1 = wipe σ2 vs1 ∧
        te σ3 H5 fun y H7 => ∃ z ks, y = .str z ∧ H7 D = some (SetSO P w D ks) ∧ ks.length + 1 < scanBound ∧ Nx1 (upd H7 D (SetSO P w D (putS ks z)))))
/-- what a block's part is, wherever the block starts -/
abbrev InBlk (X : Cx) (scope : Scope) (p : Cx → Prop) : Prop := ∀ (s : Shared) (H : Hp) (C : Addr) (cl : List (Str × Addr)) (fp : List Addr), p (X.blk s H scope (compEnvC scope cl C X.env) fp)
theorem pe_sc2 {elt tg iter tg1 iter1 : Expr} {scope : Scope} {own : List (Str × Nat)} {vs1 : List Nat} {pos : Pos} {wi wi1 : TI} {g g1 : TG} {te : TE} (hc : X.calm = true) (hN : X.N.Nodup) (hi : PI X tg iter wi) (ok : BlkOk X.N X.env.scope scope own) (hv : ∀ i ∈ vs1, i ∈ own.map (·.2))
    (hg : InBlk X scope fun Y => PG Y tg g) (hi1 : InBlk X scope fun Y => PI Y tg1 iter1 wi1) (hg1 : InBlk X scope fun Y => PG Y tg1 g1) (he : InBlk X scope fun Y => PE Y elt te)
    (hs : ∀ x, foldedSetIterable iter X.env x = pure x := by intro _; rfl) (hs1 : ∀ env x, foldedSetIterable iter1 env x = pure x := by intro _ _; rfl) :
    PE X (sc2 elt tg iter tg1 iter1 scope pos) (tSc2 X.prog X.w wi g wi1 g1 te (own.map (·.2)) vs1) := by
  refine ⟨fun pins s σ H Q I h => ?_⟩
  rw [eval_sc2]
  have caught : ∀ y ∈ scope.names, y.2 = .free → ∃ c, X.env.cells.lookup y.1 = some c := fun y hy e => by
    rcases ok.free y hy e with k | k
    · exact I.ok.has _ (.inl k)
    · exact I.ok.has _ (.inr k)
  refine wpAny_comprehension_free (use := none) rfl hs (closure_ok caught) ok.kind (fun y hy e => by rw [ok.uniq y hy, e]) (thn (hi.run pins s σ H _ I h) fun xv s1 hx => thn hx fun itv s2 h2 => ?_)
  obtain ⟨it, fp, tn, J, H2, rfl, I2, T, st2, f2, q⟩ := h2
  refine PpSet.newSet_ok (newEnv_comp ?_)
  generalize hD : s2.heap.objs.size = D
  obtain ⟨W, ⟨m0, w0⟩, turn⟩ := q D (I2.hok.fresh (Nat.le_of_eq hD))
  have fb : ∀ b ∈ fp, b < s2.heap.objs.size := fun b hb => let ⟨o, e, _⟩ := T.obj _ _ st2 b hb; Heap.lt_size e
  -- the set, laid
  have nw := setS_new X.w X.prog s2.heap
  generalize hnew : s2.heap.push { cls := .type "set", dict := none, data := .set #[] 0 (.fresh 0 0 (!X.w.params.followText "set-order")) } = h3 at nw
  have keep3 : ∀ b o, s2.heap.get? b = some o → h3.get? b = some o := fun b o e => by rw [← hnew]; exact Heap.get?_push_of_some _ e
  have size3 : h3.objs.size = s2.heap.objs.size + 1 := by rw [← hnew, Heap.size_push]
  rw [hD] at nw
  have I3 : Inv X pins σ (upd H2 D (SetSO X.prog X.w D [])) { s2 with heap := h3 } := I2.laid (t' := s2.toks) keep3 (Nat.le_of_eq hD) (setSO_new nw)
  have f3 : ∀ b ∈ fp, FpOk X pins (upd H2 D (SetSO X.prog X.w D [])) b ∧ b < h3.objs.size := fun b hb => by
    refine ⟨⟨?_, (f2 b hb).2⟩, by rw [size3]; exact Nat.lt_succ_of_lt (fb b hb)⟩
    rw [upd_ne (by rw [← hD]; exact Nat.ne_of_lt (fb b hb))]
    exact (f2 b hb).1
  have st3 : tn 0 h3 := T.keep _ _ _ st2 fun b _ o e => keep3 b o e
  generalize hs3 : ({ s2 with heap := h3 } : Shared) = s3 at I3
  have eh : s3.heap = h3 := by rw [← hs3]
  rw [← eh] at st3 f3 size3
  have I4 := block_start I3 ok hN f3
  generalize hH3 : upd H2 D (SetSO X.prog X.w D []) = H3 at I3 I4 w0 f3
  show codeAny _ _ (.compStart (sc2 elt tg iter tg1 iter1 scope pos) 0 (.ref it) (.ref D) (compEnvC scope (cellsFrom (s3.heap.objs.size + 1) scope.names (cloFrom X.env.cells scope.names [])) s3.heap.objs.size X.env))
    (compPost (model X.prog X.w) X.A X.xe none (EP X pins σ Q) (.ref D) s3.heap.objs.size) { s3 with heap := pushCells (s3.heap.push { cls := .type "dict", data := .dict #[] }) scope.names }
  have pg := hg s3 H3 s3.heap.objs.size (cellsFrom (s3.heap.objs.size + 1) scope.names (cloFrom X.env.cells scope.names [])) fp
  have pi1 := hi1 s3 H3 s3.heap.objs.size (cellsFrom (s3.heap.objs.size + 1) scope.names (cloFrom X.env.cells scope.names [])) fp
  have pg1 := hg1 s3 H3 s3.heap.objs.size (cellsFrom (s3.heap.objs.size + 1) scope.names (cloFrom X.env.cells scope.names [])) fp
  have pe := he s3 H3 s3.heap.objs.size (cellsFrom (s3.heap.objs.size + 1) scope.names (cloFrom X.env.cells scope.names [])) fp
  generalize hce : compEnvC scope (cellsFrom (s3.heap.objs.size + 1) scope.names (cloFrom X.env.cells scope.names [])) s3.heap.objs.size X.env = ce at I4 pg pi1 pg1 pe ⊢
  have cL : ce.locals = s3.heap.objs.size := by rw [← hce]; rfl
  generalize hs4 : ({ s3 with heap := pushCells (s3.heap.push { cls := .type "dict", data := .dict #[] }) scope.names } : Shared) = s4 at I4 ⊢
  have st4 : tn 0 s4.heap := by
    rw [← hs4]
    exact T.keep _ _ _ st3 fun b _ o e => pushCells_keeps _ _ _ _ (Heap.get?_push_of_some _ e)
  have pinned : ∀ {σ' : L2.St} {H' : Hp} {s' : Shared}, Inv (X.blk s3 H3 scope ce fp) [] σ' H' s' → (∀ b ∈ fp, H' b = none) → ∀ b ∈ fp, FpOk (X.blk s3 H3 scope ce fp) [] H' b := fun {σ' H' s'} I' hn b hb =>
    ⟨hn b hb, (I'.ok.exf b hb).1, I'.ok.exfs b hb, .inl hb, fun x c e => (I'.ok.exf b hb).2 x c e, fun p hp => absurd (show p ∈ ([] : List (Addr × Obj)) ++ [] from hp) (by simp)⟩
  have loop : codeAny (model X.prog X.w) X.A (.compLoop (sc2 elt tg iter tg1 iter1 scope pos) 0 (.ref it) (.ref D) ce) (compPost (model X.prog X.w) X.A X.xe none (EP X pins σ Q) (.ref D) s3.heap.objs.size) s4 := by
    refine sc2_loop0 (hs1 ce) (fun n s' => ∃ i H', Inv (X.blk s3 H3 scope ce fp) [] (wipe σ (own.map (·.2))) H' s' ∧ tn i s'.heap ∧ (∀ b ∈ fp, H' b = none) ∧ W i n H') ?_ m0 ⟨0, H3, I4, st4, fun b hb => (f3 b hb).1.1, w0⟩
    rintro n s5 ⟨i, H5, I5, st5, n5, w5⟩
    rcases turn i n H5 w5 with ⟨stop, qq⟩ | ⟨go, Nx, hNx, step⟩
    · refine thnF (T.done (X.blk s3 H3 scope ce fp) rfl rfl rfl hc i [] s5 _ H5 NoE I5 (pinned I5 n5) st5 stop) fun r s6 ⟨hr, I6⟩ => ?_
      subst hr
      have I7 : Inv X pins σ H5 s6 := I3.call' (ch := fp) I6.os I6.base I6.hok I6.bare fun b hb => ⟨(f3 b hb).1.2.2.2.1, (f3 b hb).1.2.1, (f3 b hb).1.2.2.2.2.1, (f3 b hb).1.2.2.2.2.2⟩
      have free5 : H5 ce.locals = none := I6.free
      obtain ⟨m, hn, _⟩ := I6.loc
      have hn : s6.heap.Ns ce.locals m := hn
      rw [cL] at hn free5
      obtain ⟨f0, f1, _, g3, f4, f5⟩ := I3.fpOk (Nat.le_refl _) free5
      exact ⟨m, hn, fun h'' sb => ⟨.ref D, H5, I7.turned (t' := s6.toks) (fun b o hb e => (sb.2 b hb).trans e) f0 f1 g3 f4 f5, rfl, qq⟩⟩
    · refine thnF (T.item (X.blk s3 H3 scope ce fp) rfl rfl rfl hc i [] s5 _ H5 NoE I5 (pinned I5 n5) st5 go) fun r s6 ⟨u, hr, h6⟩ => ?_
      subst hr
      refine thnF h6 fun _ s7 ⟨x, H7, I7, r7, y7, st7, n7⟩ => ?_
      have I7p := I7.pinned (pinned I7 n7) (T.obj _ _ st7)
      refine thnF (pg.run _ s7 _ H7 x u _ I7p r7 (step x H7 y7)) fun _ s8 ⟨σ8, H8, I8, hw8, q8⟩ => ?_
      refine thnF (pi1.run _ s8 σ8 H8 _ I8 q8) fun xv s9 hx => thnF hx fun itv s10 h10 => ?_
      obtain ⟨it1, fp1, tn1, J1, H11, rfl, I11, T1, st11, f11, W1, ⟨m1, w1⟩, turn1⟩ := h10
      have loop1 : codeAny (model X.prog X.w) X.A (.compLoop (sc2 elt tg iter tg1 iter1 scope pos) 1 (.ref it1) (.ref D) ce)
          (fun r s' => match r with
            | .ok _ => ∃ m, m < n ∧ ∃ i H', Inv (X.blk s3 H3 scope ce fp) [] (wipe σ (own.map (·.2))) H' s' ∧ tn i s'.heap ∧ (∀ b ∈ fp, H' b = none) ∧ W i m H'
            | .error _ => False) s10 := by
        refine sc2_loop1 (fun k s' => ∃ j H', Inv (X.blk s3 H3 scope ce fp) ([] ++ pinsAt fp s7.heap) (wipe σ8 vs1) H' s' ∧ tn1 j s'.heap ∧ (∀ b ∈ fp1, H' b = none) ∧ W1 j k H') ?_ m1 ⟨0, H11, I11.weak (wipe_length _ _) (fun j v e => (wipe_some e).1), st11, fun b hb => (f11 b hb).1, w1⟩
        rintro k s12 ⟨j, H12, I12, st12, n12, w12⟩
        rcases turn1 j k H12 w12 with ⟨stop1, nx1⟩ | ⟨go1, Nx1, hNx1, step1⟩
        · refine thnF (T1.done (X.blk s3 H3 scope ce fp) rfl rfl rfl hc j _ s12 _ H12 NoE I12 (fun b hb => ⟨n12 b hb, (f11 b hb).2⟩) st12 stop1) fun r s13 ⟨hr, I13⟩ => ?_
          subst hr
          obtain ⟨m', hm, w'⟩ := hNx H12 nx1
          have pin' : ∀ b ∈ fp, ∀ o, s7.heap.get? b = some o → s13.heap.get? b = some o ∧ H12 b = none := fun b hb o e =>
            let z := I13.pin (b, o) (List.mem_append_right _ (List.mem_append_right _ (mem_pinsAt hb e)))
            ⟨z.1, z.2.1⟩
          refine ⟨m', hm, i + 1, H12, (I13.unpinned (pins := [])).weak ?_ (fun j v e => ?_), T.keep _ _ _ st7 fun b hb o e => (pin' b hb o e).1, fun b hb => ?_, w'⟩
          · have z := congrArg List.length hw8
            rw [wipe_length, wipe_length] at z
            rw [wipe_length, wipe_length]
            exact z.symm
          · rw [← hw8] at e
            obtain ⟨e1, e2⟩ := wipe_some e
            rw [wipe_out fun z => e2 (hv j z)]
            exact e1
          · obtain ⟨o, e, _⟩ := T.obj _ _ st7 b hb
            exact (pin' b hb o e).2
        · refine thnF (T1.item (X.blk s3 H3 scope ce fp) rfl rfl rfl hc j _ s12 _ H12 NoE I12 (fun b hb => ⟨n12 b hb, (f11 b hb).2⟩) st12 go1) fun r s13 ⟨u1, hr, h13⟩ => ?_
          subst hr
          refine thnF h13 fun _ s14 ⟨x1, H14, I14, r14, y14, st14, n14⟩ => ?_
          have I14p := I14.pinned (fun b hb => ⟨n14 b hb, (f11 b hb).2⟩) (T1.obj _ _ st14)
          refine thnF (pg1.run _ s14 _ H14 x1 u1 _ I14p r14 (step1 x1 H14 y14)) fun _ s15 ⟨σ15, H15, I15, hw15, q15⟩ => ?_
          refine thnF (pe.run _ s15 σ15 H15 _ I15 q15) fun v s16 ⟨yv, H16, I16, r16, z, ks, ey, hD16, room, nx⟩ => ?_
          subst ey
          obtain ⟨tk, rfl⟩ : ∃ tk, v = Value.str z tk := r16
          refine addS_ok (X := X.blk s3 H3 scope ce fp) I16 hD16 room fun s17 I17 => ?_
          obtain ⟨m', hm, w'⟩ := hNx1 _ nx
          have pin' : ∀ b ∈ fp1, ∀ o, s14.heap.get? b = some o → s17.heap.get? b = some o ∧ (upd H16 D (SetSO X.prog X.w D (putS ks z))) b = none := fun b hb o e =>
            let z := I17.pin (b, o) (List.mem_append_right _ (List.mem_append_right _ (mem_pinsAt hb e)))
            ⟨z.1, z.2.1⟩
          refine ⟨m', hm, j + 1, _, I17.unpinned.weak (by rw [← hw15, wipe_length]) (fun j v e => by rw [← hw15] at e; exact (wipe_some e).1), T1.keep _ _ _ st14 fun b hb o e => (pin' b hb o e).1, fun b hb => ?_, w'⟩
          obtain ⟨o, e, _⟩ := T1.obj _ _ st14 b hb
          exact (pin' b hb o e).2
      exact sc2_start1 loop1 (T1.self X.A 0 _ _ _ st11 loop1)
  exact PpSet.codeAny_compStart_set loop (T.self X.A 0 _ _ _ st4 loop)
end
end L2

set_option Elab.async false
set_option linter.all false
set_option maxRecDepth 100000
set_option maxHeartbeats 2000000
/-! sorted of a set of texts; a set of texts from a form's terms -/
namespace L2
open PySem PySem.Spec PyProof.Rows
def rSortedSS (P : Program) (w : World) : List V → Hp → VK → Prop := fun vs H Q => ∃ (a : Addr) (ks : List Str), vs = [V.ref a] ∧ H a = some (SetSO P w a ks) ∧ ∀ ys : List Str, ys.Perm ks → ks.Nodup → sortedS ys = true → NewQ H (.lst (ys.map V.str)) Q
theorem cr_sortedSS {X : Cx} (hc : X.calm = true) : CallR X (.builtin "sorted") (rSortedSS X.prog X.w) := by
  intro pins s σ H vs us Q I r h
  obtain ⟨a, ks, rfl, ha, q⟩ := h
  have R := setSO_get I ha
  rw [Vals.ref1 r]
  refine setS_sorted R (I.ok.hd hc) fun s' p out c ys kp gn os pn ho ss pm so => ?_
  obtain ⟨_, es, _, _, _, _, _, _, pm0, nd, hb, _⟩ := R
  have lk : ks.length = es.size := by rw [← pm0.length_eq, List.length_map, Array.length_toList]
  have hlen : (ys.map V.str).length ≤ sizeLine := by
    rw [List.length_map, pm.length_eq, lk]
    exact fits_of_scanBound hb
  have I2 : Inv X pins σ (upd H p (.lst (ys.map V.str))) { s with heap := s'.heap, toks := s.toks } := I.laid (t' := s.toks) kp pn ⟨hlen, _, c, vals_of_strs ss, ho⟩
  have I3 : Inv X pins σ (upd H p (.lst (ys.map V.str))) s' := I2.call' (ch := []) os (Un.kept fun _ _ e => e) (I2.hok.kept fun _ _ e => e) (by rw [gn]; exact I2.bare) (fun _ z => nomatch z)
  exact ⟨.ref p, _, I3, rfl, (q ys pm nd so).at (I.hok.fresh pn)⟩
theorem mem_putS {ks : List Str} {x z : Str} : x ∈ putS ks z ↔ x ∈ ks ∨ x = z := by
  unfold putS
  split
  · rename_i h
    exact ⟨.inl, fun q => q.elim id fun e => e ▸ h⟩
  · rw [List.mem_cons]
    exact ⟨fun q => q.elim .inr .inl, fun q => q.elim .inr .inl⟩
theorem len_putS (ks : List Str) (z : Str) : (putS ks z).length ≤ ks.length + 1 := by
  unfold putS
  split
  · exact Nat.le_succ _
  · exact Nat.le_refl _
/-- these texts, laid one by one -/
def putAll (ks xs : List Str) : List Str := xs.foldl putS ks
theorem mem_putAll : ∀ {xs ks : List Str} {x : Str}, x ∈ putAll ks xs ↔ x ∈ ks ∨ x ∈ xs
  | [], ks, x => by simp [putAll]
  | z :: xs, ks, x => by
    show x ∈ putAll (putS ks z) xs ↔ _
    rw [mem_putAll, mem_putS, List.mem_cons, or_assoc]
theorem len_putAll : ∀ (xs ks : List Str), (putAll ks xs).length ≤ ks.length + xs.length
  | [], ks => Nat.le_refl _
  | z :: xs, ks => by
    have h1 := len_putAll xs (putS ks z)
    have h2 := len_putS ks z
    show (putAll (putS ks z) xs).length ≤ _
    rw [List.length_cons]
    omega
theorem putAllS_snoc (ks xs : List Str) (z : Str) : putS (putAll ks xs) z = putAll ks (xs ++ [z]) := by unfold putAll; rw [List.foldl_append]; rfl
theorem putAll_app (ks xs zs : List Str) : putAll (putAll ks xs) zs = putAll ks (xs ++ zs) := by unfold putAll; rw [List.foldl_append]
/-- all letters of the terms, one behind the other -/
def lets (fm : Fm) : List Str := fm.flatMap (·.1)
theorem len_lets (fm : Fm) : (lets fm).length = (fm.map fun x => x.1.length).sum := by unfold lets; rw [List.length_flatMap]
theorem lets_take {fm : Fm} {i : Nat} {x : Mon × Rat} (h : fm[i]? = some x) : lets (fm.take (i + 1)) = lets (fm.take i) ++ x.1 := by
  unfold lets
  rw [take_snoc h, List.flatMap_append, List.flatMap_cons, List.flatMap_nil, List.append_nil]
theorem len_take_lets (fm : Fm) (i : Nat) : (lets (fm.take i)).length ≤ (lets fm).length := by
  have h : lets fm = lets (fm.take i) ++ lets (fm.drop i) := by unfold lets; rw [← List.flatMap_append, List.take_append_drop]
  rw [h, List.length_append]
  exact Nat.le_add_right _ _
section
variable {P : Program} {w : World} {J J1 : It} {n : Nat} {G : Hp → Prop} {Y : Nat → Hp → V → Hp → Prop} {wi1 : TI} {g g1 : TG} {te : TE} {vs vs1 : List Nat} {σ : L2.St} {D : Addr} {H0 : Hp}
/-- the outer walk of such a comprehension -/
theorem sc2_it {Qd : Hp → Prop} (wk : Walk J n G Y) (Pv : Nat → Hp → Prop) (h0 : Pv 0 H0) (hG : ∀ i H, i ≤ n → Pv i H → G H)
    (hs : ∀ i x H H', i < n → Pv i H → Y i H x H' → g x (wipe σ vs) H' fun σ2 H2 => wipe σ2 vs = wipe σ vs ∧
      wi1 σ2 H2 fun J1 H4 => ∃ W1 : Nat → Nat → Hp → Prop, (∃ m, W1 0 m H4) ∧ ∀ j k H, W1 j k H →
        (J1.stop j H ∧ Pv (i + 1) H) ∨ (J1.go j H ∧ ∃ Nx1 : Hp → Prop, (∀ H', Nx1 H' → ∃ k', k' < k ∧ W1 (j + 1) k' H') ∧ ∀ x H', J1.yld j H x H' → g1 x (wipe σ2 vs1) H' fun σ3 H5 => wipe σ3 vs1 = wipe σ2 vs1 ∧
          te σ3 H5 fun y H7 => ∃ z ks, y = .str z ∧ H7 D = some (SetSO P w D ks) ∧ ks.length + 1 < scanBound ∧ Nx1 (upd H7 D (SetSO P w D (putS ks z)))))
    (hd : ∀ H, Pv n H → Qd H) :
    ∃ W : Nat → Nat → Hp → Prop, (∃ m, W 0 m H0) ∧ ∀ i m H, W i m H →
      (J.stop i H ∧ Qd H) ∨ (J.go i H ∧ ∃ Nx : Hp → Prop, (∀ H', Nx H' → ∃ m', m' < m ∧ W (i + 1) m' H') ∧ ∀ x H', J.yld i H x H' → g x (wipe σ vs) H' fun σ2 H2 => wipe σ2 vs = wipe σ vs ∧
        wi1 σ2 H2 fun J1 H4 => ∃ W1 : Nat → Nat → Hp → Prop, (∃ m, W1 0 m H4) ∧ ∀ j k H, W1 j k H →
          (J1.stop j H ∧ Nx H) ∨ (J1.go j H ∧ ∃ Nx1 : Hp → Prop, (∀ H', Nx1 H' → ∃ k', k' < k ∧ W1 (j + 1) k' H') ∧ ∀ x H', J1.yld j H x H' → g1 x (wipe σ2 vs1) H' fun σ3 H5 => wipe σ3 vs1 = wipe σ2 vs1 ∧
            te σ3 H5 fun y H7 => ∃ z ks, y = .str z ∧ H7 D = some (SetSO P w D ks) ∧ ks.length + 1 < scanBound ∧ Nx1 (upd H7 D (SetSO P w D (putS ks z))))) := by
  refine ⟨fun i m H => m = n - i ∧ i ≤ n ∧ Pv i H, ⟨n, by simp, Nat.zero_le _, h0⟩, ?_⟩
  rintro i m H ⟨rfl, hi, p⟩
  have q := hG i H hi p
  by_cases hlt : i < n
  · exact .inr ⟨wk.goes i H hlt q, Pv (i + 1), fun H' p' => ⟨n - (i + 1), by omega, rfl, hlt, p'⟩, fun x H' y => hs i x H H' hlt p (wk.yields i H x H' hlt q y)⟩
  · obtain rfl : i = n := by omega
    exact .inl ⟨wk.stops H q, hd H p⟩
/-- the inner one -/
theorem sc2_in {Nx : Hp → Prop} (wk : Walk J1 n G Y) (Pv : Nat → Hp → Prop) (h0 : Pv 0 H0) (hG : ∀ i H, i ≤ n → Pv i H → G H)
    (hs : ∀ j x H H', j < n → Pv j H → Y j H x H' → g1 x (wipe σ vs1) H' fun σ3 H5 => wipe σ3 vs1 = wipe σ vs1 ∧
      te σ3 H5 fun y H7 => ∃ z ks, y = .str z ∧ H7 D = some (SetSO P w D ks) ∧ ks.length + 1 < scanBound ∧ Pv (j + 1) (upd H7 D (SetSO P w D (putS ks z))))
    (hd : ∀ H, Pv n H → Nx H) :
    ∃ W1 : Nat → Nat → Hp → Prop, (∃ m, W1 0 m H0) ∧ ∀ j k H, W1 j k H →
      (J1.stop j H ∧ Nx H) ∨ (J1.go j H ∧ ∃ Nx1 : Hp → Prop, (∀ H', Nx1 H' → ∃ k', k' < k ∧ W1 (j + 1) k' H') ∧ ∀ x H', J1.yld j H x H' → g1 x (wipe σ vs1) H' fun σ3 H5 => wipe σ3 vs1 = wipe σ vs1 ∧
        te σ3 H5 fun y H7 => ∃ z ks, y = .str z ∧ H7 D = some (SetSO P w D ks) ∧ ks.length + 1 < scanBound ∧ Nx1 (upd H7 D (SetSO P w D (putS ks z)))) := by
  refine ⟨fun i m H => m = n - i ∧ i ≤ n ∧ Pv i H, ⟨n, by simp, Nat.zero_le _, h0⟩, ?_⟩
  rintro i m H ⟨rfl, hi, p⟩
  have q := hG i H hi p
  by_cases hlt : i < n
  · exact .inr ⟨wk.goes i H hlt q, Pv (i + 1), fun H' p' => ⟨n - (i + 1), by omega, rfl, hlt, p'⟩, fun x H' y => hs i x H H' hlt p (wk.yields i H x H' hlt q y)⟩
  · obtain rfl : i = n := by omega
    exact .inl ⟨wk.stops H q, hd H p⟩
end
end L2

set_option Elab.async false
set_option linter.all false
set_option maxRecDepth 100000
set_option maxHeartbeats 1000000
/-! a.letters() -/
namespace E2
open PySem PySem.Spec PyProof.Rows L2
open C8 (Cal Mak Met InsC pe_c pe_mt pe_mt0 call_isC clsBody)
section
variable {P : Program} {w : World} {K : PySem.W.Frag} {mg : Str → Option Value} {base : Heap} {C : Addr}
theorem scLetters : FnScope ["self", "names", "name"] ["self"] (defScope sLetters) := ⟨rfl, rfl, rfl, by decide +kernel, rfl, by decide +kernel, by decide +kernel⟩
theorem ok_letters {f : Addr} {fd : FuncData} (F : Fun K "letters" "Form.letters" sLetters f fd) (T : Fx P w K mg base C) (B : Bt3 mg) : FnOk P w K mg base CX0 2 f fd ["self"] (spLetters K C) := by
  refine F.ok scLetters (fun vs H Q E h => ?_) (fun cdv A outer s H vs Q E hr h => ?_)
  · obtain ⟨a, fm, rfl, _⟩ := h
    rfl
  · obtain ⟨a, fm, rfl, ⟨dx, d, kvs, ha, hd, hf⟩, hl, hsum, k⟩ := h
    refine ⟨_, pss_one (ps_ret (pe_callB (cr_sortedSS rfl) (by rfl) B.srt_ (by decide +kernel) (pa_cons (pe_lock (pe_sc2 (own := [("names", 1), ("name", 2)]) (vs1 := [2]) (g := gName 1) (wi1 := iTup K (tVar 1)) (g1 := gName 2) (te := tVar 2) rfl scLetters.nd (pi_keys (pe_fld (pv 0) rfl))
      (blkOk_by (own := [("names", 1), ("name", 2)]) (N := ["self", "names", "name"]) (sc := defScope sLetters) (by decide +kernel)) (by decide)
      (fun _ _ _ _ _ => pg_name (i := 1) scLetters.nd rfl (Or.inl rfl)) (fun _ _ _ _ _ => pi_tup (pv 1)) (fun _ _ _ _ _ => pg_name (i := 2) scLetters.nd rfl (Or.inl rfl)) (fun _ _ _ _ _ => pv 2))) pa_nil))), ?_⟩
    have nad : a ≠ d := ne_of ha hd (by intro z; cases z)
    refine ⟨d, .dT kvs, hd, trivial, fun od => ?_⟩
    refine ⟨_, rfl, a, C, dx, _, _, rfl, by rw [upd_ne nad]; exact ha, T.cl, T.na, rfl, d, od, rfl, .inr ⟨kvs, upd_same, fun D nD => ?_⟩⟩
    have neD : D ≠ d := by
      rintro rfl
      rw [upd_same] at nD
      cases nD
    have nDH : H D = none := by rwa [upd_ne neD] at nD
    have h1 : (upd H d (.frz od (.dT kvs))) d = some (.frz od (.dT kvs)) := upd_same
    have hf1 : FmKv K (upd H d (.frz od (.dT kvs))) kvs fm := hf.imp fun b x s => s.off hd (fun z => nomatch z) (fun _ z => nomatch z)
    have small : ∀ l : List Str, l.length ≤ (lets fm).length → (putAll [] l).length ≤ 1000 := fun l hl2 => by
      have := len_putAll l []
      rw [len_lets] at hl2
      simp only [List.length_nil] at this
      omega
    have S0 : ∀ z : HO, Same H (upd (upd (upd H d (.frz od (.dT kvs))) D z) d (.dT kvs)) := fun z b o e => by
      by_cases c : b = d
      · subst c
        rw [upd_same, ← hd, e]
      · rw [upd_ne c, upd_ne (ne_of_none e nDH), upd_ne c]
        exact e
    generalize hH1 : upd H d (.frz od (.dT kvs)) = H1 at hf1 nD h1 S0 ⊢
    refine sc2_it walk_keysT (fun i H' => H' = upd H1 D (SetSO P w D (putAll [] (lets (fm.take i))))) rfl (fun i H' _ e => by rw [e, upd_ne (Ne.symm neD)]; exact h1) ?_ ?_
    · rintro i x H' H'' hi rfl ⟨rfl, kk, v, b, hkv, rfl, hb⟩
      obtain ⟨m, q, a1, hm, e, sa⟩ := hf1.get hkv
      obtain ⟨rfl, rfl⟩ := Prod.mk.inj e
      have bD : b ≠ D := by
        rintro rfl
        rw [upd_same] at hb
        cases hb
      rw [upd_ne bD, kS_kV] at hb
      have ltk := lets_take hm
      have ln := len_take_lets fm (i + 1)
      rw [ltk, List.length_append] at ln
      have ln : (lets (fm.take i)).length + m.length ≤ (lets fm).length := ln
      refine ⟨rfl, _, rfl, b, rfl, ⟨_, SqT.of (by rw [upd_ne bD]; exact hb)⟩, ?_⟩
      refine sc2_in (walk_tup (xs := m.map V.str)) (fun j H' => H' = upd H1 D (SetSO P w D (putAll [] (lets (fm.take i) ++ m.take j)))) ?_ ?_ ?_ ?_
      · rw [List.take_zero, List.append_nil]
      · rintro j H' _ rfl
        exact SqT.of (by rw [upd_ne bD]; exact hb)
      · rintro j x H' H'' hj rfl ⟨rfl, hx⟩
        rw [List.getElem?_map] at hx
        cases hz : m[j]? with
        | none => rw [hz] at hx; cases hx
        | some z =>
          rw [hz] at hx
          cases hx
          refine ⟨rfl, _, rfl, z, _, rfl, upd_same, ?_, ?_⟩
          · have := small (lets (fm.take i) ++ m.take j) (by rw [List.length_append, List.length_take]; omega)
            exact Nat.lt_of_le_of_lt (Nat.succ_le_succ this) (by decide)
          · rw [upd_upd, putAllS_snoc, List.append_assoc, ← take_snoc hz]
            rfl
      · rintro H' rfl
        rw [List.length_map, List.take_length, ltk]
    · rintro H' rfl
      rw [hf.length, List.take_length]
      refine ⟨by rw [upd_ne (Ne.symm neD)]; exact h1, D, _, rfl, by rw [upd_ne neD]; exact upd_same, fun ys pm nd so p H2 S np hp => ?_⟩
      refine k H2 p ys ((S0 _).trans S) ((S0 _).free np) hp (by rw [pm.length_eq]; exact small _ (Nat.le_refl _)) so (pm.nodup_iff.mpr nd) fun x => ?_
      rw [pm.mem_iff, mem_putAll]
      unfold lets
      rw [List.mem_flatMap]
      constructor
      · rintro (h | ⟨y, hy, hx⟩)
        · cases h
        · exact ⟨y.1, List.mem_map.mpr ⟨y, hy, rfl⟩, hx⟩
      · rintro ⟨m, hm, hx⟩
        obtain ⟨y, hy, rfl⟩ := List.mem_map.mp hm
        exact .inr ⟨y, hy, hx⟩
end
end E2

set_option Elab.async false
set_option linter.all false
set_option maxRecDepth 100000
set_option maxHeartbeats 1000000
/-! A head by facts: one Bool of the law's own, and the defs. -/
namespace Hb
open PySem PySem.Spec PyProof.Rows L2 He
abbrev AlB : Type := Bool × List FnV
def obsB (ex : PySem.W.Frag → Bool) (fn : List FnD) (K : PySem.W.Frag) : AlB := (ex K && fn.all fun d => (Fa.code d.at_ d.qual).ok K && PySem.W.keepIn K (.ref (fAd K d.at_)), fn.map fun d => fnObs K d.at_)
def valB (fn : List FnD) : AlB := (true, fn.map FnD.val)
def SaysB (ex : PySem.W.Frag → Bool) (fn : List FnD) (K : PySem.W.Frag) : Prop := obsB ex fn K = valB fn
def lookB (n : Nat) (ex : PySem.W.Frag → Bool) (fn : List FnD) (g : Addr → Option Obj) : AlB := obsB ex fn (frG g (asG g n))
def hookB (n : Nat) (ex : PySem.W.Frag → Bool) (fn : List FnD) : PySem.W.Hook where
  α := AlB
  obs := fun s => lookB n ex fn s.heap.get?
  val := fun _ => valB fn
  says := fun _ h => ∃ K : PySem.W.Frag, K.In h ∧ SaysB ex fn K
  of := fun _ _ e => ⟨_, frG_in, e⟩
  keeps := fun _ _ _ ⟨K, hK, c⟩ k => ⟨K, PySem.W.Frag.In.keeps hK k, c⟩
theorem lookB_eq {n : Nat} {ex : PySem.W.Frag → Bool} {fn : List FnD} {g : Addr → Option Obj} {s : Shared} (h : ∀ a, g a = s.heap.get? a) : lookB n ex fn g = (hookB n ex fn).obs s := by
  have e : g = s.heap.get? := funext h
  rw [e] <;> rfl
/-- a def of the text, by its statement -/
def dS (at_ : Str × Option Str) (name qual : Str) (st : Stmt) : FnD := ⟨at_, name, qual, defArgs st, defBody st, defScope st⟩
section
variable {ex : PySem.W.Frag → Bool} {fn : List FnD} {K : PySem.W.Frag}
theorem SaysB.bool (c : SaysB ex fn K) : ex K = true := (ba (show (ex K && fn.all fun d => (Fa.code d.at_ d.qual).ok K && PySem.W.keepIn K (.ref (fAd K d.at_))) = true from congrArg (fun z : AlB => z.1) c)).1
theorem SaysB.fun_ (c : SaysB ex fn K) (i : Nat) {at_ : Str × Option Str} {name qual : Str} {st : Stmt} (h : fn[i]? = some (dS at_ name qual st) := by rfl) : ∃ fd, L2.Fun K name qual st (fAd K at_) fd := by
  have c2 := (ba (show (ex K && fn.all fun d => (Fa.code d.at_ d.qual).ok K && PySem.W.keepIn K (.ref (fAd K d.at_))) = true from congrArg (fun z : AlB => z.1) c)).2
  have c3 := ba (List.all_eq_true.mp c2 _ (List.mem_of_getElem? h))
  have e : fn.map (fun d => fnObs K d.at_) = fn.map FnD.val := congrArg (fun z : AlB => z.2) c
  have e2 : (fn.map fun d => fnObs K d.at_)[i]? = (fn.map FnD.val)[i]? := by rw [e]
  rw [List.getElem?_map, List.getElem?_map, h] at e2
  obtain ⟨oc, od, osl, kV, doc, pm, an, cdv, ct, l, k⟩ := fn_ok (Option.some.inj e2) c3.1
  exact ⟨_, ⟨oc, od, kV, doc, pm, an, cdv, ct, osl, rfl, l, k⟩, c3.2⟩
end
theorem bindsA {K : PySem.W.Frag} {x qual : Str} {st : Stmt} {f : Addr} {fd : FuncData} {ps : List Str} (F : L2.Fun K x qual st f fd)
    (h : ∀ (kV doc pm : Value) (an : Option Addr) (cdv ct : Value) (us : List Value), us.length = ps.length → bindArgs (PySem.W.fnOf x qual (defArgs st) (defBody st) (defScope st) .none kV doc pm an cdv ct) ⟨us, []⟩ = pure (ps.zip us)) (s : Shared) (us : List Value) (hl : us.length = ps.length) : BindsTo s fd ⟨us, []⟩ (ps.zip us) := by
  obtain ⟨oc, od, kV, doc, pm, an, cdv, ct, osl, rfl, lk, hcd⟩ := F.ex
  exact .of_eq (h kV doc pm an cdv ct us hl)
/-! own operators, isinstance, as Bools -/
section
variable {K : PySem.W.Frag} {C : Addr}
def ownB (K : PySem.W.Frag) (C : Addr) (m : Str) : Bool := PySem.W.selfFirst K C && (eqO (PySem.W.findIn K (.ref C) m) (some (some (.ref (ma K C m)))) && PySem.W.isFn K (.ref (ma K C m)))
theorem ownB_ok {m : Str} (h : ownB K C m = true) : OwnOp K C m (ma K C m) :=
  let ⟨h1, h2⟩ := ba h
  let ⟨h3, h4⟩ := ba h2
  ⟨h1, eqO_ok h3, h4⟩
def ownIB (K : PySem.W.Frag) (C : Addr) (name : String) : Bool := ownB K C (PySem.dunder name) && ((match PySem.W.findIn K (.ref C) (dunderR name) with
  | some none => true
  | some (some (.ref _)) => true
  | _ => false) && ((PySem.W.findIn K (.type "int") (PySem.dunder name)).isSome && ((PySem.W.findIn K (.type "int") (dunderR name)).isSome && decide (PySem.W.subIn K (.type "int") (.ref C) = some false))))
theorem ownIB_ok {name : String} (h : ownIB K C name = true) : OwnOpI K C name (ma K C (PySem.dunder name)) := by
  obtain ⟨h1, h⟩ := ba h
  obtain ⟨h2, h⟩ := ba h
  obtain ⟨h3, h⟩ := ba h
  obtain ⟨h4, h5⟩ := ba h
  refine ⟨ownB_ok h1, ?_, Option.isSome_iff_exists.mp h3, Option.isSome_iff_exists.mp h4, of_decide_eq_true h5⟩
  split at h2
  · rename_i e
    exact ⟨_, e, .inl rfl⟩
  · rename_i a e
    exact ⟨_, e, .inr ⟨a, rfl⟩⟩
  · cases h2
def insB (K : PySem.W.Frag) (C : Addr) : Bool := eqO (PySem.W.findIn K (.ref C) "__class__") (some (some (.builtin "object.__class__"))) && (eqO (PySem.W.specialIn K (.builtin "object.__class__") "__get__") (some (some (.builtin "getset_descriptor.__get__"))) &&
  (decide (PySem.W.takesIn K (.builtin "object.__class__") = some true) && (decide (PySem.W.mroIn K C (.type "object") = some true) && decide (PySem.W.kitOne K (.ref C) (.ref C) = some true))))
theorem insB_ok (c : Cls K C) (h : insB K C = true) : C8.InsC K C := by
  obtain ⟨h1, h⟩ := ba h
  obtain ⟨h2, h⟩ := ba h
  obtain ⟨h3, h⟩ := ba h
  obtain ⟨h4, h5⟩ := ba h
  exact ⟨c, eqO_ok h1, eqO_ok h2, of_decide_eq_true h3, of_decide_eq_true h4, of_decide_eq_true h5⟩
/-- a global that is a built-in function -/
def bltB (K : PySem.W.Frag) (x : Str) (n : String) : Bool := eqO (PySem.W.nsIn K mainGlobals x) (some (some (.builtin n)))
theorem bltB_ok {h : Heap} {mg : Str → Option Value} (X : K.In h) (G : h.Ns mainGlobals mg) {x : Str} {n : String} (c : bltB K x n = true) : mg x = some (.builtin n) := PySem.W.mg_of X G (eqO_ok c)
/-- the facts of a list hold -/
theorem fa_ok {fa : List Fa} (h : (fa.all fun f => f.ok K) = true) (i : Nat) {f : Fa} (hi : fa[i]? = some f := by rfl) : f.ok K = true := List.all_eq_true.mp h f (List.mem_of_getElem? hi)
theorem bool_ok {l : List Bool} (h : (l.all id) = true) (i : Nat) {b : Bool} (hi : l[i]? = some b := by rfl) : b = true := List.all_eq_true.mp h b (List.mem_of_getElem? hi)
end
end Hb

set_option Elab.async false
set_option linter.all false
set_option maxRecDepth 100000
set_option maxHeartbeats 1000000
/-! what the top left: each def with its promise -/
namespace E2
open PySem PySem.Spec PyProof.Rows L2 He Hb
open C8 (Cal Mak Met InsC)
def fnK2 : List FnD := [dS ("is_whole", none) "is_whole" "is_whole" sIsWhole,
  dS ("is_letter", none) "is_letter" "is_letter" sIsLetter,
  dS ("is_values", none) "is_values" "is_values" sIsValues,
  dS ("letter", none) "letter" "letter" sLetter,
  dS ("number", none) "number" "number" sNumber,
  dS ("right_side", none) "right_side" "right_side" sRightSide,
  dS ("without_noughts", none) "without_noughts" "without_noughts" sWithout,
  dS ("product_at", none) "product_at" "product_at" sProductAt,
  dS ("lowest", none) "lowest" "lowest" sLowest,
  dS ("fraction_sum", none) "fraction_sum" "fraction_sum" sFracSum,
  dS ("fraction_product", none) "fraction_product" "fraction_product" sFracProd,
  dS ("_law_purse", none) "_law_purse" "_law_purse" sPurse,
  dS ("_law_mixed", none) "_law_mixed" "_law_mixed" sMixed,
  dS ("_law_draw", none) "_law_draw" "_law_draw" sDraw,
  dS ("_law_purses", none) "_law_purses" "_law_purses" sPurses,
  dS ("_law_one_of", none) "_law_one_of" "_law_one_of" sOneOf,
  dS ("_law_tree", none) "_law_tree" "_law_tree" sTree,
  dS ("_law_worth", none) "_law_worth" "_law_worth" sWorth,
  dS ("_law_form", none) "_law_form" "_law_form" sLawForm,
  dS ("_law_whole_at", none) "_law_whole_at" "_law_whole_at" sWholeAt,
  dS ("_law_values", none) "_law_values" "_law_values" sValues,
  dS ("_law_names", none) "_law_names" "_law_names" sNames,
  dS ("_law_right", none) "_law_right" "_law_right" sRight2,
  dS ("_law_mixed_right", none) "_law_mixed_right" "_law_mixed_right" sMixedRight,
  dS ("law", none) "law" "law" sLaw,
  dS ("Form", some "__init__") "__init__" "Form.__init__" sInit,
  dS ("Form", some "__add__") "__add__" "Form.__add__" sAdd,
  dS ("Form", some "__sub__") "__sub__" "Form.__sub__" sSub,
  dS ("Form", some "__mul__") "__mul__" "Form.__mul__" sMul,
  dS ("Form", some "__neg__") "__neg__" "Form.__neg__" sNeg,
  dS ("Form", some "over") "over" "Form.over" sOver,
  dS ("Form", some "letters") "letters" "Form.letters" sLetters,
  dS ("Form", some "at") "at" "Form.at" sAt]
def faK2 : List Fa := [.glo "is_whole",
  .glo "is_letter",
  .glo "is_values",
  .glo "letter",
  .glo "number",
  .glo "right_side",
  .glo "without_noughts",
  .glo "product_at",
  .glo "lowest",
  .glo "fraction_sum",
  .glo "fraction_product",
  .glo "_law_purse",
  .glo "_law_mixed",
  .glo "_law_draw",
  .glo "_law_purses",
  .glo "_law_one_of",
  .glo "_law_tree",
  .glo "_law_worth",
  .glo "_law_form",
  .glo "_law_whole_at",
  .glo "_law_values",
  .glo "_law_names",
  .glo "_law_right",
  .glo "_law_mixed_right",
  .glo "law",
  .glo "Form",
  .free "isinstance",
  .free "int",
  .free "bool",
  .free "str",
  .free "len",
  .free "all",
  .free "tuple",
  .free "sorted",
  .free "dict",
  .free "sum",
  .free "max",
  .free "min",
  .free "range",
  .cls "Form",
  .noat "Form" "_parts",
  .mkr "Form",
  .meth "Form" "over",
  .meth "Form" "letters",
  .meth "Form" "at"]
def bsK2 (K : PySem.W.Frag) : List Bool := [bltB K "gcd" "math.gcd",
  bltB K "lcm" "math.lcm",
  ownB K (ga K "Form") "__add__",
  ownB K (ga K "Form") "__sub__",
  ownB K (ga K "Form") "__mul__",
  ownB K (ga K "Form") "__neg__",
  ownIB K (ga K "Form") "add",
  ownIB K (ga K "Form") "sub",
  ownIB K (ga K "Form") "mul",
  insB K (ga K "Form"),
  decide (PySem.W.kitOne K (.ref (ga K "Form")) (.type "int") = some false)]
def exK2 (K : PySem.W.Frag) : Bool := (faK2.all fun f => f.ok K) && (bsK2 K).all id
section
variable {P : Program} {w : World} {K : PySem.W.Frag} {mg : Str → Option Value} {base : Heap} {C : Addr}
theorem cal_of {x : Str} {st : Stmt} {f : Addr} {fd : FuncData} {ps : List Str} {k : Nat} {sp : Sp} (F : Fun K x x st f fd) (g : mg x = some (.ref f)) (b : Binds K fd ps []) (O : FnOk P w K mg base CX0 k f fd ps sp) : Cal P w K mg base k x sp [] := ⟨f, fd, ps, [], O, g, F.kp, b, .nil⟩
theorem never_ok {f : Addr} {fd : FuncData} {ps : List Str} {k : Nat} {sp : Sp} (h : ∀ vs H Q E, ¬ sp vs H Q E) : FnOk P w K mg base CX0 k f fd ps sp := ⟨fun vs H Q E q => (h vs H Q E q).elim, fun A outer s H args us vs Q E _ _ _ _ q => (h vs H Q E q).elim⟩
theorem all_tree {f : Addr} {fd : FuncData} (F : Fun K "_law_tree" "_law_tree" sTree f fd) (g : mg "_law_tree" = some (.ref f)) (b : Binds K fd ["_law_purse_here", "_law_depth", "_law_names_here"] []) (D : Cal P w K mg base 2 "_law_draw" spDraw []) (O : Cal P w K mg base 3 "_law_one_of" (spOneOf K) []) :
    ∀ d, d ≤ 3 → FnOk P w K mg base CX0 (5 + d) f fd ["_law_purse_here", "_law_depth", "_law_names_here"] (spTree K d)
  | 0, h => ok_tree F 0 h D O (cal_of F g b (never_ok fun _ _ _ _ z => z))
  | d + 1, h => ok_tree F (d + 1) h D O (cal_of F g b ((all_tree F g b D O d (by omega)).mono (by omega)))
theorem all_worth {f : Addr} {fd : FuncData} (F : Fun K "_law_worth" "_law_worth" sWorth f fd) (g : mg "_law_worth" = some (.ref f)) (b : Binds K fd ["_law_tree_here", "_law_values_here"] []) :
    ∀ d, d ≤ 6 → FnOk P w K mg base CX0 (2 + d) f fd ["_law_tree_here", "_law_values_here"] (spWorth K d)
  | 0, h => ok_worth F 0 h (cal_of F g b (never_ok fun _ _ _ _ z => z))
  | d + 1, h => ok_worth F (d + 1) h (cal_of F g b ((all_worth F g b d (by omega)).mono (by omega)))
theorem all_form {f : Addr} {fd : FuncData} (F : Fun K "_law_form" "_law_form" sLawForm f fd) (g : mg "_law_form" = some (.ref f)) (b : Binds K fd ["_law_tree_here"] []) (Nu : Cal P w K mg base 3 "number" (spNumber K C) []) (Le : Cal P w K mg base 3 "letter" (spLetter K C) []) (Ov : Met P w K mg base 4 C "over" (spOver K C) [])
    (Oa : OpM P w K mg base 5 C "__add__" (spAdd K C)) (Os : OpM P w K mg base 6 C "__sub__" (spSub K C)) (Om : OpM P w K mg base 5 C "__mul__" (spMul K C)) :
    ∀ d, d ≤ 3 → FnOk P w K mg base CX0 (7 + d) f fd ["_law_tree_here"] (spLawForm K C d)
  | 0, h => ok_lawForm F 0 h Nu Le Ov Oa Os Om (cal_of F g b (never_ok fun _ _ _ _ z => z))
  | d + 1, h => ok_lawForm F (d + 1) h Nu Le Ov Oa Os Om (cal_of F g b ((all_form F g b Nu Le Ov Oa Os Om d (by omega)).mono (by omega)))
end
theorem facts {P : Program} {w : World} {K : PySem.W.Frag} {h : Heap} {mg : Str → Option Value} {fl : Addr} (X : K.In h) (G : h.Ns mainGlobals mg) (hfa : mg "law" = some (.ref fl)) (c : SaysB exK2 fnK2 K) :
    ∃ fd : FuncData, (∀ (s : Shared) (u : Value), BindsTo s fd ⟨[u], []⟩ [("_law_script", u)]) ∧ ∀ base : Heap, K.In base → base.Ns mainGlobals mg → FnOk P w K mg base CX0 12 fl fd ["_law_script"] (spLaw K) := by
  have cb := ba (show ((faK2.all fun f => f.ok K) && (bsK2 K).all id) = true from c.bool)
  have ca := cb.1
  have cc := cb.2
  obtain ⟨d0, F0⟩ := c.fun_ 0 (at_ := ("is_whole", none)) (name := "is_whole") (qual := "is_whole") (st := sIsWhole) rfl
  have g0 : mg "is_whole" = some (.ref (ga K "is_whole")) := glo_ok X G (fa_ok ca 0 (f := .glo "is_whole") rfl)
  have b0 := F0.binds (ps := ["value"]) fun _ _ _ _ _ _ us hl => match us, hl with | [_], _ => rfl
  obtain ⟨d1, F1⟩ := c.fun_ 1 (at_ := ("is_letter", none)) (name := "is_letter") (qual := "is_letter") (st := sIsLetter) rfl
  have g1 : mg "is_letter" = some (.ref (ga K "is_letter")) := glo_ok X G (fa_ok ca 1 (f := .glo "is_letter") rfl)
  have b1 := F1.binds (ps := ["name"]) fun _ _ _ _ _ _ us hl => match us, hl with | [_], _ => rfl
  obtain ⟨d2, F2⟩ := c.fun_ 2 (at_ := ("is_values", none)) (name := "is_values") (qual := "is_values") (st := sIsValues) rfl
  have g2 : mg "is_values" = some (.ref (ga K "is_values")) := glo_ok X G (fa_ok ca 2 (f := .glo "is_values") rfl)
  have b2 := F2.binds (ps := ["values", "names"]) fun _ _ _ _ _ _ us hl => match us, hl with | [_, _], _ => rfl
  obtain ⟨d3, F3⟩ := c.fun_ 3 (at_ := ("letter", none)) (name := "letter") (qual := "letter") (st := sLetter) rfl
  have g3 : mg "letter" = some (.ref (ga K "letter")) := glo_ok X G (fa_ok ca 3 (f := .glo "letter") rfl)
  have b3 := F3.binds (ps := ["name"]) fun _ _ _ _ _ _ us hl => match us, hl with | [_], _ => rfl
  obtain ⟨d4, F4⟩ := c.fun_ 4 (at_ := ("number", none)) (name := "number") (qual := "number") (st := sNumber) rfl
  have g4 : mg "number" = some (.ref (ga K "number")) := glo_ok X G (fa_ok ca 4 (f := .glo "number") rfl)
  have b4 := F4.binds (ps := ["value"]) fun _ _ _ _ _ _ us hl => match us, hl with | [_], _ => rfl
  obtain ⟨d5, F5⟩ := c.fun_ 5 (at_ := ("right_side", none)) (name := "right_side") (qual := "right_side") (st := sRightSide) rfl
  have g5 : mg "right_side" = some (.ref (ga K "right_side")) := glo_ok X G (fa_ok ca 5 (f := .glo "right_side") rfl)
  have b5 := F5.binds (ps := ["other"]) fun _ _ _ _ _ _ us hl => match us, hl with | [_], _ => rfl
  obtain ⟨d6, F6⟩ := c.fun_ 6 (at_ := ("without_noughts", none)) (name := "without_noughts") (qual := "without_noughts") (st := sWithout) rfl
  have g6 : mg "without_noughts" = some (.ref (ga K "without_noughts")) := glo_ok X G (fa_ok ca 6 (f := .glo "without_noughts") rfl)
  have b6 := F6.binds (ps := ["parts"]) fun _ _ _ _ _ _ us hl => match us, hl with | [_], _ => rfl
  obtain ⟨d7, F7⟩ := c.fun_ 7 (at_ := ("product_at", none)) (name := "product_at") (qual := "product_at") (st := sProductAt) rfl
  have g7 : mg "product_at" = some (.ref (ga K "product_at")) := glo_ok X G (fa_ok ca 7 (f := .glo "product_at") rfl)
  have b7 := F7.binds (ps := ["names", "values"]) fun _ _ _ _ _ _ us hl => match us, hl with | [_, _], _ => rfl
  obtain ⟨d8, F8⟩ := c.fun_ 8 (at_ := ("lowest", none)) (name := "lowest") (qual := "lowest") (st := sLowest) rfl
  have g8 : mg "lowest" = some (.ref (ga K "lowest")) := glo_ok X G (fa_ok ca 8 (f := .glo "lowest") rfl)
  have b8 := F8.binds (ps := ["top", "bottom"]) fun _ _ _ _ _ _ us hl => match us, hl with | [_, _], _ => rfl
  obtain ⟨d9, F9⟩ := c.fun_ 9 (at_ := ("fraction_sum", none)) (name := "fraction_sum") (qual := "fraction_sum") (st := sFracSum) rfl
  have g9 : mg "fraction_sum" = some (.ref (ga K "fraction_sum")) := glo_ok X G (fa_ok ca 9 (f := .glo "fraction_sum") rfl)
  have b9 := F9.binds (ps := ["one", "other"]) fun _ _ _ _ _ _ us hl => match us, hl with | [_, _], _ => rfl
  obtain ⟨d10, F10⟩ := c.fun_ 10 (at_ := ("fraction_product", none)) (name := "fraction_product") (qual := "fraction_product") (st := sFracProd) rfl
  have g10 : mg "fraction_product" = some (.ref (ga K "fraction_product")) := glo_ok X G (fa_ok ca 10 (f := .glo "fraction_product") rfl)
  have b10 := F10.binds (ps := ["one", "other"]) fun _ _ _ _ _ _ us hl => match us, hl with | [_, _], _ => rfl
  obtain ⟨d11, F11⟩ := c.fun_ 11 (at_ := ("_law_purse", none)) (name := "_law_purse") (qual := "_law_purse") (st := sPurse) rfl
  have g11 : mg "_law_purse" = some (.ref (ga K "_law_purse")) := glo_ok X G (fa_ok ca 11 (f := .glo "_law_purse") rfl)
  have b11 := F11.binds (ps := ["_law_script", "_law_at"]) fun _ _ _ _ _ _ us hl => match us, hl with | [_, _], _ => rfl
  obtain ⟨d12, F12⟩ := c.fun_ 12 (at_ := ("_law_mixed", none)) (name := "_law_mixed") (qual := "_law_mixed") (st := sMixed) rfl
  have g12 : mg "_law_mixed" = some (.ref (ga K "_law_mixed")) := glo_ok X G (fa_ok ca 12 (f := .glo "_law_mixed") rfl)
  have b12 := F12.binds (ps := ["_law_seed", "_law_turn", "_law_at"]) fun _ _ _ _ _ _ us hl => match us, hl with | [_, _, _], _ => rfl
  obtain ⟨d13, F13⟩ := c.fun_ 13 (at_ := ("_law_draw", none)) (name := "_law_draw") (qual := "_law_draw") (st := sDraw) rfl
  have g13 : mg "_law_draw" = some (.ref (ga K "_law_draw")) := glo_ok X G (fa_ok ca 13 (f := .glo "_law_draw") rfl)
  have b13 := F13.binds (ps := ["_law_purse_here", "_law_many"]) fun _ _ _ _ _ _ us hl => match us, hl with | [_, _], _ => rfl
  obtain ⟨d14, F14⟩ := c.fun_ 14 (at_ := ("_law_purses", none)) (name := "_law_purses") (qual := "_law_purses") (st := sPurses) rfl
  have g14 : mg "_law_purses" = some (.ref (ga K "_law_purses")) := glo_ok X G (fa_ok ca 14 (f := .glo "_law_purses") rfl)
  have b14 := F14.binds (ps := ["_law_script", "_law_few"]) fun _ _ _ _ _ _ us hl => match us, hl with | [_, _], _ => rfl
  obtain ⟨d15, F15⟩ := c.fun_ 15 (at_ := ("_law_one_of", none)) (name := "_law_one_of") (qual := "_law_one_of") (st := sOneOf) rfl
  have g15 : mg "_law_one_of" = some (.ref (ga K "_law_one_of")) := glo_ok X G (fa_ok ca 15 (f := .glo "_law_one_of") rfl)
  have b15 := F15.binds (ps := ["_law_purse_here", "_law_some"]) fun _ _ _ _ _ _ us hl => match us, hl with | [_, _], _ => rfl
  obtain ⟨d16, F16⟩ := c.fun_ 16 (at_ := ("_law_tree", none)) (name := "_law_tree") (qual := "_law_tree") (st := sTree) rfl
  have g16 : mg "_law_tree" = some (.ref (ga K "_law_tree")) := glo_ok X G (fa_ok ca 16 (f := .glo "_law_tree") rfl)
  have b16 := F16.binds (ps := ["_law_purse_here", "_law_depth", "_law_names_here"]) fun _ _ _ _ _ _ us hl => match us, hl with | [_, _, _], _ => rfl
  obtain ⟨d17, F17⟩ := c.fun_ 17 (at_ := ("_law_worth", none)) (name := "_law_worth") (qual := "_law_worth") (st := sWorth) rfl
  have g17 : mg "_law_worth" = some (.ref (ga K "_law_worth")) := glo_ok X G (fa_ok ca 17 (f := .glo "_law_worth") rfl)
  have b17 := F17.binds (ps := ["_law_tree_here", "_law_values_here"]) fun _ _ _ _ _ _ us hl => match us, hl with | [_, _], _ => rfl
  obtain ⟨d18, F18⟩ := c.fun_ 18 (at_ := ("_law_form", none)) (name := "_law_form") (qual := "_law_form") (st := sLawForm) rfl
  have g18 : mg "_law_form" = some (.ref (ga K "_law_form")) := glo_ok X G (fa_ok ca 18 (f := .glo "_law_form") rfl)
  have b18 := F18.binds (ps := ["_law_tree_here"]) fun _ _ _ _ _ _ us hl => match us, hl with | [_], _ => rfl
  obtain ⟨d19, F19⟩ := c.fun_ 19 (at_ := ("_law_whole_at", none)) (name := "_law_whole_at") (qual := "_law_whole_at") (st := sWholeAt) rfl
  have g19 : mg "_law_whole_at" = some (.ref (ga K "_law_whole_at")) := glo_ok X G (fa_ok ca 19 (f := .glo "_law_whole_at") rfl)
  have b19 := F19.binds (ps := ["_law_tree_here", "_law_values_here"]) fun _ _ _ _ _ _ us hl => match us, hl with | [_, _], _ => rfl
  obtain ⟨d20, F20⟩ := c.fun_ 20 (at_ := ("_law_values", none)) (name := "_law_values") (qual := "_law_values") (st := sValues) rfl
  have g20 : mg "_law_values" = some (.ref (ga K "_law_values")) := glo_ok X G (fa_ok ca 20 (f := .glo "_law_values") rfl)
  have b20 := F20.binds (ps := ["_law_purse_here", "_law_names_here"]) fun _ _ _ _ _ _ us hl => match us, hl with | [_, _], _ => rfl
  obtain ⟨d21, F21⟩ := c.fun_ 21 (at_ := ("_law_names", none)) (name := "_law_names") (qual := "_law_names") (st := sNames) rfl
  have g21 : mg "_law_names" = some (.ref (ga K "_law_names")) := glo_ok X G (fa_ok ca 21 (f := .glo "_law_names") rfl)
  have b21 := F21.binds (ps := ["_law_purse_here", "_law_many"]) fun _ _ _ _ _ _ us hl => match us, hl with | [_, _], _ => rfl
  obtain ⟨d22, F22⟩ := c.fun_ 22 (at_ := ("_law_right", none)) (name := "_law_right") (qual := "_law_right") (st := sRight2) rfl
  have g22 : mg "_law_right" = some (.ref (ga K "_law_right")) := glo_ok X G (fa_ok ca 22 (f := .glo "_law_right") rfl)
  have b22 := F22.binds (ps := ["_law_purse_here", "_law_tree_here", "_law_form_here", "_law_names_here"]) fun _ _ _ _ _ _ us hl => match us, hl with | [_, _, _, _], _ => rfl
  obtain ⟨d23, F23⟩ := c.fun_ 23 (at_ := ("_law_mixed_right", none)) (name := "_law_mixed_right") (qual := "_law_mixed_right") (st := sMixedRight) rfl
  have g23 : mg "_law_mixed_right" = some (.ref (ga K "_law_mixed_right")) := glo_ok X G (fa_ok ca 23 (f := .glo "_law_mixed_right") rfl)
  have b23 := F23.binds (ps := ["_law_purse_here", "_law_tree_here", "_law_names_here"]) fun _ _ _ _ _ _ us hl => match us, hl with | [_, _, _], _ => rfl
  obtain ⟨d24, F24⟩ := c.fun_ 24 (at_ := ("law", none)) (name := "law") (qual := "law") (st := sLaw) rfl
  have g24 : mg "law" = some (.ref (ga K "law")) := glo_ok X G (fa_ok ca 24 (f := .glo "law") rfl)
  have b24 := F24.binds (ps := ["_law_script"]) fun _ _ _ _ _ _ us hl => match us, hl with | [_], _ => rfl
  obtain ⟨d25, F25⟩ := c.fun_ 25 (at_ := ("Form", some "__init__")) (name := "__init__") (qual := "Form.__init__") (st := sInit) rfl
  have b25 := F25.binds (ps := ["self", "parts"]) fun _ _ _ _ _ _ us hl => match us, hl with | [_, _], _ => rfl
  obtain ⟨d26, F26⟩ := c.fun_ 26 (at_ := ("Form", some "__add__")) (name := "__add__") (qual := "Form.__add__") (st := sAdd) rfl
  have b26 := F26.binds (ps := ["self", "other"]) fun _ _ _ _ _ _ us hl => match us, hl with | [_, _], _ => rfl
  obtain ⟨d27, F27⟩ := c.fun_ 27 (at_ := ("Form", some "__sub__")) (name := "__sub__") (qual := "Form.__sub__") (st := sSub) rfl
  have b27 := F27.binds (ps := ["self", "other"]) fun _ _ _ _ _ _ us hl => match us, hl with | [_, _], _ => rfl
  obtain ⟨d28, F28⟩ := c.fun_ 28 (at_ := ("Form", some "__mul__")) (name := "__mul__") (qual := "Form.__mul__") (st := sMul) rfl
  have b28 := F28.binds (ps := ["self", "other"]) fun _ _ _ _ _ _ us hl => match us, hl with | [_, _], _ => rfl
  obtain ⟨d29, F29⟩ := c.fun_ 29 (at_ := ("Form", some "__neg__")) (name := "__neg__") (qual := "Form.__neg__") (st := sNeg) rfl
  have b29 := F29.binds (ps := ["self"]) fun _ _ _ _ _ _ us hl => match us, hl with | [_], _ => rfl
  obtain ⟨d30, F30⟩ := c.fun_ 30 (at_ := ("Form", some "over")) (name := "over") (qual := "Form.over") (st := sOver) rfl
  have b30 := F30.binds (ps := ["self", "divisor"]) fun _ _ _ _ _ _ us hl => match us, hl with | [_, _], _ => rfl
  obtain ⟨d31, F31⟩ := c.fun_ 31 (at_ := ("Form", some "letters")) (name := "letters") (qual := "Form.letters") (st := sLetters) rfl
  have b31 := F31.binds (ps := ["self"]) fun _ _ _ _ _ _ us hl => match us, hl with | [_], _ => rfl
  obtain ⟨d32, F32⟩ := c.fun_ 32 (at_ := ("Form", some "at")) (name := "at") (qual := "Form.at") (st := sAt) rfl
  have b32 := F32.binds (ps := ["self", "values"]) fun _ _ _ _ _ _ us hl => match us, hl with | [_, _], _ => rfl
  have z_isinstance : mg "isinstance" = none := free_ok X G (fa_ok ca 26 (f := .free "isinstance") rfl)
  have z_int : mg "int" = none := free_ok X G (fa_ok ca 27 (f := .free "int") rfl)
  have z_bool : mg "bool" = none := free_ok X G (fa_ok ca 28 (f := .free "bool") rfl)
  have z_str : mg "str" = none := free_ok X G (fa_ok ca 29 (f := .free "str") rfl)
  have z_len : mg "len" = none := free_ok X G (fa_ok ca 30 (f := .free "len") rfl)
  have z_all : mg "all" = none := free_ok X G (fa_ok ca 31 (f := .free "all") rfl)
  have z_tuple : mg "tuple" = none := free_ok X G (fa_ok ca 32 (f := .free "tuple") rfl)
  have z_sorted : mg "sorted" = none := free_ok X G (fa_ok ca 33 (f := .free "sorted") rfl)
  have z_dict : mg "dict" = none := free_ok X G (fa_ok ca 34 (f := .free "dict") rfl)
  have z_sum : mg "sum" = none := free_ok X G (fa_ok ca 35 (f := .free "sum") rfl)
  have z_max : mg "max" = none := free_ok X G (fa_ok ca 36 (f := .free "max") rfl)
  have z_min : mg "min" = none := free_ok X G (fa_ok ca 37 (f := .free "min") rfl)
  have z_range : mg "range" = none := free_ok X G (fa_ok ca 38 (f := .free "range") rfl)
  have gF : mg "Form" = some (.ref (ga K "Form")) := glo_ok X G (fa_ok ca 25 (f := .glo "Form") rfl)
  have cl : Cls K (ga K "Form") := cls_ok (fa_ok ca 39 (f := .cls "Form") rfl)
  have na : NoAttr K (ga K "Form") "_parts" := noat_ok (fa_ok ca 40 (f := .noat "Form" "_parts") rfl)
  have mk : Mk K (ga K "Form") (ma K (ga K "Form") "__init__") := mkr_ok (fa_ok ca 41 (f := .mkr "Form") rfl)
  have m_over := meth_ok (fa_ok ca 42 (f := .meth "Form" "over") rfl)
  have m_letters := meth_ok (fa_ok ca 43 (f := .meth "Form" "letters") rfl)
  have m_at := meth_ok (fa_ok ca 44 (f := .meth "Form" "at") rfl)
  have hgcd : mg "gcd" = some (.builtin "math.gcd") := bltB_ok X G (bool_ok cc 0 rfl)
  have hlcm : mg "lcm" = some (.builtin "math.lcm") := bltB_ok X G (bool_ok cc 1 rfl)
  have oadd := ownB_ok (bool_ok cc 2 (b := ownB K (ga K "Form") "__add__") rfl)
  have osub := ownB_ok (bool_ok cc 3 (b := ownB K (ga K "Form") "__sub__") rfl)
  have omul := ownB_ok (bool_ok cc 4 (b := ownB K (ga K "Form") "__mul__") rfl)
  have oneg := ownB_ok (bool_ok cc 5 (b := ownB K (ga K "Form") "__neg__") rfl)
  have iadd := ownIB_ok (bool_ok cc 6 (b := ownIB K (ga K "Form") "add") rfl)
  have isub := ownIB_ok (bool_ok cc 7 (b := ownIB K (ga K "Form") "sub") rfl)
  have imul := ownIB_ok (bool_ok cc 8 (b := ownIB K (ga K "Form") "mul") rfl)
  have ins := insB_ok cl (bool_ok cc 9 (b := insB K (ga K "Form")) rfl)
  have ki : PySem.W.kitOne K (.ref (ga K "Form")) (.type "int") = some false := of_decide_eq_true (bool_ok cc 10 rfl)
  rw [show PySem.dunder "add" = ("__add__" : Str) from rfl] at iadd
  rw [show PySem.dunder "sub" = ("__sub__" : Str) from rfl] at isub
  rw [show PySem.dunder "mul" = ("__mul__" : Str) from rfl] at imul
  have e := hfa.symm.trans g24
  cases e
  refine ⟨d24, fun s u => bindsA (ps := ["_law_script"]) F24 (fun _ _ _ _ _ _ us hl => match us, hl with | [_], _ => rfl) s [u] rfl, fun base _ _ => ?_⟩
  have B : Bt K mg (ga K "Form") := ⟨z_isinstance, z_int, z_bool, ins, ki, gF⟩
  have B2 : Bt2 mg := ⟨z_str, z_len, z_all⟩
  have B3 : Bt3 mg := ⟨z_tuple, z_sorted⟩
  have B4 : Bt4 mg := ⟨z_sum, z_max, z_min, z_range, z_len⟩
  have T : Fx P w K mg base (ga K "Form") := ⟨cl, na, ⟨_, d25, _, [], mk, ok_init F25 cl na, gF, b25, .nil⟩⟩
  have Wh : Cal P w K mg base 1 "is_whole" (spWhole (ga K "Form")) [] := cal_of F0 g0 b0 (ok_whole F0 B)
  have Il : Cal P w K mg base 1 "is_letter" spIsLet [] := cal_of F1 g1 b1 (ok_isLet F1 B B2)
  have Iv : Cal P w K mg base 2 "is_values" (spIsVals K) [] := cal_of F2 g2 b2 (ok_isVals F2 B B2 z_dict Il Wh)
  have Wo : Cal P w K mg base 1 "without_noughts" (spWithout K) [] := cal_of F6 g6 b6 (ok_without F6)
  have Le : Cal P w K mg base 3 "letter" (spLetter K (ga K "Form")) [] := cal_of F3 g3 b3 (ok_letter F3 T Il)
  have Nu : Cal P w K mg base 3 "number" (spNumber K (ga K "Form")) [] := cal_of F4 g4 b4 (ok_number F4 T Wh Wo)
  have Ri : Cal P w K mg base 4 "right_side" (spRight K (ga K "Form")) [] := cal_of F5 g5 b5 (ok_right F5 B Wh Nu)
  have Pr : Cal P w K mg base 1 "product_at" (spProd K) [] := cal_of F7 g7 b7 (ok_prod F7)
  have Lo : Cal P w K mg base 1 "lowest" spLowest [] := cal_of F8 g8 b8 (ok_lowest F8 hgcd)
  have Fs : Cal P w K mg base 2 "fraction_sum" (spFrac K (· + ·)) [] := cal_of F9 g9 b9 (ok_fracSum F9 Lo)
  have Fp : Cal P w K mg base 2 "fraction_product" (spFrac K (· * ·)) [] := cal_of F10 g10 b10 (ok_fracProd F10 Lo)
  have Ov : Met P w K mg base 4 (ga K "Form") "over" (spOver K (ga K "Form")) [] := ⟨_, d30, _, [], cl, m_over, ok_over F30 T Lo Fp Wh, b30, .nil⟩
  have Ls : Met P w K mg base 2 (ga K "Form") "letters" (spLetters K (ga K "Form")) [] := ⟨_, d31, _, [], cl, m_letters, ok_letters F31 T B3, b31, .nil⟩
  have At : Met P w K mg base 3 (ga K "Form") "at" (spAt K (ga K "Form")) [] := ⟨_, d32, _, [], cl, m_at, ok_at F32 T hlcm Iv Ls Pr, b32, .nil⟩
  have fOa : FnOk P w K mg base CX0 5 (ma K (ga K "Form") "__add__") d26 _ (spAdd K (ga K "Form")) := ok_add F26 T Ri Fs Wo
  have Oa : OpM P w K mg base 5 (ga K "Form") "__add__" (spAdd K (ga K "Form")) := ⟨_, d26, _, oadd, fOa, b26⟩
  have fOn : FnOk P w K mg base CX0 3 (ma K (ga K "Form") "__neg__") d29 _ (spNeg K (ga K "Form") (fun q => -q)) := ok_neg F29 T
  have On : OpM P w K mg base 3 (ga K "Form") "__neg__" (spNeg K (ga K "Form") (fun q => -q)) := ⟨_, d29, _, oneg, fOn, b29⟩
  have fOs : FnOk P w K mg base CX0 6 (ma K (ga K "Form") "__sub__") d27 _ (spSub K (ga K "Form")) := ok_sub F27 Ri Oa On
  have Os : OpM P w K mg base 6 (ga K "Form") "__sub__" (spSub K (ga K "Form")) := ⟨_, d27, _, osub, fOs, b27⟩
  have fOm : FnOk P w K mg base CX0 5 (ma K (ga K "Form") "__mul__") d28 _ (spMul K (ga K "Form")) := ok_mul F28 T B3 Ri Fs Fp Wo
  have Om : OpM P w K mg base 5 (ga K "Form") "__mul__" (spMul K (ga K "Form")) := ⟨_, d28, _, omul, fOm, b28⟩
  have Ia : OpI P w K mg base 5 (ga K "Form") "add" (spAdd K (ga K "Form")) := ⟨_, d26, _, iadd, fOa, b26⟩
  have Is : OpI P w K mg base 6 (ga K "Form") "sub" (spSub K (ga K "Form")) := ⟨_, d27, _, isub, fOs, b27⟩
  have Im : OpI P w K mg base 5 (ga K "Form") "mul" (spMul K (ga K "Form")) := ⟨_, d28, _, imul, fOm, b28⟩
  have Pu : Cal P w K mg base 1 "_law_purse" (spPurse K) [] := cal_of F11 g11 b11 (ok_purse F11 B4)
  have Mi : Cal P w K mg base 1 "_law_mixed" spMixed [] := cal_of F12 g12 b12 (ok_mixed F12)
  have D : Cal P w K mg base 2 "_law_draw" spDraw [] := cal_of F13 g13 b13 (ok_draw F13 B4 Mi)
  have Ps : Cal P w K mg base 2 "_law_purses" (spPurses K) [] := cal_of F14 g14 b14 (ok_purses F14 B4 Pu)
  have On1 : Cal P w K mg base 3 "_law_one_of" (spOneOf K) [] := cal_of F15 g15 b15 (ok_oneOf F15 B4 D)
  have Tr : Cal P w K mg base 8 "_law_tree" (spTreeAny K) [] := cal_of F16 g16 b16 (tree_any (all_tree F16 g16 b16 D On1))
  have Wt : Cal P w K mg base 8 "_law_worth" (spWorth K 6) [] := cal_of F17 g17 b17 (all_worth F17 g17 b17 6 (by decide))
  have Wa : Cal P w K mg base 9 "_law_whole_at" (spWholeAt K 6) [] := cal_of F19 g19 b19 (ok_wholeAt F19 6 (by decide) Wt)
  have Lf : Cal P w K mg base 10 "_law_form" (spLawForm K (ga K "Form") 3) [] := cal_of F18 g18 b18 (all_form F18 g18 b18 Nu Le Ov Oa Os Om 3 (by decide))
  have Va : Cal P w K mg base 3 "_law_values" (spValues K) [] := cal_of F20 g20 b20 (ok_values F20 D)
  have Na : Cal P w K mg base 4 "_law_names" (spNames K) [] := cal_of F21 g21 b21 (ok_names F21 B4 D On1)
  have Rg : Cal P w K mg base 10 "_law_right" (spLawRight K (ga K "Form")) [] := cal_of F22 g22 b22 (ok_right2 F22 B B4 Va Wa At On)
  have Mr : Cal P w K mg base 11 "_law_mixed_right" (spMixedRight K (ga K "Form")) [] := cal_of F23 g23 b23 (ok_mixedRight F23 D Lf Rg Ov Ia Is Im)
  exact ok_law F24 Ps Na D Tr Lf Rg Mr
end E2

set_option Elab.async false
set_option linter.all false
set_option maxRecDepth 100000
set_option maxHeartbeats 0
/-! the head: the top's run, and the law -/
namespace E2
open PySem PySem.Spec PyProof.Rows L2 He
abbrev R : PySem.W.OpenRow := PySem.W.OpenLaw.row PySem.Challenge.rw_cellplaces_k02_forms_worked_out
abbrev hk : PySem.W.Hook := Hb.hookB 5 exK2 fnK2
def ob (s : PySem.W.SharedT) : Hb.AlB := Hb.lookB 5 exK2 fnK2 (HandSHeadRun.getT s)
theorem ob_eq (s : PySem.W.SharedT) : ob s = hk.obs s.abs := Hb.lookB_eq (HandSHeadRun.getT_eq s)
def loose0 : List PySem.Str := ["_wall", "CellError", "InvalidForm", "InvalidLetter", "InvalidNumber", "InvalidValues", "is_whole", "is_letter", "is_values", "Form", "letter", "number"]
def loose1 : List PySem.Str := ["right_side", "without_noughts", "product_at", "lowest", "fraction_sum", "fraction_product", "_law_purse", "_law_mixed", "_law_draw", "_law_purses", "_law_one_of", "_law_tree"]
def loose2 : List PySem.Str := ["_law_worth", "_law_form", "_law_whole_at", "_law_values", "_law_names", "_law_right", "_law_mixed_right"]
def looseAll : List PySem.Str := loose0 ++ loose1 ++ loose2
theorem run (w : World) : HandSHeadRun.RunEqI R (PySem.W.view R.prog [0, 36]) hk ob 6000 looseAll w := by
  unfold HandSHeadRun.RunEqI; kernel_rfl
end E2
open PySem PySem.W PySem.Calls PyProof.Rows
set_option maxRecDepth 100000 in
set_option maxHeartbeats 0 in
theorem PySem.Challenge.cw_cellplaces_k02_forms_worked_out_holds : PySem.Challenge.rw_cellplaces_k02_forms_worked_out.Holds := by
  w_on; o_law
  refine HandSHeadRun.head_imp (r := OpenLaw.row PySem.Challenge.rw_cellplaces_k02_forms_worked_out) (q := view (OpenLaw.row PySem.Challenge.rw_cellplaces_k02_forms_worked_out).prog [0, 36]) (H := E2.hk) (ob := E2.ob) (M := 6000) (loose := E2.looseAll) (d := HandSHeadRun.topDef (OpenLaw.row PySem.Challenge.rw_cellplaces_k02_forms_worked_out).prog 36) (kwd := []) E2.ob_eq
    E2.run (by kernel_rfl) (by kernel_rfl) (by kernel_rfl) (by rfl) (by first | assumption | decide +kernel) (by decide +kernel) ⟨rfl, rfl, rfl, rfl, rfl, by decide +kernel⟩ ?hw ?hc
  case hw => w_witness2
  case hc =>
    refine L2.walk_ofE (l := PySem.Challenge.rw_cellplaces_k02_forms_worked_out) (n := 63) (k := 12) (x := "_law_script") (CX := L2.CX0) rfl (by decide) (by kernel_rfl) ⟨rfl, by decide, by decide⟩ ?F (fun _ _ _ _ z => z)
    intro w mg fa h Y G hmg0
    obtain ⟨K, KX, c⟩ := Y
    have hmg : mg ("law" : PySem.Str) = some (.ref fa) := by
      have e : (HandSHeadRun.topDef (OpenLaw.row PySem.Challenge.rw_cellplaces_k02_forms_worked_out).prog 36).name = ("law" : PySem.Str) := by kernel_rfl
      rw [← e]
      exact hmg0
    obtain ⟨fd, hb, hF⟩ := E2.facts (P := (PySem.Challenge.rw_cellplaces_k02_forms_worked_out).prog) (w := w) KX G hmg c
    exact ⟨K, fd, E2.spLaw K, KX, hb, fun H a ns hl _ hS => ⟨a, ns, rfl, hS, hl, fun _ => rfl⟩, hF⟩
